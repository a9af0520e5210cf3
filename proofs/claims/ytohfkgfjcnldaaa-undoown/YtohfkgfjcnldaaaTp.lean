/- slices.Backward of a list of functions: its elements, the last first. -/
import Derived.Test.YtohfkgfjcnldaaaTo
import Derived.Test.YtohfkgfjcnldaaaSqx
import Derived.Shelf.Abstract
import Derived.Shelf.RegionOpen
import Derived.OwnWalkIn
import Derived.TacticsInMore
import Derived.LoopNIn
import Derived.LoopIn
namespace Go.Proofs.Ytohfkgfjcnldaaa
open Go.RowKit Go.Shelf
attribute [local go_sem] Oper.semAt_some
/-- the first j that come -/
def bwL (nn : Nat) (us : Nat → Value) (j : Nat) : List (Nat × Value) := (List.range j).map fun t => (nn - 1 - t, us (nn - 1 - t))
theorem bwL_succ (nn : Nat) (us : Nat → Value) (j : Nat) : bwL nn us (j + 1) = bwL nn us j ++ [(nn - 1 - j, us (nn - 1 - j))] := by
  unfold bwL
  rw [List.range_succ, List.map_append]
  rfl
theorem bwL_len (nn : Nat) (us : Nat → Value) (j : Nat) : (bwL nn us j).length = j := by simp [bwL]
def BwC (nn : Nat) (us : Nat → Value) (pre : List (Nat × Value)) (x : Nat × Value) (W0 W1 : World) : Prop := W1 = W0 ∧ pre.length < nn ∧ x = (nn - 1 - pre.length, us (nn - 1 - pre.length))
def BwK (bi g f nn : Nat) (us : Nat → Value) (_ : Nat × Value) (W W' : World) : Prop := (∀ v, W.cell? ⟨bi, 0, none⟩ = some v → W'.cell? ⟨bi, 0, none⟩ = some v) ∧ ∀ i, i < nn → W.cell? ⟨g, f + i, none⟩ = some (us i) → W'.cell? ⟨g, f + i, none⟩ = some (us i)
/-- the iterator's box, and what it reads -/
structure BwE (bi g f : Nat) (a1 : Option Addr) (nn c1 : Nat) (us : Nat → Value) (W : World) : Prop where
  box : W.cell? ⟨bi, 0, none⟩ = some (.slice a1 nn c1)
  ad : 0 < nn → a1 = some ⟨g, f, none⟩
  el : ∀ i, i < nn → W.cell? ⟨g, f + i, none⟩ = some (us i)
theorem BwE.kept {bi g f : Nat} {a1 : Option Addr} {nn c1 : Nat} {us : Nat → Value} {W W' : World} {x : Nat × Value} (h : BwE bi g f a1 nn c1 us W) (k : BwK bi g f nn us x W W') : BwE bi g f a1 nn c1 us W' :=
  ⟨k.1 _ h.box, h.ad, fun i hi => k.2 i hi (h.el i hi)⟩
theorem BwE.past {bi g f : Nat} {a1 : Option Addr} {nn c1 : Nat} {us : Nat → Value} {W W' : World} (h : BwE bi g f a1 nn c1 us W) (k : Below W.heap.size W W') : BwE bi g f a1 nn c1 us W' :=
  ⟨(k.cell (p := ⟨bi, 0, none⟩) (World.block_lt_of_cell? W _ h.box)).trans h.box, h.ad, fun i hi => (k.cell (p := ⟨g, f + i, none⟩) (World.block_lt_of_cell? W _ (h.el i hi))).trans (h.el i hi)⟩
set_option maxRecDepth 100000 in
set_option maxHeartbeats 2000000 in
theorem back1_in (n : Nat) (hn : 1 ≤ n) (l bi g f : Nat) (a1 : Option Addr) (nn c1 : Nat) (us : Nat → Value) (hnn : nn < 549755813888) (J Jx : List (Nat × Value) → World → Prop) (W : World)
    (hY : ∀ pre x W0 W1, J pre W0 → BwC nn us pre x W0 W1 → YieldAt Fence.wide (n - 1) Try.prog l #[.int .i64 (x.1 : Int), x.2] W1 fun e W' =>
      (e = .returned (.bool true) ∧ J (pre ++ [x]) W' ∧ BwK bi g f nn us x W1 W') ∨ (e = .returned (.bool false) ∧ Jx (pre ++ [x]) W'))
    (hE : BwE bi g f a1 nn c1 us W) (h0 : J [] W) :
    CallsIn Fence.wide n Try.prog 85 #[.func (.yield l) #[] #[], .pointer (some ⟨bi, 0, none⟩)] W fun e W' => (∃ v, e = .returned v) ∧
      ((∃ xs, xs = bwL nn us nn ∧ ∃ W0, J xs W0 ∧ Below W0.heap.size W0 W') ∨ (∃ pre, True ∧ Jx pre W')) := by
  have nX : (nn : Int) < 549755813888 := by omega
  have b0 := hE.box
  refine callsIn_of_wp Try.func85 rfl trivial ?_ rfl
  simp only [Try.ntmps85, List.size_toArray, List.length_cons, List.length_nil, Nat.reduceAdd, Nat.reduceSub, Array.replicate_succ, Array.replicate_zero, List.push_toArray, List.append_toArray, List.nil_append, List.cons_append]
  gi_wp2
  gi_loopw [3] (fun i wr => ∃ j : Nat, j ≤ nn ∧ i = .int .i64 ((nn : Int) - 1 - (j : Int)) ∧ J (bwL nn us j) wr ∧ BwE bi g f a1 nn c1 us wr) (fun i _ => (intOf i + 1).toNat)
  case atStart => exact ⟨0, by omega, by simp, h0, hE⟩
  case round =>
    obtain ⟨j, hj, rfl, hJs, hEs⟩ := hrel
    by_cases hlt : j < nn
    · obtain ⟨q, eq⟩ : ∃ q : Nat, q = nn - 1 - j := ⟨_, rfl⟩
      have qI : (nn : Int) - 1 - (j : Int) = (q : Int) := by omega
      have qn : (q : Int) < (nn : Int) := by omega
      rw [qI]
      have b1 := hEs.box
      rw [hEs.ad (by omega)] at b1
      have e1 := hEs.el q (by omega)
      obtain ⟨fn, tmps, assign, body, hy, hR⟩ := hY (bwL nn us j) (nn - 1 - j, us (nn - 1 - j)) wr wr hJs ⟨rfl, by rw [bwL_len]; exact hlt, by rw [bwL_len]⟩
      rw [← eq] at hy hR
      have HJ : Hid (BwE bi g f a1 nn c1 us wr ∧ bwL nn us (j + 1) = bwL nn us j ++ [(q, us q)] ∧ j < nn ∧ q = nn - 1 - j) := ⟨hEs, by rw [bwL_succ, eq], hlt, eq⟩
      dsimp only at hy
      clear hEs hJs hY hlt eq b0 hE h0
      gi_wp2
      refine hR.mono ?_
      rintro e W3 (⟨rfl, hJ3, hk3⟩ | ⟨rfl, hJx3⟩)
      · gi_wp2
        go_roundw
        case rel => exact ⟨j + 1, HJ.out.2.2.1, by have := HJ.out.2.2; simp; omega, by rw [HJ.out.2.1]; exact hJ3, HJ.out.1.kept hk3⟩
        case measure => simp [intOf]
      · gi_wp2
        refine bodyPost_ret (results_none rfl _ _ _) rfl ?_
        exact ⟨⟨_, rfl⟩, .inr ⟨_, trivial, hJx3⟩⟩
    · obtain rfl : j = nn := by omega
      have qI : (j : Int) - 1 - (j : Int) = -1 := by omega
      rw [qI]
      gi_wp2
      go_end0
      exact ⟨⟨_, rfl⟩, .inl ⟨_, rfl, wr, hJs, Below.refl _ _⟩⟩
theorem back_seq (n : Nat) (hn : 1 ≤ n) (bi g f : Nat) (a1 : Option Addr) (nn c1 : Nat) (us : Nat → Value) (hnn : nn < 549755813888) (w : World) (hE : BwE bi g f a1 nn c1 us w) :
    SeqW Fence.wide n Try.prog 85 #[.pointer (some ⟨bi, 0, none⟩)] (fun x : Nat × Value => #[.int .i64 (x.1 : Int), x.2]) (BwC nn us) (BwK bi g f nn us) (fun xs => xs = bwL nn us nn) (fun _ => True) w :=
  fun l J Jx W hW hY h0 => back1_in n hn l bi g f a1 nn c1 us hnn J Jx W hY (hE.past hW) h0
theorem backward_is (w : World) (ad : Option Addr) (m cap : Nat) : Calls Try.prog 66 #[.slice ad m cap] w fun e w' => e = .returned (.func (.func 85) #[] #[.pointer (some ⟨w.heap.size, 0, none⟩)]) ∧ w' = w.alloc (.cells #[.slice ad m cap] 89) := by
  go_enter Try.func66, Try.ntmps66
  go_wp2
  go_ret
  exact ⟨rfl, rfl⟩
end Go.Proofs.Ytohfkgfjcnldaaa
