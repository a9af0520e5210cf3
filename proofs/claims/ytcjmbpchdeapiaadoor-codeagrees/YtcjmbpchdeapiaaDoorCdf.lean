/- Package code: targets. -/
import Derived.Test.YtcjmbpchdeapiaaDoorCde
namespace Go.Proofs.YtcjmbpchdeapiaaDoor
open Go.RowKit
theorem infoI64 : (Tryd.prog.info? 3).map (fun i => (i.zero, i.size, i.bytes)) = some (some (.int .i64 0), 1, 8) := by kernel_rfl
/-- the distance that two bytes say -/
def dist16 (x y : Nat) : Int := if 256 * x + y < 32768 then (256 * x + y : Nat) else ((256 * x + y : Nat) : Int) - 65536
theorem dist16_wrap (x y : Nat) (hx : x < 256) (hy : y < 256) : IntKind.i16.wrap ((256 * x + y : Nat) : Int) = dist16 x y := by
  unfold dist16
  simp only [IntKind.wrap, IntKind.bits, IntKind.signed]
  simp
  split <;> split <;> omega
theorem dist16_in (x y : Nat) (hx : x < 256) (hy : y < 256) : -32768 ≤ dist16 x y ∧ dist16 x y ≤ 32767 := by unfold dist16; split <;> omega
/-- the places, as cells -/
def tgL (nx : Int) (b : Nat → Nat) (k : Nat) : List Value := (List.range k).map fun j => .int .i64 (nx + dist16 (b (2 * j)) (b (2 * j + 1)))
theorem tgL_succ (nx : Int) (b : Nat → Nat) (k : Nat) : tgL nx b (k + 1) = tgL nx b k ++ [.int .i64 (nx + dist16 (b (2 * k)) (b (2 * k + 1)))] := by simp [tgL, List.range_succ]
theorem slice_two (a : Addr) (m cap : Nat) (hm : 2 ≤ m) (hc : m ≤ cap) : ∃ a' : Addr, (m - 2 ≠ 0 → ∀ g o, a = ⟨g, o, none⟩ → a' = ⟨g, o + 2, none⟩) ∧ ∀ W : World, Sem.run Tryd.prog (Instr.slice 22 (.slice (some a) m cap) (some (.int .i64 2)) none none) W = .ok (.slice (some a') (m - 2) (cap - 2)) W := by
  refine ⟨if cap - 2 = 0 then a else a.add 2, fun h g o e => by rw [if_neg (by omega), e, Addr.add_mid], fun W => ?_⟩
  simp [Instr.slice, Instr.sliceBounds, run_underlying Tryd.underlying22, run_sliceBound W .i64 2 m _ (by omega) (by omega)]
  split
  · rw [if_pos (by omega)]
  · rw [if_neg (by omega)]
def lenV : Value → Nat
  | .slice _ n _ => n
  | _ => 0
/-- between the steps -/
def TgInv (w : World) (g o m cap : Nat) (b : Nat → Nat) (nx : Int) (k : Nat) (row pl : Value) (W : World) : Prop :=
  (∃ a : Addr, row = .slice (some a) (2 * (m - k)) (cap - 2 * k) ∧ (m - k ≠ 0 → a = ⟨g, o + 2 * k, none⟩)) ∧ W.ownsRow w.heap.size 3 1 pl k (tgL nx b k) ∧ Below w.heap.size w W
theorem tg_step {w wr w1 : World} {pl pl' : Value} {ob : Obj} {b : Nat → Nat} {nx : Int} {k : Nat} {x : Int} (hx : x = nx + dist16 (b (2 * k)) (b (2 * k + 1))) (hown : wr.ownsRow w.heap.size 3 1 pl k (tgL nx b k)) (hB : Below w.heap.size w wr)
    (hown' : w1.ownsRow w.heap.size 3 1 pl' (k + 1) (tgL nx b k ++ [.int .i64 x])) (hg : (wr.alloc ob).grownBy w1 pl.ownBlock) :
    w1.ownsRow w.heap.size 3 1 pl' (k + 1) (tgL nx b (k + 1)) ∧ Below w.heap.size w w1 := by
  subst hx
  exact ⟨by rw [tgL_succ]; exact hown', Below.grown (hB.alloc hB.size ob) hg (by have := hB.size; simp; omega) (fun q h => (hown.lt q h).1)⟩
theorem cell_new0 (W : World) (v : Value) (t : TypeId) : (W.alloc (.cells #[v] t)).cell? ⟨W.heap.size, 0, none⟩ = some v := by go_simp
theorem owns_drewN {B : Nat} {e : TypeId} {k : Nat} {v : Value} {n : Nat} {xs : List Value} {w : World} (h : w.ownsRow B e k v n xs) (q : Nat) : (w.drewN q).ownsRow B e k v n xs := h
theorem below_drewN {B : Nat} {a w : World} (h : Below B a w) (n : Nat) : Below B a (w.drewN n) := h.trans ⟨rfl, rfl, rfl, Nat.le_refl _, fun _ _ => rfl⟩
set_option maxHeartbeats 2000000 in
set_option maxRecDepth 100000 in
theorem targets_is (w : World) (nx : Int) (hnx : -1000000000 ≤ nx ∧ nx ≤ 1000000000) (g o m cap : Nat) (b : Nat → Nat) (hm : m ≤ 1000000) (hcap : 2 * m ≤ cap) (hb : ∀ j, b j < 256) (hc : ∀ j, j < 2 * m → w.cell? ⟨g, o + j, none⟩ = some (.int .u8 (b j : Int))) (a0 : Addr) (ha : m ≠ 0 → a0 = ⟨g, o, none⟩) :
    Calls Tryd.prog 53 #[.int .i64 nx, .slice (some a0) (2 * m) cap] w fun e w' => ∃ pl, e = .returned pl ∧ w'.ownsRow w.heap.size 3 1 pl m (tgL nx b m) ∧ Below w.heap.size w w' := by
  have HB : Hid (∀ j, b j < 256) := hb
  have HC : Hid (∀ j, j < 2 * m → w.cell? ⟨g, o + j, none⟩ = some (.int .u8 (b j : Int))) := hc
  have I0 : Hid (TgInv w g o m cap b nx 0 (.slice (some a0) (2 * m) cap) (.slice none 0 0) w) := ⟨⟨a0, by simp, fun h => by rw [ha (by omega)]; simp⟩, World.ownsRow_nil _ _ _ _, Below.refl _ _⟩
  obtain ⟨i0, hi, hz0, hz1, hz2⟩ := info_parts infoI64
  clear hc hb ha
  go_enter Tryd.func53, Tryd.ntmps53
  go_wp2
  go_loopw [1, 5] (fun s1 s5 wx => ∃ k : Nat, k ≤ m ∧ TgInv w g o m cap b nx k s1 s5 wx) (fun s1 _ _ => lenV s1)
  case atStart => exact ⟨0, by omega, I0.out⟩
  case round =>
    obtain ⟨k, hk, ⟨a, rfl, hak⟩, hown, hB⟩ := hrel
    have OW : Hid (wr.ownsRow w.heap.size 3 1 u5 k (tgL nx b k)) := hown
    have BB : Hid (Below w.heap.size w wr) := hB
    clear hown hB I0
    by_cases hkm : k < m
    · obtain rfl := hak (by omega)
      obtain ⟨l, el⟩ : ∃ l, l = 2 * (m - k) := ⟨_, rfl⟩
      obtain ⟨cc, ec⟩ : ∃ cc, cc = cap - 2 * k := ⟨_, rfl⟩
      rw [← el, ← ec]
      obtain ⟨a', ha', hst⟩ := slice_two ⟨g, o + 2 * k, none⟩ l cc (by omega) (by omega)
      have NX : Hid (∃ a : Addr, Value.slice (some a') (l - 2) (cc - 2) = .slice (some a) (2 * (m - (k + 1))) (cap - 2 * (k + 1)) ∧ (m - (k + 1) ≠ 0 → a = ⟨g, o + 2 * (k + 1), none⟩)) := ⟨a', by rw [el, ec]; congr 1 <;> omega, fun h => by rw [ha' (by omega) g (o + 2 * k) rfl]; congr 1⟩
      have l2 : (2 : Int) ≤ (l : Int) := by omega
      have lI : (0 : Int) < (l : Int) := by omega
      have lJ : (l : Int) ≤ 2000000 := by omega
      have gx := HB.out (2 * k)
      have gy := HB.out (2 * k + 1)
      have cx := HC.out (2 * k) (by omega)
      have cy := HC.out (2 * k + 1) (by omega)
      have gl := World.block_lt_of_cell? w _ cx
      have kx : wr.cell? ⟨g, o + 2 * k, none⟩ = some (.int .u8 (b (2 * k) : Int)) := (BB.out.cell (p := ⟨g, o + 2 * k, none⟩) gl).trans cx
      have ky : wr.cell? ⟨g, o + 2 * k + 1, none⟩ = some (.int .u8 (b (2 * k + 1) : Int)) := (BB.out.cell (p := ⟨g, o + (2 * k + 1), none⟩) gl).trans cy
      have PI : Hid (Calls Tryd.prog 58 #[.slice (some ⟨g, o + 2 * k, none⟩) l cc] wr fun e w' => e = .returned (.int .u16 ((256 * b (2 * k) + b (2 * k + 1) : Nat) : Int)) ∧ ∃ n, w' = wr.drewN n) := pair_is wr g (o + 2 * k) l cc (b (2 * k)) (b (2 * k + 1)) ⟨by omega, by omega⟩ gx gy kx ky
      have ew := dist16_wrap (b (2 * k)) (b (2 * k + 1)) gx gy
      have di := dist16_in (b (2 * k)) (b (2 * k + 1)) gx gy
      obtain ⟨z, ez⟩ : ∃ z, z = nx + dist16 (b (2 * k)) (b (2 * k + 1)) := ⟨_, rfl⟩
      have EZ : Hid (z = nx + dist16 (b (2 * k)) (b (2 * k + 1))) := ez
      generalize 256 * b (2 * k) + b (2 * k + 1) = p at PI ew
      generalize dist16 (b (2 * k)) (b (2 * k + 1)) = d at ew di ez
      have ez2 : nx + d = z := ez.symm
      have d1 := di.1
      have d2 := di.2
      have n1 := hnx.1
      have n2 := hnx.2
      have LL : Hid (2 ≤ l) := by unfold Hid; omega
      have sz := BB.out.size
      clear ez el ec ha' kx ky cx cy gx gy hak di
      go_upto_region 3 with (first
        | (go_at_call 58; refine PI.out.mono ?_; rintro e w' ⟨rfl, nq, rfl⟩)
        | (at_builtin; refine wpList_append_own _ rfl _ _ 60 rfl w.heap.size 3 i0 (.int .i64 0) 1 8 Tryd.underlying60 hi hz0 hz1 hz2 rfl (by decide) _ _ _ rfl (World.ownsRow.alloc (owns_drewN OW.out _) _) _ 1 1 [.int .i64 z] rfl rfl (fun j u hj => (by have hj0 : j = 0 := (by have := (List.getElem?_eq_some_iff.1 hj).1; simpa using this); subst hj0; simp at hj; subst hj; (first | (simp [Addr.add]; done) | (simp [Addr.add]; exact cell_new0 _ _ _)))) (fun u hu => (by rw [List.mem_singleton.1 hu]; rfl)) (by unfold maxLen; omega) (by omega) (by simp; omega) ?_; intro v' w1 hown' hgrow _))
      have R := tg_step EZ.out (owns_drewN OW.out _) (below_drewN BB.out _) hown' hgrow
      have RR : Hid (w1.ownsRow w.heap.size 3 1 v' (k + 1) (tgL nx b (k + 1)) ∧ Below w.heap.size w w1) := R
      clear R hown' hgrow
      go_wp2
      go_roundw
      case rel => exact ⟨k + 1, by omega, NX.out, RR.out⟩
      case measure => have := LL.out; show l - 2 < l; omega
    · obtain rfl : k = m := by omega
      have e0 : 2 * (k - k) = 0 := by omega
      rw [e0]
      go_wp2
      go_ret
      exact ⟨_, rfl, OW.out, BB.out⟩
end Go.Proofs.YtcjmbpchdeapiaaDoor
