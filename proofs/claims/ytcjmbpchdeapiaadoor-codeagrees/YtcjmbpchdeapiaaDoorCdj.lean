/- Package code: each: the instructions of a section, one behind the other, as a function that is ranged over. -/
import Derived.Test.YtcjmbpchdeapiaaDoorCdi
import Derived.Test.YtcjmbpchdeapiaaDoorSqx
import Derived.Shelf.Abstract
import Derived.Shelf.RegionOpen
import Derived.WalkKit
import Derived.OwnWalkIn
import Derived.TacticsInMore
import Derived.LoopNIn
import Derived.LoopIn
namespace Go.Proofs.YtcjmbpchdeapiaaDoor
open Go.RowKit Go.Shelf
attribute [local go_sem] Oper.semAt_some
/-- what each's function reads: the section's bytes (their slice lies in block Bb) and the tables of names -/
def EaOk (Bb : Nat) (v : Value) (L : Nat) (b : Nat → Nat) (W : World) : Prop := W.cell? ⟨Bb, 0, none⟩ = some v ∧ BytesOf W v L b ∧ Nms W
theorem EaOk.past {Bb : Nat} {v : Value} {L : Nat} {b : Nat → Nat} {W W' : World} (h : EaOk Bb v L b W) (hB : Below W.heap.size W W') : EaOk Bb v L b W' :=
  ⟨(hB.cell (p := ⟨Bb, 0, none⟩) (World.block_lt_of_cell? W _ h.1)).trans h.1, h.2.1.below rfl hB, h.2.2.past hB⟩
/-- the cells of these blocks are as they were -/
def KeepC (K : Nat → Prop) (W W' : World) : Prop := ∀ k, K k → ∀ j v, W.cell? ⟨k, j, none⟩ = some v → W'.cell? ⟨k, j, none⟩ = some v
theorem KeepC.trans {K : Nat → Prop} {A B C : World} (h : KeepC K A B) (h2 : KeepC K B C) : KeepC K A C := fun k hk j v hv => h2 k hk j v (h k hk j v hv)
theorem KeepC.past {K : Nat → Prop} {W W' : World} (h : Below W.heap.size W W') : KeepC K W W' := fun k _ j _ hv => (h.cell (p := ⟨k, j, none⟩) (World.block_lt_of_cell? W _ hv)).trans hv
theorem KeepC.put {K : Nat → Prop} (W : World) (r : Nat) (o o' : Obj) (h : W.heap[r]? = some o) (ho : o.isCells = false) : KeepC K W (W.putObj r o') := fun k _ j v hv =>
  cell_kept hv (grownBy_putObj' W r o') (fun r' e => by cases e; exact ⟨o, h, ho⟩)
theorem KeepC.set {K : Nat → Prop} (W : World) (a : Addr) (u : Value) (h : ¬ K a.block) : KeepC K W (W.setCell a u) := fun k hk j v hv => by
  have hne : k ≠ a.block := fun e => h (e ▸ hk)
  rw [← hv]
  simp only [World.cell?, Below.heap_setCell W a u k hne]
theorem KeepC.grown {K : Nat → Prop} {W W' : World} {row : Option Nat} (hg : W.grownBy W' row) (h : ∀ r, row = some r → ¬ K r) : KeepC K W W' := fun k hk j v hv => by
  have hb := hg.block k (World.block_lt_of_cell? W _ hv) (fun e => h k e.symm hk)
  rw [← hv]
  simp only [World.cell?, hb]
theorem KeepC.sub {K K' : Nat → Prop} {W W' : World} (h : KeepC K W W') (hk : ∀ k, K' k → K k) : KeepC K' W W' := fun k h1 => h k (hk k h1)
/-- these blocks hold what each's function reads -/
def EaS (K : Nat → Prop) (Bb : Nat) (v : Value) : Prop := K Bb ∧ (∀ g o m cap, v = .slice (some ⟨g, o, none⟩) m cap → m ≠ 0 → K g) ∧ (∀ k g, tabOf k = some g → K g)
theorem EaOk.keep {K : Nat → Prop} {Bb : Nat} {v : Value} {L : Nat} {b : Nat → Nat} {W W' : World} (h : EaOk Bb v L b W) (hS : EaS K Bb v) (hK : KeepC K W W') : EaOk Bb v L b W' := by
  obtain ⟨h1, ⟨ad, cap, rfl, h3, h4, h5⟩, h6⟩ := h
  refine ⟨hK Bb hS.1 0 _ h1, ⟨ad, cap, rfl, h3, h4, fun hm => ?_⟩, fun k g hk i hi => hK g (hS.2.2 k g hk) i _ (h6 k g hk i hi)⟩
  obtain ⟨g, o, rfl, hc⟩ := h5 hm
  exact ⟨g, o, rfl, fun j hj => hK g (hS.2.1 g o _ _ rfl hm) _ _ (hc j hj)⟩
abbrev EaK (K : Nat → Prop) (x : Nat × Nat × Nat) (W W' : World) : Prop := KeepC (fun k => K k ∨ k = x.2.2) W W'
set_option maxRecDepth 100000 in
set_option maxHeartbeats 2000000 in
theorem each1_in (n : Nat) (hn : 1 ≤ n) (l Bb : Nat) (v : Value) (L : Nat) (b : Nat → Nat) (K : Nat → Prop) (hS : EaS K Bb v) (hcp : ∀ ad cap, v = .slice ad L cap → L ≤ cap) (hL : L ≤ 1000000) (J Jx : List (Nat × Nat × Nat) → World → Prop) (W : World)
    (hY : ∀ pre x W0 W1, J pre W0 → ComeA b L pre x W0 W1 → YieldAt Fence.wide (n - 1) Tryd.prog l #[insX b x] W1 fun e W' =>
      (e = .returned (.bool true) ∧ J (pre ++ [x]) W' ∧ EaK K x W1 W') ∨ (e = .returned (.bool false) ∧ Jx (pre ++ [x]) W'))
    (hE : EaOk Bb v L b W) (h0 : J [] W) :
    CallsIn Fence.wide n Tryd.prog 33 #[.func (.yield l) #[] #[], .pointer (some ⟨Bb, 0, none⟩)] W fun e W' => (∃ v, e = .returned v) ∧
      ((∃ xs, (FitA b xs ∧ FullA b L xs.length) ∧ ∃ W0, J xs W0 ∧ Below W0.heap.size W0 W') ∨ (∃ pre, (FitA b pre ∧ UptoA b L pre.length) ∧ Jx pre W')) := by
  obtain ⟨ad, cap, rfl, _⟩ := hE.2.1
  have lI : (L : Int) ≤ 1000000 := by omega
  have HC : Hid (∀ ad' cap', Value.slice ad L cap = .slice ad' L cap' → L ≤ cap') := hcp
  clear hcp
  refine callsIn_of_wp Tryd.func33 rfl trivial ?_ rfl
  simp only [Tryd.ntmps33, List.size_toArray, List.length_cons, List.length_nil, Nat.reduceAdd, Nat.reduceSub, Array.replicate_succ, Array.replicate_zero, List.push_toArray, List.append_toArray, List.nil_append, List.cons_append]
  gi_wp2
  gi_loopw [3] (fun i wr => ∃ pre, (FitA b pre ∧ UptoA b L pre.length) ∧ i = .int .i64 (posA b pre.length : Int) ∧ J pre wr ∧ EaOk Bb (.slice ad L cap) L b wr) (fun i _ => L - (intOf i).toNat)
  case atStart => exact ⟨[], ⟨fitA_nil b, uptoA_zero b L⟩, rfl, h0, hE⟩
  case round =>
    obtain ⟨pre, hF, rfl, hJs, hEs⟩ := hrel
    have hle := hF.2.le_len
    have HF : Hid (FitA b pre ∧ UptoA b L pre.length) := hF
    have HJ : Hid (J pre wr ∧ EaOk Bb (.slice ad L cap) L b wr) := ⟨hJs, hEs⟩
    have c0 := hEs.1
    cases ho : okA b L (posA b pre.length) with
    | true =>
      have HO : Hid _ := one_yes wr _ L b (posA b pre.length) hEs.2.2 hEs.2.1 HC.out hL ho
      have hlt : ((posA b pre.length : Nat) : Int) < (L : Int) := by have := (okA_parts ho).1; omega
      have HP : Hid (posA b (pre.length + 1) = nxA b (posA b pre.length) ∧ posA b pre.length < posA b (pre.length + 1) ∧ okA b L (posA b pre.length) = true) := ⟨rfl, posA_lt b _ _ (by omega), ho⟩
      clear hF ho hJs hEs
      generalize hA : posA b pre.length = A at HO HP hlt hle ⊢
      have HA : Hid (A = posA b pre.length) := hA.symm
      clear hA
      unfold insV at HO
      gi_wp2_with (refine ⟨trivial, ?_⟩; gi_at_call 21; refine (callsIn_wide.2 HO.out).mono ?_; rintro e w1 ⟨q, q1, q2, rfl, hB, hO⟩; (have hB2 := hB.alloc hB.size (.cells #[.int .i64 (A : Int), .int .i64 (b A : Int), .slice (some ⟨q, 0, none⟩) (immA b A) (immA b A), .int .i64 (nxA b A : Int)] 40)); (have hO2 := hO.past ((Below.refl _ w1).alloc (Nat.le_refl _) (.cells #[.int .i64 (A : Int), .int .i64 (b A : Int), .slice (some ⟨q, 0, none⟩) (immA b A) (immA b A), .int .i64 (nxA b A : Int)] 40))); (have HE2 : Hid _ := HJ.out.2.past hB2); (have HC2 : Hid ((w1.alloc (.cells #[.int .i64 (A : Int), .int .i64 (b A : Int), .slice (some ⟨q, 0, none⟩) (immA b A) (immA b A), .int .i64 (nxA b A : Int)] 40)).cell? ⟨w1.heap.size, 3, none⟩ = some (.int .i64 (nxA b A : Int))) := (by unfold Hid; go_simp)); obtain ⟨fn, tmps, assign, body, hy, hR⟩ := hY pre (A, q, w1.heap.size) wr _ HJ.out.1 ⟨hB2, HF.out.2.succ (by rw [← HA.out]; exact HP.out.2.2), HF.out.1, HA.out, ⟨q1, q2, by simp⟩, hO2⟩; dsimp only [insX, insV] at hy; clear hB hB2 HO hO hO2 q1 q2)
      refine hR.mono ?_
      rintro e W3 (⟨rfl, hJ3, hk3⟩ | ⟨rfl, hJx3⟩)
      · have HJ3 : Hid (J (pre ++ [(A, q, w1.heap.size)]) W3 ∧ EaOk Bb (.slice ad L cap) L b W3) := ⟨hJ3, EaOk.keep HE2.out hS (hk3.sub fun k hk => Or.inl hk)⟩
        have c3 : W3.cell? ⟨w1.heap.size, 3, none⟩ = some (.int .i64 (nxA b A : Int)) := hk3 _ (Or.inr rfl) _ _ HC2.out
        clear hJ3 hk3 HC2 HE2
        gi_wp2
        go_roundw
        case rel => exact ⟨pre ++ [(A, q, w1.heap.size)], ⟨HF.out.1.snoc HA.out, by rw [List.length_append]; exact HF.out.2.succ (by rw [← HA.out]; exact HP.out.2.2)⟩, by rw [List.length_append, List.length_singleton, HP.out.1], HJ3.out⟩
        case measure => have h1 := HP.out.1; have h2 := HP.out.2.1; simp [intOf]; omega
      · gi_wp2
        refine bodyPost_ret (results_none rfl _ _ _) rfl ?_
        exact ⟨⟨_, rfl⟩, .inr ⟨_, ⟨HF.out.1.snoc HA.out, by rw [List.length_append]; exact HF.out.2.succ (by rw [← HA.out]; exact HP.out.2.2)⟩, hJx3⟩⟩
    | false =>
      have HO : Hid (Calls Tryd.prog 21 #[.slice ad L cap, .int .i64 ((posA b pre.length : Nat) : Int)] wr fun e w' => e = .returned (.tuple #[.agg #[.int .i64 0, .int .i64 0, .slice none 0 0, .int .i64 0], .int .i64 (errA b L (posA b pre.length))]) ∧ Below wr.heap.size wr w') := one_no wr _ L b (posA b pre.length) hEs.2.2 hEs.2.1 hL ho
      have HFL : Hid (FullA b L pre.length) := ⟨hF.2, ho⟩
      clear hF ho hJs hEs
      by_cases hlt : posA b pre.length < L
      · have hI : ((posA b pre.length : Nat) : Int) < (L : Int) := by omega
        obtain ⟨er, her, e0⟩ : ∃ er, errA b L (posA b pre.length) = er ∧ ¬ er = 0 := ⟨_, rfl, by unfold errA; rw [if_neg (by omega)]; split <;> decide⟩
        rw [her] at HO
        clear her hlt
        generalize posA b pre.length = A at HO HFL hI hle ⊢
        gi_wp2_with (refine ⟨trivial, ?_⟩; gi_at_call 21; refine (callsIn_wide.2 HO.out).mono ?_; rintro e w1 ⟨rfl, hB⟩; (have hB2 : Hid (Below wr.heap.size wr (w1.alloc (.cells #[.int .i64 0, .int .i64 0, .slice none 0 0, .int .i64 0] 40))) := hB.alloc hB.size _); clear hB HO)
        refine ⟨fun _ h => (by cases h), ?_⟩
        gi_wp2
        refine bodyPost_ret (results_none rfl _ _ _) rfl ?_
        exact ⟨⟨_, rfl⟩, .inl ⟨pre, ⟨HF.out.1, HFL.out⟩, wr, HJ.out.1, hB2.out⟩⟩
      · have hI : ¬ ((posA b pre.length : Nat) : Int) < (L : Int) := by omega
        clear hlt
        gi_wp2
        go_end0
        exact ⟨⟨_, rfl⟩, .inl ⟨pre, ⟨HF.out.1, HFL.out⟩, wr, HJ.out.1, Below.refl _ _⟩⟩
/-- each's function: the instructions in their order, as far as they stand, or as far as they are asked for -/
theorem each_seq (n : Nat) (hn : 1 ≤ n) (Bb : Nat) (v : Value) (L : Nat) (b : Nat → Nat) (K : Nat → Prop) (hS : EaS K Bb v) (hcp : ∀ ad cap, v = .slice ad L cap → L ≤ cap) (hL : L ≤ 1000000) (w : World) (hE : EaOk Bb v L b w) :
    SeqW Fence.wide n Tryd.prog 33 #[.pointer (some ⟨Bb, 0, none⟩)] (fun x => #[insX b x]) (ComeA b L) (EaK K) (fun xs => FitA b xs ∧ FullA b L xs.length) (fun pre => FitA b pre ∧ UptoA b L pre.length) w :=
  fun l J Jx W hW hY h0 => each1_in n hn l Bb v L b K hS hcp hL J Jx W hY (hE.past hW) h0
theorem each_is (w : World) (ad : Option Addr) (m cap : Nat) : Calls Tryd.prog 23 #[.slice ad m cap] w fun e w' => e = .returned (.func (.func 33) #[] #[.pointer (some ⟨w.heap.size, 0, none⟩)]) ∧ w' = w.alloc (.cells #[.slice ad m cap] 22) := by
  go_enter Tryd.func23, Tryd.ntmps23
  go_wp2
  go_ret
  exact ⟨rfl, rfl⟩
end Go.Proofs.YtcjmbpchdeapiaaDoor
