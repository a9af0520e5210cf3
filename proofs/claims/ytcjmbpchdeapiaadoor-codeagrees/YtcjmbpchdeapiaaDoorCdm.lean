/- Chapter 6's statements: awake, cut. -/
import Derived.Test.YtcjmbpchdeapiaaDoorCdl
import Derived.Laws.AppendOwnNone
namespace Go.Proofs.YtcjmbpchdeapiaaDoor
open Go.RowKit
/-- the bytes that awake scans -/
def smL : List Nat := [96, 7, 224, 0, 0, 0]
def smB (j : Nat) : Nat := smL.getD j 0
theorem smB_lt (j : Nat) : smB j < 256 := by
  unfold smB smL
  by_cases h : j < 6
  · have : ∀ j : Fin 6, ([96, 7, 224, 0, 0, 0].getD j.val 0 : Nat) < 256 := by decide
    exact this ⟨j, h⟩
  · rw [List.getD_eq_getElem?_getD, List.getElem?_eq_none (by simp; omega)]; decide
theorem sm_full : FullA smB 6 3 := ⟨fun j hj => by
    have : ∀ j : Fin 3, okA smB 6 (posA smB j.val) = true := by decide +kernel
    exact this ⟨j, hj⟩, by decide +kernel⟩
theorem sm_facts : scE smB 6 3 = 0 ∧ scP smB 6 3 = 0 ∧ posA smB 2 = 5 := by decide +kernel
def onB (j : Nat) : Nat := if j = 0 then 96 else 0
theorem onB_lt (j : Nat) : onB j < 256 := by unfold onB; split <;> decide
theorem on_full : FullA onB 1 0 := ⟨fun j hj => by omega, by decide +kernel⟩
theorem on_facts : scE onB 1 0 = 61 ∧ scP onB 1 0 = 0 := by decide +kernel
theorem insL_get (b : Nat → Nat) : ∀ (xs : List (Nat × Nat × Nat)) (j i : Nat) (x : Nat × Nat × Nat), xs[j]? = some x → i < 4 → (insL b xs)[4 * j + i]? = (insC b x)[i]?
  | [], j, i, x, h, _ => by simp at h
  | y :: ys, 0, i, x, h, hi => by
    obtain rfl : y = x := by simpa using h
    rw [show insL b (y :: ys) = insC b y ++ insL b ys from rfl, List.getElem?_append_left (by simp [insC]; omega)]
    simp
  | y :: ys, j + 1, i, x, h, hi => by
    have ih := insL_get b ys j i x (by simpa using h) hi
    rw [show insL b (y :: ys) = insC b y ++ insL b ys from rfl, List.getElem?_append_right (by simp [insC]; omega), show 4 * (j + 1) + i - (insC b y).length = 4 * j + i by simp [insC]; omega]
    exact ih
theorem FitA.next {b : Nat → Nat} {xs : List (Nat × Nat × Nat)} (h : FitA b xs) {j : Nat} (hj : j < xs.length) : (insL b xs)[4 * j + 3]? = some (.int .i64 (posA b (j + 1) : Int)) := by
  have hx : xs[j]? = some xs[j] := List.getElem?_eq_getElem hj
  rw [insL_get b xs j 3 _ hx (by omega)]
  have := h.get hx
  simp only [insC, posA, List.getElem?_cons_succ, List.getElem?_cons_zero, this]
theorem small_is (w : World) : Calls Tryd.prog 30 #[] w fun e w' => e = .returned (.slice (some ⟨w.heap.size, 0, none⟩) 6 6) ∧ w' = w.alloc (.cells #[.int .u8 96, .int .u8 7, .int .u8 224, .int .u8 0, .int .u8 0, .int .u8 0] 5) := by
  go_enter Tryd.func30, Tryd.ntmps30
  go_wp2
  go_ret
  exact ⟨rfl, rfl⟩
theorem sm_bytes (w : World) : BytesOf (w.alloc (.cells #[.int .u8 96, .int .u8 7, .int .u8 224, .int .u8 0, .int .u8 0, .int .u8 0] 5)) (.slice (some ⟨w.heap.size, 0, none⟩) 6 6) 6 smB := ⟨_, _, rfl, smB_lt, fun e => (by cases e), fun _ => ⟨_, _, rfl, fun j hj => by
  have h := (CBox.new w 5 [.int .u8 96, .int .u8 7, .int .u8 224, .int .u8 0, .int .u8 0, .int .u8 0]).cell (0 + j)
  refine h.trans ?_
  rcases j with _ | _ | _ | _ | _ | _ | j
  all_goals first | rfl | omega⟩⟩
theorem on_bytes (w : World) : BytesOf (w.alloc (.cells #[.int .u8 96] 5)) (.slice (some ⟨w.heap.size, 0, none⟩) 1 1) 1 onB := ⟨_, _, rfl, onB_lt, fun e => (by cases e), fun _ => ⟨_, _, rfl, fun j hj => by
  obtain rfl : j = 0 := by omega
  exact (CBox.new w 5 [.int .u8 96]).cell 0⟩⟩
set_option maxHeartbeats 2000000 in
set_option maxRecDepth 100000 in
theorem awake_is (w : World) (hN : Nms w) : Calls Tryd.prog 19 #[] w fun e w' => e = .returned (.bool true) ∧ Below w.heap.size w w' := by
  have H1 : Hid (∀ W : World, Below w.heap.size w W → Calls Tryd.prog 8 #[.slice (some ⟨W.heap.size, 0, none⟩) 6 6] (W.alloc (.cells #[.int .u8 96, .int .u8 7, .int .u8 224, .int .u8 0, .int .u8 0, .int .u8 0] 5)) fun e w' => ∃ g cap, e = .returned (.tuple #[.slice (some ⟨g, 0, none⟩) 3 cap, .int .i64 0, .int .i64 0]) ∧ Below w.heap.size w w' ∧ w'.cell? ⟨g, 7, none⟩ = some (.int .i64 5)) := fun W hB => by
    have hB2 : Below w.heap.size w (W.alloc (.cells #[.int .u8 96, .int .u8 7, .int .u8 224, .int .u8 0, .int .u8 0, .int .u8 0] 5)) := hB.alloc hB.size _
    refine (scan_is _ _ 6 smB (hN.past hB2) (sm_bytes W) (fun _ _ e => by cases e; omega) (by omega)).mono ?_
    rintro e w' ⟨k, fv, h1, h2, h3, _, h5⟩
    obtain rfl := fullA_one h1 sm_full
    obtain ⟨xs, x1, x2, x3, _⟩ := h5 sm_facts.1
    rw [sm_facts.1, sm_facts.2.1] at h2
    obtain ⟨g, cap, rfl⟩ := ownsRow_succ (k := 2) x3
    refine ⟨g, cap, h2, hB2.trans (h3.mono hB2.size), ?_⟩
    rw [x3.cellAt 7 (by omega), x2.next (j := 1) (by omega), sm_facts.2.2]; rfl
  have H2 : Hid (∀ W : World, Below w.heap.size w W → Calls Tryd.prog 8 #[.slice (some ⟨W.heap.size, 0, none⟩) 1 1] (W.alloc (.cells #[.int .u8 96] 5)) fun e w' => e = .returned (.tuple #[.slice none 0 0, .int .i64 61, .int .i64 0]) ∧ Below W.heap.size W w') := fun W hB => by
    have hB2 : Below W.heap.size W (W.alloc (.cells #[.int .u8 96] 5)) := (Below.refl _ W).alloc (Nat.le_refl _) _
    refine (scan_is _ _ 1 onB ((hN.past hB).past hB2) (on_bytes W) (fun _ _ e => by cases e; omega) (by omega)).mono ?_
    rintro e w' ⟨k, fv, h1, h2, h3, h4, _⟩
    obtain rfl := fullA_one h1 on_full
    obtain rfl := h4 (by rw [on_facts.1]; decide)
    rw [on_facts.1, on_facts.2] at h2
    exact ⟨h2, hB2.trans (h3.mono hB2.size)⟩
  have B0 : Hid (Below w.heap.size w w) := Below.refl _ _
  go_enter Tryd.func19, Tryd.ntmps19
  go_wp2_with (first
    | (go_at_call 30; refine (small_is _).mono ?_; rintro e w' ⟨rfl, hw⟩; rw [hw]; clear hw)
    | (go_at_call 8; refine (H1.out _ B0.out).mono ?_; rintro e w1 ⟨g, cap, rfl, hB1, c1⟩; (have B1 : Hid (Below w.heap.size w w1) := hB1); clear hB1 H1 B0)
    | (go_at_call 8; refine (H2.out _ B1.out).mono ?_; rintro e w2 ⟨rfl, hB2⟩; (have c2 := (hB2.cell (p := ⟨g, 7, none⟩) (World.block_lt_of_cell? w1 _ c1)).trans c1); (have B2 : Hid (Below w.heap.size w w2) := B1.out.trans (hB2.mono B1.out.size)); clear hB2 H2 c1))
  go_ret
  exact ⟨rfl, B2.out⟩
/-- bytes of one's own -/
theorem own_bytes {W : World} {base m : Nat} {v : Value} {b : Nat → Nat} (h : W.ownsRow base 5 1 v m (bsL m b)) (hb : ∀ j, b j < 256) : BytesOf W v m b ∧ ∀ ad cap, v = .slice ad m cap → m ≤ cap := by
  rcases h.2 with ⟨rfl, rfl⟩ | ⟨g, cap, cur, rfl, h1, h2, h3, h4⟩
  · exact ⟨⟨_, _, rfl, hb, fun _ => ⟨rfl, rfl⟩, fun h => absurd rfl h⟩, fun ad cap e => Nat.zero_le _⟩
  · exact ⟨⟨_, _, rfl, hb, fun e => (by cases e), fun _ => ⟨g, 0, rfl, fun j hj => by rw [Nat.zero_add, h.cellAt j (by omega), bsL_get m b j hj]⟩⟩, fun ad c e => by cases e; exact h3⟩
theorem slice_hiB (ad : Option Addr) (n cap q : Nat) (hq : q ≤ cap) (W : World) : Sem.run Tryd.prog (Instr.slice 22 (.slice ad n cap) none (some (.int .i64 (q : Int))) none) W = .ok (.slice ad q cap) W := by
  have e : (if cap = 0 then ad else ad.map (·.add (0 * 1))) = ad := by
    split
    · rfl
    · cases ad with
      | none => rfl
      | some a => obtain ⟨b, o, s⟩ := a; simp [Addr.add]
  simp [Instr.slice, Instr.sliceBounds, run_underlying Tryd.underlying22, run_sliceBound W .i64 (q : Int) cap _ (by omega) (by omega)]
  simpa using e
theorem src_cells {W : World} {g o m : Nat} {b : Nat → Nat} (h : ∀ j, j < m → W.cell? ⟨g, o + j, none⟩ = some (.int .u8 (b j : Int))) : ∀ j u, (bsL m b)[j]? = some u → W.cell? ((⟨g, o, none⟩ : Addr).add j) = some u := fun j u hu => by
  obtain ⟨hj, rfl⟩ := bsL_at hu
  rw [Addr.add_mid]; exact h j hj
def cutN (L : Nat) : Nat := if 70000 < L then 70000 else L
theorem cutN_le (L : Nat) : cutN L ≤ L ∧ cutN L ≤ 70000 := by unfold cutN; split <;> omega
theorem own_some {W w : World} {base n m : Nat} {v : Value} {xs : List Value} (h : W.ownsRow base 5 1 v m xs) (hn : v ≠ .slice none 0 0) (hB : Below n w W) : ∃ g c, v = .slice (some ⟨g, 0, none⟩) m c ∧ W.ownsRow base 5 1 (.slice (some ⟨g, 0, none⟩) m c) m xs ∧ Below n w W := by
  rcases h.2 with ⟨rfl, _⟩ | ⟨g, c, cur, rfl, _⟩
  · exact absurd rfl hn
  · exact ⟨g, c, rfl, h, hB⟩
set_option maxHeartbeats 2000000 in
set_option maxRecDepth 100000 in
theorem cut_at (w : World) (v : Value) (L : Nat) (b : Nat → Nat) (hL : L ≤ 9223372036854775807) (hv : BytesOf w v L b) (hcp : ∀ ad cap, v = .slice ad L cap → L ≤ cap) : Calls Tryd.prog 20 #[v] w fun e w' => ∃ g cap, e = .returned (.slice (some ⟨g, 0, none⟩) (cutN L) cap) ∧ w'.ownsRow w.heap.size 5 1 (.slice (some ⟨g, 0, none⟩) (cutN L) cap) (cutN L) (bsL (cutN L) b) ∧ Below w.heap.size w w' := by
  obtain ⟨i0, hi, hz0, hz1, hz2⟩ := info_parts infoB8
  obtain ⟨ad, cap, rfl, hb, hnil, hc⟩ := hv
  have hcap := hcp _ _ rfl
  have oE : Hid ((w.alloc (.cells #[] 5)).ownsRow w.heap.size 5 1 (.slice (some ⟨w.heap.size, 0, none⟩) 0 0) 0 []) := ⟨rfl, Or.inr ⟨w.heap.size, 0, #[], rfl, Nat.le_refl _, World.alloc_heap_new w _, Nat.le_refl _, by unfold maxLen; omega, rfl, rfl⟩⟩
  have B0 : Hid (Below w.heap.size w (w.alloc (.cells #[] 5))) := (Below.refl _ w).alloc (Nat.le_refl _) _
  have lI : (L : Int) ≤ 9223372036854775807 := by omega
  cases ad with
  | none =>
    obtain ⟨rfl, rfl⟩ := hnil rfl
    go_enter Tryd.func20, Tryd.ntmps20
    go_wp2_with (at_builtin; refine wpList_append_own_none rfl _ _ 22 rfl w.heap.size 5 i0 1 Tryd.underlying22 hi _ 0 [] rfl oE.out rfl ?_)
    go_ret
    exact ⟨_, _, rfl, oE.out, B0.out⟩
  | some a =>
    have hcells : ∀ m, m ≤ L → ∀ W, Below w.heap.size w W → ∀ j u, (bsL m b)[j]? = some u → W.cell? (a.add j) = some u := fun m hm W hB j u hu => by
      obtain ⟨hj, rfl⟩ := bsL_at hu
      obtain ⟨g, o, e, hcc⟩ := hc (by omega)
      cases e
      rw [Addr.add_mid]
      exact (hB.cell (p := ⟨g, o + j, none⟩) (World.block_lt_of_cell? w _ (hcc j (by omega)))).trans (hcc j (by omega))
    have HCE : Hid (∀ m, m ≤ L → ∀ W, Below w.heap.size w W → ∀ j u, (bsL m b)[j]? = some u → W.cell? (a.add j) = some u) := hcells
    clear hcells hc hb hnil hcp
    by_cases hlt : 70000 < L
    · have h7 : (70000 : Int) < (L : Int) := by omega
      have hsl : ∀ W, Sem.run Tryd.prog (Instr.slice 22 (.slice (some a) L cap) none (some (.int .i64 70000)) none) W = .ok (.slice (some a) 70000 cap) W := fun W => slice_hiB (some a) L cap 70000 (by omega) W
      rw [show cutN L = 70000 by unfold cutN; rw [if_pos hlt]]
      go_enter Tryd.func20, Tryd.ntmps20
      go_wp2_with (at_builtin; refine wpList_append_own _ rfl _ _ 22 rfl w.heap.size 5 i0 (.int .u8 0) 1 1 Tryd.underlying22 hi hz0 hz1 hz2 rfl (by decide) _ 0 [] rfl oE.out a 70000 cap (bsL 70000 b) rfl (by rw [bsL_len]) (HCE.out 70000 (by omega) _ B0.out) (bsL_one _ b) (by unfold maxLen; omega) (by omega) B0.out.size ?_; intro v' w1 hown' hgrow hnn; (have R : Hid (∃ g c, v' = .slice (some ⟨g, 0, none⟩) 70000 c ∧ w1.ownsRow w.heap.size 5 1 (.slice (some ⟨g, 0, none⟩) 70000 c) 70000 (bsL 70000 b) ∧ Below w.heap.size w w1) := (by refine own_some (by simpa using hown') (fun e => by have h2 : Value.slice (some ⟨w.heap.size, 0, none⟩) 0 0 = .slice none 0 0 := (hnn.1 e).1; cases h2) ?_; exact B0.out.grown hgrow B0.out.size (fun k e => (by cases e; exact Nat.le_refl _)))); clear hown' hgrow hnn)
      obtain ⟨g, c, rfl, RR⟩ := R.out
      go_ret
      exact ⟨_, _, rfl, RR⟩
    · have h7 : ¬ (70000 : Int) < (L : Int) := by omega
      rw [show cutN L = L by unfold cutN; rw [if_neg hlt]]
      go_enter Tryd.func20, Tryd.ntmps20
      go_wp2_with (at_builtin; refine wpList_append_own _ rfl _ _ 22 rfl w.heap.size 5 i0 (.int .u8 0) 1 1 Tryd.underlying22 hi hz0 hz1 hz2 rfl (by decide) _ 0 [] rfl oE.out a L cap (bsL L b) rfl (by rw [bsL_len]; omega) (HCE.out L (Nat.le_refl _) _ B0.out) (bsL_one _ b) (by unfold maxLen; omega) (by omega) B0.out.size ?_; intro v' w1 hown' hgrow hnn; (have R : Hid (∃ g c, v' = .slice (some ⟨g, 0, none⟩) L c ∧ w1.ownsRow w.heap.size 5 1 (.slice (some ⟨g, 0, none⟩) L c) L (bsL L b) ∧ Below w.heap.size w w1) := (by refine own_some (by simpa using hown') (fun e => by have h2 : Value.slice (some ⟨w.heap.size, 0, none⟩) 0 0 = .slice none 0 0 := (hnn.1 e).1; cases h2) ?_; exact B0.out.grown hgrow B0.out.size (fun k e => (by cases e; exact Nat.le_refl _)))); clear hown' hgrow hnn)
      obtain ⟨g, c, rfl, RR⟩ := R.out
      go_ret
      exact ⟨_, _, rfl, RR⟩
theorem cut_is (w : World) (v : Value) (L : Nat) (b : Nat → Nat) (hL : L ≤ 9223372036854775807) (hv : BytesOf w v L b) (hcp : ∀ ad cap, v = .slice ad L cap → L ≤ cap) : Calls Tryd.prog 20 #[v] w fun e w' => ∃ v', e = .returned v' ∧ w'.ownsRow w.heap.size 5 1 v' (cutN L) (bsL (cutN L) b) ∧ Below w.heap.size w w' :=
  (cut_at w v L b hL hv hcp).mono fun _ _ ⟨_, _, h1, h2⟩ => ⟨_, h1, h2⟩
end Go.Proofs.YtcjmbpchdeapiaaDoor
