/- The document's table: Get, Pairs, Set. -/
import Derived.Test.YtohfkgfjcnldaaaTx
namespace Go.Proofs.Ytohfkgfjcnldaaa
open Go.RowKit Go.Shelf
def getR (l : List (Int × Int)) (k : Int) : Option Int := if plc l k < l.length ∧ (atL l (plc l k)).1 = k then some (atL l (plc l k)).2 else none
theorem PrL.take {W : World} {ad : Option Addr} {cap : Nat} {l : List (Int × Int)} (h : PrL W (.slice ad l.length cap) l) (i : Nat) (hi : i ≤ l.length) : PrL W (.slice ad i cap) (l.take i) ∧ i ≤ cap := by
  have h1 := row_take h i hi
  rw [rowsD_take] at h1
  have el : (l.take i).length = i := List.length_take_of_le hi
  refine ⟨by unfold PrL; rw [el]; exact h1, ?_⟩
  rcases h1.2 with ⟨e1, e2⟩ | ⟨g, c, cur, e1, _, _, h5, _⟩
  · omega
  · injection e1 with _ _ e3; omega
theorem rowsD_drop : ∀ (l : List (Int × Int)) (n : Nat), (rowsD l).drop (n * 2) = rowsD (l.drop n)
  | [], n => by simp [rowsD]
  | q :: l, 0 => by simp
  | q :: l, n + 1 => by
    rw [rowsD_cons, List.drop_succ_cons, ← rowsD_drop l n, show (n + 1) * 2 = n * 2 + 1 + 1 by omega]
    simp
theorem PrL.drop {W : World} {ad : Option Addr} {cap : Nat} {l : List (Int × Int)} (h : PrL W (.slice ad l.length cap) l) (i : Nat) (hi : i ≤ l.length) : ∃ sv, (∀ W', (Instr.slice 56 (.slice ad l.length cap) (some (.int .i64 (i : Int))) none none).run Try.prog W' = .ok sv W') ∧ (∃ a n c, sv = .slice a n c) ∧ Part W sv (l.drop i) := by
  have ht' : Try.prog.underlying 56 = some (.slice (Try.prog.elem 56)) := by rw [elem_pairs]; exact und_pairs
  have hsl : ∀ W', (Instr.slice 56 (.slice ad l.length cap) (some (.int .i64 (i : Int))) none none).run Try.prog W' = .ok (sliced ad i l.length cap 2) W' := fun W' => by
    have h9 := run_slice_l (P := Try.prog) W' 56 ad l.length cap ht' .i64 (i : Int) (by omega) (by omega)
    rw [elem_pairs, size_pair, Result.andThen_ok, Int.toNat_natCast] at h9
    exact h9
  refine ⟨_, hsl, ⟨_, _, _, rfl⟩, ?_⟩
  have el : (l.drop i).length = l.length - i := List.length_drop
  unfold sliced
  cases ad with
  | none =>
    rcases h.2 with ⟨e1, e2⟩ | ⟨g, c, cur, e1, _⟩
    · injection e1 with _ _ e3
      subst e3
      exact ⟨none, 0, by rw [el]; simp, fun _ => rfl, fun h0 => by rw [el] at h0; omega⟩
    · cases e1
  | some a =>
    obtain ⟨e1, _, cur, h2, h3, _⟩ := owns_row_some h
    have ea1 : a.add (i * 2) = ⟨a.block, i * 2, none⟩ := by
      rw [e1]
      unfold Addr.add
      by_cases e : i * 2 = 0
      · rw [e]; rfl
      · simp [e]
    by_cases hc : cap = i
    · refine ⟨some a, cap - i, by rw [if_pos hc, el], fun e => (by cases e), fun h0 => ?_⟩
      rw [el] at h0
      omega
    · refine ⟨some ⟨a.block, i * 2, none⟩, cap - i, by rw [if_neg hc, el, Option.map_some, ea1], fun e => (by cases e), fun h0 => ⟨a.block, i * 2, rfl, fun j u hj => ?_⟩⟩
      rw [← rowsD_drop, List.getElem?_drop] at hj
      obtain ⟨g', e2, c2, _⟩ := row_cell h hj
      have : a.block = g' := congrArg Addr.block (Option.some.inj e2)
      rw [this]
      exact c2
set_option maxHeartbeats 2000000 in
set_option maxRecDepth 100000 in
theorem getR_is (w : World) (c : Nat) (lv : Value) (oa : Option Addr) (oc : Nat) (RL : List (Int × Int)) (OV : List Value) (OL : List (List (Int × Int))) (h : RTab w c lv oa oc RL OV OL) (k : Int) (hl : RL.length < 549755813888) : Calls Try.prog 32 #[.pointer (some ⟨c, 0, none⟩), .int .i64 k] w fun e w' => e = .returned (.tuple #[.int .i64 ((getR RL k).getD 0), .bool (getR RL k).isSome]) ∧ w' = w := by
  obtain ⟨la, lc, rfl⟩ := h.cur.form
  have c0 : w.cell? ⟨c, 0, none⟩ = some (.slice la RL.length lc) := h.box.cell 0
  have PL : Hid (Calls Try.prog 62 #[.slice la RL.length lc, .int .i64 k] w fun e w' => e = .returned (.int .i64 (plc RL k : Int)) ∧ w' = w) := place_is w la lc RL k h.cur hl
  have hple := plc_le RL k
  by_cases h1 : plc RL k < RL.length
  · obtain ⟨g, rfl, d0, d1⟩ := h.cur.at (atL_get h1)
    by_cases h2 : (atL RL (plc RL k)).1 = k
    · have eg : getR RL k = some (atL RL (plc RL k)).2 := by unfold getR; rw [if_pos ⟨h1, h2⟩]
      rw [eg]
      rw [h2] at d0
      clear h eg h2
      generalize (atL RL (plc RL k)).2 = y at *
      generalize plc RL k = i at *
      generalize RL.length = n at *
      have iI : (i : Int) < (n : Int) := by omega
      have iN : ((i : Int) == (n : Int)) = false := by simp; omega
      have iX : (i : Int) < 549755813888 := by omega
      clear h1 hple hl
      go_enter Try.func32, Try.ntmps32
      go_wp2_with (go_at_call 62; refine (PL.out).mono ?_; rintro e w' ⟨rfl, hw⟩; (have hw2 := hw.symm); clear hw; subst hw2)
      go_ret2
      exact ⟨rfl, rfl⟩
    · have eg : getR RL k = none := by unfold getR; rw [if_neg (fun e => h2 e.2)]
      rw [eg]
      clear h eg
      generalize (atL RL (plc RL k)).1 = x at *
      generalize plc RL k = i at *
      generalize RL.length = n at *
      have iI : (i : Int) < (n : Int) := by omega
      have iN : ((i : Int) == (n : Int)) = false := by simp; omega
      have xk : (x != k) = true := by simpa using h2
      have iX : (i : Int) < 549755813888 := by omega
      clear h1 hple hl h2
      go_enter Try.func32, Try.ntmps32
      go_wp2_with (go_at_call 62; refine (PL.out).mono ?_; rintro e w' ⟨rfl, hw⟩; (have hw2 := hw.symm); clear hw; subst hw2)
      go_ret2
      exact ⟨rfl, rfl⟩
  · have eg : getR RL k = none := by unfold getR; rw [if_neg (fun e => h1 e.1)]
    rw [eg]
    have e9 : plc RL k = RL.length := by omega
    rw [e9] at PL
    clear h eg e9 h1 hple hl
    generalize RL.length = n at *
    go_enter Try.func32, Try.ntmps32
    go_wp2_with (go_at_call 62; refine (PL.out).mono ?_; rintro e w' ⟨rfl, hw⟩; (have hw2 := hw.symm); clear hw; subst hw2)
    go_ret2
    exact ⟨rfl, rfl⟩
set_option maxHeartbeats 2000000 in
set_option maxRecDepth 100000 in
theorem pairs_is (w : World) (c : Nat) (lv : Value) (oa : Option Addr) (oc : Nat) (RL : List (Int × Int)) (OV : List Value) (OL : List (List (Int × Int))) (h : RTab w c lv oa oc RL OV OL) (hl : RL.length < 549755813888) : Calls Try.prog 33 #[.pointer (some ⟨c, 0, none⟩)] w fun e w' => ∃ v', e = .returned v' ∧ PrL w' v' RL ∧ Below w.heap.size w w' ∧ ∀ k, v'.ownBlock = some k → w.heap.size ≤ k := by
  obtain ⟨la, lc, rfl⟩ := h.cur.form
  have c0 : w.cell? ⟨c, 0, none⟩ = some (.slice la RL.length lc) := h.box.cell 0
  have CP : Hid (Calls Try.prog 64 #[.slice la RL.length lc] w fun e w' => ∃ v', e = .returned v' ∧ PrL w' v' RL ∧ Below w.heap.size w w' ∧ ∀ k, v'.ownBlock = some k → w.heap.size ≤ k) := copied_is w _ RL h.cur hl
  clear h hl
  go_enter Try.func33, Try.ntmps33
  go_wp2_with (go_at_call 64; refine (CP.out).mono ?_; rintro e w' ⟨v', rfl, h1, h2, h3⟩; obtain ⟨da, dc, rfl⟩ := h1.form)
  go_ret
  exact ⟨_, rfl, h1, h2, h3⟩
end Go.Proofs.Ytohfkgfjcnldaaa
