/- The document's table: Delete, Back, Forget. -/
import Derived.Test.YtohfkgfjcnldaaaTz
namespace Go.Proofs.Ytohfkgfjcnldaaa
open Go.RowKit Go.Shelf
set_option maxHeartbeats 2000000 in
set_option maxRecDepth 100000 in
theorem delR_yes (w : World) (c : Nat) (lv : Value) (oa : Option Addr) (oc : Nat) (RL : List (Int × Int)) (OV : List Value) (OL : List (List (Int × Int))) (h : RTab w c lv oa oc RL OV OL) (k : Int) (hl : RL.length < 549755813888) (h1 : plc RL k < RL.length) (h2 : (atL RL (plc RL k)).1 = k) :
    Calls Try.prog 24 #[.pointer (some ⟨c, 0, none⟩), .int .i64 k] w fun e w' => e = .returned (.bool true) ∧ ∃ lv', RTab w' c lv' oa oc (delRL RL k) OV OL ∧ But (RS c oa) w w' := by
  obtain ⟨j, ej⟩ : ∃ j, j = plc RL k + 1 := ⟨_, rfl⟩
  have hj : j ≤ RL.length := by omega
  obtain ⟨la, lc, rfl⟩ := h.cur.form
  have H0 : Hid (RTab w c (.slice la RL.length lc) oa oc RL OV OL) := h
  have PL : Hid (Calls Try.prog 62 #[.slice la RL.length lc, .int .i64 k] w fun e w' => e = .returned (.int .i64 (plc RL k : Int)) ∧ w' = w) := place_is w la lc RL k h.cur hl
  have hple := plc_le RL k
  obtain ⟨tk, tc⟩ := h.cur.take (plc RL k) hple
  have PT : Hid (Part w (.slice la (plc RL k) lc) (RL.take (plc RL k)) ∧ (RL.take (plc RL k)).length = plc RL k) := ⟨tk.part, List.length_take_of_le hple⟩
  obtain ⟨sv, hsd, ⟨sa, sn, sc, rfl⟩, pd⟩ := h.cur.drop j hj
  have PD : Hid (Part w (.slice sa sn sc) (RL.drop j)) := pd
  have SH : Hid (∀ W, (Instr.slice 56 (.slice la RL.length lc) none (some (.int .i64 (plc RL k : Int))) none).run Try.prog W = .ok (.slice la (plc RL k) lc) W) := fun W => slice_head und_pairs elem_pairs size_pair la RL.length lc (plc RL k) tc
  have SD : Hid (∀ W, (Instr.slice 56 (.slice la RL.length lc) (some (.int .i64 (j : Int))) none none).run Try.prog W = .ok (.slice sa sn sc) W) := hsd
  have CC : Hid (∀ W, Below w.heap.size w W → W.cell? ⟨c, 0, none⟩ = some (.slice la RL.length lc) ∧ W.frozen? ⟨c, 0, none⟩ = false) := fun W hW => ⟨(h.past hW).box.cell 0, (h.past hW).box.frozen 0⟩
  have LN : Hid (RL.length < 549755813888 ∧ j ≤ RL.length ∧ plc RL k ≤ RL.length) := ⟨hl, hj, hple⟩
  obtain ⟨c0, _⟩ := CC.out w (Below.refl _ _)
  obtain ⟨g, eg, d0, _⟩ := h.cur.at (atL_get h1)
  rw [h2] at d0
  obtain ⟨RN, eRN⟩ : ∃ RN, delRL RL k = RN := ⟨_, rfl⟩
  rw [eRN]
  unfold delRL at eRN
  rw [← ej] at eRN
  subst eg
  clear h tk tc pd hsd hl hj hple h2
  generalize plc RL k = i at *
  obtain ⟨n, en⟩ : ∃ n, RL.length = n := ⟨_, rfl⟩
  have EN : Hid (RL.length = n) := en
  have ER : Hid (RL.take i ++ RL.drop j = RN) := eRN
  clear eRN
  rw [en] at PL SH SD CC LN c0 h1
  have iN : (i : Int) < (n : Int) := by omega
  have iM : ((i : Int) == (n : Int)) = false := by simp; omega
  have iX : (i : Int) < 549755813888 := by have := LN.out; omega
  have nX : (n : Int) < 549755813888 := by have := LN.out; omega
  have iw : (i : Int) + 1 = (j : Int) := by omega
  have jw : IntKind.i64.wrap (j : Int) = (j : Int) := by rw [IntKind.wrap_i64]; omega
  have sh0 := SH.out w
  have FIN : Hid (∀ a3 q3 W3, Mk w W3 (.slice a3 (i + (n - j)) q3) (RL.take i ++ RL.drop j) → (∃ lv', RTab (W3.setCell ⟨c, 0, none⟩ (.slice a3 (i + (n - j)) q3)) c lv' oa oc RN OV OL) ∧ But (RS c oa) w (W3.setCell ⟨c, 0, none⟩ (.slice a3 (i + (n - j)) q3))) := fun a3 q3 W3 m3 => by have := H0.out.setCur m3; rw [ER.out] at this; exact ⟨⟨_, this.1⟩, this.2⟩
  have LJ : Hid ((RL.take i).length + (RL.drop j).length = i + (n - j)) := by show _ = _; rw [PT.out.2, List.length_drop, EN.out]
  clear en ej h1
  go_enter Try.func24, Try.ntmps24
  go_upto_region 5 with (go_at_call 62; refine (PL.out).mono ?_; rintro e w' ⟨rfl, hw⟩; (have hw2 := hw.symm); clear hw; subst hw2)
  go_upto_region 6 with (at_builtin; refine wpList_mk (w0 := w) rfl _ _ rfl (.slice none 0 0) [] rfl (Mk.nil (Below.refl _ _)) (.slice (some ⟨g, 0, none⟩) i lc) (RL.take i) rfl PT.out.1 i (by rw [PT.out.2]; simp) (by omega) ?_; intro a1 q1 W1 m1)
  have M1 : Hid (Mk w W1 (.slice a1 i q1) (RL.take i)) := m1
  clear m1 c0 sh0 d0
  obtain ⟨c0, f0⟩ := CC.out W1 M1.out.bel
  have sd := SD.out W1
  go_wp2_with (at_builtin; refine wpList_mk (w0 := w) rfl _ _ rfl (.slice a1 i q1) (RL.take i) rfl M1.out (.slice sa sn sc) (RL.drop j) rfl (PD.out.below M1.out.bel) (i + (n - j)) LJ.out (by have := LN.out; omega) ?_; intro a3 q3 W3 m3; (have c3 := (CC.out W3 m3.bel).1); (have f3 := (CC.out W3 m3.bel).2))
  go_ret
  obtain ⟨⟨lv', f1⟩, f2⟩ := FIN.out a3 q3 W3 m3
  first | exact ⟨rfl, ⟨lv', f1⟩, f2⟩ | exact ⟨rfl, lv', f1, f2⟩
set_option maxHeartbeats 2000000 in
set_option maxRecDepth 100000 in
theorem delR_no (w : World) (c : Nat) (lv : Value) (oa : Option Addr) (oc : Nat) (RL : List (Int × Int)) (OV : List Value) (OL : List (List (Int × Int))) (h : RTab w c lv oa oc RL OV OL) (k : Int) (hl : RL.length < 549755813888) (h1 : ¬ (plc RL k < RL.length ∧ (atL RL (plc RL k)).1 = k)) :
    Calls Try.prog 24 #[.pointer (some ⟨c, 0, none⟩), .int .i64 k] w fun e w' => e = .returned (.bool false) ∧ w' = w := by
  obtain ⟨la, lc, rfl⟩ := h.cur.form
  have c0 : w.cell? ⟨c, 0, none⟩ = some (.slice la RL.length lc) := h.box.cell 0
  have PL : Hid (Calls Try.prog 62 #[.slice la RL.length lc, .int .i64 k] w fun e w' => e = .returned (.int .i64 (plc RL k : Int)) ∧ w' = w) := place_is w la lc RL k h.cur hl
  have hple := plc_le RL k
  by_cases h2 : plc RL k < RL.length
  · obtain ⟨g, rfl, d0, d1⟩ := h.cur.at (atL_get h2)
    have h3 : (atL RL (plc RL k)).1 ≠ k := fun e => h1 ⟨h2, e⟩
    clear h h1
    generalize (atL RL (plc RL k)).1 = x at *
    generalize plc RL k = i at *
    generalize RL.length = n at *
    have iI : (i : Int) < (n : Int) := by omega
    have iN : ((i : Int) == (n : Int)) = false := by simp; omega
    have xk : (x != k) = true := by simpa using h3
    have iX : (i : Int) < 549755813888 := by omega
    clear h2 h3 hple hl d1
    go_enter Try.func24, Try.ntmps24
    go_wp2_with (go_at_call 62; refine (PL.out).mono ?_; rintro e w' ⟨rfl, hw⟩; (have hw2 := hw.symm); clear hw; subst hw2)
    go_ret
    exact ⟨rfl, rfl⟩
  · have e9 : plc RL k = RL.length := by omega
    rw [e9] at PL
    clear h e9 h1 h2 hple hl
    generalize RL.length = n at *
    go_enter Try.func24, Try.ntmps24
    go_wp2_with (go_at_call 62; refine (PL.out).mono ?_; rintro e w' ⟨rfl, hw⟩; (have hw2 := hw.symm); clear hw; subst hw2)
    go_ret
    exact ⟨rfl, rfl⟩
end Go.Proofs.Ytohfkgfjcnldaaa
