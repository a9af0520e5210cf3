/- The document's table: Set, Delete. -/
import Derived.Test.YtohfkgfjcnldaaaTy
namespace Go.Proofs.Ytohfkgfjcnldaaa
open Go.RowKit Go.Shelf
/-- a list in the making: new since w -/
structure Mk (w W : World) (v : Value) (l : List (Int × Int)) : Prop where
  pr : PrL W v l
  bel : Below w.heap.size w W
  new : ∀ k, v.ownBlock = some k → w.heap.size ≤ k
theorem Mk.nil {w W : World} (h : Below w.heap.size w W) : Mk w W (.slice none 0 0) [] := ⟨World.ownsRow_nil _ _ _ _, h, fun k e => by cases e⟩
theorem Mk.alloc {w W : World} {v : Value} {l : List (Int × Int)} (h : Mk w W v l) (o : Obj) : Mk w (W.alloc o) v l := ⟨h.pr.but (S := fun _ => False) ((But.refl _ _).alloc o) (fun _ _ => id), h.bel.alloc h.bel.size o, h.new⟩
theorem Part.below {w W : World} {sv : Value} {l : List (Int × Int)} (h : Part w sv l) (k : Below w.heap.size w W) : Part W sv l := by
  obtain ⟨sa, sc, e, h1, h2⟩ := h.ex
  refine ⟨sa, sc, e, h1, fun h0 => ?_⟩
  obtain ⟨g, o, e1, h3⟩ := h2 h0
  exact ⟨g, o, e1, fun j u hj => (k.cell (p := ⟨g, o + j, none⟩) (World.block_lt_of_cell? w _ (h3 j u hj))).trans (h3 j u hj)⟩
theorem one_part (W : World) (k v : Int) : Part (W.alloc (.cells #[.int .i64 k, .int .i64 v] 62)) (.slice (some ⟨W.heap.size, 0, none⟩) 1 1) [(k, v)] := by
  refine ⟨some ⟨W.heap.size, 0, none⟩, 1, rfl, fun e => (by cases e), fun _ => ⟨W.heap.size, 0, rfl, fun j u hj => ?_⟩⟩
  rw [Nat.zero_add, (CBox.new W 62 [.int .i64 k, .int .i64 v]).cell]
  exact hj
theorem wpList_mk {w0 w : World} {ops : Array Oper} {rest : List Oper} {o : Oper} {a : Act} {Q : Exit → Act → World → Prop} (hgd : o.guard = none) (s x : Operand)
    (ho : o.op = .call { callee := .builtin .append, args := #[s, x], argTypes := #[56, 56] }) (dv : Value) (l : List (Int × Int)) (hs : a.eval s = dv) (hown : Mk w0 w dv l)
    (sv : Value) (l2 : List (Int × Int)) (hx : a.eval x = sv) (hp : Part w sv l2) (N : Nat) (hN : l.length + l2.length = N) (hn : N < 2199023255552)
    (h : ∀ ad cap w', Mk w0 w' (.slice ad N cap) (l ++ l2) → wpList Try.prog ops Q rest (a.put o.dst (.slice ad N cap)) w') : wpList Try.prog ops Q (o :: rest) a w := by
  refine wpList_cat hgd s x ho dv l hs hown.pr sv l2 hx hp (by omega) ?_
  intro dv' w' h1 h2 h3
  obtain ⟨ad, cap, rfl⟩ := h1.form
  rw [List.length_append, hN] at h1 h3 ⊢
  refine h ad cap w' ⟨h1, hown.bel.trans (h2.below (fun k hk => hown.new k hk) hown.bel.size), fun k hk => ?_⟩
  rcases h3 k hk with e | e
  · exact hown.new k e
  · exact Nat.le_trans hown.bel.size e
theorem RTab.setCur {w W : World} {lv' : Value} {RL' : List (Int × Int)} {c : Nat} {lv : Value} {oa : Option Addr} {oc : Nat} {RL : List (Int × Int)} {OV : List Value} {OL : List (List (Int × Int))} (h : RTab w c lv oa oc RL OV OL) (hm : Mk w W lv' RL') : RTab (W.setCell ⟨c, 0, none⟩ lv') c lv' oa oc RL' OV OL ∧ But (RS c oa) w (W.setCell ⟨c, 0, none⟩ lv') := by
  have hW := h.past hm.bel
  have hS : But (fun k => k = c) W (W.setCell ⟨c, 0, none⟩ lv') := (But.refl (fun k => k = c) W).setCell ⟨c, 0, none⟩ lv' (Or.inl rfl)
  have nc : ∀ v l, PrL W v l → ∀ j, v.ownBlock = some j → ¬ j = c := fun v l hv j hj e => hW.apart hv j hj (Or.inl e)
  refine ⟨⟨hW.box.set 0 _, row_new hW.row hS (fun j hj e => row_box hW.row hW.box (by decide) hj e), hm.pr.but hS (nc _ _ hm.pr), hW.len, fun i v l h1 h2 => (hW.old i v l h1 h2).but hS (nc _ _ (hW.old i v l h1 h2))⟩, ?_⟩
  exact (below_but hm.bel).trans (hS.mono (fun k e => Or.inl e))
def setAt (RL : List (Int × Int)) (k v : Int) (j : Nat) : List (Int × Int) := RL.take (plc RL k) ++ [(k, v)] ++ RL.drop j
def setRL (RL : List (Int × Int)) (k v : Int) : List (Int × Int) := setAt RL k v (if plc RL k < RL.length ∧ (atL RL (plc RL k)).1 = k then plc RL k + 1 else plc RL k)
def delRL (RL : List (Int × Int)) (k : Int) : List (Int × Int) := RL.take (plc RL k) ++ RL.drop (plc RL k + 1)
set_option maxHeartbeats 2000000 in
set_option maxRecDepth 100000 in
theorem setR_way (w : World) (c : Nat) (lv : Value) (oa : Option Addr) (oc : Nat) (RL : List (Int × Int)) (OV : List Value) (OL : List (List (Int × Int))) (h : RTab w c lv oa oc RL OV OL) (k v : Int) (hl : RL.length < 549755813888) (j : Nat) (hj : j ≤ RL.length) (hw : (j = plc RL k ∧ (RL.length = plc RL k ∨ (plc RL k < RL.length ∧ (atL RL (plc RL k)).1 ≠ k))) ∨ (j = plc RL k + 1 ∧ plc RL k < RL.length ∧ (atL RL (plc RL k)).1 = k)) :
    Calls Try.prog 22 #[.pointer (some ⟨c, 0, none⟩), .int .i64 k, .int .i64 v] w fun e w' => e = .returned (.tuple #[]) ∧ ∃ lv', RTab w' c lv' oa oc (setAt RL k v j) OV OL ∧ But (RS c oa) w w' := by
  obtain ⟨la, lc, rfl⟩ := h.cur.form
  have H0 : Hid (RTab w c (.slice la RL.length lc) oa oc RL OV OL) := h
  have PL : Hid (Calls Try.prog 62 #[.slice la RL.length lc, .int .i64 k] w fun e w' => e = .returned (.int .i64 (plc RL k : Int)) ∧ w' = w) := place_is w la lc RL k h.cur hl
  have hple := plc_le RL k
  obtain ⟨tk, tc⟩ := h.cur.take (plc RL k) hple
  have PT : Hid (Part w (.slice la (plc RL k) lc) (RL.take (plc RL k)) ∧ (RL.take (plc RL k)).length = plc RL k) := ⟨tk.part, List.length_take_of_le hple⟩
  obtain ⟨sv, hsd, ⟨sa, sn, sc, rfl⟩, pd⟩ := h.cur.drop j hj
  have PD : Hid (Part w (.slice sa sn sc) (RL.drop j)) := pd
  have SH : Hid (∀ W, (Instr.slice 56 (.slice la RL.length lc) none (some (.int .i64 (plc RL k : Int))) none).run Try.prog W = .ok (.slice la (plc RL k) lc) W) := fun W => slice_head und_pairs elem_pairs size_pair la RL.length lc (plc RL k) tc
  have SD : Hid (∀ W, (Instr.slice 56 (.slice la RL.length lc) (some (.int .i64 (j : Int))) none none).run Try.prog W = .ok (.slice sa sn sc) W) := hsd
  have CC : Hid (∀ W, Below w.heap.size w W → W.cell? ⟨c, 0, none⟩ = some (.slice la RL.length lc) ∧ W.frozen? ⟨c, 0, none⟩ = false) := fun W hW => ⟨(h.past hW).box.cell 0, (h.past hW).box.frozen 0⟩
  have LN : Hid (RL.length < 549755813888 ∧ j ≤ RL.length ∧ plc RL k ≤ RL.length) := ⟨hl, hj, hple⟩
  obtain ⟨c0, _⟩ := CC.out w (Below.refl _ _)
  have KX : Hid (plc RL k < RL.length → ∃ g, la = some ⟨g, 0, none⟩ ∧ ∀ W, Below w.heap.size w W → W.cell? ⟨g, plc RL k * 2, none⟩ = some (.int .i64 (atL RL (plc RL k)).1)) := fun h1 => by
    obtain ⟨g, e, d0, _⟩ := h.cur.at (atL_get h1)
    exact ⟨g, e, fun W hW => (hW.cell (p := ⟨g, plc RL k * 2, none⟩) (World.block_lt_of_cell? w _ d0)).trans d0⟩
  have HW : Hid ((j = plc RL k ∧ (RL.length = plc RL k ∨ (plc RL k < RL.length ∧ (atL RL (plc RL k)).1 ≠ k))) ∨ (j = plc RL k + 1 ∧ plc RL k < RL.length ∧ (atL RL (plc RL k)).1 = k)) := hw
  obtain ⟨RN, eRN⟩ : ∃ RN, setAt RL k v j = RN := ⟨_, rfl⟩
  rw [eRN]
  unfold setAt at eRN
  clear h tk tc pd hsd hl hj hple hw
  generalize (atL RL (plc RL k)).1 = x at *
  generalize plc RL k = i at *
  obtain ⟨n, en⟩ : ∃ n, RL.length = n := ⟨_, rfl⟩
  have EN : Hid (RL.length = n) := en
  have ER : Hid (RL.take i ++ [(k, v)] ++ RL.drop j = RN) := eRN
  clear eRN
  rw [en] at PL SH SD CC LN KX HW c0
  have iX : (i : Int) < 549755813888 := by have := LN.out; omega
  have nX : (n : Int) < 549755813888 := by have := LN.out; omega
  have jX : (j : Int) < 549755813889 := by have := LN.out; omega
  have sh0 := SH.out w
  clear en
  go_enter Try.func22, Try.ntmps22
  go_upto_region 2 with (go_at_call 62; refine (PL.out).mono ?_; rintro e w' ⟨rfl, hw⟩; (have hw2 := hw.symm); clear hw; subst hw2)
  go_upto_region 3 with (at_builtin; refine wpList_mk (w0 := w) rfl _ _ rfl (.slice none 0 0) [] rfl (Mk.nil (Below.refl _ _)) (.slice la i lc) (RL.take i) rfl PT.out.1 i (by rw [PT.out.2]; simp) (by omega) ?_; intro a1 q1 W1 m1)
  have M1 : Hid (Mk w W1 (.slice a1 i q1) (RL.take i)) := m1
  clear m1 c0 sh0
  go_upto_region 4 with (at_builtin; refine wpList_mk (w0 := w) rfl _ _ rfl (.slice a1 i q1) (RL.take i) rfl (M1.out.alloc _) (.slice (some ⟨W1.heap.size, 0, none⟩) 1 1) [(k, v)] rfl (one_part W1 k v) (i + 1) (by rw [PT.out.2]; rfl) (by omega) ?_; intro a2 q2 W2 m2)
  have M2 : Hid (Mk w W2 (.slice a2 (i + 1) q2) (RL.take i ++ [(k, v)])) := m2
  clear m2 M1
  obtain ⟨c0, f0⟩ := CC.out W2 M2.out.bel
  have sd := SD.out W2
  have LJ : Hid ((RL.take i ++ [(k, v)]).length + (RL.drop j).length = i + 1 + (n - j)) := by show _ = _; rw [List.length_append, PT.out.2, List.length_drop, EN.out]; rfl
  have FIN : Hid (∀ a3 q3 W3, Mk w W3 (.slice a3 (i + 1 + (n - j)) q3) (RL.take i ++ [(k, v)] ++ RL.drop j) → (∃ lv', RTab (W3.setCell ⟨c, 0, none⟩ (.slice a3 (i + 1 + (n - j)) q3)) c lv' oa oc RN OV OL) ∧ But (RS c oa) w (W3.setCell ⟨c, 0, none⟩ (.slice a3 (i + 1 + (n - j)) q3))) := fun a3 q3 W3 m3 => by have := H0.out.setCur m3; rw [ER.out] at this; exact ⟨⟨_, this.1⟩, this.2⟩
  rcases HW.out with ⟨rfl, h1 | ⟨h1, h2⟩⟩ | ⟨hj, h1, h2⟩
  · have iN : ¬ (j : Int) < (n : Int) := by omega
    clear h1 HW
    go_wp2_with (at_builtin; refine wpList_mk (w0 := w) rfl _ _ rfl (.slice a2 (j + 1) q2) (RL.take j ++ [(k, v)]) rfl M2.out (.slice sa sn sc) (RL.drop j) rfl (PD.out.below M2.out.bel) (j + 1 + (n - j)) LJ.out (by have := LN.out; omega) ?_; intro a3 q3 W3 m3; (have c3 := (CC.out W3 m3.bel).1); (have f3 := (CC.out W3 m3.bel).2))
    go_end0
    obtain ⟨⟨lv', f1⟩, f2⟩ := FIN.out a3 q3 W3 m3
    first | exact ⟨rfl, ⟨lv', f1⟩, f2⟩ | exact ⟨rfl, lv', f1, f2⟩
  · obtain ⟨g, rfl, hg⟩ := KX.out h1
    have iN : (j : Int) < (n : Int) := by omega
    have d0 := hg W2 M2.out.bel
    have xk : (x == k) = false := by simpa using h2
    clear h1 h2 hg HW KX
    go_wp2_with (at_builtin; refine wpList_mk (w0 := w) rfl _ _ rfl (.slice a2 (j + 1) q2) (RL.take j ++ [(k, v)]) rfl M2.out (.slice sa sn sc) (RL.drop j) rfl (PD.out.below M2.out.bel) (j + 1 + (n - j)) LJ.out (by have := LN.out; omega) ?_; intro a3 q3 W3 m3; (have c3 := (CC.out W3 m3.bel).1); (have f3 := (CC.out W3 m3.bel).2))
    go_end0
    obtain ⟨⟨lv', f1⟩, f2⟩ := FIN.out a3 q3 W3 m3
    first | exact ⟨rfl, ⟨lv', f1⟩, f2⟩ | exact ⟨rfl, lv', f1, f2⟩
  · obtain ⟨g, rfl, hg⟩ := KX.out h1
    have iN : (i : Int) < (n : Int) := by omega
    have d0 := hg W2 M2.out.bel
    subst h2
    have iw : (i : Int) + 1 = (j : Int) := by omega
    have jw : IntKind.i64.wrap (j : Int) = (j : Int) := by rw [IntKind.wrap_i64]; omega
    clear h1 hg HW KX hj
    go_wp2_with (at_builtin; refine wpList_mk (w0 := w) rfl _ _ rfl (.slice a2 (i + 1) q2) (RL.take i ++ [(x, v)]) rfl M2.out (.slice sa sn sc) (RL.drop j) rfl (PD.out.below M2.out.bel) (i + 1 + (n - j)) LJ.out (by have := LN.out; omega) ?_; intro a3 q3 W3 m3; (have c3 := (CC.out W3 m3.bel).1); (have f3 := (CC.out W3 m3.bel).2))
    go_end0
    obtain ⟨⟨lv', f1⟩, f2⟩ := FIN.out a3 q3 W3 m3
    first | exact ⟨rfl, ⟨lv', f1⟩, f2⟩ | exact ⟨rfl, lv', f1, f2⟩
theorem setR_is (w : World) (c : Nat) (lv : Value) (oa : Option Addr) (oc : Nat) (RL : List (Int × Int)) (OV : List Value) (OL : List (List (Int × Int))) (h : RTab w c lv oa oc RL OV OL) (k v : Int) (hl : RL.length < 549755813888) : Calls Try.prog 22 #[.pointer (some ⟨c, 0, none⟩), .int .i64 k, .int .i64 v] w fun e w' => e = .returned (.tuple #[]) ∧ ∃ lv', RTab w' c lv' oa oc (setRL RL k v) OV OL ∧ But (RS c oa) w w' := by
  have hp := plc_le RL k
  unfold setRL
  by_cases h1 : plc RL k < RL.length ∧ (atL RL (plc RL k)).1 = k
  · rw [if_pos h1]
    exact setR_way w c lv oa oc RL OV OL h k v hl _ (by omega) (Or.inr ⟨rfl, h1⟩)
  · rw [if_neg h1]
    refine setR_way w c lv oa oc RL OV OL h k v hl _ hp (Or.inl ⟨rfl, ?_⟩)
    by_cases h2 : plc RL k < RL.length
    · exact Or.inr ⟨h2, fun e => h1 ⟨h2, e⟩⟩
    · exact Or.inl (by omega)
end Go.Proofs.Ytohfkgfjcnldaaa
