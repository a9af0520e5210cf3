/- The document's table: New, Get, Marks, Copied, Pairs. -/
import Derived.Test.YtohfkgfjcnldaaaTw
namespace Go.Proofs.Ytohfkgfjcnldaaa
open Go.RowKit Go.Shelf
/-- block c is the document's table: its pairs, and how they were at its marks -/
structure RTab (W : World) (c : Nat) (lv : Value) (oa : Option Addr) (oc : Nat) (RL : List (Int × Int)) (OV : List Value) (OL : List (List (Int × Int))) : Prop where
  box : CBox W c 86 [lv, .slice oa OV.length oc]
  row : W.ownsRow 0 56 1 (.slice oa OV.length oc) OV.length OV
  cur : PrL W lv RL
  len : OV.length = OL.length
  old : ∀ (i : Nat) v l, OV[i]? = some v → OL[i]? = some l → PrL W v l
def RS (c : Nat) (oa : Option Addr) (k : Nat) : Prop := k = c ∨ Own oa k
theorem PrL.but {S : Nat → Prop} {W W' : World} {v : Value} {l : List (Int × Int)} (h : PrL W v l) (k : But S W W') (hs : ∀ j, v.ownBlock = some j → ¬ S j) : PrL W' v l :=
  owns_row_block h fun j hj => k.block j (h.lt j hj).2 (hs j hj)
theorem PrL.past {W W' : World} {v : Value} {l : List (Int × Int)} (h : PrL W v l) (k : Below W.heap.size W W') : PrL W' v l := h.but (below_but (S := fun _ => False) k) (fun _ _ => id)
/-- a list of pairs lies in no block of a table of the document's -/
theorem RTab.apart {W : World} {c : Nat} {lv : Value} {oa : Option Addr} {oc : Nat} {RL : List (Int × Int)} {OV : List Value} {OL : List (List (Int × Int))} (h : RTab W c lv oa oc RL OV OL) {v : Value} {l : List (Int × Int)} (hv : PrL W v l) (j : Nat) (hj : v.ownBlock = some j) : ¬ RS c oa j := by
  obtain ⟨ad, cap, rfl⟩ := hv.form
  have ho : Own ad j := by
    cases ad with
    | none => cases hj
    | some a => injection hj with hj; exact ⟨a, rfl, hj.symm⟩
  rintro (e | e)
  · exact row_box hv h.box (by decide) ho e
  · exact rows_apart hv h.row (by decide) ho e
theorem RTab.but {S : Nat → Prop} {W W' : World} {c : Nat} {lv : Value} {oa : Option Addr} {oc : Nat} {RL : List (Int × Int)} {OV : List Value} {OL : List (List (Int × Int))} (h : RTab W c lv oa oc RL OV OL) (k : But S W W') (hs : ∀ j, RS c oa j → ¬ S j) (hl : ∀ v l, PrL W v l → ∀ j, v.ownBlock = some j → ¬ S j) : RTab W' c lv oa oc RL OV OL :=
  ⟨h.box.but k (hs _ (Or.inl rfl)), row_new h.row k (fun _ hj => hs _ (Or.inr hj)), h.cur.but k (hl _ _ h.cur), h.len, fun i v l h1 h2 => (h.old i v l h1 h2).but k (hl _ _ (h.old i v l h1 h2))⟩
theorem RTab.past {W W' : World} {c : Nat} {lv : Value} {oa : Option Addr} {oc : Nat} {RL : List (Int × Int)} {OV : List Value} {OL : List (List (Int × Int))} (h : RTab W c lv oa oc RL OV OL) (k : Below W.heap.size W W') : RTab W' c lv oa oc RL OV OL := h.but (below_but (S := fun _ => False) k) (fun _ _ => id) (fun _ _ _ _ _ => id)
theorem RTab.drew {W : World} {c : Nat} {lv : Value} {oa : Option Addr} {oc : Nat} {RL : List (Int × Int)} {OV : List Value} {OL : List (List (Int × Int))} (h : RTab W c lv oa oc RL OV OL) : RTab W.drew c lv oa oc RL OV OL := h.but (S := fun _ => False) ((But.refl _ _).drew) (fun _ _ => id) (fun _ _ _ _ _ => id)
theorem RTab.lt {W : World} {c : Nat} {lv : Value} {oa : Option Addr} {oc : Nat} {RL : List (Int × Int)} {OV : List Value} {OL : List (List (Int × Int))} (h : RTab W c lv oa oc RL OV OL) (j : Nat) (hj : RS c oa j) : j < W.heap.size := by
  rcases hj with rfl | hj
  · exact h.box.lt
  · exact row_own_lt h.row hj
theorem newR_is (w : World) : Calls Try.prog 19 #[] w fun e w' => e = .returned (.pointer (some ⟨w.heap.size, 0, none⟩)) ∧ RTab w' w.heap.size (.slice none 0 0) none 0 [] [] [] ∧ Below w.heap.size w w' := by
  go_enter Try.func19, Try.ntmps19
  go_wp2
  go_ret
  exact ⟨rfl, ⟨CBox.new w _ _, World.ownsRow_nil _ _ _ _, World.ownsRow_nil _ _ _ _, rfl, fun i v l h1 => by simp at h1⟩, (Below.refl _ w).alloc (Nat.le_refl _) _⟩
theorem marksR_is (w : World) (c : Nat) (lv : Value) (oa : Option Addr) (oc : Nat) (RL : List (Int × Int)) (OV : List Value) (OL : List (List (Int × Int))) (h : RTab w c lv oa oc RL OV OL) : Calls Try.prog 83 #[.pointer (some ⟨c, 0, none⟩)] w fun e w' => e = .returned (.int .i64 (OL.length : Int)) ∧ w' = w := by
  have c1 : w.cell? ⟨c, 1, none⟩ = some (.slice oa OV.length oc) := h.box.cell 1
  rw [h.len] at c1
  clear h
  generalize OL.length = n at *
  go_enter Try.func83, Try.ntmps83
  go_wp2
  go_ret
  exact ⟨rfl, rfl⟩
theorem info_pair : (Try.prog.info? 62).map (fun i => (i.zero, i.size, i.bytes)) = some (some (.agg #[.int .i64 0, .int .i64 0]), 2, 16) := by kernel_rfl
theorem und_pairs : Try.prog.underlying 56 = some (.slice 62) := by kernel_rfl
theorem elem_pairs : Try.prog.elem 56 = 62 := by kernel_rfl
theorem size_pair (W : World) : (sizeOf 62).run Try.prog W = .ok 2 W := by kernel_rfl
theorem rowsD_app (l l' : List (Int × Int)) : rowsD (l ++ l') = rowsD l ++ rowsD l' := by simp [rowsD]
theorem rowsD_one (l : List (Int × Int)) : ∀ u ∈ rowsD l, u.oneCell' = true := by
  intro u hu
  unfold rowsD at hu
  rw [List.mem_flatMap] at hu
  obtain ⟨p, _, hp⟩ := hu
  simp at hp
  rcases hp with rfl | rfl <;> rfl
/-- a slice that reads as these pairs, wherever it begins -/
structure Part (W : World) (sv : Value) (l : List (Int × Int)) : Prop where
  ex : ∃ sa sc, sv = .slice sa l.length sc ∧ (sa = none → sc = 0) ∧ (0 < l.length → ∃ g o, sa = some ⟨g, o, none⟩ ∧ ∀ j u, (rowsD l)[j]? = some u → W.cell? ⟨g, o + j, none⟩ = some u)
theorem PrL.part {W : World} {v : Value} {l : List (Int × Int)} (h : PrL W v l) : Part W v l := by
  rcases h.2 with ⟨rfl, e⟩ | ⟨g, cap, cur, rfl, _⟩
  · exact ⟨none, 0, by rw [e], fun _ => rfl, fun h0 => by omega⟩
  · refine ⟨some ⟨g, 0, none⟩, cap, rfl, fun e => (by cases e), fun h0 => ⟨g, 0, rfl, fun j u hj => ?_⟩⟩
    obtain ⟨g', e1, c1, _⟩ := row_cell h hj
    injection e1 with e1
    injection e1 with e1
    subst e1
    rw [Nat.zero_add]
    exact c1
theorem wpList_cat {w : World} {ops : Array Oper} {rest : List Oper} {o : Oper} {a : Act} {Q : Exit → Act → World → Prop} (hgd : o.guard = none) (s x : Operand)
    (ho : o.op = .call { callee := .builtin .append, args := #[s, x], argTypes := #[56, 56] }) (dv : Value) (l : List (Int × Int)) (hs : a.eval s = dv) (hown : PrL w dv l)
    (sv : Value) (l2 : List (Int × Int)) (hx : a.eval x = sv) (hp : Part w sv l2) (hn : l.length + l2.length < 2199023255552)
    (h : ∀ dv' w', PrL w' dv' (l ++ l2) → But (fun k => dv.ownBlock = some k) w w' → (∀ k, dv'.ownBlock = some k → dv.ownBlock = some k ∨ w.heap.size ≤ k) → wpList Try.prog ops Q rest (a.put o.dst dv') w') : wpList Try.prog ops Q (o :: rest) a w := by
  obtain ⟨i, hi0, hz0, hz1, hz2⟩ := info_parts info_pair
  obtain ⟨sa, sc, rfl, hsn, hsc⟩ := hp.ex
  have done : ∀ v' w', w'.ownsRow 0 62 2 v' (l.length + l2.length) (rowsD l ++ rowsD l2) → Grew w w' dv v' (l.length + l2.length) → wpList Try.prog ops Q rest (a.put o.dst v') w' := fun v' w' h2 h4 => by
    refine h v' w' (by unfold PrL; rw [List.length_append, rowsD_app]; exact h2) ?_ ?_
    · rcases h4 with ⟨h1, _⟩ | ⟨h1, _⟩
      · exact grown_but h1 (fun j e => e)
      · exact grown_but h1 (fun j e => by cases e)
    · intro k hk
      rcases h4 with ⟨_, h1, _⟩ | ⟨_, c, h1⟩
      · rw [h1] at hk; exact Or.inl hk
      · rw [h1] at hk
        injection hk with hk
        subst hk
        exact Or.inr (Nat.le_refl _)
  cases sa with
  | none =>
    have e0 : l2.length = 0 := by
      by_cases e : l2.length = 0
      · exact e
      · obtain ⟨g, o', e1, _⟩ := hsc (by omega)
        cases e1
    obtain rfl := List.eq_nil_of_length_eq_zero e0
    obtain rfl := hsn rfl
    refine wpList_append_own_none hgd s x 56 ho 0 62 i 2 und_pairs hi0 dv l.length (rowsD l) hs hown hx ?_
    exact h dv w (by rw [List.append_nil]; exact hown) (But.refl _ _) (fun k hk => Or.inl hk)
  | some ad =>
    refine wpList_append_strong hgd s x 56 ho 0 62 i (.agg #[.int .i64 0, .int .i64 0]) 2 16 und_pairs hi0 hz0 hz1 hz2 rfl (by decide) dv l.length (rowsD l) hs hown ad l2.length sc (rowsD l2) hx (rowsD_len l2) ?_ (rowsD_one l2) (by unfold maxLen; omega) (by omega) (Nat.zero_le _) (fun v' w' h2 _ h4 => done v' w' h2 h4)
    intro j u hj
    by_cases e : l2.length = 0
    · obtain rfl := List.eq_nil_of_length_eq_zero e
      rw [rowsD_nil, List.getElem?_nil] at hj
      exact absurd hj (by simp)
    · obtain ⟨g, o', e1, hc⟩ := hsc (Nat.pos_of_ne_zero e)
      have e1' : ad = ⟨g, o', none⟩ := Option.some.inj e1
      rw [e1']
      have e2 : (⟨g, o', none⟩ : Addr).add j = ⟨g, o' + j, none⟩ := by
        unfold Addr.add
        by_cases e : j = 0
        · subst e; rfl
        · simp [e]
      rw [e2]
      exact hc j u hj
set_option maxHeartbeats 2000000 in
set_option maxRecDepth 100000 in
theorem copied_is (w : World) (v : Value) (l : List (Int × Int)) (h : PrL w v l) (hl : l.length < 549755813888) : Calls Try.prog 64 #[v] w fun e w' => ∃ v', e = .returned v' ∧ PrL w' v' l ∧ Below w.heap.size w w' ∧ ∀ k, v'.ownBlock = some k → w.heap.size ≤ k := by
  obtain ⟨ad, cap, rfl⟩ := h.form
  have HP : Hid (Part w (.slice ad l.length cap) l ∧ l.length < 549755813888) := ⟨h.part, hl⟩
  clear h hl
  go_enter Try.func64, Try.ntmps64
  go_wp2_with (at_builtin; refine wpList_cat rfl _ _ rfl (.slice none 0 0) [] rfl (World.ownsRow_nil _ _ _ _) (.slice ad l.length cap) l rfl HP.out.1 (by have := HP.out.2; simp; omega) ?_; intro v' w' h1 h2 h3; obtain ⟨da, dc, rfl⟩ := h1.form)
  go_ret
  refine ⟨_, rfl, h1, ?_, fun k hk => ?_⟩
  · exact h2.below (fun k hk => by cases hk) (Nat.le_refl _)
  · rcases h3 k hk with e | e
    · cases e
    · exact e
end Go.Proofs.Ytohfkgfjcnldaaa
