/- The document's table: Mark. -/
import Derived.Test.YtohfkgfjcnldaaaTzb
namespace Go.Proofs.Ytohfkgfjcnldaaa
open Go.RowKit Go.Shelf
theorem wp_app64 {w : World} {o : Oper} {a : Act} {K : Act → World → Prop} {Q : Exit → Act → World → Prop} (s x : Operand) (t e : TypeId)
    (ho : o.op = .call { callee := .builtin .append, args := #[s, x], argTypes := #[t, t] }) (z : Value) (size bytes : Nat) (ht : Try.prog.underlying t = some (.slice e)) (hi : (Try.prog.info? e).map (fun i => (i.zero, i.size, i.bytes)) = some (some z, size, bytes))
    (hzs : z.cells.size = size) (hsz : 0 < size) (hby : bytes ≤ 64) (ad : Option Addr) (n cap : Nat) (xs : List Value) (hs : a.eval s = .slice ad n cap) (hown : w.ownsRow 0 e size (.slice ad n cap) n xs)
    (g c : Nat) (news : List Value) (hx : a.eval x = .slice (some ⟨g, 0, none⟩) 1 c) (hg : CBox w g e news) (hl : news.length = size) (h1 : ∀ u ∈ news, u.oneCell' = true) (hn : n < 2199023255552)
    (h : ∀ ad' cap' w', w'.ownsRow 0 e size (.slice ad' (n + 1) cap') (n + 1) (xs ++ news) → But (Own ad) w w' → Fresh w ad ad' → K (a.put o.dst (.slice ad' (n + 1) cap')) w') : o.wp Try.prog a w K Q := by
  obtain ⟨i, hi0, hz0, hz1, hz2⟩ := info_parts hi
  refine wp_append_strong s x t ho 0 e i z size bytes ht hi0 hz0 hz1 hz2 hzs hsz (.slice ad n cap) n xs hs hown ⟨g, 0, none⟩ 1 c news hx (by omega) ?_ h1 (by unfold maxLen; omega) ?_ (Nat.zero_le _) ?_
  · intro j u hj
    have e2 : (⟨g, 0, none⟩ : Addr).add j = ⟨g, j, none⟩ := by
      unfold Addr.add
      by_cases e : j = 0
      · subst e; rfl
      · simp [e]
    rw [e2, hg.cell]
    exact hj
  · have : (n + 1) * bytes ≤ 2199023255552 * 64 := Nat.mul_le_mul (by omega) hby
    omega
  · intro v' w' h2 _ h4
    obtain ⟨ad', cap', rfl, h5, h6⟩ := grew_one h4
    exact h ad' cap' w' h2 h5 h6
theorem info_list : (Try.prog.info? 56).map (fun i => (i.zero, i.size, i.bytes)) = some (some (.slice none 0 0), 1, 24) := by kernel_rfl
theorem RTab.addOld {w w1 : World} {oa' : Option Addr} {oc' : Nat} {v : Value} {c : Nat} {lv : Value} {oa : Option Addr} {oc : Nat} {RL : List (Int × Int)} {OV : List Value} {OL : List (List (Int × Int))} (h : RTab w c lv oa oc RL OV OL) (hB : But (Own oa) w w1) (hR : w1.ownsRow 0 56 1 (.slice oa' (OV.length + 1) oc') (OV.length + 1) (OV ++ [v])) (hv : PrL w1 v RL) (hN : Fresh w oa oa') :
    RTab (w1.setCell ⟨c, 1, none⟩ (.slice oa' (OV.length + 1) oc')) c lv oa' oc' RL (OV ++ [v]) (OL ++ [RL]) ∧ But (RS c oa) w (w1.setCell ⟨c, 1, none⟩ (.slice oa' (OV.length + 1) oc')) ∧ Grown (RS c oa) (RS c oa') w := by
  have hb : CBox w1 c 86 [lv, .slice oa OV.length oc] := h.box.but hB (fun e => row_box h.row h.box (by decide) e rfl)
  have hS : But (fun k => k = c) w1 (w1.setCell ⟨c, 1, none⟩ (.slice oa' (OV.length + 1) oc')) := (But.refl (fun k => k = c) w1).setCell ⟨c, 1, none⟩ (.slice oa' (OV.length + 1) oc') (Or.inl rfl)
  have n1 : ∀ v l, PrL w v l → ∀ j, v.ownBlock = some j → ¬ Own oa j := fun v l hv j hj e => h.apart hv j hj (Or.inr e)
  have nc : ∀ v l, PrL w1 v l → ∀ j, v.ownBlock = some j → ¬ j = c := fun v l hv j hj e => by
    obtain ⟨ad, cap, rfl⟩ := hv.form
    have ho : Own ad j := by
      cases ad with
      | none => cases hj
      | some a => injection hj with hj; exact ⟨a, rfl, hj.symm⟩
    exact row_box hv hb (by decide) ho e
  have k1 : ∀ v l, PrL w v l → PrL (w1.setCell ⟨c, 1, none⟩ (.slice oa' (OV.length + 1) oc')) v l := fun v l hv => by
    have := hv.but hB (n1 _ _ hv)
    exact this.but hS (nc _ _ this)
  have el : (OV ++ [v]).length = OV.length + 1 := by simp
  refine ⟨⟨?_, ?_, k1 _ _ h.cur, by simp [h.len], fun i v' l h1 h2 => ?_⟩, ?_, ?_⟩
  · rw [el]; exact hb.set 1 _
  · rw [el]; exact row_new hR hS (fun j hj e => row_box hR hb (by decide) hj e)
  · by_cases hi : i < OV.length
    · rw [List.getElem?_append_left hi] at h1
      rw [List.getElem?_append_left (by rw [← h.len]; exact hi)] at h2
      exact k1 _ _ (h.old i v' l h1 h2)
    · have hi2 : i < (OV ++ [v]).length := (List.getElem?_eq_some_iff.1 h1).1
      rw [el] at hi2
      obtain rfl : i = OV.length := by omega
      rw [List.getElem?_concat_length] at h1
      rw [h.len, List.getElem?_concat_length] at h2
      injection h1 with h1
      injection h2 with h2
      subst h1 h2
      exact hv.but hS (nc _ _ hv)
  · exact (hB.mono (fun k e => Or.inr e)).trans (hS.mono (fun k e => Or.inl e))
  · rintro k (rfl | hk)
    · exact Or.inl (Or.inl rfl)
    · rcases hN.own hk with e | e
      · exact Or.inl (Or.inr e)
      · exact Or.inr e
set_option maxHeartbeats 2000000 in
set_option maxRecDepth 100000 in
theorem markR_is (w : World) (c : Nat) (lv : Value) (oa : Option Addr) (oc : Nat) (RL : List (Int × Int)) (OV : List Value) (OL : List (List (Int × Int))) (h : RTab w c lv oa oc RL OV OL) (hl : RL.length < 549755813888) (hO : OL.length < 549755813888) : Calls Try.prog 26 #[.pointer (some ⟨c, 0, none⟩)] w fun e w' => e = .returned (.int .i64 (OL.length : Int)) ∧ ∃ oa' oc' v, RTab w' c lv oa' oc' RL (OV ++ [v]) (OL ++ [RL]) ∧ But (RS c oa) w w' ∧ Grown (RS c oa) (RS c oa') w := by
  obtain ⟨la, lc, rfl⟩ := h.cur.form
  have H0 : Hid (RTab w c (.slice la RL.length lc) oa oc RL OV OL) := h
  have CP : Hid (∀ W, RTab W c (.slice la RL.length lc) oa oc RL OV OL → Calls Try.prog 64 #[.slice la RL.length lc] W fun e w' => ∃ v', e = .returned v' ∧ PrL w' v' RL ∧ Below W.heap.size W w' ∧ ∀ k, v'.ownBlock = some k → W.heap.size ≤ k) := fun W hW => copied_is W _ RL hW.cur hl
  obtain ⟨mn, em⟩ : ∃ mn, OV.length = mn := ⟨_, rfl⟩
  have EM : Hid (OV.length = mn ∧ OL.length = mn) := ⟨em, by rw [← h.len]; exact em⟩
  have mX : (mn : Int) < 549755813888 := by rw [h.len] at em; omega
  have HZ : Hid (RTab w.drew c (.slice la RL.length lc) oa oc RL OV OL) := h.drew
  have HY : Hid (But (fun _ => False) w w.drew) := (But.refl _ _).drew
  have C0 : Hid (w.drew.cell? ⟨c, 1, none⟩ = some (.slice oa mn oc)) := by rw [← em]; exact h.box.cell 1
  have hh : w.drew.cell? ⟨c, 0, none⟩ = some (.slice la RL.length lc) := h.box.cell 0
  rw [EM.out.2]
  clear h hl hO em
  go_enter Try.func26, Try.ntmps26
  go_upto_region 1 with fail
  refine wp_region_held_drew (S := fun V' => V'.cell? ⟨c, 0, none⟩ = some (.slice la RL.length lc)) (by kernel_rfl) hh (fun hHeld => ?_)
  generalize w.drew = z0 at hHeld HZ HY C0 ⊢
  clear hh
  refine wpAnyH_take (i := 0) (v := .pointer (some ⟨c, 0, none⟩)) ov0 (by kernel_rfl) (by kernel_rfl) (by kernel_rfl) (fun _ _ _ h => h) (Or.inl ⟨by rfl, fun V' hS => ?_⟩) hHeld ?_
  · go_simp
  simp only [Act.put, List.setIfInBounds_toArray, List.set_cons_zero, List.set_cons_succ]
  refine wpAnyH_take (i := 1) (v := .pointer (some ⟨c, 0, none⟩)) ov1 (by kernel_rfl) (by kernel_rfl) (by kernel_rfl) (fun _ _ _ h => h) (Or.inl ⟨by rfl, fun V' hS => ?_⟩) hHeld ?_
  · go_simp
  simp only [Act.put, List.setIfInBounds_toArray, List.set_cons_zero, List.set_cons_succ]
  refine wpAnyH_take (i := 2) (v := .pointer (some ⟨c, 0, none⟩)) ov2 (by kernel_rfl) (by kernel_rfl) (by kernel_rfl) (fun _ _ _ h => h) (Or.inl ⟨by rfl, fun V' hS => ?_⟩) hHeld ?_
  · go_simp
  simp only [Act.put, List.setIfInBounds_toArray, List.set_cons_zero, List.set_cons_succ]
  refine wpAnyH_take (i := 3) (v := .pointer (some ⟨c, 1, none⟩)) ov3 (by kernel_rfl) (by kernel_rfl) (by kernel_rfl) (fun _ _ _ h => h) (Or.inl ⟨by rfl, fun V' hS => ?_⟩) hHeld ?_
  · go_simp
  simp only [Act.put, List.setIfInBounds_toArray, List.set_cons_zero, List.set_cons_succ]
  refine wpAnyH_take (i := 5) (v := .pointer (some ⟨c, 0, none⟩)) ov5 (by kernel_rfl) (by kernel_rfl) (by kernel_rfl) (fun _ _ _ h => h) (Or.inl ⟨by rfl, fun V' hS => ?_⟩) hHeld ?_
  · go_simp
  simp only [Act.put, List.setIfInBounds_toArray, List.set_cons_zero, List.set_cons_succ]
  refine wpAnyH_take (i := 6) (v := .pointer (some ⟨c, 0, none⟩)) ov6 (by kernel_rfl) (by kernel_rfl) (by kernel_rfl) (fun _ _ _ h => h) (Or.inl ⟨by rfl, fun V' hS => ?_⟩) hHeld ?_
  · go_simp
  simp only [Act.put, List.setIfInBounds_toArray, List.set_cons_zero, List.set_cons_succ]
  refine wpAnyH_take (i := 7) (v := .pointer (some ⟨c, 0, none⟩)) ov7 (by kernel_rfl) (by kernel_rfl) (by kernel_rfl) (fun _ _ _ h => h) (Or.inl ⟨by rfl, fun V' hS => ?_⟩) hHeld ?_
  · go_simp
  simp only [Act.put, List.setIfInBounds_toArray, List.set_cons_zero, List.set_cons_succ]
  refine wpAnyH_take (i := 8) (v := .slice la RL.length lc) ov8 (by kernel_rfl) (by kernel_rfl) (by kernel_rfl) (fun _ _ _ h => h) (Or.inl ⟨by rfl, fun V' hS => ?_⟩) hHeld ?_
  · go_simp
  simp only [Act.put, List.setIfInBounds_toArray, List.set_cons_zero, List.set_cons_succ]
  refine wpAnyH_ready (rs := [4, 9]) (by kernel_rfl) (by simp) ?_
  refine AllReadyH.cons ov4 (fun K hK => ?_) (AllReadyH.cons ov9 (fun K hK => ?_) AllReadyH.nil)
  · rw [if_pos (by rfl)]
    first | (have k0 := C2.out; go_simp; clear k0) | (have k0 := C1.out; go_simp; clear k0) | (have k0 := C0.out; go_simp; clear k0)
    refine hK.out _ _ hHeld (fun _ => ?_)
    clear hK K
    (try simp only [Act.put, List.setIfInBounds_toArray, List.set_cons_zero, List.set_cons_succ])
    refine wpAnyH_ready (rs := [9]) (by kernel_rfl) (by simp) ?_
    refine AllReadyH.cons ov9 (fun K hK => ?_) AllReadyH.nil
    rw [if_pos (by rfl)]
    go_simp
    refine (CP.out z0 HZ.out).mono ?_
    rintro e v2 ⟨v', rfl, h1, h2, h3⟩
    obtain ⟨da, dc, rfl⟩ := h1.form
    have HZ1 : Hid (RTab v2 c (.slice la RL.length lc) oa oc RL OV OL ∧ PrL v2 (.slice da RL.length dc) RL) := ⟨HZ.out.past h2, h1⟩
    have HY1 : Hid (But (fun _ => False) w v2) := HY.out.trans (below_but h2)
    have C1 : Hid (v2.cell? ⟨c, 1, none⟩ = some (.slice oa mn oc)) := by rw [← EM.out.1]; exact HZ1.out.1.box.cell 1
    have hH1 : v2.cell? ⟨c, 0, none⟩ = some (.slice la RL.length lc) := HZ1.out.1.box.cell 0
    clear h1 h2 h3
    (try go_wp2_with fail)
    refine hK.out _ _ hH1 (fun _ => ?_)
    clear hK K
    (try simp only [Act.put, List.setIfInBounds_toArray, List.set_cons_zero, List.set_cons_succ])
    refine wpAnyH_ready (rs := [10]) (by kernel_rfl) (by simp) ?_
    refine AllReadyH.cons ov10 (fun K hK => ?_) AllReadyH.nil
    rw [if_pos (by rfl)]
    go_simp
    have HZ2 : Hid (RTab (v2.alloc (.cells #[.slice da RL.length dc] 56)) c (.slice la RL.length lc) oa oc RL OV OL ∧ PrL (v2.alloc (.cells #[.slice da RL.length dc] 56)) (.slice da RL.length dc) RL) := ⟨HZ1.out.1.but (S := fun _ => False) ((But.refl _ _).alloc _) (fun _ _ => id) (fun _ _ _ _ _ => id), HZ1.out.2.but (S := fun _ => False) ((But.refl _ _).alloc _) (fun _ _ => id)⟩
    have C2 : Hid ((v2.alloc (.cells #[.slice da RL.length dc] 56)).cell? ⟨c, 1, none⟩ = some (.slice oa mn oc)) := by rw [← EM.out.1]; exact HZ2.out.1.box.cell 1
    have HC : Hid (CBox (v2.alloc (.cells #[.slice da RL.length dc] 56)) v2.heap.size 56 [.slice da RL.length dc]) := CBox.new v2 _ _
    have HY2 : Hid (But (fun _ => False) w (v2.alloc (.cells #[.slice da RL.length dc] 56))) := HY1.out.alloc _
    have hH2 : (v2.alloc (.cells #[.slice da RL.length dc] 56)).cell? ⟨c, 0, none⟩ = some (.slice la RL.length lc) := HZ2.out.1.box.cell 0
    refine hK.out _ _ hH2 (fun _ => ?_)
    clear hK K
    (try simp only [Act.put, List.setIfInBounds_toArray, List.set_cons_zero, List.set_cons_succ])
    refine wpAnyH_ready (rs := [11]) (by kernel_rfl) (by simp) ?_
    refine AllReadyH.cons ov11 (fun K hK => ?_) AllReadyH.nil
    rw [if_pos (by rfl)]
    refine wp_app64 _ _ 84 56 rfl (.slice none 0 0) 1 24 und_olds info_list rfl (by decide) (by decide) oa mn oc OV rfl (by have := HZ2.out.1.row; rw [EM.out.1] at this; exact this) v2.heap.size 1 [.slice da RL.length dc] rfl HC.out rfl (by simp [Value.oneCell']) (by omega) ?_
    intro oa' oc' w2 h1 h2 h3
    have HR : Hid (w2.ownsRow 0 56 1 (.slice oa' (mn + 1) oc') (mn + 1) (OV ++ [.slice da RL.length dc]) ∧ But (Own oa) w w2 ∧ Fresh w oa oa' ∧ PrL w2 (.slice da RL.length dc) RL) := ⟨h1, (HY2.out.mono (fun _ e => e.elim)).trans h2, h3.mono HY2.out.size, HZ2.out.2.but h2 (fun j hj e => HZ2.out.1.apart HZ2.out.2 j hj (Or.inr e))⟩
    have NB : ∀ j, Own oa j → j ≠ c := fun j e => row_box HZ2.out.1.row HZ2.out.1.box (by decide) e
    have hH3 : w2.cell? ⟨c, 0, none⟩ = some (.slice la RL.length lc) := (h2.cell (p := ⟨c, 0, none⟩) HZ2.out.1.box.lt (fun e => NB c e rfl)).trans hH2
    have C3 : Hid (w2.cell? ⟨c, 1, none⟩ = some (.slice oa mn oc) ∧ w2.frozen? ⟨c, 1, none⟩ = false) := ⟨(h2.cell (p := ⟨c, 1, none⟩) HZ2.out.1.box.lt (fun e => NB c e rfl)).trans C2.out, (h2.frozen (p := ⟨c, 1, none⟩) HZ2.out.1.box.lt (fun e => NB c e rfl)).trans (HZ2.out.1.box.frozen 1)⟩
    clear h1 h2 h3 HC C2 NB
    refine hK.out _ _ hH3 (fun _ => ?_)
    clear hK K
    (try simp only [Act.put, List.setIfInBounds_toArray, List.set_cons_zero, List.set_cons_succ])
    refine wpAnyH_take (i := 12) (v := .pointer (some ⟨c, 0, none⟩)) ov12 (by kernel_rfl) (by kernel_rfl) (by kernel_rfl) (fun _ _ _ h => h) (Or.inl ⟨by rfl, fun V' hS => ?_⟩) hH3 ?_
    · go_simp
    simp only [Act.put, List.setIfInBounds_toArray, List.set_cons_zero, List.set_cons_succ]
    refine wpAnyH_take (i := 13) (v := .pointer (some ⟨c, 1, none⟩)) ov13 (by kernel_rfl) (by kernel_rfl) (by kernel_rfl) (fun _ _ _ h => h) (Or.inl ⟨by rfl, fun V' hS => ?_⟩) hH3 ?_
    · go_simp
    simp only [Act.put, List.setIfInBounds_toArray, List.set_cons_zero, List.set_cons_succ]
    refine wpAnyH_ready (rs := [14]) (by kernel_rfl) (by simp) ?_
    refine AllReadyH.cons ov14 (fun K hK => ?_) AllReadyH.nil
    rw [if_pos (by rfl)]
    obtain ⟨k0, k1⟩ := C3.out
    go_simp
    clear k0 k1
    have HQ : Hid (RTab (w2.setCell ⟨c, 1, none⟩ (.slice oa' (mn + 1) oc')) c (.slice la RL.length lc) oa' oc' RL (OV ++ [.slice da RL.length dc]) (OL ++ [RL]) ∧ But (RS c oa) w (w2.setCell ⟨c, 1, none⟩ (.slice oa' (mn + 1) oc')) ∧ Grown (RS c oa) (RS c oa') w) := by
      have := H0.out.addOld (oa' := oa') (oc' := oc') (v := .slice da RL.length dc) HR.out.2.1 (by rw [EM.out.1]; exact HR.out.1) HR.out.2.2.2 HR.out.2.2.1
      rw [EM.out.1] at this
      exact this
    have hH4 : (w2.setCell ⟨c, 1, none⟩ (.slice oa' (mn + 1) oc')).cell? ⟨c, 0, none⟩ = some (.slice la RL.length lc) := HQ.out.1.box.cell 0
    refine hK.out _ (w2.setCell ⟨c, 1, none⟩ (.slice oa' (mn + 1) oc')) hH4 (fun _ => ?_)
    clear hK K
    (try simp only [Act.put, List.setIfInBounds_toArray, List.set_cons_zero, List.set_cons_succ])
    generalize w2.setCell ⟨c, 1, none⟩ (.slice oa' (mn + 1) oc') = w4 at HQ hH4 ⊢
    refine wpAnyH_done (by kernel_rfl) ?_ _
    clear hHeld hH1 hH2 hH3 hH4 C3 HR HZ2 HY2 HZ1 HY1 HZ HY C0 C1 CP
    have c3 : w4.cell? ⟨c, 1, none⟩ = some (.slice oa' (mn + 1) oc') := by have := HQ.out.1.box.cell 1; rw [show (OV ++ [Value.slice da RL.length dc]).length = mn + 1 by simp [EM.out.1]] at this; exact this
    go_wp2
    go_ret
    exact ⟨by simp, oa', oc', _, HQ.out⟩
  · rw [if_pos (by rfl)]
    go_simp
    refine (CP.out z0 HZ.out).mono ?_
    rintro e v2 ⟨v', rfl, h1, h2, h3⟩
    obtain ⟨da, dc, rfl⟩ := h1.form
    have HZ1 : Hid (RTab v2 c (.slice la RL.length lc) oa oc RL OV OL ∧ PrL v2 (.slice da RL.length dc) RL) := ⟨HZ.out.past h2, h1⟩
    have HY1 : Hid (But (fun _ => False) w v2) := HY.out.trans (below_but h2)
    have C1 : Hid (v2.cell? ⟨c, 1, none⟩ = some (.slice oa mn oc)) := by rw [← EM.out.1]; exact HZ1.out.1.box.cell 1
    have hH1 : v2.cell? ⟨c, 0, none⟩ = some (.slice la RL.length lc) := HZ1.out.1.box.cell 0
    clear h1 h2 h3
    (try go_wp2_with fail)
    refine hK.out _ _ hH1 (fun _ => ?_)
    clear hK K
    (try simp only [Act.put, List.setIfInBounds_toArray, List.set_cons_zero, List.set_cons_succ])
    refine wpAnyH_ready (rs := [4, 10]) (by kernel_rfl) (by simp) ?_
    refine AllReadyH.cons ov4 (fun K hK => ?_) (AllReadyH.cons ov10 (fun K hK => ?_) AllReadyH.nil)
    · rw [if_pos (by rfl)]
      first | (have k0 := C2.out; go_simp; clear k0) | (have k0 := C1.out; go_simp; clear k0) | (have k0 := C0.out; go_simp; clear k0)
      refine hK.out _ _ hH1 (fun _ => ?_)
      clear hK K
      (try simp only [Act.put, List.setIfInBounds_toArray, List.set_cons_zero, List.set_cons_succ])
      refine wpAnyH_ready (rs := [10]) (by kernel_rfl) (by simp) ?_
      refine AllReadyH.cons ov10 (fun K hK => ?_) AllReadyH.nil
      rw [if_pos (by rfl)]
      go_simp
      have HZ2 : Hid (RTab (v2.alloc (.cells #[.slice da RL.length dc] 56)) c (.slice la RL.length lc) oa oc RL OV OL ∧ PrL (v2.alloc (.cells #[.slice da RL.length dc] 56)) (.slice da RL.length dc) RL) := ⟨HZ1.out.1.but (S := fun _ => False) ((But.refl _ _).alloc _) (fun _ _ => id) (fun _ _ _ _ _ => id), HZ1.out.2.but (S := fun _ => False) ((But.refl _ _).alloc _) (fun _ _ => id)⟩
      have C2 : Hid ((v2.alloc (.cells #[.slice da RL.length dc] 56)).cell? ⟨c, 1, none⟩ = some (.slice oa mn oc)) := by rw [← EM.out.1]; exact HZ2.out.1.box.cell 1
      have HC : Hid (CBox (v2.alloc (.cells #[.slice da RL.length dc] 56)) v2.heap.size 56 [.slice da RL.length dc]) := CBox.new v2 _ _
      have HY2 : Hid (But (fun _ => False) w (v2.alloc (.cells #[.slice da RL.length dc] 56))) := HY1.out.alloc _
      have hH2 : (v2.alloc (.cells #[.slice da RL.length dc] 56)).cell? ⟨c, 0, none⟩ = some (.slice la RL.length lc) := HZ2.out.1.box.cell 0
      refine hK.out _ _ hH2 (fun _ => ?_)
      clear hK K
      (try simp only [Act.put, List.setIfInBounds_toArray, List.set_cons_zero, List.set_cons_succ])
      refine wpAnyH_ready (rs := [11]) (by kernel_rfl) (by simp) ?_
      refine AllReadyH.cons ov11 (fun K hK => ?_) AllReadyH.nil
      rw [if_pos (by rfl)]
      refine wp_app64 _ _ 84 56 rfl (.slice none 0 0) 1 24 und_olds info_list rfl (by decide) (by decide) oa mn oc OV rfl (by have := HZ2.out.1.row; rw [EM.out.1] at this; exact this) v2.heap.size 1 [.slice da RL.length dc] rfl HC.out rfl (by simp [Value.oneCell']) (by omega) ?_
      intro oa' oc' w2 h1 h2 h3
      have HR : Hid (w2.ownsRow 0 56 1 (.slice oa' (mn + 1) oc') (mn + 1) (OV ++ [.slice da RL.length dc]) ∧ But (Own oa) w w2 ∧ Fresh w oa oa' ∧ PrL w2 (.slice da RL.length dc) RL) := ⟨h1, (HY2.out.mono (fun _ e => e.elim)).trans h2, h3.mono HY2.out.size, HZ2.out.2.but h2 (fun j hj e => HZ2.out.1.apart HZ2.out.2 j hj (Or.inr e))⟩
      have NB : ∀ j, Own oa j → j ≠ c := fun j e => row_box HZ2.out.1.row HZ2.out.1.box (by decide) e
      have hH3 : w2.cell? ⟨c, 0, none⟩ = some (.slice la RL.length lc) := (h2.cell (p := ⟨c, 0, none⟩) HZ2.out.1.box.lt (fun e => NB c e rfl)).trans hH2
      have C3 : Hid (w2.cell? ⟨c, 1, none⟩ = some (.slice oa mn oc) ∧ w2.frozen? ⟨c, 1, none⟩ = false) := ⟨(h2.cell (p := ⟨c, 1, none⟩) HZ2.out.1.box.lt (fun e => NB c e rfl)).trans C2.out, (h2.frozen (p := ⟨c, 1, none⟩) HZ2.out.1.box.lt (fun e => NB c e rfl)).trans (HZ2.out.1.box.frozen 1)⟩
      clear h1 h2 h3 HC C2 NB
      refine hK.out _ _ hH3 (fun _ => ?_)
      clear hK K
      (try simp only [Act.put, List.setIfInBounds_toArray, List.set_cons_zero, List.set_cons_succ])
      refine wpAnyH_take (i := 12) (v := .pointer (some ⟨c, 0, none⟩)) ov12 (by kernel_rfl) (by kernel_rfl) (by kernel_rfl) (fun _ _ _ h => h) (Or.inl ⟨by rfl, fun V' hS => ?_⟩) hH3 ?_
      · go_simp
      simp only [Act.put, List.setIfInBounds_toArray, List.set_cons_zero, List.set_cons_succ]
      refine wpAnyH_take (i := 13) (v := .pointer (some ⟨c, 1, none⟩)) ov13 (by kernel_rfl) (by kernel_rfl) (by kernel_rfl) (fun _ _ _ h => h) (Or.inl ⟨by rfl, fun V' hS => ?_⟩) hH3 ?_
      · go_simp
      simp only [Act.put, List.setIfInBounds_toArray, List.set_cons_zero, List.set_cons_succ]
      refine wpAnyH_ready (rs := [14]) (by kernel_rfl) (by simp) ?_
      refine AllReadyH.cons ov14 (fun K hK => ?_) AllReadyH.nil
      rw [if_pos (by rfl)]
      obtain ⟨k0, k1⟩ := C3.out
      go_simp
      clear k0 k1
      have HQ : Hid (RTab (w2.setCell ⟨c, 1, none⟩ (.slice oa' (mn + 1) oc')) c (.slice la RL.length lc) oa' oc' RL (OV ++ [.slice da RL.length dc]) (OL ++ [RL]) ∧ But (RS c oa) w (w2.setCell ⟨c, 1, none⟩ (.slice oa' (mn + 1) oc')) ∧ Grown (RS c oa) (RS c oa') w) := by
        have := H0.out.addOld (oa' := oa') (oc' := oc') (v := .slice da RL.length dc) HR.out.2.1 (by rw [EM.out.1]; exact HR.out.1) HR.out.2.2.2 HR.out.2.2.1
        rw [EM.out.1] at this
        exact this
      have hH4 : (w2.setCell ⟨c, 1, none⟩ (.slice oa' (mn + 1) oc')).cell? ⟨c, 0, none⟩ = some (.slice la RL.length lc) := HQ.out.1.box.cell 0
      refine hK.out _ (w2.setCell ⟨c, 1, none⟩ (.slice oa' (mn + 1) oc')) hH4 (fun _ => ?_)
      clear hK K
      (try simp only [Act.put, List.setIfInBounds_toArray, List.set_cons_zero, List.set_cons_succ])
      generalize w2.setCell ⟨c, 1, none⟩ (.slice oa' (mn + 1) oc') = w4 at HQ hH4 ⊢
      refine wpAnyH_done (by kernel_rfl) ?_ _
      clear hHeld hH1 hH2 hH3 hH4 C3 HR HZ2 HY2 HZ1 HY1 HZ HY C0 C1 CP
      have c3 : w4.cell? ⟨c, 1, none⟩ = some (.slice oa' (mn + 1) oc') := by have := HQ.out.1.box.cell 1; rw [show (OV ++ [Value.slice da RL.length dc]).length = mn + 1 by simp [EM.out.1]] at this; exact this
      go_wp2
      go_ret
      exact ⟨by simp, oa', oc', _, HQ.out⟩
    · rw [if_pos (by rfl)]
      go_simp
      have HZ2 : Hid (RTab (v2.alloc (.cells #[.slice da RL.length dc] 56)) c (.slice la RL.length lc) oa oc RL OV OL ∧ PrL (v2.alloc (.cells #[.slice da RL.length dc] 56)) (.slice da RL.length dc) RL) := ⟨HZ1.out.1.but (S := fun _ => False) ((But.refl _ _).alloc _) (fun _ _ => id) (fun _ _ _ _ _ => id), HZ1.out.2.but (S := fun _ => False) ((But.refl _ _).alloc _) (fun _ _ => id)⟩
      have C2 : Hid ((v2.alloc (.cells #[.slice da RL.length dc] 56)).cell? ⟨c, 1, none⟩ = some (.slice oa mn oc)) := by rw [← EM.out.1]; exact HZ2.out.1.box.cell 1
      have HC : Hid (CBox (v2.alloc (.cells #[.slice da RL.length dc] 56)) v2.heap.size 56 [.slice da RL.length dc]) := CBox.new v2 _ _
      have HY2 : Hid (But (fun _ => False) w (v2.alloc (.cells #[.slice da RL.length dc] 56))) := HY1.out.alloc _
      have hH2 : (v2.alloc (.cells #[.slice da RL.length dc] 56)).cell? ⟨c, 0, none⟩ = some (.slice la RL.length lc) := HZ2.out.1.box.cell 0
      refine hK.out _ _ hH2 (fun _ => ?_)
      clear hK K
      (try simp only [Act.put, List.setIfInBounds_toArray, List.set_cons_zero, List.set_cons_succ])
      refine wpAnyH_ready (rs := [4]) (by kernel_rfl) (by simp) ?_
      refine AllReadyH.cons ov4 (fun K hK => ?_) AllReadyH.nil
      rw [if_pos (by rfl)]
      first | (have k0 := C2.out; go_simp; clear k0) | (have k0 := C1.out; go_simp; clear k0) | (have k0 := C0.out; go_simp; clear k0)
      refine hK.out _ _ hH2 (fun _ => ?_)
      clear hK K
      (try simp only [Act.put, List.setIfInBounds_toArray, List.set_cons_zero, List.set_cons_succ])
      refine wpAnyH_ready (rs := [11]) (by kernel_rfl) (by simp) ?_
      refine AllReadyH.cons ov11 (fun K hK => ?_) AllReadyH.nil
      rw [if_pos (by rfl)]
      refine wp_app64 _ _ 84 56 rfl (.slice none 0 0) 1 24 und_olds info_list rfl (by decide) (by decide) oa mn oc OV rfl (by have := HZ2.out.1.row; rw [EM.out.1] at this; exact this) v2.heap.size 1 [.slice da RL.length dc] rfl HC.out rfl (by simp [Value.oneCell']) (by omega) ?_
      intro oa' oc' w2 h1 h2 h3
      have HR : Hid (w2.ownsRow 0 56 1 (.slice oa' (mn + 1) oc') (mn + 1) (OV ++ [.slice da RL.length dc]) ∧ But (Own oa) w w2 ∧ Fresh w oa oa' ∧ PrL w2 (.slice da RL.length dc) RL) := ⟨h1, (HY2.out.mono (fun _ e => e.elim)).trans h2, h3.mono HY2.out.size, HZ2.out.2.but h2 (fun j hj e => HZ2.out.1.apart HZ2.out.2 j hj (Or.inr e))⟩
      have NB : ∀ j, Own oa j → j ≠ c := fun j e => row_box HZ2.out.1.row HZ2.out.1.box (by decide) e
      have hH3 : w2.cell? ⟨c, 0, none⟩ = some (.slice la RL.length lc) := (h2.cell (p := ⟨c, 0, none⟩) HZ2.out.1.box.lt (fun e => NB c e rfl)).trans hH2
      have C3 : Hid (w2.cell? ⟨c, 1, none⟩ = some (.slice oa mn oc) ∧ w2.frozen? ⟨c, 1, none⟩ = false) := ⟨(h2.cell (p := ⟨c, 1, none⟩) HZ2.out.1.box.lt (fun e => NB c e rfl)).trans C2.out, (h2.frozen (p := ⟨c, 1, none⟩) HZ2.out.1.box.lt (fun e => NB c e rfl)).trans (HZ2.out.1.box.frozen 1)⟩
      clear h1 h2 h3 HC C2 NB
      refine hK.out _ _ hH3 (fun _ => ?_)
      clear hK K
      (try simp only [Act.put, List.setIfInBounds_toArray, List.set_cons_zero, List.set_cons_succ])
      refine wpAnyH_take (i := 12) (v := .pointer (some ⟨c, 0, none⟩)) ov12 (by kernel_rfl) (by kernel_rfl) (by kernel_rfl) (fun _ _ _ h => h) (Or.inl ⟨by rfl, fun V' hS => ?_⟩) hH3 ?_
      · go_simp
      simp only [Act.put, List.setIfInBounds_toArray, List.set_cons_zero, List.set_cons_succ]
      refine wpAnyH_take (i := 13) (v := .pointer (some ⟨c, 1, none⟩)) ov13 (by kernel_rfl) (by kernel_rfl) (by kernel_rfl) (fun _ _ _ h => h) (Or.inl ⟨by rfl, fun V' hS => ?_⟩) hH3 ?_
      · go_simp
      simp only [Act.put, List.setIfInBounds_toArray, List.set_cons_zero, List.set_cons_succ]
      refine wpAnyH_ready (rs := [14]) (by kernel_rfl) (by simp) ?_
      refine AllReadyH.cons ov14 (fun K hK => ?_) AllReadyH.nil
      rw [if_pos (by rfl)]
      obtain ⟨k0, k1⟩ := C3.out
      go_simp
      clear k0 k1
      have HQ : Hid (RTab (w2.setCell ⟨c, 1, none⟩ (.slice oa' (mn + 1) oc')) c (.slice la RL.length lc) oa' oc' RL (OV ++ [.slice da RL.length dc]) (OL ++ [RL]) ∧ But (RS c oa) w (w2.setCell ⟨c, 1, none⟩ (.slice oa' (mn + 1) oc')) ∧ Grown (RS c oa) (RS c oa') w) := by
        have := H0.out.addOld (oa' := oa') (oc' := oc') (v := .slice da RL.length dc) HR.out.2.1 (by rw [EM.out.1]; exact HR.out.1) HR.out.2.2.2 HR.out.2.2.1
        rw [EM.out.1] at this
        exact this
      have hH4 : (w2.setCell ⟨c, 1, none⟩ (.slice oa' (mn + 1) oc')).cell? ⟨c, 0, none⟩ = some (.slice la RL.length lc) := HQ.out.1.box.cell 0
      refine hK.out _ (w2.setCell ⟨c, 1, none⟩ (.slice oa' (mn + 1) oc')) hH4 (fun _ => ?_)
      clear hK K
      (try simp only [Act.put, List.setIfInBounds_toArray, List.set_cons_zero, List.set_cons_succ])
      generalize w2.setCell ⟨c, 1, none⟩ (.slice oa' (mn + 1) oc') = w4 at HQ hH4 ⊢
      refine wpAnyH_done (by kernel_rfl) ?_ _
      clear hHeld hH1 hH2 hH3 hH4 C3 HR HZ2 HY2 HZ1 HY1 HZ HY C0 C1 CP
      have c3 : w4.cell? ⟨c, 1, none⟩ = some (.slice oa' (mn + 1) oc') := by have := HQ.out.1.box.cell 1; rw [show (OV ++ [Value.slice da RL.length dc]).length = mn + 1 by simp [EM.out.1]] at this; exact this
      go_wp2
      go_ret
      exact ⟨by simp, oa', oc', _, HQ.out⟩
end Go.Proofs.Ytohfkgfjcnldaaa
