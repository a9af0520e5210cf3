/- vouchtop's grammar: true just of the bytes that prs takes. -/
import Derived.Test.YtndhabhlajldeaaMg4
namespace Go.Proofs.Ytndhabhlajldeaa
open Go.RowKit
set_option maxHeartbeats 8000000 in
set_option maxRecDepth 100000 in
theorem gram_is {P : Nat → Prop} (w : World) (v : Value) (b : List Nat) (opn : Bool) (h : BL P w v b) (hb : Byt b) (hl : b.length ≤ 200000) : Calls Try.prog 46 #[v, .bool opn] w fun e w' => GrP b opn w.heap.size e w' ∧ Below w.heap.size w w' := by
  obtain ⟨ad, cap, rfl, _, _⟩ := h.len
  have HBL : Hid (∀ W, Below w.heap.size w W → BL P W (.slice ad b.length cap) b) := fun W hW => h.past hW
  have HBY : Hid (Byt b) := hb
  have HLE : Hid (b.length ≤ 200000) := hl
  clear h hb hl
  have b1 := below_alloc w (.cells #[.int .i64 0, .int .i64 0, .int .i64 0, .slice none 0 0, .int .i64 0, .int .i64 0] 67)
  have b2 := below_alloc (w.alloc (.cells #[.int .i64 0, .int .i64 0, .int .i64 0, .slice none 0 0, .int .i64 0, .int .i64 0] 67)) (.cells #[.int .i64 0, .int .i64 0, .int .i64 0, .slice none 0 0, .int .i64 0, .int .i64 0] 67)
  have s1 : (w.alloc (.cells #[.int .i64 0, .int .i64 0, .int .i64 0, .slice none 0 0, .int .i64 0, .int .i64 0] 67)).heap.size = w.heap.size + 1 := by simp
  have c2 := CBox.new (w.alloc (.cells #[.int .i64 0, .int .i64 0, .int .i64 0, .slice none 0 0, .int .i64 0, .int .i64 0] 67)) 67 [.int .i64 0, .int .i64 0, .int .i64 0, .slice none 0 0, .int .i64 0, .int .i64 0]
  rw [s1] at c2
  have M : Hid (GrM w.heap.size (w.heap.size + 1) w ((w.alloc (.cells #[.int .i64 0, .int .i64 0, .int .i64 0, .slice none 0 0, .int .i64 0, .int .i64 0] 67)).alloc (.cells #[.int .i64 0, .int .i64 0, .int .i64 0, .slice none 0 0, .int .i64 0, .int .i64 0] 67)) [.int .i64 0, .int .i64 0, .int .i64 0, .slice none 0 0, .int .i64 0, .int .i64 0]) := ⟨(CBox.new w 67 [.int .i64 0, .int .i64 0, .int .i64 0, .slice none 0 0, .int .i64 0, .int .i64 0]).past b2, c2, by omega, b1.trans (b2.mono (by omega)), by omega⟩
  clear b1 b2 s1 c2
  obtain ⟨L, hL⟩ : ∃ L, b.length = L := ⟨_, rfl⟩
  have HL : Hid (b.length = L) := hL
  have nI : (L : Int) ≤ 200000 := by have := HLE.out; omega
  rw [hL] at HBL ⊢
  clear hL
  go_enter Try.func46, Try.ntmps46
  go_upto_region 2 with fail
  generalize w.heap.size + 1 = b6 at M ⊢
  generalize hb4 : w.heap.size = b4 at M ⊢
  have GB : Hid (w.heap.size = b4) := hb4
  clear hb4
  generalize (w.alloc _).alloc _ = W at M ⊢
  by_cases eL : L < 15
  · as_aux_lemma =>
      have q1 : (L : Int) < 15 := by omega
      have HEL : Hid (L < 15) := eL
      clear eL
      have k0 : W.cell? ⟨b4, 0, none⟩ = some (.int .i64 0) := M.out.c4.cell 0
      have f0 := CBox.frozen M.out.c4 0
      have y0 : W.cell? ⟨b6, 0, none⟩ = some (.int .i64 0) := M.out.c6.cell 0
      have k1 : W.cell? ⟨b4, 1, none⟩ = some (.int .i64 0) := M.out.c4.cell 1
      have f1 := CBox.frozen M.out.c4 1
      have y1 : W.cell? ⟨b6, 1, none⟩ = some (.int .i64 0) := M.out.c6.cell 1
      have k2 : W.cell? ⟨b4, 2, none⟩ = some (.int .i64 0) := M.out.c4.cell 2
      have f2 := CBox.frozen M.out.c4 2
      have y2 : W.cell? ⟨b6, 2, none⟩ = some (.int .i64 0) := M.out.c6.cell 2
      have k3 : W.cell? ⟨b4, 3, none⟩ = some (.slice none 0 0) := M.out.c4.cell 3
      have f3 := CBox.frozen M.out.c4 3
      have y3 : W.cell? ⟨b6, 3, none⟩ = some (.slice none 0 0) := M.out.c6.cell 3
      have k4 : W.cell? ⟨b4, 4, none⟩ = some (.int .i64 0) := M.out.c4.cell 4
      have f4 := CBox.frozen M.out.c4 4
      have y4 : W.cell? ⟨b6, 4, none⟩ = some (.int .i64 0) := M.out.c6.cell 4
      have k5 : W.cell? ⟨b4, 5, none⟩ = some (.int .i64 0) := M.out.c4.cell 5
      have f5 := CBox.frozen M.out.c4 5
      have y5 : W.cell? ⟨b6, 5, none⟩ = some (.int .i64 0) := M.out.c6.cell 5
      have HF : Hid (CBox ((((((W.setCell ⟨b4, 0, none⟩ (.int .i64 0)).setCell ⟨b4, 1, none⟩ (.int .i64 0)).setCell ⟨b4, 2, none⟩ (.int .i64 0)).setCell ⟨b4, 3, none⟩ (.slice none 0 0)).setCell ⟨b4, 4, none⟩ (.int .i64 0)).setCell ⟨b4, 5, none⟩ (.int .i64 0)) b4 67 [.int .i64 0, .int .i64 0, .int .i64 0, .slice none 0 0, .int .i64 0, .int .i64 0] ∧ Below w.heap.size w ((((((W.setCell ⟨b4, 0, none⟩ (.int .i64 0)).setCell ⟨b4, 1, none⟩ (.int .i64 0)).setCell ⟨b4, 2, none⟩ (.int .i64 0)).setCell ⟨b4, 3, none⟩ (.slice none 0 0)).setCell ⟨b4, 4, none⟩ (.int .i64 0)).setCell ⟨b4, 5, none⟩ (.int .i64 0))) := ⟨((((((M.out.c4.set 0 _).set 1 _).set 2 _).set 3 _).set 4 _).set 5 _), M.out.bel.trans ((((((((But.refl (fun y => y = b4) W).setCell ⟨b4, 0, none⟩ _ (Or.inl rfl)).setCell ⟨b4, 1, none⟩ _ (Or.inl rfl)).setCell ⟨b4, 2, none⟩ _ (Or.inl rfl)).setCell ⟨b4, 3, none⟩ _ (Or.inl rfl)).setCell ⟨b4, 4, none⟩ _ (Or.inl rfl)).setCell ⟨b4, 5, none⟩ _ (Or.inl rfl)).below (fun g e => by have := M.out.g4; omega) M.out.bel.size)⟩
      have HW : Hid (∀ c, prs b opn ≠ .ok c) := no_c (fun hg => by have h1 := len_gram hg.1; have h2 := HL.out; have h3 := HEL.out; omega)
      clear M
      go_wp2
      clear k0 f0 y0 k1 f1 y1 k2 f2 y2 k3 f3 y3 k4 f4 y4 k5 f5 y5
      generalize ((((((W.setCell ⟨b4, 0, none⟩ (.int .i64 0)).setCell ⟨b4, 1, none⟩ (.int .i64 0)).setCell ⟨b4, 2, none⟩ (.int .i64 0)).setCell ⟨b4, 3, none⟩ (.slice none 0 0)).setCell ⟨b4, 4, none⟩ (.int .i64 0)).setCell ⟨b4, 5, none⟩ (.int .i64 0)) = Z9 at HF ⊢
      refine bodyPost_ret (v := .tuple #[.agg #[.int .i64 0, .int .i64 0, .int .i64 0, .slice none 0 0, .int .i64 0, .int .i64 0], .bool false]) (results_ct (p := 4) (q := 5) (ty := 67) Try.results46 _ _ _ ⟨b4, 0, none⟩ rfl rfl (run_loadVar_mid Z9 b4 0 67 [.int .i64 0, .int .i64 0, .int .i64 0, .slice none 0 0, .int .i64 0, .int .i64 0] _ HF.out.1.range Try.underlying67 rfl (by kernel_rfl))) rfl ?_
      exact ⟨Or.inl ⟨_, _, _, _, _, _, _, _, rfl, HW.out⟩, by first | exact HF.out.2 | (rw [GB.out]; exact HF.out.2) | (rw [← GB.out]; exact HF.out.2)⟩
  have HEL : Hid (15 ≤ L) := by unfold Hid; omega
  have HAD : Hid (∃ g a, ad = some ⟨g, a, none⟩) := by
    obtain ⟨g, a, e, _⟩ := (HBL.out w (Below.refl _ _)).get (i := 0) (x := b[0]'(by have := HL.out; omega)) (List.getElem?_eq_getElem _)
    exact ⟨g, a, e⟩
  obtain ⟨g, a, rfl⟩ := HAD.out
  have HCE : Hid (∀ (V : World) (i x : Nat), Below w.heap.size w V → b[i]? = some x → V.cell? ⟨g, a + i, none⟩ = some (.int .u8 (x : Int))) := fun V i x hV hi => by
    obtain ⟨g', a', e, c⟩ := (HBL.out V hV).get hi
    injection e with e
    injection e with e1 e2
    subst e1 e2
    exact c
  clear HAD
  have q1 : ¬ (L : Int) < 15 := by omega
  have nL : ¬ L = 0 := by have := HEL.out; omega
  clear eL
  obtain ⟨x0, hx0⟩ : ∃ x, b[0]? = some x := ⟨b[0]'(by have := HL.out; have := HEL.out; omega), List.getElem?_eq_getElem _⟩
  have HX0 : Hid (rd b 0 1 = x0) := rd1 hx0
  have K0 : Hid (W.cell? ⟨g, a, none⟩ = some (.int .u8 (x0 : Int))) := HCE.out W 0 x0 M.out.bel hx0
  clear hx0
  have i0 : (0 : Int) < (L : Int) := by have := HEL.out; omega
  obtain ⟨x1, hx1⟩ : ∃ x, b[1]? = some x := ⟨b[1]'(by have := HL.out; have := HEL.out; omega), List.getElem?_eq_getElem _⟩
  have HX1 : Hid (rd b 1 1 = x1) := rd1 hx1
  have K1 : Hid (W.cell? ⟨g, a + 1, none⟩ = some (.int .u8 (x1 : Int))) := HCE.out W 1 x1 M.out.bel hx1
  clear hx1
  have i1 : (1 : Int) < (L : Int) := by have := HEL.out; omega
  obtain ⟨x2, hx2⟩ : ∃ x, b[2]? = some x := ⟨b[2]'(by have := HL.out; have := HEL.out; omega), List.getElem?_eq_getElem _⟩
  have HX2 : Hid (rd b 2 1 = x2) := rd1 hx2
  have K2 : Hid (W.cell? ⟨g, a + 2, none⟩ = some (.int .u8 (x2 : Int))) := HCE.out W 2 x2 M.out.bel hx2
  clear hx2
  have i2 : (2 : Int) < (L : Int) := by have := HEL.out; omega
  obtain ⟨x3, hx3⟩ : ∃ x, b[3]? = some x := ⟨b[3]'(by have := HL.out; have := HEL.out; omega), List.getElem?_eq_getElem _⟩
  have HX3 : Hid (rd b 3 1 = x3) := rd1 hx3
  have K3 : Hid (W.cell? ⟨g, a + 3, none⟩ = some (.int .u8 (x3 : Int))) := HCE.out W 3 x3 M.out.bel hx3
  clear hx3
  have i3 : (3 : Int) < (L : Int) := by have := HEL.out; omega
  obtain ⟨x6, hx6⟩ : ∃ x, b[6]? = some x := ⟨b[6]'(by have := HL.out; have := HEL.out; omega), List.getElem?_eq_getElem _⟩
  have HX6 : Hid (rd b 6 1 = x6) := rd1 hx6
  have K6 : Hid (W.cell? ⟨g, a + 6, none⟩ = some (.int .u8 (x6 : Int))) := HCE.out W 6 x6 M.out.bel hx6
  clear hx6
  have i6 : (6 : Int) < (L : Int) := by have := HEL.out; omega
  go_cut [46] (fun s46 wx => IsB (x0 ≠ 239 ∨ x1 ≠ 0 ∨ x2 ≠ 1 ∨ x3 ≠ 1 ∨ x6 ≠ 2) s46 ∧ wx = W)
  case first =>
    as_aux_lemma =>
      by_cases e0 : x0 = 239
      rotate_left
      · as_aux_lemma =>
          have p0 : ((x0 : Int) != 239) = true := by simp; omega
          refine wp_region_lit ?_
          refine lst_val (v := .slice (some ⟨g, a, none⟩) L cap) (by kernel_rfl) ?_ ?_
          · go_simp
          simp only [Act.put, List.setIfInBounds_toArray, List.set_cons_zero, List.set_cons_succ]
          refine lst_val (v := .int .i64 (L : Int)) (by kernel_rfl) ?_ ?_
          · go_simp
          simp only [Act.put, List.setIfInBounds_toArray, List.set_cons_zero, List.set_cons_succ]
          refine lst_val (v := .bool false) (by kernel_rfl) ?_ ?_
          · go_simp
          simp only [Act.put, List.setIfInBounds_toArray, List.set_cons_zero, List.set_cons_succ]
          refine lst_val (v := .bool false) (by kernel_rfl) ?_ ?_
          · go_simp
          simp only [Act.put, List.setIfInBounds_toArray, List.set_cons_zero, List.set_cons_succ]
          refine lst_val (v := .slice (some ⟨g, a, none⟩) L cap) (by kernel_rfl) ?_ ?_
          · go_simp
          simp only [Act.put, List.setIfInBounds_toArray, List.set_cons_zero, List.set_cons_succ]
          refine lst_val (v := .pointer (some ⟨g, a, none⟩)) (by kernel_rfl) ?_ ?_
          · go_simp
          simp only [Act.put, List.setIfInBounds_toArray, List.set_cons_zero, List.set_cons_succ]
          refine lst_val (v := .int .u8 (x0 : Int)) (by kernel_rfl) ?_ ?_
          · have c0 := K0.out
            go_simp
          simp only [Act.put, List.setIfInBounds_toArray, List.set_cons_zero, List.set_cons_succ]
          refine lst_val (v := .bool true) (by kernel_rfl) ?_ ?_
          · go_simp
          simp only [Act.put, List.setIfInBounds_toArray, List.set_cons_zero, List.set_cons_succ]
          go_wp2
          go_meet
          case rel => exact ⟨isB_t (p := x0 ≠ 239 ∨ x1 ≠ 0 ∨ x2 ≠ 1 ∨ x3 ≠ 1 ∨ x6 ≠ 2) (by omega), rfl⟩
      have p0 : ((x0 : Int) != 239) = false := by simp; omega
      by_cases e1 : x1 = 0
      rotate_left
      · as_aux_lemma =>
          have p1 : ((x1 : Int) != 0) = true := by simp; omega
          refine wp_region_lit ?_
          refine lst_val (v := .slice (some ⟨g, a, none⟩) L cap) (by kernel_rfl) ?_ ?_
          · go_simp
          simp only [Act.put, List.setIfInBounds_toArray, List.set_cons_zero, List.set_cons_succ]
          refine lst_val (v := .int .i64 (L : Int)) (by kernel_rfl) ?_ ?_
          · go_simp
          simp only [Act.put, List.setIfInBounds_toArray, List.set_cons_zero, List.set_cons_succ]
          refine lst_val (v := .bool false) (by kernel_rfl) ?_ ?_
          · go_simp
          simp only [Act.put, List.setIfInBounds_toArray, List.set_cons_zero, List.set_cons_succ]
          refine lst_val (v := .bool false) (by kernel_rfl) ?_ ?_
          · go_simp
          simp only [Act.put, List.setIfInBounds_toArray, List.set_cons_zero, List.set_cons_succ]
          refine lst_val (v := .slice (some ⟨g, a, none⟩) L cap) (by kernel_rfl) ?_ ?_
          · go_simp
          simp only [Act.put, List.setIfInBounds_toArray, List.set_cons_zero, List.set_cons_succ]
          refine lst_val (v := .pointer (some ⟨g, a, none⟩)) (by kernel_rfl) ?_ ?_
          · go_simp
          simp only [Act.put, List.setIfInBounds_toArray, List.set_cons_zero, List.set_cons_succ]
          refine lst_val (v := .int .u8 (x0 : Int)) (by kernel_rfl) ?_ ?_
          · have c0 := K0.out
            go_simp
          simp only [Act.put, List.setIfInBounds_toArray, List.set_cons_zero, List.set_cons_succ]
          refine lst_val (v := .bool false) (by kernel_rfl) ?_ ?_
          · go_simp
          simp only [Act.put, List.setIfInBounds_toArray, List.set_cons_zero, List.set_cons_succ]
          refine lst_val (v := .bool false) (by kernel_rfl) ?_ ?_
          · go_simp
          simp only [Act.put, List.setIfInBounds_toArray, List.set_cons_zero, List.set_cons_succ]
          refine lst_val (v := .bool false) (by kernel_rfl) ?_ ?_
          · go_simp
          simp only [Act.put, List.setIfInBounds_toArray, List.set_cons_zero, List.set_cons_succ]
          refine lst_val (v := .slice (some ⟨g, a, none⟩) L cap) (by kernel_rfl) ?_ ?_
          · go_simp
          simp only [Act.put, List.setIfInBounds_toArray, List.set_cons_zero, List.set_cons_succ]
          refine lst_val (v := .pointer (some ⟨g, a + 1, none⟩)) (by kernel_rfl) ?_ ?_
          · go_simp
          simp only [Act.put, List.setIfInBounds_toArray, List.set_cons_zero, List.set_cons_succ]
          refine lst_val (v := .int .u8 (x1 : Int)) (by kernel_rfl) ?_ ?_
          · have c0 := K1.out
            go_simp
          simp only [Act.put, List.setIfInBounds_toArray, List.set_cons_zero, List.set_cons_succ]
          refine lst_val (v := .bool true) (by kernel_rfl) ?_ ?_
          · go_simp
          simp only [Act.put, List.setIfInBounds_toArray, List.set_cons_zero, List.set_cons_succ]
          go_wp2
          go_meet
          case rel => exact ⟨isB_t (p := x0 ≠ 239 ∨ x1 ≠ 0 ∨ x2 ≠ 1 ∨ x3 ≠ 1 ∨ x6 ≠ 2) (by omega), rfl⟩
      have p1 : ((x1 : Int) != 0) = false := by simp; omega
      by_cases e2 : x2 = 1
      rotate_left
      · as_aux_lemma =>
          have p2 : ((x2 : Int) != 1) = true := by simp; omega
          refine wp_region_lit ?_
          refine lst_val (v := .slice (some ⟨g, a, none⟩) L cap) (by kernel_rfl) ?_ ?_
          · go_simp
          simp only [Act.put, List.setIfInBounds_toArray, List.set_cons_zero, List.set_cons_succ]
          refine lst_val (v := .int .i64 (L : Int)) (by kernel_rfl) ?_ ?_
          · go_simp
          simp only [Act.put, List.setIfInBounds_toArray, List.set_cons_zero, List.set_cons_succ]
          refine lst_val (v := .bool false) (by kernel_rfl) ?_ ?_
          · go_simp
          simp only [Act.put, List.setIfInBounds_toArray, List.set_cons_zero, List.set_cons_succ]
          refine lst_val (v := .bool false) (by kernel_rfl) ?_ ?_
          · go_simp
          simp only [Act.put, List.setIfInBounds_toArray, List.set_cons_zero, List.set_cons_succ]
          refine lst_val (v := .slice (some ⟨g, a, none⟩) L cap) (by kernel_rfl) ?_ ?_
          · go_simp
          simp only [Act.put, List.setIfInBounds_toArray, List.set_cons_zero, List.set_cons_succ]
          refine lst_val (v := .pointer (some ⟨g, a, none⟩)) (by kernel_rfl) ?_ ?_
          · go_simp
          simp only [Act.put, List.setIfInBounds_toArray, List.set_cons_zero, List.set_cons_succ]
          refine lst_val (v := .int .u8 (x0 : Int)) (by kernel_rfl) ?_ ?_
          · have c0 := K0.out
            go_simp
          simp only [Act.put, List.setIfInBounds_toArray, List.set_cons_zero, List.set_cons_succ]
          refine lst_val (v := .bool false) (by kernel_rfl) ?_ ?_
          · go_simp
          simp only [Act.put, List.setIfInBounds_toArray, List.set_cons_zero, List.set_cons_succ]
          refine lst_val (v := .bool false) (by kernel_rfl) ?_ ?_
          · go_simp
          simp only [Act.put, List.setIfInBounds_toArray, List.set_cons_zero, List.set_cons_succ]
          refine lst_val (v := .bool false) (by kernel_rfl) ?_ ?_
          · go_simp
          simp only [Act.put, List.setIfInBounds_toArray, List.set_cons_zero, List.set_cons_succ]
          refine lst_val (v := .slice (some ⟨g, a, none⟩) L cap) (by kernel_rfl) ?_ ?_
          · go_simp
          simp only [Act.put, List.setIfInBounds_toArray, List.set_cons_zero, List.set_cons_succ]
          refine lst_val (v := .pointer (some ⟨g, a + 1, none⟩)) (by kernel_rfl) ?_ ?_
          · go_simp
          simp only [Act.put, List.setIfInBounds_toArray, List.set_cons_zero, List.set_cons_succ]
          refine lst_val (v := .int .u8 (x1 : Int)) (by kernel_rfl) ?_ ?_
          · have c0 := K1.out
            go_simp
          simp only [Act.put, List.setIfInBounds_toArray, List.set_cons_zero, List.set_cons_succ]
          refine lst_val (v := .bool false) (by kernel_rfl) ?_ ?_
          · go_simp
          simp only [Act.put, List.setIfInBounds_toArray, List.set_cons_zero, List.set_cons_succ]
          refine lst_val (v := .bool false) (by kernel_rfl) ?_ ?_
          · go_simp
          simp only [Act.put, List.setIfInBounds_toArray, List.set_cons_zero, List.set_cons_succ]
          refine lst_val (v := .bool false) (by kernel_rfl) ?_ ?_
          · go_simp
          simp only [Act.put, List.setIfInBounds_toArray, List.set_cons_zero, List.set_cons_succ]
          refine lst_val (v := .slice (some ⟨g, a, none⟩) L cap) (by kernel_rfl) ?_ ?_
          · go_simp
          simp only [Act.put, List.setIfInBounds_toArray, List.set_cons_zero, List.set_cons_succ]
          refine lst_val (v := .pointer (some ⟨g, a + 2, none⟩)) (by kernel_rfl) ?_ ?_
          · go_simp
          simp only [Act.put, List.setIfInBounds_toArray, List.set_cons_zero, List.set_cons_succ]
          refine lst_val (v := .int .u8 (x2 : Int)) (by kernel_rfl) ?_ ?_
          · have c0 := K2.out
            go_simp
          simp only [Act.put, List.setIfInBounds_toArray, List.set_cons_zero, List.set_cons_succ]
          refine lst_val (v := .bool true) (by kernel_rfl) ?_ ?_
          · go_simp
          simp only [Act.put, List.setIfInBounds_toArray, List.set_cons_zero, List.set_cons_succ]
          go_wp2
          go_meet
          case rel => exact ⟨isB_t (p := x0 ≠ 239 ∨ x1 ≠ 0 ∨ x2 ≠ 1 ∨ x3 ≠ 1 ∨ x6 ≠ 2) (by omega), rfl⟩
      have p2 : ((x2 : Int) != 1) = false := by simp; omega
      by_cases e3 : x3 = 1
      rotate_left
      · as_aux_lemma =>
          have p3 : ((x3 : Int) != 1) = true := by simp; omega
          refine wp_region_lit ?_
          refine lst_val (v := .slice (some ⟨g, a, none⟩) L cap) (by kernel_rfl) ?_ ?_
          · go_simp
          simp only [Act.put, List.setIfInBounds_toArray, List.set_cons_zero, List.set_cons_succ]
          refine lst_val (v := .int .i64 (L : Int)) (by kernel_rfl) ?_ ?_
          · go_simp
          simp only [Act.put, List.setIfInBounds_toArray, List.set_cons_zero, List.set_cons_succ]
          refine lst_val (v := .bool false) (by kernel_rfl) ?_ ?_
          · go_simp
          simp only [Act.put, List.setIfInBounds_toArray, List.set_cons_zero, List.set_cons_succ]
          refine lst_val (v := .bool false) (by kernel_rfl) ?_ ?_
          · go_simp
          simp only [Act.put, List.setIfInBounds_toArray, List.set_cons_zero, List.set_cons_succ]
          refine lst_val (v := .slice (some ⟨g, a, none⟩) L cap) (by kernel_rfl) ?_ ?_
          · go_simp
          simp only [Act.put, List.setIfInBounds_toArray, List.set_cons_zero, List.set_cons_succ]
          refine lst_val (v := .pointer (some ⟨g, a, none⟩)) (by kernel_rfl) ?_ ?_
          · go_simp
          simp only [Act.put, List.setIfInBounds_toArray, List.set_cons_zero, List.set_cons_succ]
          refine lst_val (v := .int .u8 (x0 : Int)) (by kernel_rfl) ?_ ?_
          · have c0 := K0.out
            go_simp
          simp only [Act.put, List.setIfInBounds_toArray, List.set_cons_zero, List.set_cons_succ]
          refine lst_val (v := .bool false) (by kernel_rfl) ?_ ?_
          · go_simp
          simp only [Act.put, List.setIfInBounds_toArray, List.set_cons_zero, List.set_cons_succ]
          refine lst_val (v := .bool false) (by kernel_rfl) ?_ ?_
          · go_simp
          simp only [Act.put, List.setIfInBounds_toArray, List.set_cons_zero, List.set_cons_succ]
          refine lst_val (v := .bool false) (by kernel_rfl) ?_ ?_
          · go_simp
          simp only [Act.put, List.setIfInBounds_toArray, List.set_cons_zero, List.set_cons_succ]
          refine lst_val (v := .slice (some ⟨g, a, none⟩) L cap) (by kernel_rfl) ?_ ?_
          · go_simp
          simp only [Act.put, List.setIfInBounds_toArray, List.set_cons_zero, List.set_cons_succ]
          refine lst_val (v := .pointer (some ⟨g, a + 1, none⟩)) (by kernel_rfl) ?_ ?_
          · go_simp
          simp only [Act.put, List.setIfInBounds_toArray, List.set_cons_zero, List.set_cons_succ]
          refine lst_val (v := .int .u8 (x1 : Int)) (by kernel_rfl) ?_ ?_
          · have c0 := K1.out
            go_simp
          simp only [Act.put, List.setIfInBounds_toArray, List.set_cons_zero, List.set_cons_succ]
          refine lst_val (v := .bool false) (by kernel_rfl) ?_ ?_
          · go_simp
          simp only [Act.put, List.setIfInBounds_toArray, List.set_cons_zero, List.set_cons_succ]
          refine lst_val (v := .bool false) (by kernel_rfl) ?_ ?_
          · go_simp
          simp only [Act.put, List.setIfInBounds_toArray, List.set_cons_zero, List.set_cons_succ]
          refine lst_val (v := .bool false) (by kernel_rfl) ?_ ?_
          · go_simp
          simp only [Act.put, List.setIfInBounds_toArray, List.set_cons_zero, List.set_cons_succ]
          refine lst_val (v := .slice (some ⟨g, a, none⟩) L cap) (by kernel_rfl) ?_ ?_
          · go_simp
          simp only [Act.put, List.setIfInBounds_toArray, List.set_cons_zero, List.set_cons_succ]
          refine lst_val (v := .pointer (some ⟨g, a + 2, none⟩)) (by kernel_rfl) ?_ ?_
          · go_simp
          simp only [Act.put, List.setIfInBounds_toArray, List.set_cons_zero, List.set_cons_succ]
          refine lst_val (v := .int .u8 (x2 : Int)) (by kernel_rfl) ?_ ?_
          · have c0 := K2.out
            go_simp
          simp only [Act.put, List.setIfInBounds_toArray, List.set_cons_zero, List.set_cons_succ]
          refine lst_val (v := .bool false) (by kernel_rfl) ?_ ?_
          · go_simp
          simp only [Act.put, List.setIfInBounds_toArray, List.set_cons_zero, List.set_cons_succ]
          refine lst_val (v := .bool false) (by kernel_rfl) ?_ ?_
          · go_simp
          simp only [Act.put, List.setIfInBounds_toArray, List.set_cons_zero, List.set_cons_succ]
          refine lst_val (v := .bool false) (by kernel_rfl) ?_ ?_
          · go_simp
          simp only [Act.put, List.setIfInBounds_toArray, List.set_cons_zero, List.set_cons_succ]
          refine lst_val (v := .slice (some ⟨g, a, none⟩) L cap) (by kernel_rfl) ?_ ?_
          · go_simp
          simp only [Act.put, List.setIfInBounds_toArray, List.set_cons_zero, List.set_cons_succ]
          refine lst_val (v := .pointer (some ⟨g, a + 3, none⟩)) (by kernel_rfl) ?_ ?_
          · go_simp
          simp only [Act.put, List.setIfInBounds_toArray, List.set_cons_zero, List.set_cons_succ]
          refine lst_val (v := .int .u8 (x3 : Int)) (by kernel_rfl) ?_ ?_
          · have c0 := K3.out
            go_simp
          simp only [Act.put, List.setIfInBounds_toArray, List.set_cons_zero, List.set_cons_succ]
          refine lst_val (v := .bool true) (by kernel_rfl) ?_ ?_
          · go_simp
          simp only [Act.put, List.setIfInBounds_toArray, List.set_cons_zero, List.set_cons_succ]
          go_wp2
          go_meet
          case rel => exact ⟨isB_t (p := x0 ≠ 239 ∨ x1 ≠ 0 ∨ x2 ≠ 1 ∨ x3 ≠ 1 ∨ x6 ≠ 2) (by omega), rfl⟩
      have p3 : ((x3 : Int) != 1) = false := by simp; omega
      by_cases e4 : x6 = 2
      rotate_left
      · as_aux_lemma =>
          have p4 : ((x6 : Int) != 2) = true := by simp; omega
          refine wp_region_lit ?_
          refine lst_val (v := .slice (some ⟨g, a, none⟩) L cap) (by kernel_rfl) ?_ ?_
          · go_simp
          simp only [Act.put, List.setIfInBounds_toArray, List.set_cons_zero, List.set_cons_succ]
          refine lst_val (v := .int .i64 (L : Int)) (by kernel_rfl) ?_ ?_
          · go_simp
          simp only [Act.put, List.setIfInBounds_toArray, List.set_cons_zero, List.set_cons_succ]
          refine lst_val (v := .bool false) (by kernel_rfl) ?_ ?_
          · go_simp
          simp only [Act.put, List.setIfInBounds_toArray, List.set_cons_zero, List.set_cons_succ]
          refine lst_val (v := .bool false) (by kernel_rfl) ?_ ?_
          · go_simp
          simp only [Act.put, List.setIfInBounds_toArray, List.set_cons_zero, List.set_cons_succ]
          refine lst_val (v := .slice (some ⟨g, a, none⟩) L cap) (by kernel_rfl) ?_ ?_
          · go_simp
          simp only [Act.put, List.setIfInBounds_toArray, List.set_cons_zero, List.set_cons_succ]
          refine lst_val (v := .pointer (some ⟨g, a, none⟩)) (by kernel_rfl) ?_ ?_
          · go_simp
          simp only [Act.put, List.setIfInBounds_toArray, List.set_cons_zero, List.set_cons_succ]
          refine lst_val (v := .int .u8 (x0 : Int)) (by kernel_rfl) ?_ ?_
          · have c0 := K0.out
            go_simp
          simp only [Act.put, List.setIfInBounds_toArray, List.set_cons_zero, List.set_cons_succ]
          refine lst_val (v := .bool false) (by kernel_rfl) ?_ ?_
          · go_simp
          simp only [Act.put, List.setIfInBounds_toArray, List.set_cons_zero, List.set_cons_succ]
          refine lst_val (v := .bool false) (by kernel_rfl) ?_ ?_
          · go_simp
          simp only [Act.put, List.setIfInBounds_toArray, List.set_cons_zero, List.set_cons_succ]
          refine lst_val (v := .bool false) (by kernel_rfl) ?_ ?_
          · go_simp
          simp only [Act.put, List.setIfInBounds_toArray, List.set_cons_zero, List.set_cons_succ]
          refine lst_val (v := .slice (some ⟨g, a, none⟩) L cap) (by kernel_rfl) ?_ ?_
          · go_simp
          simp only [Act.put, List.setIfInBounds_toArray, List.set_cons_zero, List.set_cons_succ]
          refine lst_val (v := .pointer (some ⟨g, a + 1, none⟩)) (by kernel_rfl) ?_ ?_
          · go_simp
          simp only [Act.put, List.setIfInBounds_toArray, List.set_cons_zero, List.set_cons_succ]
          refine lst_val (v := .int .u8 (x1 : Int)) (by kernel_rfl) ?_ ?_
          · have c0 := K1.out
            go_simp
          simp only [Act.put, List.setIfInBounds_toArray, List.set_cons_zero, List.set_cons_succ]
          refine lst_val (v := .bool false) (by kernel_rfl) ?_ ?_
          · go_simp
          simp only [Act.put, List.setIfInBounds_toArray, List.set_cons_zero, List.set_cons_succ]
          refine lst_val (v := .bool false) (by kernel_rfl) ?_ ?_
          · go_simp
          simp only [Act.put, List.setIfInBounds_toArray, List.set_cons_zero, List.set_cons_succ]
          refine lst_val (v := .bool false) (by kernel_rfl) ?_ ?_
          · go_simp
          simp only [Act.put, List.setIfInBounds_toArray, List.set_cons_zero, List.set_cons_succ]
          refine lst_val (v := .slice (some ⟨g, a, none⟩) L cap) (by kernel_rfl) ?_ ?_
          · go_simp
          simp only [Act.put, List.setIfInBounds_toArray, List.set_cons_zero, List.set_cons_succ]
          refine lst_val (v := .pointer (some ⟨g, a + 2, none⟩)) (by kernel_rfl) ?_ ?_
          · go_simp
          simp only [Act.put, List.setIfInBounds_toArray, List.set_cons_zero, List.set_cons_succ]
          refine lst_val (v := .int .u8 (x2 : Int)) (by kernel_rfl) ?_ ?_
          · have c0 := K2.out
            go_simp
          simp only [Act.put, List.setIfInBounds_toArray, List.set_cons_zero, List.set_cons_succ]
          refine lst_val (v := .bool false) (by kernel_rfl) ?_ ?_
          · go_simp
          simp only [Act.put, List.setIfInBounds_toArray, List.set_cons_zero, List.set_cons_succ]
          refine lst_val (v := .bool false) (by kernel_rfl) ?_ ?_
          · go_simp
          simp only [Act.put, List.setIfInBounds_toArray, List.set_cons_zero, List.set_cons_succ]
          refine lst_val (v := .bool false) (by kernel_rfl) ?_ ?_
          · go_simp
          simp only [Act.put, List.setIfInBounds_toArray, List.set_cons_zero, List.set_cons_succ]
          refine lst_val (v := .slice (some ⟨g, a, none⟩) L cap) (by kernel_rfl) ?_ ?_
          · go_simp
          simp only [Act.put, List.setIfInBounds_toArray, List.set_cons_zero, List.set_cons_succ]
          refine lst_val (v := .pointer (some ⟨g, a + 3, none⟩)) (by kernel_rfl) ?_ ?_
          · go_simp
          simp only [Act.put, List.setIfInBounds_toArray, List.set_cons_zero, List.set_cons_succ]
          refine lst_val (v := .int .u8 (x3 : Int)) (by kernel_rfl) ?_ ?_
          · have c0 := K3.out
            go_simp
          simp only [Act.put, List.setIfInBounds_toArray, List.set_cons_zero, List.set_cons_succ]
          refine lst_val (v := .bool false) (by kernel_rfl) ?_ ?_
          · go_simp
          simp only [Act.put, List.setIfInBounds_toArray, List.set_cons_zero, List.set_cons_succ]
          refine lst_val (v := .bool false) (by kernel_rfl) ?_ ?_
          · go_simp
          simp only [Act.put, List.setIfInBounds_toArray, List.set_cons_zero, List.set_cons_succ]
          refine lst_val (v := .bool false) (by kernel_rfl) ?_ ?_
          · go_simp
          simp only [Act.put, List.setIfInBounds_toArray, List.set_cons_zero, List.set_cons_succ]
          refine lst_val (v := .slice (some ⟨g, a, none⟩) L cap) (by kernel_rfl) ?_ ?_
          · go_simp
          simp only [Act.put, List.setIfInBounds_toArray, List.set_cons_zero, List.set_cons_succ]
          refine lst_val (v := .pointer (some ⟨g, a + 6, none⟩)) (by kernel_rfl) ?_ ?_
          · go_simp
          simp only [Act.put, List.setIfInBounds_toArray, List.set_cons_zero, List.set_cons_succ]
          refine lst_val (v := .int .u8 (x6 : Int)) (by kernel_rfl) ?_ ?_
          · have c0 := K6.out
            go_simp
          simp only [Act.put, List.setIfInBounds_toArray, List.set_cons_zero, List.set_cons_succ]
          refine lst_val (v := .bool true) (by kernel_rfl) ?_ ?_
          · go_simp
          simp only [Act.put, List.setIfInBounds_toArray, List.set_cons_zero, List.set_cons_succ]
          go_wp2
          go_meet
          case rel => exact ⟨isB_t (p := x0 ≠ 239 ∨ x1 ≠ 0 ∨ x2 ≠ 1 ∨ x3 ≠ 1 ∨ x6 ≠ 2) (by omega), rfl⟩
      have p4 : ((x6 : Int) != 2) = false := by simp; omega
      as_aux_lemma =>
        refine wp_region_lit ?_
        refine lst_val (v := .slice (some ⟨g, a, none⟩) L cap) (by kernel_rfl) ?_ ?_
        · go_simp
        simp only [Act.put, List.setIfInBounds_toArray, List.set_cons_zero, List.set_cons_succ]
        refine lst_val (v := .int .i64 (L : Int)) (by kernel_rfl) ?_ ?_
        · go_simp
        simp only [Act.put, List.setIfInBounds_toArray, List.set_cons_zero, List.set_cons_succ]
        refine lst_val (v := .bool false) (by kernel_rfl) ?_ ?_
        · go_simp
        simp only [Act.put, List.setIfInBounds_toArray, List.set_cons_zero, List.set_cons_succ]
        refine lst_val (v := .bool false) (by kernel_rfl) ?_ ?_
        · go_simp
        simp only [Act.put, List.setIfInBounds_toArray, List.set_cons_zero, List.set_cons_succ]
        refine lst_val (v := .slice (some ⟨g, a, none⟩) L cap) (by kernel_rfl) ?_ ?_
        · go_simp
        simp only [Act.put, List.setIfInBounds_toArray, List.set_cons_zero, List.set_cons_succ]
        refine lst_val (v := .pointer (some ⟨g, a, none⟩)) (by kernel_rfl) ?_ ?_
        · go_simp
        simp only [Act.put, List.setIfInBounds_toArray, List.set_cons_zero, List.set_cons_succ]
        refine lst_val (v := .int .u8 (x0 : Int)) (by kernel_rfl) ?_ ?_
        · have c0 := K0.out
          go_simp
        simp only [Act.put, List.setIfInBounds_toArray, List.set_cons_zero, List.set_cons_succ]
        refine lst_val (v := .bool false) (by kernel_rfl) ?_ ?_
        · go_simp
        simp only [Act.put, List.setIfInBounds_toArray, List.set_cons_zero, List.set_cons_succ]
        refine lst_val (v := .bool false) (by kernel_rfl) ?_ ?_
        · go_simp
        simp only [Act.put, List.setIfInBounds_toArray, List.set_cons_zero, List.set_cons_succ]
        refine lst_val (v := .bool false) (by kernel_rfl) ?_ ?_
        · go_simp
        simp only [Act.put, List.setIfInBounds_toArray, List.set_cons_zero, List.set_cons_succ]
        refine lst_val (v := .slice (some ⟨g, a, none⟩) L cap) (by kernel_rfl) ?_ ?_
        · go_simp
        simp only [Act.put, List.setIfInBounds_toArray, List.set_cons_zero, List.set_cons_succ]
        refine lst_val (v := .pointer (some ⟨g, a + 1, none⟩)) (by kernel_rfl) ?_ ?_
        · go_simp
        simp only [Act.put, List.setIfInBounds_toArray, List.set_cons_zero, List.set_cons_succ]
        refine lst_val (v := .int .u8 (x1 : Int)) (by kernel_rfl) ?_ ?_
        · have c0 := K1.out
          go_simp
        simp only [Act.put, List.setIfInBounds_toArray, List.set_cons_zero, List.set_cons_succ]
        refine lst_val (v := .bool false) (by kernel_rfl) ?_ ?_
        · go_simp
        simp only [Act.put, List.setIfInBounds_toArray, List.set_cons_zero, List.set_cons_succ]
        refine lst_val (v := .bool false) (by kernel_rfl) ?_ ?_
        · go_simp
        simp only [Act.put, List.setIfInBounds_toArray, List.set_cons_zero, List.set_cons_succ]
        refine lst_val (v := .bool false) (by kernel_rfl) ?_ ?_
        · go_simp
        simp only [Act.put, List.setIfInBounds_toArray, List.set_cons_zero, List.set_cons_succ]
        refine lst_val (v := .slice (some ⟨g, a, none⟩) L cap) (by kernel_rfl) ?_ ?_
        · go_simp
        simp only [Act.put, List.setIfInBounds_toArray, List.set_cons_zero, List.set_cons_succ]
        refine lst_val (v := .pointer (some ⟨g, a + 2, none⟩)) (by kernel_rfl) ?_ ?_
        · go_simp
        simp only [Act.put, List.setIfInBounds_toArray, List.set_cons_zero, List.set_cons_succ]
        refine lst_val (v := .int .u8 (x2 : Int)) (by kernel_rfl) ?_ ?_
        · have c0 := K2.out
          go_simp
        simp only [Act.put, List.setIfInBounds_toArray, List.set_cons_zero, List.set_cons_succ]
        refine lst_val (v := .bool false) (by kernel_rfl) ?_ ?_
        · go_simp
        simp only [Act.put, List.setIfInBounds_toArray, List.set_cons_zero, List.set_cons_succ]
        refine lst_val (v := .bool false) (by kernel_rfl) ?_ ?_
        · go_simp
        simp only [Act.put, List.setIfInBounds_toArray, List.set_cons_zero, List.set_cons_succ]
        refine lst_val (v := .bool false) (by kernel_rfl) ?_ ?_
        · go_simp
        simp only [Act.put, List.setIfInBounds_toArray, List.set_cons_zero, List.set_cons_succ]
        refine lst_val (v := .slice (some ⟨g, a, none⟩) L cap) (by kernel_rfl) ?_ ?_
        · go_simp
        simp only [Act.put, List.setIfInBounds_toArray, List.set_cons_zero, List.set_cons_succ]
        refine lst_val (v := .pointer (some ⟨g, a + 3, none⟩)) (by kernel_rfl) ?_ ?_
        · go_simp
        simp only [Act.put, List.setIfInBounds_toArray, List.set_cons_zero, List.set_cons_succ]
        refine lst_val (v := .int .u8 (x3 : Int)) (by kernel_rfl) ?_ ?_
        · have c0 := K3.out
          go_simp
        simp only [Act.put, List.setIfInBounds_toArray, List.set_cons_zero, List.set_cons_succ]
        refine lst_val (v := .bool false) (by kernel_rfl) ?_ ?_
        · go_simp
        simp only [Act.put, List.setIfInBounds_toArray, List.set_cons_zero, List.set_cons_succ]
        refine lst_val (v := .bool false) (by kernel_rfl) ?_ ?_
        · go_simp
        simp only [Act.put, List.setIfInBounds_toArray, List.set_cons_zero, List.set_cons_succ]
        refine lst_val (v := .bool false) (by kernel_rfl) ?_ ?_
        · go_simp
        simp only [Act.put, List.setIfInBounds_toArray, List.set_cons_zero, List.set_cons_succ]
        refine lst_val (v := .slice (some ⟨g, a, none⟩) L cap) (by kernel_rfl) ?_ ?_
        · go_simp
        simp only [Act.put, List.setIfInBounds_toArray, List.set_cons_zero, List.set_cons_succ]
        refine lst_val (v := .pointer (some ⟨g, a + 6, none⟩)) (by kernel_rfl) ?_ ?_
        · go_simp
        simp only [Act.put, List.setIfInBounds_toArray, List.set_cons_zero, List.set_cons_succ]
        refine lst_val (v := .int .u8 (x6 : Int)) (by kernel_rfl) ?_ ?_
        · have c0 := K6.out
          go_simp
        simp only [Act.put, List.setIfInBounds_toArray, List.set_cons_zero, List.set_cons_succ]
        refine lst_val (v := .bool false) (by kernel_rfl) ?_ ?_
        · go_simp
        simp only [Act.put, List.setIfInBounds_toArray, List.set_cons_zero, List.set_cons_succ]
        refine lst_val (v := .bool false) (by kernel_rfl) ?_ ?_
        · go_simp
        simp only [Act.put, List.setIfInBounds_toArray, List.set_cons_zero, List.set_cons_succ]
        refine wpList_nil ?_
        go_wp2
        go_meet
        case rel => exact ⟨isB_f (p := x0 ≠ 239 ∨ x1 ≠ 0 ∨ x2 ≠ 1 ∨ x3 ≠ 1 ∨ x6 ≠ 2) (by omega), rfl⟩
  case rest =>
    as_aux_lemma =>
      obtain ⟨hb, hw⟩ := hcut
      have hw2 := hw.symm
      clear hw
      subst hw2
      rcases hb.part with ⟨rfl, hq⟩ | ⟨rfl, hq⟩
      · as_aux_lemma =>
          have HBAD : Hid (x0 ≠ 239 ∨ x1 ≠ 0 ∨ x2 ≠ 1 ∨ x3 ≠ 1 ∨ x6 ≠ 2) := hq
          clear hb hq
          have k0 : W.cell? ⟨b4, 0, none⟩ = some (.int .i64 0) := M.out.c4.cell 0
          have f0 := CBox.frozen M.out.c4 0
          have y0 : W.cell? ⟨b6, 0, none⟩ = some (.int .i64 0) := M.out.c6.cell 0
          have k1 : W.cell? ⟨b4, 1, none⟩ = some (.int .i64 0) := M.out.c4.cell 1
          have f1 := CBox.frozen M.out.c4 1
          have y1 : W.cell? ⟨b6, 1, none⟩ = some (.int .i64 0) := M.out.c6.cell 1
          have k2 : W.cell? ⟨b4, 2, none⟩ = some (.int .i64 0) := M.out.c4.cell 2
          have f2 := CBox.frozen M.out.c4 2
          have y2 : W.cell? ⟨b6, 2, none⟩ = some (.int .i64 0) := M.out.c6.cell 2
          have k3 : W.cell? ⟨b4, 3, none⟩ = some (.slice none 0 0) := M.out.c4.cell 3
          have f3 := CBox.frozen M.out.c4 3
          have y3 : W.cell? ⟨b6, 3, none⟩ = some (.slice none 0 0) := M.out.c6.cell 3
          have k4 : W.cell? ⟨b4, 4, none⟩ = some (.int .i64 0) := M.out.c4.cell 4
          have f4 := CBox.frozen M.out.c4 4
          have y4 : W.cell? ⟨b6, 4, none⟩ = some (.int .i64 0) := M.out.c6.cell 4
          have k5 : W.cell? ⟨b4, 5, none⟩ = some (.int .i64 0) := M.out.c4.cell 5
          have f5 := CBox.frozen M.out.c4 5
          have y5 : W.cell? ⟨b6, 5, none⟩ = some (.int .i64 0) := M.out.c6.cell 5
          have HF : Hid (CBox ((((((W.setCell ⟨b4, 0, none⟩ (.int .i64 0)).setCell ⟨b4, 1, none⟩ (.int .i64 0)).setCell ⟨b4, 2, none⟩ (.int .i64 0)).setCell ⟨b4, 3, none⟩ (.slice none 0 0)).setCell ⟨b4, 4, none⟩ (.int .i64 0)).setCell ⟨b4, 5, none⟩ (.int .i64 0)) b4 67 [.int .i64 0, .int .i64 0, .int .i64 0, .slice none 0 0, .int .i64 0, .int .i64 0] ∧ Below w.heap.size w ((((((W.setCell ⟨b4, 0, none⟩ (.int .i64 0)).setCell ⟨b4, 1, none⟩ (.int .i64 0)).setCell ⟨b4, 2, none⟩ (.int .i64 0)).setCell ⟨b4, 3, none⟩ (.slice none 0 0)).setCell ⟨b4, 4, none⟩ (.int .i64 0)).setCell ⟨b4, 5, none⟩ (.int .i64 0))) := ⟨((((((M.out.c4.set 0 _).set 1 _).set 2 _).set 3 _).set 4 _).set 5 _), M.out.bel.trans ((((((((But.refl (fun y => y = b4) W).setCell ⟨b4, 0, none⟩ _ (Or.inl rfl)).setCell ⟨b4, 1, none⟩ _ (Or.inl rfl)).setCell ⟨b4, 2, none⟩ _ (Or.inl rfl)).setCell ⟨b4, 3, none⟩ _ (Or.inl rfl)).setCell ⟨b4, 4, none⟩ _ (Or.inl rfl)).setCell ⟨b4, 5, none⟩ _ (Or.inl rfl)).below (fun g e => by have := M.out.g4; omega) M.out.bel.size)⟩
          have HW : Hid (∀ c, prs b opn ≠ .ok c) := no_c (fun hg => by have h1 := HBAD.out; have h2 := hg.1; have h3 := h2.f0; have h4 := h2.f1; have h5 := h2.f2; have h6 := h2.f3; have h7 := h2.f6; have g0 := HX0.out; have g1 := HX1.out; have g2 := HX2.out; have g3 := HX3.out; have g6 := HX6.out; omega)
          clear M
          go_wp2
          clear k0 f0 y0 k1 f1 y1 k2 f2 y2 k3 f3 y3 k4 f4 y4 k5 f5 y5
          generalize ((((((W.setCell ⟨b4, 0, none⟩ (.int .i64 0)).setCell ⟨b4, 1, none⟩ (.int .i64 0)).setCell ⟨b4, 2, none⟩ (.int .i64 0)).setCell ⟨b4, 3, none⟩ (.slice none 0 0)).setCell ⟨b4, 4, none⟩ (.int .i64 0)).setCell ⟨b4, 5, none⟩ (.int .i64 0)) = Z9 at HF ⊢
          refine bodyPost_ret (v := .tuple #[.agg #[.int .i64 0, .int .i64 0, .int .i64 0, .slice none 0 0, .int .i64 0, .int .i64 0], .bool false]) (results_ct (p := 4) (q := 5) (ty := 67) Try.results46 _ _ _ ⟨b4, 0, none⟩ rfl rfl (run_loadVar_mid Z9 b4 0 67 [.int .i64 0, .int .i64 0, .int .i64 0, .slice none 0 0, .int .i64 0, .int .i64 0] _ HF.out.1.range Try.underlying67 rfl (by kernel_rfl))) rfl ?_
          exact ⟨Or.inl ⟨_, _, _, _, _, _, _, _, rfl, HW.out⟩, by first | exact HF.out.2 | (rw [GB.out]; exact HF.out.2) | (rw [← GB.out]; exact HF.out.2)⟩
      have HG2 : Hid (rd b 0 1 = 239 ∧ rd b 1 1 = 0 ∧ rd b 2 1 = 1 ∧ rd b 3 1 = 1 ∧ rd b 6 1 = 2) := by have g0 := HX0.out; have g1 := HX1.out; have g2 := HX2.out; have g3 := HX3.out; have g6 := HX6.out; unfold Hid; omega
      clear hb hq K0 K1 K2 K3 K6 HX0 HX1 HX2 HX3 HX6 i0 i1 i2 i3 i6 q1
      obtain ⟨n, hn⟩ : ∃ n, gN b = n := ⟨_, rfl⟩
      have HN : Hid (gN b = n) := hn
      have HN16 : Hid (n < 65536) := by rw [← hn]; exact (rd_lt2 HBY.out 7).1
      clear hn
      have T7 : Hid (∀ V : World, Below w.heap.size w V → Calls Try.prog 84 #[.slice (some ⟨g, a, none⟩) L cap, .int .i64 7] V fun e w' => e = .returned (.int .i64 (n : Int)) ∧ Below V.heap.size V w') := fun V hV => by
        have q9 := two_rd V _ b 7 (HBL.out V hV) HBY.out (by have := HL.out; have := HEL.out; omega)
        rw [show rd b 7 2 = n from HN.out] at q9
        exact q9
      go_upto_region 5 with (go_at_call 84; refine (T7.out W M.out.bel).mono ?_; rintro e w1 ⟨rfl, hB⟩; (have M1 : Hid (GrM b4 b6 w w1 [.int .i64 0, .int .i64 0, .int .i64 0, .slice none 0 0, .int .i64 0, .int .i64 0]) := M.out.past hB); (have k1 : w1.cell? ⟨b6, 1, none⟩ = some (.int .i64 0) := M1.out.c6.cell 1); (have f1 := CBox.frozen M1.out.c6 1); (clear hB))
      clear k1 f1 T7
      have M2 : Hid (GrM b4 b6 w (w1.setCell ⟨b6, 1, none⟩ (.int .i64 (n : Int))) [.int .i64 0, .int .i64 (n : Int), .int .i64 0, .slice none 0 0, .int .i64 0, .int .i64 0]) := M1.out.put 1 (.int .i64 (n : Int))
      clear M M1
      have M := M2
      clear M2
      generalize w1.setCell ⟨b6, 1, none⟩ (.int .i64 (n : Int)) = W at M ⊢
      obtain ⟨n2, hn2⟩ : ∃ n2, n2 = 2 * n := ⟨_, rfl⟩
      obtain ⟨A, hA⟩ : ∃ A, A = 9 + n2 := ⟨_, rfl⟩
      have HA : Hid (gA b = A ∧ A = 9 + 2 * n) := ⟨by show 9 + 2 * gN b = A; rw [HN.out]; omega, by omega⟩
      have r1 : (2 : Int) * (n : Int) = (n2 : Int) := by omega
      have w1' : IntKind.i64.wrap (n2 : Int) = (n2 : Int) := by rw [IntKind.wrap_i64]; have := HN16.out; omega
      have r2 : (9 : Int) + (n2 : Int) = (A : Int) := by omega
      have w2' : IntKind.i64.wrap (A : Int) = (A : Int) := by rw [IntKind.wrap_i64]; have := HN16.out; omega
      have y1 : W.cell? ⟨b6, 1, none⟩ = some (.int .i64 (n : Int)) := M.out.c6.cell 1
      clear hn2 hA
      go_upto_region 6 with fail
      clear y1 r1 w1' r2 w2'
      obtain ⟨t4, ht4⟩ : ∃ t, rd b 4 2 = t := ⟨_, rfl⟩
      have HT4 : Hid (rd b 4 2 = t4) := ht4
      have HT16 : Hid (t4 < 65536) := by rw [← ht4]; exact (rd_lt2 HBY.out 4).1
      clear ht4
      have T4 : Hid (∀ V : World, Below w.heap.size w V → Calls Try.prog 84 #[.slice (some ⟨g, a, none⟩) L cap, .int .i64 4] V fun e w' => e = .returned (.int .i64 (t4 : Int)) ∧ Below V.heap.size V w') := fun V hV => by
        have q9 := two_rd V _ b 4 (HBL.out V hV) HBY.out (by have := HL.out; have := HEL.out; omega)
        rw [show rd b 4 2 = t4 from HT4.out] at q9
        exact q9
      obtain ⟨n4, hn4⟩ : ∃ n4, n4 = 4 * n := ⟨_, rfl⟩
      obtain ⟨A1, hA1⟩ : ∃ A1, A1 = A + 1 := ⟨_, rfl⟩
      have HN4 : Hid ((4 : Int) * (n : Int) = (n4 : Int) ∧ IntKind.i64.wrap (n4 : Int) = (n4 : Int)) := ⟨by omega, by rw [IntKind.wrap_i64]; have := HN16.out; omega⟩
      have HA1 : Hid ((A : Int) + 1 = (A1 : Int) ∧ IntKind.i64.wrap (A1 : Int) = (A1 : Int)) := ⟨by omega, by rw [IntKind.wrap_i64]; have := HN16.out; have := HA.out.2; omega⟩
      clear hn4 hA1
      go_cut [77] (fun s77 wx => IsB (n < 1 ∨ 1024 < n ∨ t4 ≠ 4 * n ∨ L < A + 1) s77 ∧ GrM b4 b6 w wx [.int .i64 0, .int .i64 (n : Int), .int .i64 0, .slice none 0 0, .int .i64 0, .int .i64 0])
      case first =>
        as_aux_lemma =>
          by_cases e0 : n < 1
          · as_aux_lemma =>
              have F0 : Hid (n < 1) := e0
              have E0 : Hid ((n : Int) < 1) := by have := HA1.out; unfold Hid; omega
              clear e0
              refine wp_region_held_drew (S := fun V' => CBox V' b6 67 [.int .i64 0, .int .i64 (n : Int), .int .i64 0, .slice none 0 0, .int .i64 0, .int .i64 0]) (by kernel_rfl) (M.out.c6.past below_drew) (fun HH => ?_)
              have A6 : Hid (GrM b4 b6 w W.drew [.int .i64 0, .int .i64 (n : Int), .int .i64 0, .slice none 0 0, .int .i64 0, .int .i64 0]) := M.out.past below_drew
              clear M
              generalize W.drew = z1 at HH A6 ⊢
              refine wpAnyH_take (i := 0) (v := .pointer (some ⟨b6, 1, none⟩)) ov0 (by kernel_rfl) (by kernel_rfl) (by kernel_rfl) (fun _ _ _ h => h) (Or.inl ⟨by rfl, fun V' hS => ?_⟩) HH ?_
              · go_simp
              simp only [Act.put, List.setIfInBounds_toArray, List.set_cons_zero, List.set_cons_succ]
              refine wpAnyH_take (i := 1) (v := .int .i64 (n : Int)) ov1 (by kernel_rfl) (by kernel_rfl) (by kernel_rfl) (fun _ _ _ h => h) (Or.inl ⟨by rfl, fun V' hS => ?_⟩) HH ?_
              · have c0 := hS.cell 1
                go_simp
              simp only [Act.put, List.setIfInBounds_toArray, List.set_cons_zero, List.set_cons_succ]
              refine wpAnyH_take (i := 2) (v := .bool true) ov2 (by kernel_rfl) (by kernel_rfl) (by kernel_rfl) (fun _ _ _ h => h) (Or.inl ⟨by rfl, fun V' hS => ?_⟩) HH ?_
              · have z9 := E0.out
                go_simp
              simp only [Act.put, List.setIfInBounds_toArray, List.set_cons_zero, List.set_cons_succ]
              refine wpAnyH_take (i := 3) (v := .bool true) ov3 (by kernel_rfl) (by kernel_rfl) (by kernel_rfl) (fun _ _ _ h => h) (Or.inl ⟨by rfl, fun V' hS => ?_⟩) HH ?_
              · go_simp
              simp only [Act.put, List.setIfInBounds_toArray, List.set_cons_zero, List.set_cons_succ]
              refine wpAnyH_take (i := 4) (v := undef) ov4 (by kernel_rfl) (by kernel_rfl) (by kernel_rfl) (fun _ _ _ h => h) (Or.inr ⟨by rfl, rfl⟩) HH ?_
              simp only [Act.put, List.setIfInBounds_toArray, List.set_cons_zero, List.set_cons_succ]
              refine wpAnyH_take (i := 5) (v := undef) ov5 (by kernel_rfl) (by kernel_rfl) (by kernel_rfl) (fun _ _ _ h => h) (Or.inr ⟨by rfl, rfl⟩) HH ?_
              simp only [Act.put, List.setIfInBounds_toArray, List.set_cons_zero, List.set_cons_succ]
              refine wpAnyH_take (i := 6) (v := undef) ov6 (by kernel_rfl) (by kernel_rfl) (by kernel_rfl) (fun _ _ _ h => h) (Or.inr ⟨by rfl, rfl⟩) HH ?_
              simp only [Act.put, List.setIfInBounds_toArray, List.set_cons_zero, List.set_cons_succ]
              refine wpAnyH_take (i := 7) (v := .bool true) ov7 (by kernel_rfl) (by kernel_rfl) (by kernel_rfl) (fun _ _ _ h => h) (Or.inl ⟨by rfl, fun V' hS => ?_⟩) HH ?_
              · go_simp
              simp only [Act.put, List.setIfInBounds_toArray, List.set_cons_zero, List.set_cons_succ]
              refine wpAnyH_take (i := 8) (v := .bool true) ov8 (by kernel_rfl) (by kernel_rfl) (by kernel_rfl) (fun _ _ _ h => h) (Or.inl ⟨by rfl, fun V' hS => ?_⟩) HH ?_
              · go_simp
              simp only [Act.put, List.setIfInBounds_toArray, List.set_cons_zero, List.set_cons_succ]
              refine wpAnyH_take (i := 9) (v := undef) ov9 (by kernel_rfl) (by kernel_rfl) (by kernel_rfl) (fun _ _ _ h => h) (Or.inr ⟨by rfl, rfl⟩) HH ?_
              simp only [Act.put, List.setIfInBounds_toArray, List.set_cons_zero, List.set_cons_succ]
              refine wpAnyH_take (i := 10) (v := undef) ov10 (by kernel_rfl) (by kernel_rfl) (by kernel_rfl) (fun _ _ _ h => h) (Or.inr ⟨by rfl, rfl⟩) HH ?_
              simp only [Act.put, List.setIfInBounds_toArray, List.set_cons_zero, List.set_cons_succ]
              refine wpAnyH_take (i := 11) (v := undef) ov11 (by kernel_rfl) (by kernel_rfl) (by kernel_rfl) (fun _ _ _ h => h) (Or.inr ⟨by rfl, rfl⟩) HH ?_
              simp only [Act.put, List.setIfInBounds_toArray, List.set_cons_zero, List.set_cons_succ]
              refine wpAnyH_take (i := 12) (v := undef) ov12 (by kernel_rfl) (by kernel_rfl) (by kernel_rfl) (fun _ _ _ h => h) (Or.inr ⟨by rfl, rfl⟩) HH ?_
              simp only [Act.put, List.setIfInBounds_toArray, List.set_cons_zero, List.set_cons_succ]
              refine wpAnyH_take (i := 13) (v := undef) ov13 (by kernel_rfl) (by kernel_rfl) (by kernel_rfl) (fun _ _ _ h => h) (Or.inr ⟨by rfl, rfl⟩) HH ?_
              simp only [Act.put, List.setIfInBounds_toArray, List.set_cons_zero, List.set_cons_succ]
              refine wpAnyH_take (i := 14) (v := undef) ov14 (by kernel_rfl) (by kernel_rfl) (by kernel_rfl) (fun _ _ _ h => h) (Or.inr ⟨by rfl, rfl⟩) HH ?_
              simp only [Act.put, List.setIfInBounds_toArray, List.set_cons_zero, List.set_cons_succ]
              refine wpAnyH_take (i := 15) (v := .bool true) ov15 (by kernel_rfl) (by kernel_rfl) (by kernel_rfl) (fun _ _ _ h => h) (Or.inl ⟨by rfl, fun V' hS => ?_⟩) HH ?_
              · go_simp
              simp only [Act.put, List.setIfInBounds_toArray, List.set_cons_zero, List.set_cons_succ]
              refine wpAnyH_take (i := 16) (v := .bool true) ov16 (by kernel_rfl) (by kernel_rfl) (by kernel_rfl) (fun _ _ _ h => h) (Or.inl ⟨by rfl, fun V' hS => ?_⟩) HH ?_
              · go_simp
              simp only [Act.put, List.setIfInBounds_toArray, List.set_cons_zero, List.set_cons_succ]
              refine wpAnyH_take (i := 17) (v := undef) ov17 (by kernel_rfl) (by kernel_rfl) (by kernel_rfl) (fun _ _ _ h => h) (Or.inr ⟨by rfl, rfl⟩) HH ?_
              simp only [Act.put, List.setIfInBounds_toArray, List.set_cons_zero, List.set_cons_succ]
              refine wpAnyH_take (i := 18) (v := undef) ov18 (by kernel_rfl) (by kernel_rfl) (by kernel_rfl) (fun _ _ _ h => h) (Or.inr ⟨by rfl, rfl⟩) HH ?_
              simp only [Act.put, List.setIfInBounds_toArray, List.set_cons_zero, List.set_cons_succ]
              refine wpAnyH_take (i := 19) (v := undef) ov19 (by kernel_rfl) (by kernel_rfl) (by kernel_rfl) (fun _ _ _ h => h) (Or.inr ⟨by rfl, rfl⟩) HH ?_
              simp only [Act.put, List.setIfInBounds_toArray, List.set_cons_zero, List.set_cons_succ]
              refine wpAnyH_take (i := 20) (v := undef) ov20 (by kernel_rfl) (by kernel_rfl) (by kernel_rfl) (fun _ _ _ h => h) (Or.inr ⟨by rfl, rfl⟩) HH ?_
              simp only [Act.put, List.setIfInBounds_toArray, List.set_cons_zero, List.set_cons_succ]
              refine wpAnyH_take (i := 21) (v := undef) ov21 (by kernel_rfl) (by kernel_rfl) (by kernel_rfl) (fun _ _ _ h => h) (Or.inr ⟨by rfl, rfl⟩) HH ?_
              simp only [Act.put, List.setIfInBounds_toArray, List.set_cons_zero, List.set_cons_succ]
              refine wpAnyH_take (i := 22) (v := .bool true) ov22 (by kernel_rfl) (by kernel_rfl) (by kernel_rfl) (fun _ _ _ h => h) (Or.inl ⟨by rfl, fun V' hS => ?_⟩) HH ?_
              · go_simp
              simp only [Act.put, List.setIfInBounds_toArray, List.set_cons_zero, List.set_cons_succ]
              refine wpAnyH_done (by kernel_rfl) ?_ _
              go_wp2
              go_meet
              case rel => exact ⟨isB_t (p := n < 1 ∨ 1024 < n ∨ t4 ≠ 4 * n ∨ L < A + 1) (by have z0 := F0.out; omega), A6.out⟩
          have F0 : Hid (¬ (n < 1)) := e0
          have E0 : Hid (¬ ((n : Int) < 1)) := by have := HA1.out; unfold Hid; omega
          clear e0
          by_cases e1 : 1024 < n
          · as_aux_lemma =>
              have F1 : Hid (1024 < n) := e1
              have E1 : Hid ((1024 : Int) < (n : Int)) := by have := HA1.out; unfold Hid; omega
              clear e1
              refine wp_region_held_drew (S := fun V' => CBox V' b6 67 [.int .i64 0, .int .i64 (n : Int), .int .i64 0, .slice none 0 0, .int .i64 0, .int .i64 0]) (by kernel_rfl) (M.out.c6.past below_drew) (fun HH => ?_)
              have A6 : Hid (GrM b4 b6 w W.drew [.int .i64 0, .int .i64 (n : Int), .int .i64 0, .slice none 0 0, .int .i64 0, .int .i64 0]) := M.out.past below_drew
              clear M
              generalize W.drew = z1 at HH A6 ⊢
              refine wpAnyH_take (i := 0) (v := .pointer (some ⟨b6, 1, none⟩)) ov0 (by kernel_rfl) (by kernel_rfl) (by kernel_rfl) (fun _ _ _ h => h) (Or.inl ⟨by rfl, fun V' hS => ?_⟩) HH ?_
              · go_simp
              simp only [Act.put, List.setIfInBounds_toArray, List.set_cons_zero, List.set_cons_succ]
              refine wpAnyH_take (i := 1) (v := .int .i64 (n : Int)) ov1 (by kernel_rfl) (by kernel_rfl) (by kernel_rfl) (fun _ _ _ h => h) (Or.inl ⟨by rfl, fun V' hS => ?_⟩) HH ?_
              · have c0 := hS.cell 1
                go_simp
              simp only [Act.put, List.setIfInBounds_toArray, List.set_cons_zero, List.set_cons_succ]
              refine wpAnyH_take (i := 2) (v := .bool false) ov2 (by kernel_rfl) (by kernel_rfl) (by kernel_rfl) (fun _ _ _ h => h) (Or.inl ⟨by rfl, fun V' hS => ?_⟩) HH ?_
              · have z9 := E0.out
                go_simp
              simp only [Act.put, List.setIfInBounds_toArray, List.set_cons_zero, List.set_cons_succ]
              refine wpAnyH_take (i := 3) (v := .bool false) ov3 (by kernel_rfl) (by kernel_rfl) (by kernel_rfl) (fun _ _ _ h => h) (Or.inl ⟨by rfl, fun V' hS => ?_⟩) HH ?_
              · go_simp
              simp only [Act.put, List.setIfInBounds_toArray, List.set_cons_zero, List.set_cons_succ]
              refine wpAnyH_take (i := 4) (v := .pointer (some ⟨b6, 1, none⟩)) ov4 (by kernel_rfl) (by kernel_rfl) (by kernel_rfl) (fun _ _ _ h => h) (Or.inl ⟨by rfl, fun V' hS => ?_⟩) HH ?_
              · go_simp
              simp only [Act.put, List.setIfInBounds_toArray, List.set_cons_zero, List.set_cons_succ]
              refine wpAnyH_take (i := 5) (v := .int .i64 (n : Int)) ov5 (by kernel_rfl) (by kernel_rfl) (by kernel_rfl) (fun _ _ _ h => h) (Or.inl ⟨by rfl, fun V' hS => ?_⟩) HH ?_
              · have c0 := hS.cell 1
                go_simp
              simp only [Act.put, List.setIfInBounds_toArray, List.set_cons_zero, List.set_cons_succ]
              refine wpAnyH_take (i := 6) (v := .bool true) ov6 (by kernel_rfl) (by kernel_rfl) (by kernel_rfl) (fun _ _ _ h => h) (Or.inl ⟨by rfl, fun V' hS => ?_⟩) HH ?_
              · have z9 := E1.out
                go_simp
              simp only [Act.put, List.setIfInBounds_toArray, List.set_cons_zero, List.set_cons_succ]
              refine wpAnyH_take (i := 7) (v := .bool true) ov7 (by kernel_rfl) (by kernel_rfl) (by kernel_rfl) (fun _ _ _ h => h) (Or.inl ⟨by rfl, fun V' hS => ?_⟩) HH ?_
              · go_simp
              simp only [Act.put, List.setIfInBounds_toArray, List.set_cons_zero, List.set_cons_succ]
              refine wpAnyH_take (i := 8) (v := .bool true) ov8 (by kernel_rfl) (by kernel_rfl) (by kernel_rfl) (fun _ _ _ h => h) (Or.inl ⟨by rfl, fun V' hS => ?_⟩) HH ?_
              · go_simp
              simp only [Act.put, List.setIfInBounds_toArray, List.set_cons_zero, List.set_cons_succ]
              refine wpAnyH_take (i := 9) (v := undef) ov9 (by kernel_rfl) (by kernel_rfl) (by kernel_rfl) (fun _ _ _ h => h) (Or.inr ⟨by rfl, rfl⟩) HH ?_
              simp only [Act.put, List.setIfInBounds_toArray, List.set_cons_zero, List.set_cons_succ]
              refine wpAnyH_take (i := 10) (v := undef) ov10 (by kernel_rfl) (by kernel_rfl) (by kernel_rfl) (fun _ _ _ h => h) (Or.inr ⟨by rfl, rfl⟩) HH ?_
              simp only [Act.put, List.setIfInBounds_toArray, List.set_cons_zero, List.set_cons_succ]
              refine wpAnyH_take (i := 11) (v := undef) ov11 (by kernel_rfl) (by kernel_rfl) (by kernel_rfl) (fun _ _ _ h => h) (Or.inr ⟨by rfl, rfl⟩) HH ?_
              simp only [Act.put, List.setIfInBounds_toArray, List.set_cons_zero, List.set_cons_succ]
              refine wpAnyH_take (i := 12) (v := undef) ov12 (by kernel_rfl) (by kernel_rfl) (by kernel_rfl) (fun _ _ _ h => h) (Or.inr ⟨by rfl, rfl⟩) HH ?_
              simp only [Act.put, List.setIfInBounds_toArray, List.set_cons_zero, List.set_cons_succ]
              refine wpAnyH_take (i := 13) (v := undef) ov13 (by kernel_rfl) (by kernel_rfl) (by kernel_rfl) (fun _ _ _ h => h) (Or.inr ⟨by rfl, rfl⟩) HH ?_
              simp only [Act.put, List.setIfInBounds_toArray, List.set_cons_zero, List.set_cons_succ]
              refine wpAnyH_take (i := 14) (v := undef) ov14 (by kernel_rfl) (by kernel_rfl) (by kernel_rfl) (fun _ _ _ h => h) (Or.inr ⟨by rfl, rfl⟩) HH ?_
              simp only [Act.put, List.setIfInBounds_toArray, List.set_cons_zero, List.set_cons_succ]
              refine wpAnyH_take (i := 15) (v := .bool true) ov15 (by kernel_rfl) (by kernel_rfl) (by kernel_rfl) (fun _ _ _ h => h) (Or.inl ⟨by rfl, fun V' hS => ?_⟩) HH ?_
              · go_simp
              simp only [Act.put, List.setIfInBounds_toArray, List.set_cons_zero, List.set_cons_succ]
              refine wpAnyH_take (i := 16) (v := .bool true) ov16 (by kernel_rfl) (by kernel_rfl) (by kernel_rfl) (fun _ _ _ h => h) (Or.inl ⟨by rfl, fun V' hS => ?_⟩) HH ?_
              · go_simp
              simp only [Act.put, List.setIfInBounds_toArray, List.set_cons_zero, List.set_cons_succ]
              refine wpAnyH_take (i := 17) (v := undef) ov17 (by kernel_rfl) (by kernel_rfl) (by kernel_rfl) (fun _ _ _ h => h) (Or.inr ⟨by rfl, rfl⟩) HH ?_
              simp only [Act.put, List.setIfInBounds_toArray, List.set_cons_zero, List.set_cons_succ]
              refine wpAnyH_take (i := 18) (v := undef) ov18 (by kernel_rfl) (by kernel_rfl) (by kernel_rfl) (fun _ _ _ h => h) (Or.inr ⟨by rfl, rfl⟩) HH ?_
              simp only [Act.put, List.setIfInBounds_toArray, List.set_cons_zero, List.set_cons_succ]
              refine wpAnyH_take (i := 19) (v := undef) ov19 (by kernel_rfl) (by kernel_rfl) (by kernel_rfl) (fun _ _ _ h => h) (Or.inr ⟨by rfl, rfl⟩) HH ?_
              simp only [Act.put, List.setIfInBounds_toArray, List.set_cons_zero, List.set_cons_succ]
              refine wpAnyH_take (i := 20) (v := undef) ov20 (by kernel_rfl) (by kernel_rfl) (by kernel_rfl) (fun _ _ _ h => h) (Or.inr ⟨by rfl, rfl⟩) HH ?_
              simp only [Act.put, List.setIfInBounds_toArray, List.set_cons_zero, List.set_cons_succ]
              refine wpAnyH_take (i := 21) (v := undef) ov21 (by kernel_rfl) (by kernel_rfl) (by kernel_rfl) (fun _ _ _ h => h) (Or.inr ⟨by rfl, rfl⟩) HH ?_
              simp only [Act.put, List.setIfInBounds_toArray, List.set_cons_zero, List.set_cons_succ]
              refine wpAnyH_take (i := 22) (v := .bool true) ov22 (by kernel_rfl) (by kernel_rfl) (by kernel_rfl) (fun _ _ _ h => h) (Or.inl ⟨by rfl, fun V' hS => ?_⟩) HH ?_
              · go_simp
              simp only [Act.put, List.setIfInBounds_toArray, List.set_cons_zero, List.set_cons_succ]
              refine wpAnyH_done (by kernel_rfl) ?_ _
              go_wp2
              go_meet
              case rel => exact ⟨isB_t (p := n < 1 ∨ 1024 < n ∨ t4 ≠ 4 * n ∨ L < A + 1) (by have z0 := F0.out; have z1 := F1.out; omega), A6.out⟩
          have F1 : Hid (¬ (1024 < n)) := e1
          have E1 : Hid (¬ ((1024 : Int) < (n : Int))) := by have := HA1.out; unfold Hid; omega
          clear e1
          by_cases e2 : t4 ≠ 4 * n
          · as_aux_lemma =>
              have F2 : Hid (t4 ≠ 4 * n) := e2
              have E2 : Hid (((t4 : Int) != (n4 : Int)) = true) := by have := HA1.out; have := HN4.out; unfold Hid; simp; omega
              clear e2
              refine wp_region_held_drew (S := fun V' => CBox V' b6 67 [.int .i64 0, .int .i64 (n : Int), .int .i64 0, .slice none 0 0, .int .i64 0, .int .i64 0]) (by kernel_rfl) (M.out.c6.past below_drew) (fun HH => ?_)
              have A6 : Hid (GrM b4 b6 w W.drew [.int .i64 0, .int .i64 (n : Int), .int .i64 0, .slice none 0 0, .int .i64 0, .int .i64 0]) := M.out.past below_drew
              clear M
              generalize W.drew = z1 at HH A6 ⊢
              refine wpAnyH_take (i := 0) (v := .pointer (some ⟨b6, 1, none⟩)) ov0 (by kernel_rfl) (by kernel_rfl) (by kernel_rfl) (fun _ _ _ h => h) (Or.inl ⟨by rfl, fun V' hS => ?_⟩) HH ?_
              · go_simp
              simp only [Act.put, List.setIfInBounds_toArray, List.set_cons_zero, List.set_cons_succ]
              refine wpAnyH_take (i := 1) (v := .int .i64 (n : Int)) ov1 (by kernel_rfl) (by kernel_rfl) (by kernel_rfl) (fun _ _ _ h => h) (Or.inl ⟨by rfl, fun V' hS => ?_⟩) HH ?_
              · have c0 := hS.cell 1
                go_simp
              simp only [Act.put, List.setIfInBounds_toArray, List.set_cons_zero, List.set_cons_succ]
              refine wpAnyH_take (i := 2) (v := .bool false) ov2 (by kernel_rfl) (by kernel_rfl) (by kernel_rfl) (fun _ _ _ h => h) (Or.inl ⟨by rfl, fun V' hS => ?_⟩) HH ?_
              · have z9 := E0.out
                go_simp
              simp only [Act.put, List.setIfInBounds_toArray, List.set_cons_zero, List.set_cons_succ]
              refine wpAnyH_take (i := 3) (v := .bool false) ov3 (by kernel_rfl) (by kernel_rfl) (by kernel_rfl) (fun _ _ _ h => h) (Or.inl ⟨by rfl, fun V' hS => ?_⟩) HH ?_
              · go_simp
              simp only [Act.put, List.setIfInBounds_toArray, List.set_cons_zero, List.set_cons_succ]
              refine wpAnyH_take (i := 4) (v := .pointer (some ⟨b6, 1, none⟩)) ov4 (by kernel_rfl) (by kernel_rfl) (by kernel_rfl) (fun _ _ _ h => h) (Or.inl ⟨by rfl, fun V' hS => ?_⟩) HH ?_
              · go_simp
              simp only [Act.put, List.setIfInBounds_toArray, List.set_cons_zero, List.set_cons_succ]
              refine wpAnyH_take (i := 5) (v := .int .i64 (n : Int)) ov5 (by kernel_rfl) (by kernel_rfl) (by kernel_rfl) (fun _ _ _ h => h) (Or.inl ⟨by rfl, fun V' hS => ?_⟩) HH ?_
              · have c0 := hS.cell 1
                go_simp
              simp only [Act.put, List.setIfInBounds_toArray, List.set_cons_zero, List.set_cons_succ]
              refine wpAnyH_take (i := 6) (v := .bool false) ov6 (by kernel_rfl) (by kernel_rfl) (by kernel_rfl) (fun _ _ _ h => h) (Or.inl ⟨by rfl, fun V' hS => ?_⟩) HH ?_
              · have z9 := E1.out
                go_simp
              simp only [Act.put, List.setIfInBounds_toArray, List.set_cons_zero, List.set_cons_succ]
              refine wpAnyH_take (i := 7) (v := .bool false) ov7 (by kernel_rfl) (by kernel_rfl) (by kernel_rfl) (fun _ _ _ h => h) (Or.inl ⟨by rfl, fun V' hS => ?_⟩) HH ?_
              · go_simp
              simp only [Act.put, List.setIfInBounds_toArray, List.set_cons_zero, List.set_cons_succ]
              refine wpAnyH_take (i := 8) (v := .bool false) ov8 (by kernel_rfl) (by kernel_rfl) (by kernel_rfl) (fun _ _ _ h => h) (Or.inl ⟨by rfl, fun V' hS => ?_⟩) HH ?_
              · go_simp
              simp only [Act.put, List.setIfInBounds_toArray, List.set_cons_zero, List.set_cons_succ]
              refine wpAnyH_take (i := 9) (v := .slice (some ⟨g, a, none⟩) L cap) ov9 (by kernel_rfl) (by kernel_rfl) (by kernel_rfl) (fun _ _ _ h => h) (Or.inl ⟨by rfl, fun V' hS => ?_⟩) HH ?_
              · go_simp
              simp only [Act.put, List.setIfInBounds_toArray, List.set_cons_zero, List.set_cons_succ]
              refine wpAnyH_take (i := 11) (v := .pointer (some ⟨b6, 1, none⟩)) ov11 (by kernel_rfl) (by kernel_rfl) (by kernel_rfl) (fun _ _ _ h => h) (Or.inl ⟨by rfl, fun V' hS => ?_⟩) HH ?_
              · go_simp
              simp only [Act.put, List.setIfInBounds_toArray, List.set_cons_zero, List.set_cons_succ]
              refine wpAnyH_take (i := 12) (v := .int .i64 (n : Int)) ov12 (by kernel_rfl) (by kernel_rfl) (by kernel_rfl) (fun _ _ _ h => h) (Or.inl ⟨by rfl, fun V' hS => ?_⟩) HH ?_
              · have c0 := hS.cell 1
                go_simp
              simp only [Act.put, List.setIfInBounds_toArray, List.set_cons_zero, List.set_cons_succ]
              refine wpAnyH_take (i := 13) (v := .int .i64 (n4 : Int)) ov13 (by kernel_rfl) (by kernel_rfl) (by kernel_rfl) (fun _ _ _ h => h) (Or.inl ⟨by rfl, fun V' hS => ?_⟩) HH ?_
              · have c0 := HN4.out.1; have c1 := HN4.out.2
                go_simp
              simp only [Act.put, List.setIfInBounds_toArray, List.set_cons_zero, List.set_cons_succ]
              refine wpAnyH_ready (rs := [10]) (by kernel_rfl) (by simp) ?_
              refine AllReadyH.cons ov10 (fun K hK => ?_) AllReadyH.nil
              rw [if_pos (by rfl)]
              go_simp
              refine (T4.out _ A6.out.bel).mono ?_
              rintro e z9 ⟨rfl, hB⟩
              have q9 := A6.out.past hB
              clear A6
              have A6 : Hid _ := q9
              clear q9 hB
              (try go_wp2_with fail)
              refine hK.out _ _ A6.out.c6 (fun _ => ?_)
              clear hK K
              (try simp only [Act.put, List.setIfInBounds_toArray, List.set_cons_zero, List.set_cons_succ])
              generalize z9 = z1 at A6 ⊢
              refine wpAnyH_take (i := 14) (v := .bool true) ov14 (by kernel_rfl) (by kernel_rfl) (by kernel_rfl) (fun _ _ _ h => h) (Or.inl ⟨by rfl, fun V' hS => ?_⟩) A6.out.c6 ?_
              · have z9 := E2.out
                go_simp
              simp only [Act.put, List.setIfInBounds_toArray, List.set_cons_zero, List.set_cons_succ]
              refine wpAnyH_take (i := 15) (v := .bool true) ov15 (by kernel_rfl) (by kernel_rfl) (by kernel_rfl) (fun _ _ _ h => h) (Or.inl ⟨by rfl, fun V' hS => ?_⟩) A6.out.c6 ?_
              · go_simp
              simp only [Act.put, List.setIfInBounds_toArray, List.set_cons_zero, List.set_cons_succ]
              refine wpAnyH_take (i := 16) (v := .bool true) ov16 (by kernel_rfl) (by kernel_rfl) (by kernel_rfl) (fun _ _ _ h => h) (Or.inl ⟨by rfl, fun V' hS => ?_⟩) A6.out.c6 ?_
              · go_simp
              simp only [Act.put, List.setIfInBounds_toArray, List.set_cons_zero, List.set_cons_succ]
              refine wpAnyH_take (i := 17) (v := undef) ov17 (by kernel_rfl) (by kernel_rfl) (by kernel_rfl) (fun _ _ _ h => h) (Or.inr ⟨by rfl, rfl⟩) A6.out.c6 ?_
              simp only [Act.put, List.setIfInBounds_toArray, List.set_cons_zero, List.set_cons_succ]
              refine wpAnyH_take (i := 18) (v := undef) ov18 (by kernel_rfl) (by kernel_rfl) (by kernel_rfl) (fun _ _ _ h => h) (Or.inr ⟨by rfl, rfl⟩) A6.out.c6 ?_
              simp only [Act.put, List.setIfInBounds_toArray, List.set_cons_zero, List.set_cons_succ]
              refine wpAnyH_take (i := 19) (v := undef) ov19 (by kernel_rfl) (by kernel_rfl) (by kernel_rfl) (fun _ _ _ h => h) (Or.inr ⟨by rfl, rfl⟩) A6.out.c6 ?_
              simp only [Act.put, List.setIfInBounds_toArray, List.set_cons_zero, List.set_cons_succ]
              refine wpAnyH_take (i := 20) (v := undef) ov20 (by kernel_rfl) (by kernel_rfl) (by kernel_rfl) (fun _ _ _ h => h) (Or.inr ⟨by rfl, rfl⟩) A6.out.c6 ?_
              simp only [Act.put, List.setIfInBounds_toArray, List.set_cons_zero, List.set_cons_succ]
              refine wpAnyH_take (i := 21) (v := undef) ov21 (by kernel_rfl) (by kernel_rfl) (by kernel_rfl) (fun _ _ _ h => h) (Or.inr ⟨by rfl, rfl⟩) A6.out.c6 ?_
              simp only [Act.put, List.setIfInBounds_toArray, List.set_cons_zero, List.set_cons_succ]
              refine wpAnyH_take (i := 22) (v := .bool true) ov22 (by kernel_rfl) (by kernel_rfl) (by kernel_rfl) (fun _ _ _ h => h) (Or.inl ⟨by rfl, fun V' hS => ?_⟩) A6.out.c6 ?_
              · go_simp
              simp only [Act.put, List.setIfInBounds_toArray, List.set_cons_zero, List.set_cons_succ]
              refine wpAnyH_done (by kernel_rfl) ?_ _
              go_wp2
              go_meet
              case rel => exact ⟨isB_t (p := n < 1 ∨ 1024 < n ∨ t4 ≠ 4 * n ∨ L < A + 1) (by have z0 := F0.out; have z1 := F1.out; have z2 := F2.out; omega), A6.out⟩
          have F2 : Hid (¬ (t4 ≠ 4 * n)) := e2
          have E2 : Hid (((t4 : Int) != (n4 : Int)) = false) := by have := HA1.out; have := HN4.out; unfold Hid; simp; omega
          clear e2
          by_cases e3 : L < A + 1
          · as_aux_lemma =>
              have F3 : Hid (L < A + 1) := e3
              have E3 : Hid ((L : Int) < (A1 : Int)) := by have := HA1.out; unfold Hid; omega
              clear e3
              refine wp_region_held_drew (S := fun V' => CBox V' b6 67 [.int .i64 0, .int .i64 (n : Int), .int .i64 0, .slice none 0 0, .int .i64 0, .int .i64 0]) (by kernel_rfl) (M.out.c6.past below_drew) (fun HH => ?_)
              have A6 : Hid (GrM b4 b6 w W.drew [.int .i64 0, .int .i64 (n : Int), .int .i64 0, .slice none 0 0, .int .i64 0, .int .i64 0]) := M.out.past below_drew
              clear M
              generalize W.drew = z1 at HH A6 ⊢
              refine wpAnyH_take (i := 0) (v := .pointer (some ⟨b6, 1, none⟩)) ov0 (by kernel_rfl) (by kernel_rfl) (by kernel_rfl) (fun _ _ _ h => h) (Or.inl ⟨by rfl, fun V' hS => ?_⟩) HH ?_
              · go_simp
              simp only [Act.put, List.setIfInBounds_toArray, List.set_cons_zero, List.set_cons_succ]
              refine wpAnyH_take (i := 1) (v := .int .i64 (n : Int)) ov1 (by kernel_rfl) (by kernel_rfl) (by kernel_rfl) (fun _ _ _ h => h) (Or.inl ⟨by rfl, fun V' hS => ?_⟩) HH ?_
              · have c0 := hS.cell 1
                go_simp
              simp only [Act.put, List.setIfInBounds_toArray, List.set_cons_zero, List.set_cons_succ]
              refine wpAnyH_take (i := 2) (v := .bool false) ov2 (by kernel_rfl) (by kernel_rfl) (by kernel_rfl) (fun _ _ _ h => h) (Or.inl ⟨by rfl, fun V' hS => ?_⟩) HH ?_
              · have z9 := E0.out
                go_simp
              simp only [Act.put, List.setIfInBounds_toArray, List.set_cons_zero, List.set_cons_succ]
              refine wpAnyH_take (i := 3) (v := .bool false) ov3 (by kernel_rfl) (by kernel_rfl) (by kernel_rfl) (fun _ _ _ h => h) (Or.inl ⟨by rfl, fun V' hS => ?_⟩) HH ?_
              · go_simp
              simp only [Act.put, List.setIfInBounds_toArray, List.set_cons_zero, List.set_cons_succ]
              refine wpAnyH_take (i := 4) (v := .pointer (some ⟨b6, 1, none⟩)) ov4 (by kernel_rfl) (by kernel_rfl) (by kernel_rfl) (fun _ _ _ h => h) (Or.inl ⟨by rfl, fun V' hS => ?_⟩) HH ?_
              · go_simp
              simp only [Act.put, List.setIfInBounds_toArray, List.set_cons_zero, List.set_cons_succ]
              refine wpAnyH_take (i := 5) (v := .int .i64 (n : Int)) ov5 (by kernel_rfl) (by kernel_rfl) (by kernel_rfl) (fun _ _ _ h => h) (Or.inl ⟨by rfl, fun V' hS => ?_⟩) HH ?_
              · have c0 := hS.cell 1
                go_simp
              simp only [Act.put, List.setIfInBounds_toArray, List.set_cons_zero, List.set_cons_succ]
              refine wpAnyH_take (i := 6) (v := .bool false) ov6 (by kernel_rfl) (by kernel_rfl) (by kernel_rfl) (fun _ _ _ h => h) (Or.inl ⟨by rfl, fun V' hS => ?_⟩) HH ?_
              · have z9 := E1.out
                go_simp
              simp only [Act.put, List.setIfInBounds_toArray, List.set_cons_zero, List.set_cons_succ]
              refine wpAnyH_take (i := 7) (v := .bool false) ov7 (by kernel_rfl) (by kernel_rfl) (by kernel_rfl) (fun _ _ _ h => h) (Or.inl ⟨by rfl, fun V' hS => ?_⟩) HH ?_
              · go_simp
              simp only [Act.put, List.setIfInBounds_toArray, List.set_cons_zero, List.set_cons_succ]
              refine wpAnyH_take (i := 8) (v := .bool false) ov8 (by kernel_rfl) (by kernel_rfl) (by kernel_rfl) (fun _ _ _ h => h) (Or.inl ⟨by rfl, fun V' hS => ?_⟩) HH ?_
              · go_simp
              simp only [Act.put, List.setIfInBounds_toArray, List.set_cons_zero, List.set_cons_succ]
              refine wpAnyH_take (i := 9) (v := .slice (some ⟨g, a, none⟩) L cap) ov9 (by kernel_rfl) (by kernel_rfl) (by kernel_rfl) (fun _ _ _ h => h) (Or.inl ⟨by rfl, fun V' hS => ?_⟩) HH ?_
              · go_simp
              simp only [Act.put, List.setIfInBounds_toArray, List.set_cons_zero, List.set_cons_succ]
              refine wpAnyH_take (i := 11) (v := .pointer (some ⟨b6, 1, none⟩)) ov11 (by kernel_rfl) (by kernel_rfl) (by kernel_rfl) (fun _ _ _ h => h) (Or.inl ⟨by rfl, fun V' hS => ?_⟩) HH ?_
              · go_simp
              simp only [Act.put, List.setIfInBounds_toArray, List.set_cons_zero, List.set_cons_succ]
              refine wpAnyH_take (i := 12) (v := .int .i64 (n : Int)) ov12 (by kernel_rfl) (by kernel_rfl) (by kernel_rfl) (fun _ _ _ h => h) (Or.inl ⟨by rfl, fun V' hS => ?_⟩) HH ?_
              · have c0 := hS.cell 1
                go_simp
              simp only [Act.put, List.setIfInBounds_toArray, List.set_cons_zero, List.set_cons_succ]
              refine wpAnyH_take (i := 13) (v := .int .i64 (n4 : Int)) ov13 (by kernel_rfl) (by kernel_rfl) (by kernel_rfl) (fun _ _ _ h => h) (Or.inl ⟨by rfl, fun V' hS => ?_⟩) HH ?_
              · have c0 := HN4.out.1; have c1 := HN4.out.2
                go_simp
              simp only [Act.put, List.setIfInBounds_toArray, List.set_cons_zero, List.set_cons_succ]
              refine wpAnyH_ready (rs := [10]) (by kernel_rfl) (by simp) ?_
              refine AllReadyH.cons ov10 (fun K hK => ?_) AllReadyH.nil
              rw [if_pos (by rfl)]
              go_simp
              refine (T4.out _ A6.out.bel).mono ?_
              rintro e z9 ⟨rfl, hB⟩
              have q9 := A6.out.past hB
              clear A6
              have A6 : Hid _ := q9
              clear q9 hB
              (try go_wp2_with fail)
              refine hK.out _ _ A6.out.c6 (fun _ => ?_)
              clear hK K
              (try simp only [Act.put, List.setIfInBounds_toArray, List.set_cons_zero, List.set_cons_succ])
              generalize z9 = z1 at A6 ⊢
              refine wpAnyH_take (i := 14) (v := .bool false) ov14 (by kernel_rfl) (by kernel_rfl) (by kernel_rfl) (fun _ _ _ h => h) (Or.inl ⟨by rfl, fun V' hS => ?_⟩) A6.out.c6 ?_
              · have z9 := E2.out
                go_simp
              simp only [Act.put, List.setIfInBounds_toArray, List.set_cons_zero, List.set_cons_succ]
              refine wpAnyH_take (i := 15) (v := .bool false) ov15 (by kernel_rfl) (by kernel_rfl) (by kernel_rfl) (fun _ _ _ h => h) (Or.inl ⟨by rfl, fun V' hS => ?_⟩) A6.out.c6 ?_
              · go_simp
              simp only [Act.put, List.setIfInBounds_toArray, List.set_cons_zero, List.set_cons_succ]
              refine wpAnyH_take (i := 16) (v := .bool false) ov16 (by kernel_rfl) (by kernel_rfl) (by kernel_rfl) (fun _ _ _ h => h) (Or.inl ⟨by rfl, fun V' hS => ?_⟩) A6.out.c6 ?_
              · go_simp
              simp only [Act.put, List.setIfInBounds_toArray, List.set_cons_zero, List.set_cons_succ]
              refine wpAnyH_take (i := 17) (v := .slice (some ⟨g, a, none⟩) L cap) ov17 (by kernel_rfl) (by kernel_rfl) (by kernel_rfl) (fun _ _ _ h => h) (Or.inl ⟨by rfl, fun V' hS => ?_⟩) A6.out.c6 ?_
              · go_simp
              simp only [Act.put, List.setIfInBounds_toArray, List.set_cons_zero, List.set_cons_succ]
              refine wpAnyH_take (i := 18) (v := .int .i64 (L : Int)) ov18 (by kernel_rfl) (by kernel_rfl) (by kernel_rfl) (fun _ _ _ h => h) (Or.inl ⟨by rfl, fun V' hS => ?_⟩) A6.out.c6 ?_
              · go_simp
              simp only [Act.put, List.setIfInBounds_toArray, List.set_cons_zero, List.set_cons_succ]
              refine wpAnyH_take (i := 19) (v := .int .i64 (A : Int)) ov19 (by kernel_rfl) (by kernel_rfl) (by kernel_rfl) (fun _ _ _ h => h) (Or.inl ⟨by rfl, fun V' hS => ?_⟩) A6.out.c6 ?_
              · go_simp
              simp only [Act.put, List.setIfInBounds_toArray, List.set_cons_zero, List.set_cons_succ]
              refine wpAnyH_take (i := 20) (v := .int .i64 (A1 : Int)) ov20 (by kernel_rfl) (by kernel_rfl) (by kernel_rfl) (fun _ _ _ h => h) (Or.inl ⟨by rfl, fun V' hS => ?_⟩) A6.out.c6 ?_
              · have c0 := HA1.out.1; have c1 := HA1.out.2
                go_simp
              simp only [Act.put, List.setIfInBounds_toArray, List.set_cons_zero, List.set_cons_succ]
              refine wpAnyH_take (i := 21) (v := .bool true) ov21 (by kernel_rfl) (by kernel_rfl) (by kernel_rfl) (fun _ _ _ h => h) (Or.inl ⟨by rfl, fun V' hS => ?_⟩) A6.out.c6 ?_
              · have z9 := E3.out
                go_simp
              simp only [Act.put, List.setIfInBounds_toArray, List.set_cons_zero, List.set_cons_succ]
              refine wpAnyH_take (i := 22) (v := .bool true) ov22 (by kernel_rfl) (by kernel_rfl) (by kernel_rfl) (fun _ _ _ h => h) (Or.inl ⟨by rfl, fun V' hS => ?_⟩) A6.out.c6 ?_
              · go_simp
              simp only [Act.put, List.setIfInBounds_toArray, List.set_cons_zero, List.set_cons_succ]
              refine wpAnyH_done (by kernel_rfl) ?_ _
              go_wp2
              go_meet
              case rel => exact ⟨isB_t (p := n < 1 ∨ 1024 < n ∨ t4 ≠ 4 * n ∨ L < A + 1) (by have z0 := F0.out; have z1 := F1.out; have z2 := F2.out; have z3 := F3.out; omega), A6.out⟩
          have F3 : Hid (¬ (L < A + 1)) := e3
          have E3 : Hid (¬ ((L : Int) < (A1 : Int))) := by have := HA1.out; unfold Hid; omega
          clear e3
          as_aux_lemma =>
            refine wp_region_held_drew (S := fun V' => CBox V' b6 67 [.int .i64 0, .int .i64 (n : Int), .int .i64 0, .slice none 0 0, .int .i64 0, .int .i64 0]) (by kernel_rfl) (M.out.c6.past below_drew) (fun HH => ?_)
            have A6 : Hid (GrM b4 b6 w W.drew [.int .i64 0, .int .i64 (n : Int), .int .i64 0, .slice none 0 0, .int .i64 0, .int .i64 0]) := M.out.past below_drew
            clear M
            generalize W.drew = z1 at HH A6 ⊢
            refine wpAnyH_take (i := 0) (v := .pointer (some ⟨b6, 1, none⟩)) ov0 (by kernel_rfl) (by kernel_rfl) (by kernel_rfl) (fun _ _ _ h => h) (Or.inl ⟨by rfl, fun V' hS => ?_⟩) HH ?_
            · go_simp
            simp only [Act.put, List.setIfInBounds_toArray, List.set_cons_zero, List.set_cons_succ]
            refine wpAnyH_take (i := 1) (v := .int .i64 (n : Int)) ov1 (by kernel_rfl) (by kernel_rfl) (by kernel_rfl) (fun _ _ _ h => h) (Or.inl ⟨by rfl, fun V' hS => ?_⟩) HH ?_
            · have c0 := hS.cell 1
              go_simp
            simp only [Act.put, List.setIfInBounds_toArray, List.set_cons_zero, List.set_cons_succ]
            refine wpAnyH_take (i := 2) (v := .bool false) ov2 (by kernel_rfl) (by kernel_rfl) (by kernel_rfl) (fun _ _ _ h => h) (Or.inl ⟨by rfl, fun V' hS => ?_⟩) HH ?_
            · have z9 := E0.out
              go_simp
            simp only [Act.put, List.setIfInBounds_toArray, List.set_cons_zero, List.set_cons_succ]
            refine wpAnyH_take (i := 3) (v := .bool false) ov3 (by kernel_rfl) (by kernel_rfl) (by kernel_rfl) (fun _ _ _ h => h) (Or.inl ⟨by rfl, fun V' hS => ?_⟩) HH ?_
            · go_simp
            simp only [Act.put, List.setIfInBounds_toArray, List.set_cons_zero, List.set_cons_succ]
            refine wpAnyH_take (i := 4) (v := .pointer (some ⟨b6, 1, none⟩)) ov4 (by kernel_rfl) (by kernel_rfl) (by kernel_rfl) (fun _ _ _ h => h) (Or.inl ⟨by rfl, fun V' hS => ?_⟩) HH ?_
            · go_simp
            simp only [Act.put, List.setIfInBounds_toArray, List.set_cons_zero, List.set_cons_succ]
            refine wpAnyH_take (i := 5) (v := .int .i64 (n : Int)) ov5 (by kernel_rfl) (by kernel_rfl) (by kernel_rfl) (fun _ _ _ h => h) (Or.inl ⟨by rfl, fun V' hS => ?_⟩) HH ?_
            · have c0 := hS.cell 1
              go_simp
            simp only [Act.put, List.setIfInBounds_toArray, List.set_cons_zero, List.set_cons_succ]
            refine wpAnyH_take (i := 6) (v := .bool false) ov6 (by kernel_rfl) (by kernel_rfl) (by kernel_rfl) (fun _ _ _ h => h) (Or.inl ⟨by rfl, fun V' hS => ?_⟩) HH ?_
            · have z9 := E1.out
              go_simp
            simp only [Act.put, List.setIfInBounds_toArray, List.set_cons_zero, List.set_cons_succ]
            refine wpAnyH_take (i := 7) (v := .bool false) ov7 (by kernel_rfl) (by kernel_rfl) (by kernel_rfl) (fun _ _ _ h => h) (Or.inl ⟨by rfl, fun V' hS => ?_⟩) HH ?_
            · go_simp
            simp only [Act.put, List.setIfInBounds_toArray, List.set_cons_zero, List.set_cons_succ]
            refine wpAnyH_take (i := 8) (v := .bool false) ov8 (by kernel_rfl) (by kernel_rfl) (by kernel_rfl) (fun _ _ _ h => h) (Or.inl ⟨by rfl, fun V' hS => ?_⟩) HH ?_
            · go_simp
            simp only [Act.put, List.setIfInBounds_toArray, List.set_cons_zero, List.set_cons_succ]
            refine wpAnyH_take (i := 9) (v := .slice (some ⟨g, a, none⟩) L cap) ov9 (by kernel_rfl) (by kernel_rfl) (by kernel_rfl) (fun _ _ _ h => h) (Or.inl ⟨by rfl, fun V' hS => ?_⟩) HH ?_
            · go_simp
            simp only [Act.put, List.setIfInBounds_toArray, List.set_cons_zero, List.set_cons_succ]
            refine wpAnyH_take (i := 11) (v := .pointer (some ⟨b6, 1, none⟩)) ov11 (by kernel_rfl) (by kernel_rfl) (by kernel_rfl) (fun _ _ _ h => h) (Or.inl ⟨by rfl, fun V' hS => ?_⟩) HH ?_
            · go_simp
            simp only [Act.put, List.setIfInBounds_toArray, List.set_cons_zero, List.set_cons_succ]
            refine wpAnyH_take (i := 12) (v := .int .i64 (n : Int)) ov12 (by kernel_rfl) (by kernel_rfl) (by kernel_rfl) (fun _ _ _ h => h) (Or.inl ⟨by rfl, fun V' hS => ?_⟩) HH ?_
            · have c0 := hS.cell 1
              go_simp
            simp only [Act.put, List.setIfInBounds_toArray, List.set_cons_zero, List.set_cons_succ]
            refine wpAnyH_take (i := 13) (v := .int .i64 (n4 : Int)) ov13 (by kernel_rfl) (by kernel_rfl) (by kernel_rfl) (fun _ _ _ h => h) (Or.inl ⟨by rfl, fun V' hS => ?_⟩) HH ?_
            · have c0 := HN4.out.1; have c1 := HN4.out.2
              go_simp
            simp only [Act.put, List.setIfInBounds_toArray, List.set_cons_zero, List.set_cons_succ]
            refine wpAnyH_ready (rs := [10]) (by kernel_rfl) (by simp) ?_
            refine AllReadyH.cons ov10 (fun K hK => ?_) AllReadyH.nil
            rw [if_pos (by rfl)]
            go_simp
            refine (T4.out _ A6.out.bel).mono ?_
            rintro e z9 ⟨rfl, hB⟩
            have q9 := A6.out.past hB
            clear A6
            have A6 : Hid _ := q9
            clear q9 hB
            (try go_wp2_with fail)
            refine hK.out _ _ A6.out.c6 (fun _ => ?_)
            clear hK K
            (try simp only [Act.put, List.setIfInBounds_toArray, List.set_cons_zero, List.set_cons_succ])
            generalize z9 = z1 at A6 ⊢
            refine wpAnyH_take (i := 14) (v := .bool false) ov14 (by kernel_rfl) (by kernel_rfl) (by kernel_rfl) (fun _ _ _ h => h) (Or.inl ⟨by rfl, fun V' hS => ?_⟩) A6.out.c6 ?_
            · have z9 := E2.out
              go_simp
            simp only [Act.put, List.setIfInBounds_toArray, List.set_cons_zero, List.set_cons_succ]
            refine wpAnyH_take (i := 15) (v := .bool false) ov15 (by kernel_rfl) (by kernel_rfl) (by kernel_rfl) (fun _ _ _ h => h) (Or.inl ⟨by rfl, fun V' hS => ?_⟩) A6.out.c6 ?_
            · go_simp
            simp only [Act.put, List.setIfInBounds_toArray, List.set_cons_zero, List.set_cons_succ]
            refine wpAnyH_take (i := 16) (v := .bool false) ov16 (by kernel_rfl) (by kernel_rfl) (by kernel_rfl) (fun _ _ _ h => h) (Or.inl ⟨by rfl, fun V' hS => ?_⟩) A6.out.c6 ?_
            · go_simp
            simp only [Act.put, List.setIfInBounds_toArray, List.set_cons_zero, List.set_cons_succ]
            refine wpAnyH_take (i := 17) (v := .slice (some ⟨g, a, none⟩) L cap) ov17 (by kernel_rfl) (by kernel_rfl) (by kernel_rfl) (fun _ _ _ h => h) (Or.inl ⟨by rfl, fun V' hS => ?_⟩) A6.out.c6 ?_
            · go_simp
            simp only [Act.put, List.setIfInBounds_toArray, List.set_cons_zero, List.set_cons_succ]
            refine wpAnyH_take (i := 18) (v := .int .i64 (L : Int)) ov18 (by kernel_rfl) (by kernel_rfl) (by kernel_rfl) (fun _ _ _ h => h) (Or.inl ⟨by rfl, fun V' hS => ?_⟩) A6.out.c6 ?_
            · go_simp
            simp only [Act.put, List.setIfInBounds_toArray, List.set_cons_zero, List.set_cons_succ]
            refine wpAnyH_take (i := 19) (v := .int .i64 (A : Int)) ov19 (by kernel_rfl) (by kernel_rfl) (by kernel_rfl) (fun _ _ _ h => h) (Or.inl ⟨by rfl, fun V' hS => ?_⟩) A6.out.c6 ?_
            · go_simp
            simp only [Act.put, List.setIfInBounds_toArray, List.set_cons_zero, List.set_cons_succ]
            refine wpAnyH_take (i := 20) (v := .int .i64 (A1 : Int)) ov20 (by kernel_rfl) (by kernel_rfl) (by kernel_rfl) (fun _ _ _ h => h) (Or.inl ⟨by rfl, fun V' hS => ?_⟩) A6.out.c6 ?_
            · have c0 := HA1.out.1; have c1 := HA1.out.2
              go_simp
            simp only [Act.put, List.setIfInBounds_toArray, List.set_cons_zero, List.set_cons_succ]
            refine wpAnyH_take (i := 21) (v := .bool false) ov21 (by kernel_rfl) (by kernel_rfl) (by kernel_rfl) (fun _ _ _ h => h) (Or.inl ⟨by rfl, fun V' hS => ?_⟩) A6.out.c6 ?_
            · have z9 := E3.out; have z8 : A1 ≤ L := by omega
              go_simp
            simp only [Act.put, List.setIfInBounds_toArray, List.set_cons_zero, List.set_cons_succ]
            refine wpAnyH_take (i := 22) (v := .bool false) ov22 (by kernel_rfl) (by kernel_rfl) (by kernel_rfl) (fun _ _ _ h => h) (Or.inl ⟨by rfl, fun V' hS => ?_⟩) A6.out.c6 ?_
            · go_simp
            simp only [Act.put, List.setIfInBounds_toArray, List.set_cons_zero, List.set_cons_succ]
            refine wpAnyH_done (by kernel_rfl) ?_ _
            go_wp2
            go_meet
            case rel => exact ⟨isB_f (p := n < 1 ∨ 1024 < n ∨ t4 ≠ 4 * n ∨ L < A + 1) (by have z0 := F0.out; have z1 := F1.out; have z2 := F2.out; have z3 := F3.out; omega), A6.out⟩
      case rest =>
        as_aux_lemma =>
          obtain ⟨hb, hM⟩ := hcut
          clear M
          have M : Hid (GrM b4 b6 w wc [.int .i64 0, .int .i64 (n : Int), .int .i64 0, .slice none 0 0, .int .i64 0, .int .i64 0]) := hM
          clear hM
          rcases hb.part with ⟨rfl, hq⟩ | ⟨rfl, hq⟩
          · as_aux_lemma =>
              have HBAD : Hid (n < 1 ∨ 1024 < n ∨ t4 ≠ 4 * n ∨ L < A + 1) := hq
              clear hb hq
              have k0 : wc.cell? ⟨b4, 0, none⟩ = some (.int .i64 0) := M.out.c4.cell 0
              have f0 := CBox.frozen M.out.c4 0
              have y0 : wc.cell? ⟨b6, 0, none⟩ = some (.int .i64 0) := M.out.c6.cell 0
              have k1 : wc.cell? ⟨b4, 1, none⟩ = some (.int .i64 0) := M.out.c4.cell 1
              have f1 := CBox.frozen M.out.c4 1
              have y1 : wc.cell? ⟨b6, 1, none⟩ = some (.int .i64 (n : Int)) := M.out.c6.cell 1
              have k2 : wc.cell? ⟨b4, 2, none⟩ = some (.int .i64 0) := M.out.c4.cell 2
              have f2 := CBox.frozen M.out.c4 2
              have y2 : wc.cell? ⟨b6, 2, none⟩ = some (.int .i64 0) := M.out.c6.cell 2
              have k3 : wc.cell? ⟨b4, 3, none⟩ = some (.slice none 0 0) := M.out.c4.cell 3
              have f3 := CBox.frozen M.out.c4 3
              have y3 : wc.cell? ⟨b6, 3, none⟩ = some (.slice none 0 0) := M.out.c6.cell 3
              have k4 : wc.cell? ⟨b4, 4, none⟩ = some (.int .i64 0) := M.out.c4.cell 4
              have f4 := CBox.frozen M.out.c4 4
              have y4 : wc.cell? ⟨b6, 4, none⟩ = some (.int .i64 0) := M.out.c6.cell 4
              have k5 : wc.cell? ⟨b4, 5, none⟩ = some (.int .i64 0) := M.out.c4.cell 5
              have f5 := CBox.frozen M.out.c4 5
              have y5 : wc.cell? ⟨b6, 5, none⟩ = some (.int .i64 0) := M.out.c6.cell 5
              have HF : Hid (CBox ((((((wc.setCell ⟨b4, 0, none⟩ (.int .i64 0)).setCell ⟨b4, 1, none⟩ (.int .i64 (n : Int))).setCell ⟨b4, 2, none⟩ (.int .i64 0)).setCell ⟨b4, 3, none⟩ (.slice none 0 0)).setCell ⟨b4, 4, none⟩ (.int .i64 0)).setCell ⟨b4, 5, none⟩ (.int .i64 0)) b4 67 [.int .i64 0, .int .i64 (n : Int), .int .i64 0, .slice none 0 0, .int .i64 0, .int .i64 0] ∧ Below w.heap.size w ((((((wc.setCell ⟨b4, 0, none⟩ (.int .i64 0)).setCell ⟨b4, 1, none⟩ (.int .i64 (n : Int))).setCell ⟨b4, 2, none⟩ (.int .i64 0)).setCell ⟨b4, 3, none⟩ (.slice none 0 0)).setCell ⟨b4, 4, none⟩ (.int .i64 0)).setCell ⟨b4, 5, none⟩ (.int .i64 0))) := ⟨((((((M.out.c4.set 0 _).set 1 _).set 2 _).set 3 _).set 4 _).set 5 _), M.out.bel.trans ((((((((But.refl (fun y => y = b4) wc).setCell ⟨b4, 0, none⟩ _ (Or.inl rfl)).setCell ⟨b4, 1, none⟩ _ (Or.inl rfl)).setCell ⟨b4, 2, none⟩ _ (Or.inl rfl)).setCell ⟨b4, 3, none⟩ _ (Or.inl rfl)).setCell ⟨b4, 4, none⟩ _ (Or.inl rfl)).setCell ⟨b4, 5, none⟩ _ (Or.inl rfl)).below (fun g e => by have := M.out.g4; omega) M.out.bel.size)⟩
              have HW : Hid (∀ c, prs b opn ≠ .ok c) := no_c (fun hg => by have h1 := HBAD.out; have h2 := hg.1; have h3 := h2.n1; have h4 := h2.n2; have h5 := h2.n4; have h6 := h2.le; have h7 := HN.out; have h8 := HT4.out; have h9 := HA.out; have h0 := HL.out; have hx : gA b ≤ gE b := (by unfold gE; split <;> omega); omega)
              clear M
              go_wp2
              clear k0 f0 y0 k1 f1 y1 k2 f2 y2 k3 f3 y3 k4 f4 y4 k5 f5 y5
              generalize ((((((wc.setCell ⟨b4, 0, none⟩ (.int .i64 0)).setCell ⟨b4, 1, none⟩ (.int .i64 (n : Int))).setCell ⟨b4, 2, none⟩ (.int .i64 0)).setCell ⟨b4, 3, none⟩ (.slice none 0 0)).setCell ⟨b4, 4, none⟩ (.int .i64 0)).setCell ⟨b4, 5, none⟩ (.int .i64 0)) = Z9 at HF ⊢
              refine bodyPost_ret (v := .tuple #[.agg #[.int .i64 0, .int .i64 (n : Int), .int .i64 0, .slice none 0 0, .int .i64 0, .int .i64 0], .bool false]) (results_ct (p := 4) (q := 5) (ty := 67) Try.results46 _ _ _ ⟨b4, 0, none⟩ rfl rfl (run_loadVar_mid Z9 b4 0 67 [.int .i64 0, .int .i64 (n : Int), .int .i64 0, .slice none 0 0, .int .i64 0, .int .i64 0] _ HF.out.1.range Try.underlying67 rfl (by kernel_rfl))) rfl ?_
              exact ⟨Or.inl ⟨_, _, _, _, _, _, _, _, rfl, HW.out⟩, by first | exact HF.out.2 | (rw [GB.out]; exact HF.out.2) | (rw [← GB.out]; exact HF.out.2)⟩
          have HG6 : Hid (¬ (n < 1 ∨ 1024 < n ∨ t4 ≠ 4 * n ∨ L < A + 1)) := hq
          clear hb hq
          obtain ⟨A3, hA3⟩ : ∃ A3, A3 = A + 3 := ⟨_, rfl⟩
          have HA3 : Hid (A3 = A + 3) := hA3
          have r3 : (A : Int) + 3 = (A3 : Int) := by omega
          have w3 : IntKind.i64.wrap (A3 : Int) = (A3 : Int) := by rw [IntKind.wrap_i64]; have := HN16.out; have := HA.out.2; omega
          clear hA3
          go_upto_region 9 with fail
          clear r3 w3
          have HAL : Hid (A < L) := by have := HG6.out; unfold Hid; omega
          obtain ⟨xA, hxA⟩ : ∃ x, b[A]? = some x := ⟨b[A]'(by have := HL.out; have := HAL.out; omega), List.getElem?_eq_getElem _⟩
          have HXA : Hid (rd b A 1 = xA) := rd1 hxA
          have KA : wc.cell? ⟨g, a + A, none⟩ = some (.int .u8 (xA : Int)) := HCE.out wc A xA M.out.bel hxA
          have iA : (A : Int) < (L : Int) := by have := HAL.out; omega
          have iAB : (A : Int) < 1152921504606846976 := by have := HN16.out; have := HA.out.2; omega
          clear hxA
          go_upto_if 85 with fail
          clear KA iA iAB
          go_cut [7] (fun s7 wx => ∃ (E m : Nat), s7 = .int .i64 (E : Int) ∧ (gE b = E ∧ gM b = m ∧ (rd b A 1 = 3 → 1 ≤ m ∧ m ≤ 256 ∧ E = A3 + 4 * m) ∧ (¬ rd b A 1 = 3 → m = 0 ∧ E = A)) ∧ GrM b4 b6 w wx [.int .i64 0, .int .i64 (n : Int), .int .i64 (m : Int), .slice none 0 0, .int .i64 0, .int .i64 0])
          case first =>
            as_aux_lemma =>
              by_cases e3 : xA = 3
              rotate_left
              · as_aux_lemma =>
                  have qe : ((xA : Int) == 3) = false := by simp; omega
                  have H3 : Hid (¬ rd b A 1 = 3) := by have := HXA.out; unfold Hid; omega
                  clear e3
                  have M2 : Hid (GrM b4 b6 w wc [.int .i64 0, .int .i64 (n : Int), .int .i64 ((0 : Nat) : Int), .slice none 0 0, .int .i64 0, .int .i64 0]) := M.out
                  clear M
                  go_wp2
                  go_meet
                  case rel => exact ⟨A, 0, rfl, ⟨by unfold gE; rw [HA.out.1, if_neg H3.out], by unfold gM; rw [HA.out.1, if_neg H3.out], fun e => absurd e H3.out, fun _ => ⟨rfl, rfl⟩⟩, M2.out⟩
              have qe : ((xA : Int) == 3) = true := by simp; omega
              have H3 : Hid (rd b A 1 = 3) := by have := HXA.out; unfold Hid; omega
              clear e3
              by_cases eS : L < A3
              · as_aux_lemma =>
                  have qs : (L : Int) < (A3 : Int) := by omega
                  have HS : Hid (L < A3) := eS
                  clear eS
                  have k0 : wc.cell? ⟨b4, 0, none⟩ = some (.int .i64 0) := M.out.c4.cell 0
                  have f0 := CBox.frozen M.out.c4 0
                  have y0 : wc.cell? ⟨b6, 0, none⟩ = some (.int .i64 0) := M.out.c6.cell 0
                  have k1 : wc.cell? ⟨b4, 1, none⟩ = some (.int .i64 0) := M.out.c4.cell 1
                  have f1 := CBox.frozen M.out.c4 1
                  have y1 : wc.cell? ⟨b6, 1, none⟩ = some (.int .i64 (n : Int)) := M.out.c6.cell 1
                  have k2 : wc.cell? ⟨b4, 2, none⟩ = some (.int .i64 0) := M.out.c4.cell 2
                  have f2 := CBox.frozen M.out.c4 2
                  have y2 : wc.cell? ⟨b6, 2, none⟩ = some (.int .i64 0) := M.out.c6.cell 2
                  have k3 : wc.cell? ⟨b4, 3, none⟩ = some (.slice none 0 0) := M.out.c4.cell 3
                  have f3 := CBox.frozen M.out.c4 3
                  have y3 : wc.cell? ⟨b6, 3, none⟩ = some (.slice none 0 0) := M.out.c6.cell 3
                  have k4 : wc.cell? ⟨b4, 4, none⟩ = some (.int .i64 0) := M.out.c4.cell 4
                  have f4 := CBox.frozen M.out.c4 4
                  have y4 : wc.cell? ⟨b6, 4, none⟩ = some (.int .i64 0) := M.out.c6.cell 4
                  have k5 : wc.cell? ⟨b4, 5, none⟩ = some (.int .i64 0) := M.out.c4.cell 5
                  have f5 := CBox.frozen M.out.c4 5
                  have y5 : wc.cell? ⟨b6, 5, none⟩ = some (.int .i64 0) := M.out.c6.cell 5
                  have HF : Hid (CBox ((((((wc.setCell ⟨b4, 0, none⟩ (.int .i64 0)).setCell ⟨b4, 1, none⟩ (.int .i64 (n : Int))).setCell ⟨b4, 2, none⟩ (.int .i64 0)).setCell ⟨b4, 3, none⟩ (.slice none 0 0)).setCell ⟨b4, 4, none⟩ (.int .i64 0)).setCell ⟨b4, 5, none⟩ (.int .i64 0)) b4 67 [.int .i64 0, .int .i64 (n : Int), .int .i64 0, .slice none 0 0, .int .i64 0, .int .i64 0] ∧ Below w.heap.size w ((((((wc.setCell ⟨b4, 0, none⟩ (.int .i64 0)).setCell ⟨b4, 1, none⟩ (.int .i64 (n : Int))).setCell ⟨b4, 2, none⟩ (.int .i64 0)).setCell ⟨b4, 3, none⟩ (.slice none 0 0)).setCell ⟨b4, 4, none⟩ (.int .i64 0)).setCell ⟨b4, 5, none⟩ (.int .i64 0))) := ⟨((((((M.out.c4.set 0 _).set 1 _).set 2 _).set 3 _).set 4 _).set 5 _), M.out.bel.trans ((((((((But.refl (fun y => y = b4) wc).setCell ⟨b4, 0, none⟩ _ (Or.inl rfl)).setCell ⟨b4, 1, none⟩ _ (Or.inl rfl)).setCell ⟨b4, 2, none⟩ _ (Or.inl rfl)).setCell ⟨b4, 3, none⟩ _ (Or.inl rfl)).setCell ⟨b4, 4, none⟩ _ (Or.inl rfl)).setCell ⟨b4, 5, none⟩ _ (Or.inl rfl)).below (fun g e => by have := M.out.g4; omega) M.out.bel.size)⟩
                  have HW : Hid (∀ c, prs b opn ≠ .ok c) := no_c (fun hg => by have h9 := HA.out; have h0 := HL.out; have g3 := HA3.out; have h1 := hg.1; have h2 := h1.le; have h3 := h1.m1; have eM : gM b = rd b (A + 1) 2 := (by unfold gM; rw [h9.1, if_pos H3.out]); have eE : gE b = A + 3 + 4 * gM b := (by unfold gE; rw [h9.1, if_pos H3.out]); rw [h9.1] at h3; have h4 := h3 H3.out; have h5 := HS.out; omega)
                  clear M
                  go_wp2
                  clear k0 f0 y0 k1 f1 y1 k2 f2 y2 k3 f3 y3 k4 f4 y4 k5 f5 y5
                  generalize ((((((wc.setCell ⟨b4, 0, none⟩ (.int .i64 0)).setCell ⟨b4, 1, none⟩ (.int .i64 (n : Int))).setCell ⟨b4, 2, none⟩ (.int .i64 0)).setCell ⟨b4, 3, none⟩ (.slice none 0 0)).setCell ⟨b4, 4, none⟩ (.int .i64 0)).setCell ⟨b4, 5, none⟩ (.int .i64 0)) = Z9 at HF ⊢
                  refine bodyPost_ret (v := .tuple #[.agg #[.int .i64 0, .int .i64 (n : Int), .int .i64 0, .slice none 0 0, .int .i64 0, .int .i64 0], .bool false]) (results_ct (p := 4) (q := 5) (ty := 67) Try.results46 _ _ _ ⟨b4, 0, none⟩ rfl rfl (run_loadVar_mid Z9 b4 0 67 [.int .i64 0, .int .i64 (n : Int), .int .i64 0, .slice none 0 0, .int .i64 0, .int .i64 0] _ HF.out.1.range Try.underlying67 rfl (by kernel_rfl))) rfl ?_
                  exact ⟨Or.inl ⟨_, _, _, _, _, _, _, _, rfl, HW.out⟩, by first | exact HF.out.2 | (rw [GB.out]; exact HF.out.2) | (rw [← GB.out]; exact HF.out.2)⟩
              have qs : ¬ (L : Int) < (A3 : Int) := by omega
              have HS : Hid (A3 ≤ L) := by unfold Hid; omega
              clear eS
              obtain ⟨B1, hB1⟩ : ∃ B1, B1 = A + 1 := ⟨_, rfl⟩
              obtain ⟨m, hm⟩ : ∃ m, rd b B1 2 = m := ⟨_, rfl⟩
              have HB1 : Hid (B1 = A + 1) := hB1
              have HMM : Hid (rd b B1 2 = m ∧ m < 65536) := ⟨hm, by rw [← hm]; exact (rd_lt2 HBY.out B1).1⟩
              have s1 : (A : Int) + 1 = (B1 : Int) := by omega
              have s2 : IntKind.i64.wrap (B1 : Int) = (B1 : Int) := by rw [IntKind.wrap_i64]; have := HN16.out; have := HA.out.2; omega
              clear hB1 hm
              have TM : Hid (∀ V : World, Below w.heap.size w V → Calls Try.prog 84 #[.slice (some ⟨g, a, none⟩) L cap, .int .i64 (B1 : Int)] V fun e w' => e = .returned (.int .i64 (m : Int)) ∧ Below V.heap.size V w') := fun V hV => by
                have q9 := two_rd V _ b B1 (HBL.out V hV) HBY.out (by have := HL.out; have := HEL.out; have := HS.out; have := HA3.out; have := HB1.out; omega)
                rw [HMM.out.1] at q9
                exact q9
              go_upto_region 13 with (go_at_call 84; refine (TM.out wc M.out.bel).mono ?_; rintro e w5 ⟨rfl, hB⟩; (have M1 : Hid (GrM b4 b6 w w5 [.int .i64 0, .int .i64 (n : Int), .int .i64 0, .slice none 0 0, .int .i64 0, .int .i64 0]) := M.out.past hB); (have k2 : w5.cell? ⟨b6, 2, none⟩ = some (.int .i64 0) := M1.out.c6.cell 2); (have f2 := CBox.frozen M1.out.c6 2); (clear hB))
              clear k2 f2 qs s1 s2 TM
              have M2 : Hid (GrM b4 b6 w (w5.setCell ⟨b6, 2, none⟩ (.int .i64 (m : Int))) [.int .i64 0, .int .i64 (n : Int), .int .i64 (m : Int), .slice none 0 0, .int .i64 0, .int .i64 0]) := M1.out.put 2 (.int .i64 (m : Int))
              clear M M1
              generalize w5.setCell ⟨b6, 2, none⟩ (.int .i64 (m : Int)) = W5 at M2 ⊢
              have M := M2
              clear M2
              obtain ⟨m4, hm4⟩ : ∃ m4, m4 = 4 * m := ⟨_, rfl⟩
              obtain ⟨E, hE⟩ : ∃ E, E = A3 + m4 := ⟨_, rfl⟩
              have HE : Hid (E = A3 + 4 * m) := by unfold Hid; omega
              have t1 : (4 : Int) * (m : Int) = (m4 : Int) := by omega
              have t2 : IntKind.i64.wrap (m4 : Int) = (m4 : Int) := by rw [IntKind.wrap_i64]; have := HMM.out.2; omega
              have t3 : (A3 : Int) + (m4 : Int) = (E : Int) := by omega
              have t4' : IntKind.i64.wrap (E : Int) = (E : Int) := by rw [IntKind.wrap_i64]; have := HMM.out.2; have := HN16.out; have := HA.out.2; have := HA3.out; omega
              have y2 : W5.cell? ⟨b6, 2, none⟩ = some (.int .i64 (m : Int)) := M.out.c6.cell 2
              clear hm4 hE
              go_upto_region 14 with fail
              clear t1 t2 t3 t4'
              by_cases em : m < 1
              · as_aux_lemma =>
                  have qm : (m : Int) < 1 := by omega
                  have HQ : Hid (m < 1) := em
                  clear em
                  have k0 : W5.cell? ⟨b4, 0, none⟩ = some (.int .i64 0) := M.out.c4.cell 0
                  have f0 := CBox.frozen M.out.c4 0
                  have y0 : W5.cell? ⟨b6, 0, none⟩ = some (.int .i64 0) := M.out.c6.cell 0
                  have k1 : W5.cell? ⟨b4, 1, none⟩ = some (.int .i64 0) := M.out.c4.cell 1
                  have f1 := CBox.frozen M.out.c4 1
                  have y1 : W5.cell? ⟨b6, 1, none⟩ = some (.int .i64 (n : Int)) := M.out.c6.cell 1
                  have k2 : W5.cell? ⟨b4, 2, none⟩ = some (.int .i64 0) := M.out.c4.cell 2
                  have f2 := CBox.frozen M.out.c4 2
                  have y2 : W5.cell? ⟨b6, 2, none⟩ = some (.int .i64 (m : Int)) := M.out.c6.cell 2
                  have k3 : W5.cell? ⟨b4, 3, none⟩ = some (.slice none 0 0) := M.out.c4.cell 3
                  have f3 := CBox.frozen M.out.c4 3
                  have y3 : W5.cell? ⟨b6, 3, none⟩ = some (.slice none 0 0) := M.out.c6.cell 3
                  have k4 : W5.cell? ⟨b4, 4, none⟩ = some (.int .i64 0) := M.out.c4.cell 4
                  have f4 := CBox.frozen M.out.c4 4
                  have y4 : W5.cell? ⟨b6, 4, none⟩ = some (.int .i64 0) := M.out.c6.cell 4
                  have k5 : W5.cell? ⟨b4, 5, none⟩ = some (.int .i64 0) := M.out.c4.cell 5
                  have f5 := CBox.frozen M.out.c4 5
                  have y5 : W5.cell? ⟨b6, 5, none⟩ = some (.int .i64 0) := M.out.c6.cell 5
                  have HF : Hid (CBox ((((((W5.setCell ⟨b4, 0, none⟩ (.int .i64 0)).setCell ⟨b4, 1, none⟩ (.int .i64 (n : Int))).setCell ⟨b4, 2, none⟩ (.int .i64 (m : Int))).setCell ⟨b4, 3, none⟩ (.slice none 0 0)).setCell ⟨b4, 4, none⟩ (.int .i64 0)).setCell ⟨b4, 5, none⟩ (.int .i64 0)) b4 67 [.int .i64 0, .int .i64 (n : Int), .int .i64 (m : Int), .slice none 0 0, .int .i64 0, .int .i64 0] ∧ Below w.heap.size w ((((((W5.setCell ⟨b4, 0, none⟩ (.int .i64 0)).setCell ⟨b4, 1, none⟩ (.int .i64 (n : Int))).setCell ⟨b4, 2, none⟩ (.int .i64 (m : Int))).setCell ⟨b4, 3, none⟩ (.slice none 0 0)).setCell ⟨b4, 4, none⟩ (.int .i64 0)).setCell ⟨b4, 5, none⟩ (.int .i64 0))) := ⟨((((((M.out.c4.set 0 _).set 1 _).set 2 _).set 3 _).set 4 _).set 5 _), M.out.bel.trans ((((((((But.refl (fun y => y = b4) W5).setCell ⟨b4, 0, none⟩ _ (Or.inl rfl)).setCell ⟨b4, 1, none⟩ _ (Or.inl rfl)).setCell ⟨b4, 2, none⟩ _ (Or.inl rfl)).setCell ⟨b4, 3, none⟩ _ (Or.inl rfl)).setCell ⟨b4, 4, none⟩ _ (Or.inl rfl)).setCell ⟨b4, 5, none⟩ _ (Or.inl rfl)).below (fun g e => by have := M.out.g4; omega) M.out.bel.size)⟩
                  have HW : Hid (∀ c, prs b opn ≠ .ok c) := no_c (fun hg => by have h9 := HA.out; have h0 := HL.out; have g3 := HA3.out; have h1 := hg.1; have h2 := h1.le; have h3 := h1.m1; have eM : gM b = rd b (A + 1) 2 := (by unfold gM; rw [h9.1, if_pos H3.out]); have eE : gE b = A + 3 + 4 * gM b := (by unfold gE; rw [h9.1, if_pos H3.out]); rw [h9.1] at h3; have h4 := h3 H3.out; have h5 := HQ.out; have h6 := HMM.out.1; have h7 := HB1.out; rw [h7] at h6; omega)
                  clear M
                  go_wp2
                  clear k0 f0 y0 k1 f1 y1 k2 f2 y2 k3 f3 y3 k4 f4 y4 k5 f5 y5
                  generalize ((((((W5.setCell ⟨b4, 0, none⟩ (.int .i64 0)).setCell ⟨b4, 1, none⟩ (.int .i64 (n : Int))).setCell ⟨b4, 2, none⟩ (.int .i64 (m : Int))).setCell ⟨b4, 3, none⟩ (.slice none 0 0)).setCell ⟨b4, 4, none⟩ (.int .i64 0)).setCell ⟨b4, 5, none⟩ (.int .i64 0)) = Z9 at HF ⊢
                  refine bodyPost_ret (v := .tuple #[.agg #[.int .i64 0, .int .i64 (n : Int), .int .i64 (m : Int), .slice none 0 0, .int .i64 0, .int .i64 0], .bool false]) (results_ct (p := 4) (q := 5) (ty := 67) Try.results46 _ _ _ ⟨b4, 0, none⟩ rfl rfl (run_loadVar_mid Z9 b4 0 67 [.int .i64 0, .int .i64 (n : Int), .int .i64 (m : Int), .slice none 0 0, .int .i64 0, .int .i64 0] _ HF.out.1.range Try.underlying67 rfl (by kernel_rfl))) rfl ?_
                  exact ⟨Or.inl ⟨_, _, _, _, _, _, _, _, rfl, HW.out⟩, by first | exact HF.out.2 | (rw [GB.out]; exact HF.out.2) | (rw [← GB.out]; exact HF.out.2)⟩
              have qm : ¬ (m : Int) < 1 := by omega
              by_cases eq : 256 < m
              · as_aux_lemma =>
                  have qn : (256 : Int) < (m : Int) := by omega
                  have HQ : Hid (256 < m) := eq
                  clear em eq
                  have k0 : W5.cell? ⟨b4, 0, none⟩ = some (.int .i64 0) := M.out.c4.cell 0
                  have f0 := CBox.frozen M.out.c4 0
                  have y0 : W5.cell? ⟨b6, 0, none⟩ = some (.int .i64 0) := M.out.c6.cell 0
                  have k1 : W5.cell? ⟨b4, 1, none⟩ = some (.int .i64 0) := M.out.c4.cell 1
                  have f1 := CBox.frozen M.out.c4 1
                  have y1 : W5.cell? ⟨b6, 1, none⟩ = some (.int .i64 (n : Int)) := M.out.c6.cell 1
                  have k2 : W5.cell? ⟨b4, 2, none⟩ = some (.int .i64 0) := M.out.c4.cell 2
                  have f2 := CBox.frozen M.out.c4 2
                  have y2 : W5.cell? ⟨b6, 2, none⟩ = some (.int .i64 (m : Int)) := M.out.c6.cell 2
                  have k3 : W5.cell? ⟨b4, 3, none⟩ = some (.slice none 0 0) := M.out.c4.cell 3
                  have f3 := CBox.frozen M.out.c4 3
                  have y3 : W5.cell? ⟨b6, 3, none⟩ = some (.slice none 0 0) := M.out.c6.cell 3
                  have k4 : W5.cell? ⟨b4, 4, none⟩ = some (.int .i64 0) := M.out.c4.cell 4
                  have f4 := CBox.frozen M.out.c4 4
                  have y4 : W5.cell? ⟨b6, 4, none⟩ = some (.int .i64 0) := M.out.c6.cell 4
                  have k5 : W5.cell? ⟨b4, 5, none⟩ = some (.int .i64 0) := M.out.c4.cell 5
                  have f5 := CBox.frozen M.out.c4 5
                  have y5 : W5.cell? ⟨b6, 5, none⟩ = some (.int .i64 0) := M.out.c6.cell 5
                  have HF : Hid (CBox ((((((W5.setCell ⟨b4, 0, none⟩ (.int .i64 0)).setCell ⟨b4, 1, none⟩ (.int .i64 (n : Int))).setCell ⟨b4, 2, none⟩ (.int .i64 (m : Int))).setCell ⟨b4, 3, none⟩ (.slice none 0 0)).setCell ⟨b4, 4, none⟩ (.int .i64 0)).setCell ⟨b4, 5, none⟩ (.int .i64 0)) b4 67 [.int .i64 0, .int .i64 (n : Int), .int .i64 (m : Int), .slice none 0 0, .int .i64 0, .int .i64 0] ∧ Below w.heap.size w ((((((W5.setCell ⟨b4, 0, none⟩ (.int .i64 0)).setCell ⟨b4, 1, none⟩ (.int .i64 (n : Int))).setCell ⟨b4, 2, none⟩ (.int .i64 (m : Int))).setCell ⟨b4, 3, none⟩ (.slice none 0 0)).setCell ⟨b4, 4, none⟩ (.int .i64 0)).setCell ⟨b4, 5, none⟩ (.int .i64 0))) := ⟨((((((M.out.c4.set 0 _).set 1 _).set 2 _).set 3 _).set 4 _).set 5 _), M.out.bel.trans ((((((((But.refl (fun y => y = b4) W5).setCell ⟨b4, 0, none⟩ _ (Or.inl rfl)).setCell ⟨b4, 1, none⟩ _ (Or.inl rfl)).setCell ⟨b4, 2, none⟩ _ (Or.inl rfl)).setCell ⟨b4, 3, none⟩ _ (Or.inl rfl)).setCell ⟨b4, 4, none⟩ _ (Or.inl rfl)).setCell ⟨b4, 5, none⟩ _ (Or.inl rfl)).below (fun g e => by have := M.out.g4; omega) M.out.bel.size)⟩
                  have HW : Hid (∀ c, prs b opn ≠ .ok c) := no_c (fun hg => by have h9 := HA.out; have h0 := HL.out; have g3 := HA3.out; have h1 := hg.1; have h2 := h1.le; have h3 := h1.m1; have eM : gM b = rd b (A + 1) 2 := (by unfold gM; rw [h9.1, if_pos H3.out]); have eE : gE b = A + 3 + 4 * gM b := (by unfold gE; rw [h9.1, if_pos H3.out]); rw [h9.1] at h3; have h4 := h3 H3.out; have h5 := HQ.out; have h6 := HMM.out.1; have h7 := HB1.out; rw [h7] at h6; omega)
                  clear M
                  go_wp2
                  clear k0 f0 y0 k1 f1 y1 k2 f2 y2 k3 f3 y3 k4 f4 y4 k5 f5 y5
                  generalize ((((((W5.setCell ⟨b4, 0, none⟩ (.int .i64 0)).setCell ⟨b4, 1, none⟩ (.int .i64 (n : Int))).setCell ⟨b4, 2, none⟩ (.int .i64 (m : Int))).setCell ⟨b4, 3, none⟩ (.slice none 0 0)).setCell ⟨b4, 4, none⟩ (.int .i64 0)).setCell ⟨b4, 5, none⟩ (.int .i64 0)) = Z9 at HF ⊢
                  refine bodyPost_ret (v := .tuple #[.agg #[.int .i64 0, .int .i64 (n : Int), .int .i64 (m : Int), .slice none 0 0, .int .i64 0, .int .i64 0], .bool false]) (results_ct (p := 4) (q := 5) (ty := 67) Try.results46 _ _ _ ⟨b4, 0, none⟩ rfl rfl (run_loadVar_mid Z9 b4 0 67 [.int .i64 0, .int .i64 (n : Int), .int .i64 (m : Int), .slice none 0 0, .int .i64 0, .int .i64 0] _ HF.out.1.range Try.underlying67 rfl (by kernel_rfl))) rfl ?_
                  exact ⟨Or.inl ⟨_, _, _, _, _, _, _, _, rfl, HW.out⟩, by first | exact HF.out.2 | (rw [GB.out]; exact HF.out.2) | (rw [← GB.out]; exact HF.out.2)⟩
              have qn : ¬ (256 : Int) < (m : Int) := by omega
              have HM2 : Hid (1 ≤ m ∧ m ≤ 256) := by unfold Hid; omega
              clear em eq
              go_wp2
              go_meet
              have eM : gM b = m := by unfold gM; rw [HA.out.1, if_pos H3.out, ← HB1.out, HMM.out.1]
              case rel => exact ⟨E, m, rfl, ⟨by unfold gE; rw [HA.out.1, if_pos H3.out, eM]; have := HE.out; have := HA3.out; omega, eM, fun _ => ⟨HM2.out.1, HM2.out.2, HE.out⟩, fun e => absurd H3.out e⟩, M.out⟩
          case rest =>
            as_aux_lemma =>
              obtain ⟨E, m, rfl, hEM, hM⟩ := hcut
              clear M
              have M : Hid (GrM b4 b6 w wc [.int .i64 0, .int .i64 (n : Int), .int .i64 (m : Int), .slice none 0 0, .int .i64 0, .int .i64 0]) := hM
              have HEM : Hid _ := hEM
              clear hM hEM
              obtain ⟨E4, hE4⟩ : ∃ E4, E4 = E + 4 := ⟨_, rfl⟩
              obtain ⟨E3, hE3⟩ : ∃ E3, E3 = E + 3 := ⟨_, rfl⟩
              have HE4 : Hid (E4 = E + 4 ∧ E3 = E + 3 ∧ E ≤ 4000 ∧ m ≤ 256) := by
                have h1 := HEM.out
                have h2 := HA.out
                have h3 := HA3.out
                have h4 := HG6.out
                by_cases e3 : rd b A 1 = 3
                · have h5 := h1.2.2.1 e3; exact ⟨hE4, hE3, by omega, by omega⟩
                · have h5 := h1.2.2.2 e3; exact ⟨hE4, hE3, by omega, by omega⟩
              have r4 : (E : Int) + 4 = (E4 : Int) := by omega
              have w4 : IntKind.i64.wrap (E4 : Int) = (E4 : Int) := by rw [IntKind.wrap_i64]; have := HE4.out; omega
              have r3 : (E : Int) + 3 = (E3 : Int) := by omega
              have w3 : IntKind.i64.wrap (E3 : Int) = (E3 : Int) := by rw [IntKind.wrap_i64]; have := HE4.out; omega
              clear hE4 hE3
              go_upto_region 16 with fail
              obtain ⟨xE, hxE⟩ : ∃ x, rd b E 1 = x := ⟨_, rfl⟩
              obtain ⟨yE, hyE⟩ : ∃ x, rd b E3 1 = x := ⟨_, rfl⟩
              have HXE : Hid (rd b E 1 = xE ∧ rd b E3 1 = yE) := ⟨hxE, hyE⟩
              clear hxE hyE
              go_cut [129] (fun s wx => IsB (L < E4 ∨ xE ≠ 255 ∨ yE ≠ 0) s ∧ wx = wc)
              case first =>
                as_aux_lemma =>
                  by_cases e0 : L < E4
                  · as_aux_lemma =>
                      have p0 : (L : Int) < (E4 : Int) := by omega
                      go_wp2
                      go_meet
                      case rel => exact ⟨isB_t (p := L < E4 ∨ xE ≠ 255 ∨ yE ≠ 0) (by omega), rfl⟩
                  have p0 : ¬ (L : Int) < (E4 : Int) := by omega
                  have j0 : (E : Int) < (L : Int) := by have := HE4.out; omega
                  have j3 : (E3 : Int) < (L : Int) := by have := HE4.out; omega
                  have jB : (E : Int) < 1152921504606846976 := by have := HE4.out; omega
                  have jC : (E3 : Int) < 1152921504606846976 := by have := HE4.out; omega
                  have KE : wc.cell? ⟨g, a + E, none⟩ = some (.int .u8 (xE : Int)) := HCE.out wc E xE M.out.bel (at_rd1 HXE.out.1 (by have := HL.out; have := HE4.out; omega))
                  have KF : wc.cell? ⟨g, a + E3, none⟩ = some (.int .u8 (yE : Int)) := HCE.out wc E3 yE M.out.bel (at_rd1 HXE.out.2 (by have := HL.out; have := HE4.out; omega))
                  by_cases e1 : xE = 255
                  rotate_left
                  · as_aux_lemma =>
                      have p1 : ((xE : Int) != 255) = true := by simp; omega
                      go_wp2
                      go_meet
                      case rel => exact ⟨isB_t (p := L < E4 ∨ xE ≠ 255 ∨ yE ≠ 0) (by omega), rfl⟩
                  have p1 : ((xE : Int) != 255) = false := by simp; omega
                  by_cases e2 : yE = 0
                  rotate_left
                  · as_aux_lemma =>
                      have p2 : ((yE : Int) != 0) = true := by simp; omega
                      go_wp2
                      go_meet
                      case rel => exact ⟨isB_t (p := L < E4 ∨ xE ≠ 255 ∨ yE ≠ 0) (by omega), rfl⟩
                  have p2 : ((yE : Int) != 0) = false := by simp; omega
                  go_wp2
                  go_meet
                  case rel => exact ⟨isB_f (p := L < E4 ∨ xE ≠ 255 ∨ yE ≠ 0) (by omega), rfl⟩
              case rest =>
                as_aux_lemma =>
                  obtain ⟨hb, hw⟩ := hcut
                  have hw2 := hw.symm
                  clear hw
                  subst hw2
                  rcases hb.part with ⟨rfl, hq⟩ | ⟨rfl, hq⟩
                  · as_aux_lemma =>
                      have HBAD : Hid (L < E4 ∨ xE ≠ 255 ∨ yE ≠ 0) := hq
                      clear hb hq r4 w4 r3 w3
                      have k0 : wc.cell? ⟨b4, 0, none⟩ = some (.int .i64 0) := M.out.c4.cell 0
                      have f0 := CBox.frozen M.out.c4 0
                      have y0 : wc.cell? ⟨b6, 0, none⟩ = some (.int .i64 0) := M.out.c6.cell 0
                      have k1 : wc.cell? ⟨b4, 1, none⟩ = some (.int .i64 0) := M.out.c4.cell 1
                      have f1 := CBox.frozen M.out.c4 1
                      have y1 : wc.cell? ⟨b6, 1, none⟩ = some (.int .i64 (n : Int)) := M.out.c6.cell 1
                      have k2 : wc.cell? ⟨b4, 2, none⟩ = some (.int .i64 0) := M.out.c4.cell 2
                      have f2 := CBox.frozen M.out.c4 2
                      have y2 : wc.cell? ⟨b6, 2, none⟩ = some (.int .i64 (m : Int)) := M.out.c6.cell 2
                      have k3 : wc.cell? ⟨b4, 3, none⟩ = some (.slice none 0 0) := M.out.c4.cell 3
                      have f3 := CBox.frozen M.out.c4 3
                      have y3 : wc.cell? ⟨b6, 3, none⟩ = some (.slice none 0 0) := M.out.c6.cell 3
                      have k4 : wc.cell? ⟨b4, 4, none⟩ = some (.int .i64 0) := M.out.c4.cell 4
                      have f4 := CBox.frozen M.out.c4 4
                      have y4 : wc.cell? ⟨b6, 4, none⟩ = some (.int .i64 0) := M.out.c6.cell 4
                      have k5 : wc.cell? ⟨b4, 5, none⟩ = some (.int .i64 0) := M.out.c4.cell 5
                      have f5 := CBox.frozen M.out.c4 5
                      have y5 : wc.cell? ⟨b6, 5, none⟩ = some (.int .i64 0) := M.out.c6.cell 5
                      have HF : Hid (CBox ((((((wc.setCell ⟨b4, 0, none⟩ (.int .i64 0)).setCell ⟨b4, 1, none⟩ (.int .i64 (n : Int))).setCell ⟨b4, 2, none⟩ (.int .i64 (m : Int))).setCell ⟨b4, 3, none⟩ (.slice none 0 0)).setCell ⟨b4, 4, none⟩ (.int .i64 0)).setCell ⟨b4, 5, none⟩ (.int .i64 0)) b4 67 [.int .i64 0, .int .i64 (n : Int), .int .i64 (m : Int), .slice none 0 0, .int .i64 0, .int .i64 0] ∧ Below w.heap.size w ((((((wc.setCell ⟨b4, 0, none⟩ (.int .i64 0)).setCell ⟨b4, 1, none⟩ (.int .i64 (n : Int))).setCell ⟨b4, 2, none⟩ (.int .i64 (m : Int))).setCell ⟨b4, 3, none⟩ (.slice none 0 0)).setCell ⟨b4, 4, none⟩ (.int .i64 0)).setCell ⟨b4, 5, none⟩ (.int .i64 0))) := ⟨((((((M.out.c4.set 0 _).set 1 _).set 2 _).set 3 _).set 4 _).set 5 _), M.out.bel.trans ((((((((But.refl (fun y => y = b4) wc).setCell ⟨b4, 0, none⟩ _ (Or.inl rfl)).setCell ⟨b4, 1, none⟩ _ (Or.inl rfl)).setCell ⟨b4, 2, none⟩ _ (Or.inl rfl)).setCell ⟨b4, 3, none⟩ _ (Or.inl rfl)).setCell ⟨b4, 4, none⟩ _ (Or.inl rfl)).setCell ⟨b4, 5, none⟩ _ (Or.inl rfl)).below (fun g e => by have := M.out.g4; omega) M.out.bel.size)⟩
                      have HW : Hid (∀ c, prs b opn ≠ .ok c) := no_c (fun hg => by have h9 := HA.out; have h0 := HL.out; have h4 := HE4.out; have hx := HXE.out; have h1 := hg.1; have hl := h1.le; have he1 := h1.e1; have he3 := h1.e3; have hE := HEM.out.1; rw [hE] at hl he1 he3; rw [← h4.2.1] at he3; have h5 := HBAD.out; omega)
                      clear M
                      go_wp2
                      clear k0 f0 y0 k1 f1 y1 k2 f2 y2 k3 f3 y3 k4 f4 y4 k5 f5 y5
                      generalize ((((((wc.setCell ⟨b4, 0, none⟩ (.int .i64 0)).setCell ⟨b4, 1, none⟩ (.int .i64 (n : Int))).setCell ⟨b4, 2, none⟩ (.int .i64 (m : Int))).setCell ⟨b4, 3, none⟩ (.slice none 0 0)).setCell ⟨b4, 4, none⟩ (.int .i64 0)).setCell ⟨b4, 5, none⟩ (.int .i64 0)) = Z9 at HF ⊢
                      refine bodyPost_ret (v := .tuple #[.agg #[.int .i64 0, .int .i64 (n : Int), .int .i64 (m : Int), .slice none 0 0, .int .i64 0, .int .i64 0], .bool false]) (results_ct (p := 4) (q := 5) (ty := 67) Try.results46 _ _ _ ⟨b4, 0, none⟩ rfl rfl (run_loadVar_mid Z9 b4 0 67 [.int .i64 0, .int .i64 (n : Int), .int .i64 (m : Int), .slice none 0 0, .int .i64 0, .int .i64 0] _ HF.out.1.range Try.underlying67 rfl (by kernel_rfl))) rfl ?_
                      exact ⟨Or.inl ⟨_, _, _, _, _, _, _, _, rfl, HW.out⟩, by first | exact HF.out.2 | (rw [GB.out]; exact HF.out.2) | (rw [← GB.out]; exact HF.out.2)⟩
                  have HG16 : Hid (E4 ≤ L ∧ rd b E 1 = 255 ∧ rd b E3 1 = 0) := by have := HXE.out; unfold Hid; omega
                  clear hb hq HXE r3 w3
                  obtain ⟨C1, hC1⟩ : ∃ C1, C1 = E + 1 := ⟨_, rfl⟩
                  obtain ⟨D, hD⟩ : ∃ D, rd b C1 2 = D := ⟨_, rfl⟩
                  have HD : Hid (gD b = D ∧ D < 65536) := ⟨by unfold gD; rw [HEM.out.1, ← hC1]; exact hD, by rw [← hD]; exact (rd_lt2 HBY.out C1).1⟩
                  have HC1 : Hid (C1 = E + 1 ∧ rd b C1 2 = D) := ⟨hC1, hD⟩
                  have s1 : (E : Int) + 1 = (C1 : Int) := by omega
                  have s2 : IntKind.i64.wrap (C1 : Int) = (C1 : Int) := by rw [IntKind.wrap_i64]; have := HE4.out; omega
                  clear hC1 hD
                  have TD : Hid (∀ V : World, Below w.heap.size w V → Calls Try.prog 84 #[.slice (some ⟨g, a, none⟩) L cap, .int .i64 (C1 : Int)] V fun e w' => e = .returned (.int .i64 (D : Int)) ∧ Below V.heap.size V w') := fun V hV => by
                    have q9 := two_rd V _ b C1 (HBL.out V hV) HBY.out (by have := HL.out; have := HEL.out; have := HG16.out; have := HE4.out; have := HC1.out; omega)
                    rw [HC1.out.2] at q9
                    exact q9
                  go_upto_region 19 with (go_at_call 84; refine (TD.out wc M.out.bel).mono ?_; rintro e w7 ⟨rfl, hB⟩; (have M1 : Hid (GrM b4 b6 w w7 [.int .i64 0, .int .i64 (n : Int), .int .i64 (m : Int), .slice none 0 0, .int .i64 0, .int .i64 0]) := M.out.past hB); (have k5 : w7.cell? ⟨b6, 5, none⟩ = some (.int .i64 0) := M1.out.c6.cell 5); (have f5 := CBox.frozen M1.out.c6 5); (clear hB))
                  clear k5 f5 s1 s2 TD
                  have M2 : Hid (GrM b4 b6 w (w7.setCell ⟨b6, 5, none⟩ (.int .i64 (D : Int))) [.int .i64 0, .int .i64 (n : Int), .int .i64 (m : Int), .slice none 0 0, .int .i64 0, .int .i64 (D : Int)]) := M1.out.put 5 (.int .i64 (D : Int))
                  clear M M1
                  generalize w7.setCell ⟨b6, 5, none⟩ (.int .i64 (D : Int)) = W7 at M2 ⊢
                  have M := M2
                  clear M2
                  have k0 : W7.cell? ⟨b6, 0, none⟩ = some (.int .i64 0) := M.out.c6.cell 0
                  have f0 := CBox.frozen M.out.c6 0
                  go_upto_region 20 with fail
                  clear k0 f0 r4 w4
                  have M2 : Hid (GrM b4 b6 w (W7.setCell ⟨b6, 0, none⟩ (.int .i64 (E4 : Int))) [.int .i64 (E4 : Int), .int .i64 (n : Int), .int .i64 (m : Int), .slice none 0 0, .int .i64 0, .int .i64 (D : Int)]) := M.out.put 0 (.int .i64 (E4 : Int))
                  clear M
                  generalize W7.setCell ⟨b6, 0, none⟩ (.int .i64 (E4 : Int)) = W8 at M2 ⊢
                  have M := M2
                  clear M2
                  obtain ⟨n4b, hn4b⟩ : ∃ x, x = 4 * n := ⟨_, rfl⟩
                  obtain ⟨P0, hP0⟩ : ∃ x, x = E4 + n4b := ⟨_, rfl⟩
                  have HP0 : Hid (P0 = E4 + 4 * n) := by unfold Hid; omega
                  have t1 : (4 : Int) * (n : Int) = (n4b : Int) := by omega
                  have t2 : IntKind.i64.wrap (n4b : Int) = (n4b : Int) := by rw [IntKind.wrap_i64]; have := HN16.out; omega
                  have t3 : (E4 : Int) + (n4b : Int) = (P0 : Int) := by omega
                  have t4' : IntKind.i64.wrap (P0 : Int) = (P0 : Int) := by rw [IntKind.wrap_i64]; have := HN16.out; have := HE4.out; omega
                  have y0 : W8.cell? ⟨b6, 0, none⟩ = some (.int .i64 (E4 : Int)) := M.out.c6.cell 0
                  have y1 : W8.cell? ⟨b6, 1, none⟩ = some (.int .i64 (n : Int)) := M.out.c6.cell 1
                  clear hn4b hP0
                  go_upto_block 0 with fail
                  clear t1 t2 t3 t4' y0 y1
                  have HP : Hid (LpM b4 b6 n m E4 D 0 w W8 b none 0) := ⟨M.out, InO.nil _ _⟩
                  have HPL : Hid (gPl b 0 = P0) := by show gE b + 4 + 4 * gN b = P0; rw [HEM.out.1, HN.out]; have := HP0.out; have := HE4.out; omega
                  clear M
                  obtain ⟨q, hq9⟩ : ∃ q, q = n + m := ⟨_, rfl⟩
                  have HQN : Hid (q = n + m ∧ n ≤ 1024 ∧ m ≤ 256) := ⟨hq9, by have := HG6.out; omega, HE4.out.2.2.2⟩
                  have rq : (n : Int) + (m : Int) = (q : Int) := by omega
                  have wq : IntKind.i64.wrap (q : Int) = (q : Int) := by rw [IntKind.wrap_i64]; have := HQN.out; omega
                  clear hq9
                  go_wp2
                  go_loopw [9, 10] (fun s9 s10 wr => ∃ (i p : Nat) (sa : Option Addr) (sc : Nat), s10 = .int .i64 (i : Int) ∧ s9 = .int .i64 (p : Int) ∧ i ≤ q ∧ gPl b i = p ∧ p ≤ 30000 + i * 4294967296 ∧ (∀ j, j < i → 0 < gL b j) ∧ LpM b4 b6 n m E4 D i w wr b sa sc) (fun _ s10 _ => q - (intOf s10).toNat)
                  case atStart => exact ⟨0, P0, none, 0, rfl, rfl, by omega, HPL.out, by have := HP0.out; have := HE4.out; have := HQN.out; omega, fun j hj => absurd hj (by omega), HP.out⟩
                  case round =>
                    obtain ⟨i, p, sa, sc, rfl, rfl, hi, hp, hpb, hpos, hM⟩ := hrel
                    clear HP HPL
                    have H : Hid (LpM b4 b6 n m E4 D i w wr b sa sc) := hM
                    have HPI : Hid (gPl b i = p ∧ p ≤ 30000 + i * 4294967296 ∧ ∀ j, j < i → 0 < gL b j) := ⟨hp, hpb, hpos⟩
                    clear hM hp hpb hpos
                    have HIB : Hid (i ≤ 1280) := by have := HQN.out; have := HE4.out; unfold Hid; omega
                    have y1 : wr.cell? ⟨b6, 1, none⟩ = some (.int .i64 (n : Int)) := H.out.g.c6.cell 1
                    have y2 : wr.cell? ⟨b6, 2, none⟩ = some (.int .i64 (m : Int)) := H.out.g.c6.cell 2
                    by_cases e : i = q
                    · as_aux_lemma =>
                        have q1 : ¬ (i : Int) < (q : Int) := by omega
                        have HIQ : Hid (i = q) := e
                        clear e hi
                        have HPQ : Hid (gP b = p) := by have h1 := gpl_all b; rw [HN.out, HEM.out.2.1, ← HQN.out.1, ← HIQ.out, HPI.out.1] at h1; exact h1.symm
                        have HPP : Hid (E4 + 4 * n ≤ p ∧ p ≤ 6000000000000) := by
                          have h1 := gpl_le (b := b) (i := 0) (j := i) (Nat.zero_le _)
                          rw [HPI.out.1] at h1
                          have h2 : gPl b 0 = gE b + 4 + 4 * gN b := rfl
                          rw [h2, HEM.out.1, HN.out] at h1
                          have h3 := HPI.out.2.1
                          have h4 := HIB.out
                          have h5 := HE4.out
                          exact ⟨by omega, by omega⟩
                        have HGR : Hid (GrH b) := gr_h HN.out HG2.out HT4.out HG6.out HA.out HEM.out ⟨HE4.out.1, HE4.out.2.1⟩ HG16.out HL.out HQN.out.1 (by rw [← HIQ.out]; exact HPI.out.2.2)
                        go_upto_region 32 with fail
                        clear rq wq y1 y2 q1
                        have y3 : wr.cell? ⟨b6, 3, none⟩ = some (.slice sa i sc) := H.out.g.c6.cell 3
                        go_upto_region 33 with (at_builtin; refine wpList_appI rfl _ _ rfl w.heap.size H.out.g.bel.size (.slice sa i sc) ((List.range i).map (gPl b)) rfl H.out.st p rfl (by simp; have := HIB.out; omega) ?_; intro v9 w9 hA; (obtain ⟨oa, oc, e9, hM9, hR9⟩ := lpm_app H.out HPI.out.1 hA); (subst e9); (have M9 : Hid (GrM b4 b6 w w9 [.int .i64 (E4 : Int), .int .i64 (n : Int), .int .i64 (m : Int), .slice sa i sc, .int .i64 0, .int .i64 (D : Int)]) := hM9); (have HR : Hid (InO w.heap.size w9 (.slice oa (i + 1) oc) ((List.range (i + 1)).map (gPl b))) := hR9); (clear hM9 hR9 hA); (have k3 : w9.cell? ⟨b6, 3, none⟩ = some (.slice sa i sc) := M9.out.c6.cell 3); (have f3 := CBox.frozen M9.out.c6 3))
                        clear k3 f3 y3
                        have H9 : Hid (LpM b4 b6 n m E4 D (i + 1) w (w9.setCell ⟨b6, 3, none⟩ (.slice oa (i + 1) oc)) b oa oc) := lpm_put M9.out HR.out
                        clear H M9 HR
                        generalize w9.setCell ⟨b6, 3, none⟩ (.slice oa (i + 1) oc) = W9 at H9 ⊢
                        have k4 : W9.cell? ⟨b6, 4, none⟩ = some (.int .i64 0) := H9.out.g.c6.cell 4
                        have f4 := CBox.frozen H9.out.g.c6 4
                        go_upto_region 34 with fail
                        clear k4 f4
                        have M : Hid (FnM b4 b6 n m E4 D p (i + 1) w (W9.setCell ⟨b6, 4, none⟩ (.int .i64 (p : Int))) b oa oc) := fnm_put p H9.out
                        clear H9
                        generalize W9.setCell ⟨b6, 4, none⟩ (.int .i64 (p : Int)) = V at M ⊢
                        obtain ⟨PD, hPD⟩ : ∃ x, x = p + D := ⟨_, rfl⟩
                        have HPD : Hid (PD = p + D) := hPD
                        have z1 : (p : Int) + (D : Int) = (PD : Int) := by omega
                        have z2 : IntKind.i64.wrap (PD : Int) = (PD : Int) := by rw [IntKind.wrap_i64]; have := HPP.out; have := HD.out; omega
                        clear hPD
                        have y5 : V.cell? ⟨b6, 5, none⟩ = some (.int .i64 (D : Int)) := M.out.g.c6.cell 5
                        have HB34 : Hid (∀ c : Bool, (c = true → opn = true) → True) := fun _ _ => trivial
                        clear HB34
                        go_cut [217] (fun s wx => IsB (L < p ∨ PD < L ∨ opn = false ∧ L ≠ PD) s ∧ FnM b4 b6 n m E4 D p (i + 1) w wx b oa oc)
                        case first =>
                          as_aux_lemma =>
                            by_cases e0 : L < p
                            · as_aux_lemma =>
                                have p0 : (L : Int) < (p : Int) := by omega
                                go_wp2
                                go_meet
                                case rel => exact ⟨isB_t (p := L < p ∨ PD < L ∨ opn = false ∧ L ≠ PD) (Or.inl e0), M.out⟩
                            have p0 : ¬ (L : Int) < (p : Int) := by omega
                            by_cases e1 : PD < L
                            · as_aux_lemma =>
                                have p1 : (PD : Int) < (L : Int) := by omega
                                go_wp2
                                go_meet
                                case rel => exact ⟨isB_t (p := L < p ∨ PD < L ∨ opn = false ∧ L ≠ PD) (Or.inr (Or.inl e1)), M.out⟩
                            have p1 : ¬ (PD : Int) < (L : Int) := by omega
                            cases opn
                            rotate_left
                            · as_aux_lemma =>
                                go_wp2
                                go_meet
                                case rel => exact ⟨isB_f (by first | omega | (simp; omega)), M.out⟩
                            by_cases e2 : L = PD
                            rotate_left
                            · as_aux_lemma =>
                                have p2 : ((L : Int) != (PD : Int)) = true := by simp; omega
                                go_wp2
                                go_meet
                                case rel => exact ⟨isB_t (by first | omega | (simp; omega) | exact Or.inr (Or.inr ⟨rfl, e2⟩)), M.out⟩
                            as_aux_lemma =>
                              subst e2
                              go_wp2
                              go_meet
                              case rel => exact ⟨isB_f (by first | omega | (simp; omega)), M.out⟩
                        case rest =>
                          as_aux_lemma =>
                            obtain ⟨hb, hM⟩ := hcut
                            clear M
                            have M : Hid (FnM b4 b6 n m E4 D p (i + 1) w wc b oa oc) := hM
                            clear hM y5 z1 z2
                            rcases hb.part with ⟨rfl, hq⟩ | ⟨rfl, hq⟩
                            · as_aux_lemma =>
                                have HBAD : Hid (L < p ∨ PD < L ∨ opn = false ∧ L ≠ PD) := hq
                                clear hb hq
                                have M1 : Hid (GrM b4 b6 w wc [.int .i64 (E4 : Int), .int .i64 (n : Int), .int .i64 (m : Int), .slice oa (i + 1) oc, .int .i64 (p : Int), .int .i64 (D : Int)]) := M.out.g
                                clear M
                                have M := M1
                                clear M1
                                have k0 : wc.cell? ⟨b4, 0, none⟩ = some (.int .i64 0) := M.out.c4.cell 0
                                have f0 := CBox.frozen M.out.c4 0
                                have y0 : wc.cell? ⟨b6, 0, none⟩ = some (.int .i64 (E4 : Int)) := M.out.c6.cell 0
                                have k1 : wc.cell? ⟨b4, 1, none⟩ = some (.int .i64 0) := M.out.c4.cell 1
                                have f1 := CBox.frozen M.out.c4 1
                                have y1 : wc.cell? ⟨b6, 1, none⟩ = some (.int .i64 (n : Int)) := M.out.c6.cell 1
                                have k2 : wc.cell? ⟨b4, 2, none⟩ = some (.int .i64 0) := M.out.c4.cell 2
                                have f2 := CBox.frozen M.out.c4 2
                                have y2 : wc.cell? ⟨b6, 2, none⟩ = some (.int .i64 (m : Int)) := M.out.c6.cell 2
                                have k3 : wc.cell? ⟨b4, 3, none⟩ = some (.slice none 0 0) := M.out.c4.cell 3
                                have f3 := CBox.frozen M.out.c4 3
                                have y3 : wc.cell? ⟨b6, 3, none⟩ = some (.slice oa (i + 1) oc) := M.out.c6.cell 3
                                have k4 : wc.cell? ⟨b4, 4, none⟩ = some (.int .i64 0) := M.out.c4.cell 4
                                have f4 := CBox.frozen M.out.c4 4
                                have y4 : wc.cell? ⟨b6, 4, none⟩ = some (.int .i64 (p : Int)) := M.out.c6.cell 4
                                have k5 : wc.cell? ⟨b4, 5, none⟩ = some (.int .i64 0) := M.out.c4.cell 5
                                have f5 := CBox.frozen M.out.c4 5
                                have y5 : wc.cell? ⟨b6, 5, none⟩ = some (.int .i64 (D : Int)) := M.out.c6.cell 5
                                have HF : Hid (CBox ((((((wc.setCell ⟨b4, 0, none⟩ (.int .i64 (E4 : Int))).setCell ⟨b4, 1, none⟩ (.int .i64 (n : Int))).setCell ⟨b4, 2, none⟩ (.int .i64 (m : Int))).setCell ⟨b4, 3, none⟩ (.slice oa (i + 1) oc)).setCell ⟨b4, 4, none⟩ (.int .i64 (p : Int))).setCell ⟨b4, 5, none⟩ (.int .i64 (D : Int))) b4 67 [.int .i64 (E4 : Int), .int .i64 (n : Int), .int .i64 (m : Int), .slice oa (i + 1) oc, .int .i64 (p : Int), .int .i64 (D : Int)] ∧ Below w.heap.size w ((((((wc.setCell ⟨b4, 0, none⟩ (.int .i64 (E4 : Int))).setCell ⟨b4, 1, none⟩ (.int .i64 (n : Int))).setCell ⟨b4, 2, none⟩ (.int .i64 (m : Int))).setCell ⟨b4, 3, none⟩ (.slice oa (i + 1) oc)).setCell ⟨b4, 4, none⟩ (.int .i64 (p : Int))).setCell ⟨b4, 5, none⟩ (.int .i64 (D : Int)))) := ⟨((((((M.out.c4.set 0 _).set 1 _).set 2 _).set 3 _).set 4 _).set 5 _), M.out.bel.trans ((((((((But.refl (fun y => y = b4) wc).setCell ⟨b4, 0, none⟩ _ (Or.inl rfl)).setCell ⟨b4, 1, none⟩ _ (Or.inl rfl)).setCell ⟨b4, 2, none⟩ _ (Or.inl rfl)).setCell ⟨b4, 3, none⟩ _ (Or.inl rfl)).setCell ⟨b4, 4, none⟩ _ (Or.inl rfl)).setCell ⟨b4, 5, none⟩ _ (Or.inl rfl)).below (fun g e => by have := M.out.g4; omega) M.out.bel.size)⟩
                                have HW : Hid (∀ c, prs b opn ≠ .ok c) := no_c (fun hg => by have h9 := HPQ.out; have h0 := HL.out; have h8 := HD.out.1; have h7 := HPD.out; have h1 := HBAD.out; have h2 := hg.2.1; have h3 := hg.2.2.1; have h4 := hg.2.2.2.1; rcases h1 with h1 | h1 | ⟨h1, h5⟩; (· omega); (· omega); (· have := h4 h1; omega))
                                clear M
                                go_wp2
                                clear k0 f0 y0 k1 f1 y1 k2 f2 y2 k3 f3 y3 k4 f4 y4 k5 f5 y5
                                generalize ((((((wc.setCell ⟨b4, 0, none⟩ (.int .i64 (E4 : Int))).setCell ⟨b4, 1, none⟩ (.int .i64 (n : Int))).setCell ⟨b4, 2, none⟩ (.int .i64 (m : Int))).setCell ⟨b4, 3, none⟩ (.slice oa (i + 1) oc)).setCell ⟨b4, 4, none⟩ (.int .i64 (p : Int))).setCell ⟨b4, 5, none⟩ (.int .i64 (D : Int))) = Z9 at HF ⊢
                                refine bodyPost_ret (v := .tuple #[.agg #[.int .i64 (E4 : Int), .int .i64 (n : Int), .int .i64 (m : Int), .slice oa (i + 1) oc, .int .i64 (p : Int), .int .i64 (D : Int)], .bool false]) (results_ct (p := 4) (q := 5) (ty := 67) Try.results46 _ _ _ ⟨b4, 0, none⟩ rfl rfl (run_loadVar_mid Z9 b4 0 67 [.int .i64 (E4 : Int), .int .i64 (n : Int), .int .i64 (m : Int), .slice oa (i + 1) oc, .int .i64 (p : Int), .int .i64 (D : Int)] _ HF.out.1.range Try.underlying67 rfl (by kernel_rfl))) rfl ?_
                                exact ⟨Or.inl ⟨_, _, _, _, _, _, _, _, rfl, HW.out⟩, by first | exact HF.out.2 | (rw [GB.out]; exact HF.out.2) | (rw [← GB.out]; exact HF.out.2)⟩
                            have HG34 : Hid (p ≤ L ∧ L ≤ PD ∧ (opn = false → L = PD)) := ⟨by omega, by omega, fun e => by (have : ¬ (L ≠ PD) := fun h => hq (Or.inr (Or.inr ⟨e, h⟩))); omega⟩
                            clear hb hq
                            have y1 : wc.cell? ⟨b6, 1, none⟩ = some (.int .i64 (n : Int)) := M.out.g.c6.cell 1
                            have HM0 : Hid (FnM b4 b6 n m E4 D p (i + 1) w wc b oa oc) := M.out
                            clear M
                            go_wp2
                            go_loopw [12] (fun s12 wr => ∃ j : Nat, s12 = .int .i64 (j : Int) ∧ j ≤ n ∧ (∀ k, k < j → tyFine b (E4 + 4 * k) k) ∧ FnM b4 b6 n m E4 D p (i + 1) w wr b oa oc) (fun s12 _ => n - (intOf s12).toNat)
                            case atStart => exact ⟨0, rfl, by omega, fun k hk => absurd hk (by omega), HM0.out⟩
                            case round =>
                              obtain ⟨j, rfl, hj, hty, hM⟩ := hrel
                              clear HM0
                              have M : Hid (FnM b4 b6 n m E4 D p (i + 1) w wr b oa oc) := hM
                              have HTY : Hid (j ≤ n ∧ ∀ k, k < j → tyFine b (E4 + 4 * k) k) := ⟨hj, hty⟩
                              clear hM hty
                              have y1 : wr.cell? ⟨b6, 1, none⟩ = some (.int .i64 (n : Int)) := M.out.g.c6.cell 1
                              by_cases e : j = n
                              · as_aux_lemma =>
                                  have q1 : ¬ (j : Int) < (n : Int) := by omega
                                  have HJN : Hid (j = n) := e
                                  clear e hj
                                  have k0 : wr.cell? ⟨b4, 0, none⟩ = some (.int .i64 0) := M.out.g.c4.cell 0
                                  have f0 := CBox.frozen M.out.g.c4 0
                                  have y0 : wr.cell? ⟨b6, 0, none⟩ = some (.int .i64 (E4 : Int)) := M.out.g.c6.cell 0
                                  have k1 : wr.cell? ⟨b4, 1, none⟩ = some (.int .i64 0) := M.out.g.c4.cell 1
                                  have f1 := CBox.frozen M.out.g.c4 1
                                  have k2 : wr.cell? ⟨b4, 2, none⟩ = some (.int .i64 0) := M.out.g.c4.cell 2
                                  have f2 := CBox.frozen M.out.g.c4 2
                                  have y2 : wr.cell? ⟨b6, 2, none⟩ = some (.int .i64 (m : Int)) := M.out.g.c6.cell 2
                                  have k3 : wr.cell? ⟨b4, 3, none⟩ = some (.slice none 0 0) := M.out.g.c4.cell 3
                                  have f3 := CBox.frozen M.out.g.c4 3
                                  have y3 : wr.cell? ⟨b6, 3, none⟩ = some (.slice oa (i + 1) oc) := M.out.g.c6.cell 3
                                  have k4 : wr.cell? ⟨b4, 4, none⟩ = some (.int .i64 0) := M.out.g.c4.cell 4
                                  have f4 := CBox.frozen M.out.g.c4 4
                                  have y4 : wr.cell? ⟨b6, 4, none⟩ = some (.int .i64 (p : Int)) := M.out.g.c6.cell 4
                                  have k5 : wr.cell? ⟨b4, 5, none⟩ = some (.int .i64 0) := M.out.g.c4.cell 5
                                  have f5 := CBox.frozen M.out.g.c4 5
                                  have y5 : wr.cell? ⟨b6, 5, none⟩ = some (.int .i64 (D : Int)) := M.out.g.c6.cell 5
                                  have HF : Hid (CBox ((((((wr.setCell ⟨b4, 0, none⟩ (.int .i64 (E4 : Int))).setCell ⟨b4, 1, none⟩ (.int .i64 (n : Int))).setCell ⟨b4, 2, none⟩ (.int .i64 (m : Int))).setCell ⟨b4, 3, none⟩ (.slice oa (i + 1) oc)).setCell ⟨b4, 4, none⟩ (.int .i64 (p : Int))).setCell ⟨b4, 5, none⟩ (.int .i64 (D : Int))) b4 67 [.int .i64 (E4 : Int), .int .i64 (n : Int), .int .i64 (m : Int), .slice oa (i + 1) oc, .int .i64 (p : Int), .int .i64 (D : Int)] ∧ Below w.heap.size w ((((((wr.setCell ⟨b4, 0, none⟩ (.int .i64 (E4 : Int))).setCell ⟨b4, 1, none⟩ (.int .i64 (n : Int))).setCell ⟨b4, 2, none⟩ (.int .i64 (m : Int))).setCell ⟨b4, 3, none⟩ (.slice oa (i + 1) oc)).setCell ⟨b4, 4, none⟩ (.int .i64 (p : Int))).setCell ⟨b4, 5, none⟩ (.int .i64 (D : Int))) ∧ InO w.heap.size ((((((wr.setCell ⟨b4, 0, none⟩ (.int .i64 (E4 : Int))).setCell ⟨b4, 1, none⟩ (.int .i64 (n : Int))).setCell ⟨b4, 2, none⟩ (.int .i64 (m : Int))).setCell ⟨b4, 3, none⟩ (.slice oa (i + 1) oc)).setCell ⟨b4, 4, none⟩ (.int .i64 (p : Int))).setCell ⟨b4, 5, none⟩ (.int .i64 (D : Int))) (.slice oa (i + 1) oc) ((List.range (i + 1)).map (gPl b))) := ⟨((((((M.out.g.c4.set 0 _).set 1 _).set 2 _).set 3 _).set 4 _).set 5 _), M.out.g.bel.trans ((((((((But.refl (fun y => y = b4) wr).setCell ⟨b4, 0, none⟩ _ (Or.inl rfl)).setCell ⟨b4, 1, none⟩ _ (Or.inl rfl)).setCell ⟨b4, 2, none⟩ _ (Or.inl rfl)).setCell ⟨b4, 3, none⟩ _ (Or.inl rfl)).setCell ⟨b4, 4, none⟩ _ (Or.inl rfl)).setCell ⟨b4, 5, none⟩ _ (Or.inl rfl)).below (fun g e => by have := M.out.g.g4; omega) M.out.g.bel.size), (ino_set (ino_set (ino_set (ino_set (ino_set (ino_set M.out.st M.out.g.c4 (by decide)) (M.out.g.c4.set 0 _) (by decide)) ((M.out.g.c4.set 0 _).set 1 _) (by decide)) (((M.out.g.c4.set 0 _).set 1 _).set 2 _) (by decide)) ((((M.out.g.c4.set 0 _).set 1 _).set 2 _).set 3 _) (by decide)) (((((M.out.g.c4.set 0 _).set 1 _).set 2 _).set 3 _).set 4 _) (by decide))⟩
                                  have HW : Hid (prs b opn = .ok (gC b)) := prs_gram.2 ⟨HGR.out, by rw [HPQ.out, HL.out]; exact HG34.out.1, by rw [HPQ.out, HL.out, HD.out.1, ← HPD.out]; exact HG34.out.2.1, fun e => by rw [HPQ.out, HL.out, HD.out.1, ← HPD.out]; exact HG34.out.2.2 e, fun k hk => by rw [HN.out] at hk; rw [HEM.out.1, ← HE4.out.1]; exact HTY.out.2 k (by rw [HJN.out]; exact hk), rfl⟩
                                  clear M
                                  go_wp2
                                  clear k0 f0 y0 k1 f1 y1 k2 f2 y2 k3 f3 y3 k4 f4 y4 k5 f5 y5
                                  generalize ((((((wr.setCell ⟨b4, 0, none⟩ (.int .i64 (E4 : Int))).setCell ⟨b4, 1, none⟩ (.int .i64 (n : Int))).setCell ⟨b4, 2, none⟩ (.int .i64 (m : Int))).setCell ⟨b4, 3, none⟩ (.slice oa (i + 1) oc)).setCell ⟨b4, 4, none⟩ (.int .i64 (p : Int))).setCell ⟨b4, 5, none⟩ (.int .i64 (D : Int))) = Z9 at HF ⊢
                                  refine bodyPost_ret (v := .tuple #[.agg #[.int .i64 (E4 : Int), .int .i64 (n : Int), .int .i64 (m : Int), .slice oa (i + 1) oc, .int .i64 (p : Int), .int .i64 (D : Int)], .bool true]) (results_ct (p := 4) (q := 5) (ty := 67) Try.results46 _ _ _ ⟨b4, 0, none⟩ rfl rfl (run_loadVar_mid Z9 b4 0 67 [.int .i64 (E4 : Int), .int .i64 (n : Int), .int .i64 (m : Int), .slice oa (i + 1) oc, .int .i64 (p : Int), .int .i64 (D : Int)] _ HF.out.1.range Try.underlying67 rfl (by kernel_rfl))) rfl ?_
                                  have hin : InO b4 Z9 (.slice oa (i + 1) oc) ((List.range (i + 1)).map (gPl b)) := by rw [← GB.out]; exact HF.out.2.2
                                  exact ⟨gr_ok (by rw [HEM.out.1]; exact HE4.out.1.symm) HN.out HEM.out.2.1 HPQ.out HD.out.1 (by rw [HIQ.out, HQN.out.1]) HW.out (by first | exact hin | exact HF.out.2.2), by first | exact HF.out.2.1 | (rw [GB.out]; exact HF.out.2.1) | (rw [← GB.out]; exact HF.out.2.1)⟩
                              as_aux_lemma =>
                                have q1 : (j : Int) < (n : Int) := by omega
                                have HJ : Hid (j < n) := by unfold Hid; omega
                                clear e hj
                                obtain ⟨j4, hj4⟩ : ∃ x, x = 4 * j := ⟨_, rfl⟩
                                obtain ⟨t, ht⟩ : ∃ x, x = E4 + j4 := ⟨_, rfl⟩
                                have HT : Hid (t = E4 + 4 * j) := by unfold Hid; omega
                                have z1 : (4 : Int) * (j : Int) = (j4 : Int) := by omega
                                have z2 : IntKind.i64.wrap (j4 : Int) = (j4 : Int) := by rw [IntKind.wrap_i64]; have := HJ.out; have := HN16.out; omega
                                have z3 : (E4 : Int) + (j4 : Int) = (t : Int) := by omega
                                have z4 : IntKind.i64.wrap (t : Int) = (t : Int) := by rw [IntKind.wrap_i64]; have := HJ.out; have := HN16.out; have := HE4.out; omega
                                clear hj4 ht
                                have y0 : wr.cell? ⟨b6, 0, none⟩ = some (.int .i64 (E4 : Int)) := M.out.g.c6.cell 0
                                go_upto_region 40 with fail
                                clear y0 y1 q1 z1 z2 z3 z4
                                obtain ⟨t1, ht1⟩ : ∃ x, x = t + 1 := ⟨_, rfl⟩
                                obtain ⟨t2, ht2⟩ : ∃ x, x = t + 2 := ⟨_, rfl⟩
                                have HTT : Hid (t1 = t + 1 ∧ t2 = t + 2 ∧ t + 4 ≤ L ∧ t ≤ 20000) := ⟨ht1, ht2, by have := HT.out; have := HJ.out; have := HPP.out; have := HG34.out; omega, by have := HT.out; have := HJ.out; have := HN16.out; have := HE4.out; have := HQN.out; omega⟩
                                obtain ⟨x, hx⟩ : ∃ x, rd b t 1 = x := ⟨_, rfl⟩
                                obtain ⟨y, hy⟩ : ∃ x, rd b t1 1 = x := ⟨_, rfl⟩
                                obtain ⟨z, hz⟩ : ∃ x, rd b t2 2 = x := ⟨_, rfl⟩
                                have HX : Hid (rd b t 1 = x ∧ rd b t1 1 = y ∧ rd b t2 2 = z) := ⟨hx, hy, hz⟩
                                clear hx hy hz ht1 ht2
                                have KE : wr.cell? ⟨g, a + t, none⟩ = some (.int .u8 (x : Int)) := HCE.out wr t x M.out.g.bel (at_rd1 HX.out.1 (by have := HL.out; have := HTT.out; omega))
                                have KF : wr.cell? ⟨g, a + t1, none⟩ = some (.int .u8 (y : Int)) := HCE.out wr t1 y M.out.g.bel (at_rd1 HX.out.2.1 (by have := HL.out; have := HTT.out; omega))
                                have i0 : (t : Int) < (L : Int) := by have := HTT.out; omega
                                have i1 : (t1 : Int) < (L : Int) := by have := HTT.out; omega
                                have iB : (t : Int) < 1152921504606846976 := by have := HTT.out; omega
                                have iC : (t1 : Int) < 1152921504606846976 := by have := HTT.out; omega
                                have s1 : (t : Int) + 1 = (t1 : Int) := by have := HTT.out; omega
                                have s2 : IntKind.i64.wrap (t1 : Int) = (t1 : Int) := by rw [IntKind.wrap_i64]; have := HTT.out; omega
                                have s3 : (t : Int) + 2 = (t2 : Int) := by have := HTT.out; omega
                                have s4 : IntKind.i64.wrap (t2 : Int) = (t2 : Int) := by rw [IntKind.wrap_i64]; have := HTT.out; omega
                                have TZ : Hid (∀ V : World, Below w.heap.size w V → Calls Try.prog 84 #[.slice (some ⟨g, a, none⟩) L cap, .int .i64 (t2 : Int)] V fun e w' => e = .returned (.int .i64 (z : Int)) ∧ Below V.heap.size V w') := fun V hV => by
                                  have q9 := two_rd V _ b t2 (HBL.out V hV) HBY.out (by have := HL.out; have := HEL.out; have := HTT.out; omega)
                                  rw [HX.out.2.2] at q9
                                  exact q9
                                go_cut [268] (fun s wx => IsB (127 < x ∨ 128 < y ∨ 1023 < z ∨ j = 0 ∧ (x ≠ 0 ∨ y ≠ 128)) s ∧ FnM b4 b6 n m E4 D p (i + 1) w wx b oa oc)
                                case first =>
                                  as_aux_lemma =>
                                    by_cases e0 : 127 < x
                                    · as_aux_lemma =>
                                        have p0 : (127 : Int) < (x : Int) := by omega
                                        go_wp2
                                        go_meet
                                        case rel => exact ⟨isB_t (by first | omega | (simp; omega)), M.out⟩
                                    have p0 : ¬ (127 : Int) < (x : Int) := by omega
                                    by_cases e1 : 128 < y
                                    · as_aux_lemma =>
                                        have p1 : (128 : Int) < (y : Int) := by omega
                                        go_wp2
                                        go_meet
                                        case rel => exact ⟨isB_t (by first | omega | (simp; omega)), M.out⟩
                                    have p1 : ¬ (128 : Int) < (y : Int) := by omega
                                    by_cases e2 : 1023 < z
                                    · as_aux_lemma =>
                                        have p2 : (1023 : Int) < (z : Int) := by omega
                                        go_wp2_with (go_at_call 84; refine (TZ.out wr M.out.g.bel).mono ?_; rintro e w5 ⟨rfl, hB⟩; (have M5 : Hid (FnM b4 b6 n m E4 D p (i + 1) w w5 b oa oc) := M.out.past hB); (have KG : w5.cell? ⟨g, a + t, none⟩ = some (.int .u8 (x : Int)) := HCE.out w5 t x M5.out.g.bel (at_rd1 HX.out.1 (by have := HL.out; have := HTT.out; omega))); (have KH : w5.cell? ⟨g, a + t1, none⟩ = some (.int .u8 (y : Int)) := HCE.out w5 t1 y M5.out.g.bel (at_rd1 HX.out.2.1 (by have := HL.out; have := HTT.out; omega))); (clear hB))
                                        go_meet
                                        case rel => exact ⟨isB_t (by first | omega | (simp; omega)), M5.out⟩
                                    have p2 : ¬ (1023 : Int) < (z : Int) := by omega
                                    by_cases e3 : j = 0
                                    rotate_left
                                    · as_aux_lemma =>
                                        have p3 : ((j : Int) == 0) = false := by simp; omega
                                        go_wp2_with (go_at_call 84; refine (TZ.out wr M.out.g.bel).mono ?_; rintro e w5 ⟨rfl, hB⟩; (have M5 : Hid (FnM b4 b6 n m E4 D p (i + 1) w w5 b oa oc) := M.out.past hB); (have KG : w5.cell? ⟨g, a + t, none⟩ = some (.int .u8 (x : Int)) := HCE.out w5 t x M5.out.g.bel (at_rd1 HX.out.1 (by have := HL.out; have := HTT.out; omega))); (have KH : w5.cell? ⟨g, a + t1, none⟩ = some (.int .u8 (y : Int)) := HCE.out w5 t1 y M5.out.g.bel (at_rd1 HX.out.2.1 (by have := HL.out; have := HTT.out; omega))); (clear hB))
                                        have hd : decide ((1023 : Int) < (z : Int)) = false := by simp; omega
                                        go_meet
                                        case rel => exact ⟨by first | exact isB_f (by first | omega | (simp; omega)) | (rw [hd]; exact isB_f (by first | omega | (simp; omega))), M5.out⟩
                                    subst e3
                                    by_cases e4 : x = 0
                                    rotate_left
                                    · as_aux_lemma =>
                                        have p4 : ((x : Int) != 0) = true := by simp; omega
                                        go_wp2_with (go_at_call 84; refine (TZ.out wr M.out.g.bel).mono ?_; rintro e w5 ⟨rfl, hB⟩; (have M5 : Hid (FnM b4 b6 n m E4 D p (i + 1) w w5 b oa oc) := M.out.past hB); (have KG : w5.cell? ⟨g, a + t, none⟩ = some (.int .u8 (x : Int)) := HCE.out w5 t x M5.out.g.bel (at_rd1 HX.out.1 (by have := HL.out; have := HTT.out; omega))); (have KH : w5.cell? ⟨g, a + t1, none⟩ = some (.int .u8 (y : Int)) := HCE.out w5 t1 y M5.out.g.bel (at_rd1 HX.out.2.1 (by have := HL.out; have := HTT.out; omega))); (clear hB))
                                        have hd : decide ((1023 : Int) < (z : Int)) = false := by simp; omega
                                        go_meet
                                        case rel => exact ⟨by first | exact isB_t (by first | omega | (simp; omega)) | (rw [hd]; exact isB_t (by first | omega | (simp; omega))), M5.out⟩
                                    have p4 : ((x : Int) != 0) = false := by simp; omega
                                    by_cases e5 : y = 128
                                    rotate_left
                                    · as_aux_lemma =>
                                        have p5 : ((y : Int) != 128) = true := by simp; omega
                                        go_wp2_with (go_at_call 84; refine (TZ.out wr M.out.g.bel).mono ?_; rintro e w5 ⟨rfl, hB⟩; (have M5 : Hid (FnM b4 b6 n m E4 D p (i + 1) w w5 b oa oc) := M.out.past hB); (have KG : w5.cell? ⟨g, a + t, none⟩ = some (.int .u8 (x : Int)) := HCE.out w5 t x M5.out.g.bel (at_rd1 HX.out.1 (by have := HL.out; have := HTT.out; omega))); (have KH : w5.cell? ⟨g, a + t1, none⟩ = some (.int .u8 (y : Int)) := HCE.out w5 t1 y M5.out.g.bel (at_rd1 HX.out.2.1 (by have := HL.out; have := HTT.out; omega))); (clear hB))
                                        have hd : decide ((1023 : Int) < (z : Int)) = false := by simp; omega
                                        go_meet
                                        case rel => exact ⟨by first | exact isB_t (by first | omega | (simp; omega)) | (rw [hd]; exact isB_t (by first | omega | (simp; omega))), M5.out⟩
                                    as_aux_lemma =>
                                      have p5 : ((y : Int) != 128) = false := by simp; omega
                                      go_wp2_with (go_at_call 84; refine (TZ.out wr M.out.g.bel).mono ?_; rintro e w5 ⟨rfl, hB⟩; (have M5 : Hid (FnM b4 b6 n m E4 D p (i + 1) w w5 b oa oc) := M.out.past hB); (have KG : w5.cell? ⟨g, a + t, none⟩ = some (.int .u8 (x : Int)) := HCE.out w5 t x M5.out.g.bel (at_rd1 HX.out.1 (by have := HL.out; have := HTT.out; omega))); (have KH : w5.cell? ⟨g, a + t1, none⟩ = some (.int .u8 (y : Int)) := HCE.out w5 t1 y M5.out.g.bel (at_rd1 HX.out.2.1 (by have := HL.out; have := HTT.out; omega))); (clear hB))
                                      have hd : decide ((1023 : Int) < (z : Int)) = false := by simp; omega
                                      go_meet
                                      case rel => exact ⟨by first | exact isB_f (by first | omega | (simp; omega)) | (rw [hd]; exact isB_f (by first | omega | (simp; omega))), M5.out⟩
                                case rest =>
                                  as_aux_lemma =>
                                    obtain ⟨hb, hM⟩ := hcut
                                    clear M
                                    have M : Hid (FnM b4 b6 n m E4 D p (i + 1) w wc b oa oc) := hM
                                    clear hM i0 i1 iB iC s1 s2 s3 s4 TZ KE KF
                                    have HFI : Hid (tyFine b (E4 + 4 * j) j ↔ ¬ (127 < x ∨ 128 < y ∨ 1023 < z ∨ j = 0 ∧ (x ≠ 0 ∨ y ≠ 128))) := by rw [← HT.out]; exact ty_fine HX.out.1 (by rw [← HTT.out.1]; exact HX.out.2.1) (by rw [← HTT.out.2.1]; exact HX.out.2.2)
                                    rcases hb.part with ⟨rfl, hq⟩ | ⟨rfl, hq⟩
                                    · as_aux_lemma =>
                                        have HBAD : Hid (127 < x ∨ 128 < y ∨ 1023 < z ∨ j = 0 ∧ (x ≠ 0 ∨ y ≠ 128)) := hq
                                        clear hb hq
                                        have M1 : Hid (GrM b4 b6 w wc [.int .i64 (E4 : Int), .int .i64 (n : Int), .int .i64 (m : Int), .slice oa (i + 1) oc, .int .i64 (p : Int), .int .i64 (D : Int)]) := M.out.g
                                        clear M
                                        have M := M1
                                        clear M1
                                        have k0 : wc.cell? ⟨b4, 0, none⟩ = some (.int .i64 0) := M.out.c4.cell 0
                                        have f0 := CBox.frozen M.out.c4 0
                                        have y0 : wc.cell? ⟨b6, 0, none⟩ = some (.int .i64 (E4 : Int)) := M.out.c6.cell 0
                                        have k1 : wc.cell? ⟨b4, 1, none⟩ = some (.int .i64 0) := M.out.c4.cell 1
                                        have f1 := CBox.frozen M.out.c4 1
                                        have y1 : wc.cell? ⟨b6, 1, none⟩ = some (.int .i64 (n : Int)) := M.out.c6.cell 1
                                        have k2 : wc.cell? ⟨b4, 2, none⟩ = some (.int .i64 0) := M.out.c4.cell 2
                                        have f2 := CBox.frozen M.out.c4 2
                                        have y2 : wc.cell? ⟨b6, 2, none⟩ = some (.int .i64 (m : Int)) := M.out.c6.cell 2
                                        have k3 : wc.cell? ⟨b4, 3, none⟩ = some (.slice none 0 0) := M.out.c4.cell 3
                                        have f3 := CBox.frozen M.out.c4 3
                                        have y3 : wc.cell? ⟨b6, 3, none⟩ = some (.slice oa (i + 1) oc) := M.out.c6.cell 3
                                        have k4 : wc.cell? ⟨b4, 4, none⟩ = some (.int .i64 0) := M.out.c4.cell 4
                                        have f4 := CBox.frozen M.out.c4 4
                                        have y4 : wc.cell? ⟨b6, 4, none⟩ = some (.int .i64 (p : Int)) := M.out.c6.cell 4
                                        have k5 : wc.cell? ⟨b4, 5, none⟩ = some (.int .i64 0) := M.out.c4.cell 5
                                        have f5 := CBox.frozen M.out.c4 5
                                        have y5 : wc.cell? ⟨b6, 5, none⟩ = some (.int .i64 (D : Int)) := M.out.c6.cell 5
                                        have HF : Hid (CBox ((((((wc.setCell ⟨b4, 0, none⟩ (.int .i64 (E4 : Int))).setCell ⟨b4, 1, none⟩ (.int .i64 (n : Int))).setCell ⟨b4, 2, none⟩ (.int .i64 (m : Int))).setCell ⟨b4, 3, none⟩ (.slice oa (i + 1) oc)).setCell ⟨b4, 4, none⟩ (.int .i64 (p : Int))).setCell ⟨b4, 5, none⟩ (.int .i64 (D : Int))) b4 67 [.int .i64 (E4 : Int), .int .i64 (n : Int), .int .i64 (m : Int), .slice oa (i + 1) oc, .int .i64 (p : Int), .int .i64 (D : Int)] ∧ Below w.heap.size w ((((((wc.setCell ⟨b4, 0, none⟩ (.int .i64 (E4 : Int))).setCell ⟨b4, 1, none⟩ (.int .i64 (n : Int))).setCell ⟨b4, 2, none⟩ (.int .i64 (m : Int))).setCell ⟨b4, 3, none⟩ (.slice oa (i + 1) oc)).setCell ⟨b4, 4, none⟩ (.int .i64 (p : Int))).setCell ⟨b4, 5, none⟩ (.int .i64 (D : Int)))) := ⟨((((((M.out.c4.set 0 _).set 1 _).set 2 _).set 3 _).set 4 _).set 5 _), M.out.bel.trans ((((((((But.refl (fun y => y = b4) wc).setCell ⟨b4, 0, none⟩ _ (Or.inl rfl)).setCell ⟨b4, 1, none⟩ _ (Or.inl rfl)).setCell ⟨b4, 2, none⟩ _ (Or.inl rfl)).setCell ⟨b4, 3, none⟩ _ (Or.inl rfl)).setCell ⟨b4, 4, none⟩ _ (Or.inl rfl)).setCell ⟨b4, 5, none⟩ _ (Or.inl rfl)).below (fun g e => by have := M.out.g4; omega) M.out.bel.size)⟩
                                        have HW : Hid (∀ c, prs b opn ≠ .ok c) := no_c (fun hg => by have h1 := hg.2.2.2.2 j (by rw [HN.out]; exact HJ.out); rw [HEM.out.1, ← HE4.out.1] at h1; exact HFI.out.1 h1 HBAD.out)
                                        clear M
                                        go_wp2
                                        clear k0 f0 y0 k1 f1 y1 k2 f2 y2 k3 f3 y3 k4 f4 y4 k5 f5 y5
                                        generalize ((((((wc.setCell ⟨b4, 0, none⟩ (.int .i64 (E4 : Int))).setCell ⟨b4, 1, none⟩ (.int .i64 (n : Int))).setCell ⟨b4, 2, none⟩ (.int .i64 (m : Int))).setCell ⟨b4, 3, none⟩ (.slice oa (i + 1) oc)).setCell ⟨b4, 4, none⟩ (.int .i64 (p : Int))).setCell ⟨b4, 5, none⟩ (.int .i64 (D : Int))) = Z9 at HF ⊢
                                        refine bodyPost_ret (v := .tuple #[.agg #[.int .i64 (E4 : Int), .int .i64 (n : Int), .int .i64 (m : Int), .slice oa (i + 1) oc, .int .i64 (p : Int), .int .i64 (D : Int)], .bool false]) (results_ct (p := 4) (q := 5) (ty := 67) Try.results46 _ _ _ ⟨b4, 0, none⟩ rfl rfl (run_loadVar_mid Z9 b4 0 67 [.int .i64 (E4 : Int), .int .i64 (n : Int), .int .i64 (m : Int), .slice oa (i + 1) oc, .int .i64 (p : Int), .int .i64 (D : Int)] _ HF.out.1.range Try.underlying67 rfl (by kernel_rfl))) rfl ?_
                                        exact ⟨Or.inl ⟨_, _, _, _, _, _, _, _, rfl, HW.out⟩, by first | exact HF.out.2 | (rw [GB.out]; exact HF.out.2) | (rw [← GB.out]; exact HF.out.2)⟩
                                    have HG40 : Hid (tyFine b (E4 + 4 * j) j) := HFI.out.2 hq
                                    clear hb hq
                                    obtain ⟨j1, hj1⟩ : ∃ x, x = j + 1 := ⟨_, rfl⟩
                                    have HJ1 : Hid (j1 = j + 1) := hj1
                                    have u1 : (j : Int) + 1 = (j1 : Int) := by omega
                                    have u2 : IntKind.i64.wrap (j1 : Int) = (j1 : Int) := by rw [IntKind.wrap_i64]; have := HJ.out; have := HN16.out; omega
                                    clear hj1
                                    go_wp2
                                    go_roundw
                                    case rel => exact ⟨j1, rfl, by have := HJ.out; have := HJ1.out; omega, fun k hk => by (by_cases ek : k = j); (· rw [ek]; exact HG40.out); (· exact HTY.out.2 k (by have := HJ1.out; omega)), M.out⟩
                                    case measure => (simp [intOf]; have := HJ.out; have := HJ1.out; omega)
                    as_aux_lemma =>
                      have q1 : (i : Int) < (q : Int) := by omega
                      have HI : Hid (i < q) := by unfold Hid; omega
                      clear e hi
                      obtain ⟨k, hk⟩ : ∃ k, gL b i = k := ⟨_, rfl⟩
                      have HK : Hid (gL b i = k) := hk
                      clear hk
                      go_upto_if 157 with fail
                      clear rq wq y1 y2 q1
                      go_cut [11] (fun s11 wx => s11 = .int .i64 (k : Int) ∧ k < 4294967296 ∧ LpM b4 b6 n m E4 D i w wx b sa sc)
                      case first =>
                        as_aux_lemma =>
                          by_cases en : i < n
                          · as_aux_lemma =>
                              have qn : (i : Int) < (n : Int) := by omega
                              have HIN : Hid (i < n) := en
                              clear en
                              obtain ⟨i2, hi2⟩ : ∃ x, x = 2 * i := ⟨_, rfl⟩
                              obtain ⟨j9, hj9⟩ : ∃ x, x = 9 + i2 := ⟨_, rfl⟩
                              have HJ : Hid (j9 = 9 + 2 * i) := by unfold Hid; omega
                              have z1 : (2 : Int) * (i : Int) = (i2 : Int) := by omega
                              have z2 : IntKind.i64.wrap (i2 : Int) = (i2 : Int) := by rw [IntKind.wrap_i64]; have := HQN.out; have := HIN.out; omega
                              have z3 : (9 : Int) + (i2 : Int) = (j9 : Int) := by omega
                              have z4 : IntKind.i64.wrap (j9 : Int) = (j9 : Int) := by rw [IntKind.wrap_i64]; have := HQN.out; have := HIN.out; omega
                              clear hi2 hj9
                              have HKR : Hid (rd b j9 2 = k) := by have h1 := HK.out; unfold gL at h1; rw [if_pos (by rw [HN.out]; exact HIN.out), ← HJ.out] at h1; exact h1
                              have TL9 : Hid (∀ V : World, Below w.heap.size w V → Calls Try.prog 84 #[.slice (some ⟨g, a, none⟩) L cap, .int .i64 (j9 : Int)] V fun e w' => e = .returned (.int .i64 (k : Int)) ∧ Below V.heap.size V w') := fun V hV => by
                                have q9 := two_rd V _ b j9 (HBL.out V hV) HBY.out (by have := HL.out; have := HEL.out; have := HG6.out; have := HA.out; have := HJ.out; have := HIN.out; omega)
                                rw [HKR.out] at q9
                                exact q9
                              go_wp2_with (go_at_call 84; refine (TL9.out wr H.out.g.bel).mono ?_; rintro e w5 ⟨rfl, hB⟩; (have H5 : Hid (LpM b4 b6 n m E4 D i w w5 b sa sc) := H.out.past hB); (clear hB))
                              go_meet
                              case rel => exact ⟨rfl, by rw [← HKR.out]; have := (rd_lt2 HBY.out j9).1; omega, H5.out⟩
                          have qn : ¬ (i : Int) < (n : Int) := by omega
                          obtain ⟨u, hu⟩ : ∃ u, i = n + u := ⟨i - n, by omega⟩
                          have HU : Hid (i = n + u ∧ u < m) := ⟨hu, by have := HI.out; have := HQN.out; omega⟩
                          clear en
                          obtain ⟨u4, hu4⟩ : ∃ x, x = 4 * u := ⟨_, rfl⟩
                          obtain ⟨j9, hj9⟩ : ∃ x, x = A3 + u4 := ⟨_, rfl⟩
                          have HJ : Hid (j9 = A3 + 4 * u) := by unfold Hid; omega
                          have z0 : (i : Int) - (n : Int) = (u : Int) := by omega
                          have z5 : IntKind.i64.wrap (u : Int) = (u : Int) := by rw [IntKind.wrap_i64]; have := HQN.out; have := HU.out; omega
                          have z1 : (4 : Int) * (u : Int) = (u4 : Int) := by omega
                          have z2 : IntKind.i64.wrap (u4 : Int) = (u4 : Int) := by rw [IntKind.wrap_i64]; have := HQN.out; have := HU.out; omega
                          have z3 : (A3 : Int) + (u4 : Int) = (j9 : Int) := by omega
                          have z4 : IntKind.i64.wrap (j9 : Int) = (j9 : Int) := by rw [IntKind.wrap_i64]; have := HQN.out; have := HU.out; have := HA3.out; have := HA.out; omega
                          clear hu hu4 hj9
                          have HM3 : Hid (A3 + 4 * m = E) := by
                            have h1 := HEM.out
                            by_cases e3 : rd b A 1 = 3
                            · have := h1.2.2.1 e3; unfold Hid; omega
                            · have := h1.2.2.2 e3; have := HU.out; unfold Hid; omega
                          have HKR : Hid (rd b j9 4 = k) := by have h1 := HK.out; unfold gL at h1; rw [if_neg (by rw [HN.out]; have := HU.out; omega), HN.out, HA.out.1, show i - n = u by have := HU.out; omega, show A + 3 + 4 * u = j9 by have := HJ.out; have := HA3.out; omega] at h1; exact h1
                          have TL9 : Hid (∀ V : World, Below w.heap.size w V → Calls Try.prog 85 #[.slice (some ⟨g, a, none⟩) L cap, .int .i64 (j9 : Int)] V fun e w' => e = .returned (.int .i64 (k : Int)) ∧ Below V.heap.size V w') := fun V hV => by
                            have q9 := four_rd V _ b j9 (HBL.out V hV) HBY.out (by have := HL.out; have := HEL.out; have := HG16.out; have := HE4.out; have := HM3.out; have := HJ.out; have := HU.out; omega)
                            rw [HKR.out] at q9
                            exact q9
                          have y1 : wr.cell? ⟨b6, 1, none⟩ = some (.int .i64 (n : Int)) := H.out.g.c6.cell 1
                          go_wp2_with (go_at_call 85; refine (TL9.out wr H.out.g.bel).mono ?_; rintro e w5 ⟨rfl, hB⟩; (have H5 : Hid (LpM b4 b6 n m E4 D i w w5 b sa sc) := H.out.past hB); (clear hB))
                          go_meet
                          case rel => exact ⟨rfl, by rw [← HKR.out]; exact rd4_lt HBY.out (by have := HL.out; have := HG16.out; have := HE4.out; have := HM3.out; have := HJ.out; have := HU.out; omega), H5.out⟩
                      case rest =>
                        as_aux_lemma =>
                          obtain ⟨rfl, hk, hM⟩ := hcut
                          clear H
                          have H : Hid (LpM b4 b6 n m E4 D i w wc b sa sc) := hM
                          have HKB : Hid (k < 4294967296) := hk
                          clear hM hk
                          by_cases ek : k = 0
                          · as_aux_lemma =>
                              have qk : ((k : Int) == 0) = true := by simp; omega
                              have HK0 : Hid (k = 0) := ek
                              clear ek
                              have M : Hid (GrM b4 b6 w wc [.int .i64 (E4 : Int), .int .i64 (n : Int), .int .i64 (m : Int), .slice sa i sc, .int .i64 0, .int .i64 (D : Int)]) := H.out.g
                              clear H
                              have k0 : wc.cell? ⟨b4, 0, none⟩ = some (.int .i64 0) := M.out.c4.cell 0
                              have f0 := CBox.frozen M.out.c4 0
                              have y0 : wc.cell? ⟨b6, 0, none⟩ = some (.int .i64 (E4 : Int)) := M.out.c6.cell 0
                              have k1 : wc.cell? ⟨b4, 1, none⟩ = some (.int .i64 0) := M.out.c4.cell 1
                              have f1 := CBox.frozen M.out.c4 1
                              have y1 : wc.cell? ⟨b6, 1, none⟩ = some (.int .i64 (n : Int)) := M.out.c6.cell 1
                              have k2 : wc.cell? ⟨b4, 2, none⟩ = some (.int .i64 0) := M.out.c4.cell 2
                              have f2 := CBox.frozen M.out.c4 2
                              have y2 : wc.cell? ⟨b6, 2, none⟩ = some (.int .i64 (m : Int)) := M.out.c6.cell 2
                              have k3 : wc.cell? ⟨b4, 3, none⟩ = some (.slice none 0 0) := M.out.c4.cell 3
                              have f3 := CBox.frozen M.out.c4 3
                              have y3 : wc.cell? ⟨b6, 3, none⟩ = some (.slice sa i sc) := M.out.c6.cell 3
                              have k4 : wc.cell? ⟨b4, 4, none⟩ = some (.int .i64 0) := M.out.c4.cell 4
                              have f4 := CBox.frozen M.out.c4 4
                              have y4 : wc.cell? ⟨b6, 4, none⟩ = some (.int .i64 0) := M.out.c6.cell 4
                              have k5 : wc.cell? ⟨b4, 5, none⟩ = some (.int .i64 0) := M.out.c4.cell 5
                              have f5 := CBox.frozen M.out.c4 5
                              have y5 : wc.cell? ⟨b6, 5, none⟩ = some (.int .i64 (D : Int)) := M.out.c6.cell 5
                              have HF : Hid (CBox ((((((wc.setCell ⟨b4, 0, none⟩ (.int .i64 (E4 : Int))).setCell ⟨b4, 1, none⟩ (.int .i64 (n : Int))).setCell ⟨b4, 2, none⟩ (.int .i64 (m : Int))).setCell ⟨b4, 3, none⟩ (.slice sa i sc)).setCell ⟨b4, 4, none⟩ (.int .i64 0)).setCell ⟨b4, 5, none⟩ (.int .i64 (D : Int))) b4 67 [.int .i64 (E4 : Int), .int .i64 (n : Int), .int .i64 (m : Int), .slice sa i sc, .int .i64 0, .int .i64 (D : Int)] ∧ Below w.heap.size w ((((((wc.setCell ⟨b4, 0, none⟩ (.int .i64 (E4 : Int))).setCell ⟨b4, 1, none⟩ (.int .i64 (n : Int))).setCell ⟨b4, 2, none⟩ (.int .i64 (m : Int))).setCell ⟨b4, 3, none⟩ (.slice sa i sc)).setCell ⟨b4, 4, none⟩ (.int .i64 0)).setCell ⟨b4, 5, none⟩ (.int .i64 (D : Int)))) := ⟨((((((M.out.c4.set 0 _).set 1 _).set 2 _).set 3 _).set 4 _).set 5 _), M.out.bel.trans ((((((((But.refl (fun y => y = b4) wc).setCell ⟨b4, 0, none⟩ _ (Or.inl rfl)).setCell ⟨b4, 1, none⟩ _ (Or.inl rfl)).setCell ⟨b4, 2, none⟩ _ (Or.inl rfl)).setCell ⟨b4, 3, none⟩ _ (Or.inl rfl)).setCell ⟨b4, 4, none⟩ _ (Or.inl rfl)).setCell ⟨b4, 5, none⟩ _ (Or.inl rfl)).below (fun g e => by have := M.out.g4; omega) M.out.bel.size)⟩
                              have HW : Hid (∀ c, prs b opn ≠ .ok c) := no_c (fun hg => by have h1 := gl_pos hg.1 (i := i) (by rw [HN.out, HEM.out.2.1]; have := HI.out; have := HQN.out; omega); have h2 := HK.out; have h3 := HK0.out; omega)
                              clear M
                              go_wp2
                              clear k0 f0 y0 k1 f1 y1 k2 f2 y2 k3 f3 y3 k4 f4 y4 k5 f5 y5
                              generalize ((((((wc.setCell ⟨b4, 0, none⟩ (.int .i64 (E4 : Int))).setCell ⟨b4, 1, none⟩ (.int .i64 (n : Int))).setCell ⟨b4, 2, none⟩ (.int .i64 (m : Int))).setCell ⟨b4, 3, none⟩ (.slice sa i sc)).setCell ⟨b4, 4, none⟩ (.int .i64 0)).setCell ⟨b4, 5, none⟩ (.int .i64 (D : Int))) = Z9 at HF ⊢
                              refine bodyPost_ret (v := .tuple #[.agg #[.int .i64 (E4 : Int), .int .i64 (n : Int), .int .i64 (m : Int), .slice sa i sc, .int .i64 0, .int .i64 (D : Int)], .bool false]) (results_ct (p := 4) (q := 5) (ty := 67) Try.results46 _ _ _ ⟨b4, 0, none⟩ rfl rfl (run_loadVar_mid Z9 b4 0 67 [.int .i64 (E4 : Int), .int .i64 (n : Int), .int .i64 (m : Int), .slice sa i sc, .int .i64 0, .int .i64 (D : Int)] _ HF.out.1.range Try.underlying67 rfl (by kernel_rfl))) rfl ?_
                              exact ⟨Or.inl ⟨_, _, _, _, _, _, _, _, rfl, HW.out⟩, by first | exact HF.out.2 | (rw [GB.out]; exact HF.out.2) | (rw [← GB.out]; exact HF.out.2)⟩
                          have qk : ((k : Int) == 0) = false := by simp; omega
                          have HK0 : Hid (0 < k) := by unfold Hid; omega
                          clear ek
                          go_upto_region 30 with fail
                          clear qk
                          have y3 : wc.cell? ⟨b6, 3, none⟩ = some (.slice sa i sc) := H.out.g.c6.cell 3
                          go_upto_region 31 with (at_builtin; refine wpList_appI rfl _ _ rfl w.heap.size H.out.g.bel.size (.slice sa i sc) ((List.range i).map (gPl b)) rfl H.out.st p rfl (by simp; have := HIB.out; omega) ?_; intro v9 w9 hA; (obtain ⟨oa, oc, e9, hM9, hR9⟩ := lpm_app H.out HPI.out.1 hA); (subst e9); (have M9 : Hid (GrM b4 b6 w w9 [.int .i64 (E4 : Int), .int .i64 (n : Int), .int .i64 (m : Int), .slice sa i sc, .int .i64 0, .int .i64 (D : Int)]) := hM9); (have HR : Hid (InO w.heap.size w9 (.slice oa (i + 1) oc) ((List.range (i + 1)).map (gPl b))) := hR9); (clear hM9 hR9 hA); (have k3 : w9.cell? ⟨b6, 3, none⟩ = some (.slice sa i sc) := M9.out.c6.cell 3); (have f3 := CBox.frozen M9.out.c6 3))
                          clear k3 f3 y3
                          have H9 : Hid (LpM b4 b6 n m E4 D (i + 1) w (w9.setCell ⟨b6, 3, none⟩ (.slice oa (i + 1) oc)) b oa oc) := lpm_put M9.out HR.out
                          clear H M9 HR
                          generalize w9.setCell ⟨b6, 3, none⟩ (.slice oa (i + 1) oc) = W9 at H9 ⊢
                          obtain ⟨p2, hp2⟩ : ∃ x, x = p + k := ⟨_, rfl⟩
                          have HP2 : Hid (p2 = p + k) := hp2
                          have z1 : (p : Int) + (k : Int) = (p2 : Int) := by omega
                          have z2 : IntKind.i64.wrap (p2 : Int) = (p2 : Int) := by rw [IntKind.wrap_i64]; have := HPI.out; have := HKB.out; have := HI.out; have := HQN.out; omega
                          clear hp2
                          obtain ⟨i1, hi1⟩ : ∃ x, x = i + 1 := ⟨_, rfl⟩
                          have HI1 : Hid (i1 = i + 1) := hi1
                          have u1 : (i : Int) + 1 = (i1 : Int) := by omega
                          have u2 : IntKind.i64.wrap (i1 : Int) = (i1 : Int) := by rw [IntKind.wrap_i64]; have := HIB.out; omega
                          clear hi1
                          go_wp2
                          go_roundw
                          have HF : Hid (gPl b i1 = p2 ∧ p2 ≤ 30000 + i1 * 4294967296 ∧ (∀ j, j < i1 → 0 < gL b j) ∧ LpM b4 b6 n m E4 D i1 w W9 b oa oc) := by
                            unfold Hid
                            rw [HI1.out]
                            exact ⟨by show gPl b i + gL b i = p2; rw [HPI.out.1, HK.out]; exact HP2.out.symm, by have := HPI.out; have := HKB.out; have := HP2.out; omega, fun j hj => by by_cases ej : j = i; (· rw [ej, HK.out]; exact HK0.out); (· exact HPI.out.2.2 j (by omega)), H9.out⟩
                          case rel => exact ⟨i1, p2, oa, oc, rfl, rfl, by have := HI.out; have := HI1.out; omega, HF.out.1, HF.out.2.1, HF.out.2.2.1, HF.out.2.2.2⟩
                          case measure => (simp [intOf]; have := HI.out; have := HI1.out; omega)
end Go.Proofs.Ytndhabhlajldeaa
