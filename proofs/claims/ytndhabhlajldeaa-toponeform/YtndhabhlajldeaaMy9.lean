/- vouchtop's helpers: equal, of what is the same; least. -/
import Derived.Test.YtndhabhlajldeaaMy6
import Derived.Test.YtndhabhlajldeaaMy7
import Derived.Test.YtndhabhlajldeaaMy8
import Derived.Test.YtndhabhlajldeaaMy1
namespace Go.Proofs.Ytndhabhlajldeaa
open Go.RowKit
theorem top_boxes (W : World) (L4 L5 : List Value) : CBox ((W.alloc (.cells L4.toArray 28)).alloc (.cells L5.toArray 47)) W.heap.size 28 L4 ∧ CBox ((W.alloc (.cells L4.toArray 28)).alloc (.cells L5.toArray 47)) (W.heap.size + 1) 47 L5 ∧ Below W.heap.size W ((W.alloc (.cells L4.toArray 28)).alloc (.cells L5.toArray 47)) := by
  have b1 := below_alloc W (.cells L4.toArray 28)
  have b2 := below_alloc (W.alloc (.cells L4.toArray 28)) (.cells L5.toArray 47)
  have s1 : (W.alloc (.cells L4.toArray 28)).heap.size = W.heap.size + 1 := by simp
  have c2 := CBox.new (W.alloc (.cells L4.toArray 28)) 47 L5
  rw [s1] at c2
  exact ⟨(CBox.new W _ L4).past b2, c2, b1.trans (b2.mono (by omega))⟩
set_option maxHeartbeats 8000000 in
set_option maxRecDepth 100000 in
theorem equal_is {P R : Nat → Prop} (w : World) (v u : Value) (c : Con) (h : CW P w v c) (k : CW R w u c) : Calls Try.prog 54 #[v, u] w fun e w' => e = .returned (.bool true) ∧ Below w.heap.size w w' := by
  obtain ⟨tv, cv, sv, dv, rfl, h1, h2, h3, h4⟩ := h
  obtain ⟨tu, cu, su, du, rfl, k1, k2, k3, k4⟩ := k
  obtain ⟨ta, tc, rfl, _, hl⟩ := h1.len
  obtain ⟨ca, cc, rfl, _⟩ := h2.len
  obtain ⟨sa, sc, rfl, _⟩ := h3.len
  obtain ⟨da, dc, rfl, _⟩ := h4.len
  obtain ⟨ta', tc', rfl, _⟩ := k1.len
  obtain ⟨ca', cc', rfl, _⟩ := k2.len
  obtain ⟨sa', sc', rfl, _⟩ := k3.len
  obtain ⟨da', dc', rfl, _⟩ := k4.len
  have nI : (c.ts.length : Int) ≤ 1152921504606846976 := by omega
  have b1 := below_alloc w (.cells #[.slice ta c.ts.length tc, .slice ca c.cs.length cc, .slice sa c.ss.length sc, .slice da c.d.length dc, .int .i64 c.n] 28)
  have b2 := below_alloc (w.alloc (.cells #[.slice ta c.ts.length tc, .slice ca c.cs.length cc, .slice sa c.ss.length sc, .slice da c.d.length dc, .int .i64 c.n] 28)) (.cells #[.slice ta' c.ts.length tc', .slice ca' c.cs.length cc', .slice sa' c.ss.length sc', .slice da' c.d.length dc', .int .i64 c.n] 28)
  have s1 : (w.alloc (.cells #[.slice ta c.ts.length tc, .slice ca c.cs.length cc, .slice sa c.ss.length sc, .slice da c.d.length dc, .int .i64 c.n] 28)).heap.size = w.heap.size + 1 := by simp
  have bb : Below w.heap.size w ((w.alloc (.cells #[.slice ta c.ts.length tc, .slice ca c.cs.length cc, .slice sa c.ss.length sc, .slice da c.d.length dc, .int .i64 c.n] 28)).alloc (.cells #[.slice ta' c.ts.length tc', .slice ca' c.cs.length cc', .slice sa' c.ss.length sc', .slice da' c.d.length dc', .int .i64 c.n] 28)) := b1.trans (b2.mono (by omega))
  have c2 := CBox.new (w.alloc (.cells #[.slice ta c.ts.length tc, .slice ca c.cs.length cc, .slice sa c.ss.length sc, .slice da c.d.length dc, .int .i64 c.n] 28)) 28 [.slice ta' c.ts.length tc', .slice ca' c.cs.length cc', .slice sa' c.ss.length sc', .slice da' c.d.length dc', .int .i64 c.n]
  rw [s1] at c2
  have M : Hid (SmM w.heap.size w.heap.size (w.heap.size + 1) P R w ((w.alloc (.cells #[.slice ta c.ts.length tc, .slice ca c.cs.length cc, .slice sa c.ss.length sc, .slice da c.d.length dc, .int .i64 c.n] 28)).alloc (.cells #[.slice ta' c.ts.length tc', .slice ca' c.cs.length cc', .slice sa' c.ss.length sc', .slice da' c.d.length dc', .int .i64 c.n] 28)) (.slice ta c.ts.length tc) (.slice ca c.cs.length cc) (.slice sa c.ss.length sc) (.slice da c.d.length dc) (.slice ta' c.ts.length tc') (.slice ca' c.cs.length cc') (.slice sa' c.ss.length sc') (.slice da' c.d.length dc') c) := ⟨(CBox.new w 28 [.slice ta c.ts.length tc, .slice ca c.cs.length cc, .slice sa c.ss.length sc, .slice da c.d.length dc, .int .i64 c.n]).past b2, c2, h1.past bb, k1.past bb, h2.past bb, k2.past bb, h3.past bb, k3.past bb, h4.past bb, k4.past bb, bb, Nat.le_refl _⟩
  clear h1 h2 h3 h4 k1 k2 k3 k4 b1 b2 s1 bb c2
  go_enter Try.func54, Try.ntmps54
  go_upto_region 1 with fail
  generalize w.heap.size + 1 = by' at M ⊢
  generalize hbx : w.heap.size = bx at M ⊢
  have GB : Hid (w.heap.size = bx) := hbx
  clear hbx
  generalize (w.alloc _).alloc _ = W0 at M ⊢
  refine wp_region_lit ?_
  refine lst_val (v := .pointer (some ⟨bx, 0, none⟩)) (by kernel_rfl) ?_ ?_
  · go_simp
  simp only [Act.put, List.setIfInBounds_toArray, List.set_cons_zero, List.set_cons_succ]
  refine lst_val (v := .slice ta c.ts.length tc) (by kernel_rfl) ?_ ?_
  · have c0 := M.out.c1.cell 0
    go_simp
  simp only [Act.put, List.setIfInBounds_toArray, List.set_cons_zero, List.set_cons_succ]
  refine lst_val (v := .int .i64 (c.ts.length : Int)) (by kernel_rfl) ?_ ?_
  · go_simp
  simp only [Act.put, List.setIfInBounds_toArray, List.set_cons_zero, List.set_cons_succ]
  refine lst_val (v := .pointer (some ⟨by', 0, none⟩)) (by kernel_rfl) ?_ ?_
  · go_simp
  simp only [Act.put, List.setIfInBounds_toArray, List.set_cons_zero, List.set_cons_succ]
  refine lst_val (v := .slice ta' c.ts.length tc') (by kernel_rfl) ?_ ?_
  · have c0 := M.out.c2.cell 0
    go_simp
  simp only [Act.put, List.setIfInBounds_toArray, List.set_cons_zero, List.set_cons_succ]
  refine lst_val (v := .int .i64 (c.ts.length : Int)) (by kernel_rfl) ?_ ?_
  · go_simp
  simp only [Act.put, List.setIfInBounds_toArray, List.set_cons_zero, List.set_cons_succ]
  refine lst_val (v := .bool false) (by kernel_rfl) ?_ ?_
  · go_simp
  simp only [Act.put, List.setIfInBounds_toArray, List.set_cons_zero, List.set_cons_succ]
  refine lst_val (v := .bool false) (by kernel_rfl) ?_ ?_
  · go_simp
  simp only [Act.put, List.setIfInBounds_toArray, List.set_cons_zero, List.set_cons_succ]
  refine lst_val (v := .pointer (some ⟨bx, 4, none⟩)) (by kernel_rfl) ?_ ?_
  · go_simp
  simp only [Act.put, List.setIfInBounds_toArray, List.set_cons_zero, List.set_cons_succ]
  refine lst_val (v := .int .i64 c.n) (by kernel_rfl) ?_ ?_
  · have c0 := M.out.c1.cell 4
    go_simp
  simp only [Act.put, List.setIfInBounds_toArray, List.set_cons_zero, List.set_cons_succ]
  refine lst_val (v := .pointer (some ⟨by', 4, none⟩)) (by kernel_rfl) ?_ ?_
  · go_simp
  simp only [Act.put, List.setIfInBounds_toArray, List.set_cons_zero, List.set_cons_succ]
  refine lst_val (v := .int .i64 c.n) (by kernel_rfl) ?_ ?_
  · have c0 := M.out.c2.cell 4
    go_simp
  simp only [Act.put, List.setIfInBounds_toArray, List.set_cons_zero, List.set_cons_succ]
  refine lst_val (v := .bool false) (by kernel_rfl) ?_ ?_
  · go_simp
  simp only [Act.put, List.setIfInBounds_toArray, List.set_cons_zero, List.set_cons_succ]
  refine lst_val (v := .bool false) (by kernel_rfl) ?_ ?_
  · go_simp
  simp only [Act.put, List.setIfInBounds_toArray, List.set_cons_zero, List.set_cons_succ]
  refine wpList_nil ?_
  go_wp2
  go_loopw [5] (fun s5 wr => ∃ k : Nat, s5 = .int .i64 (k : Int) ∧ k ≤ c.ts.length ∧ SmM bx bx by' P R w wr (.slice ta c.ts.length tc) (.slice ca c.cs.length cc) (.slice sa c.ss.length sc) (.slice da c.d.length dc) (.slice ta' c.ts.length tc') (.slice ca' c.cs.length cc') (.slice sa' c.ss.length sc') (.slice da' c.d.length dc') c) (fun s5 _ => c.ts.length - (intOf s5).toNat)
  case atStart => exact ⟨0, rfl, by omega, M.out⟩
  case round =>
    obtain ⟨k, rfl, hk, hM⟩ := hrel
    clear M
    have M : Hid (SmM bx bx by' P R w wr (.slice ta c.ts.length tc) (.slice ca c.cs.length cc) (.slice sa c.ss.length sc) (.slice da c.d.length dc) (.slice ta' c.ts.length tc') (.slice ca' c.cs.length cc') (.slice sa' c.ss.length sc') (.slice da' c.d.length dc') c) := hM
    clear hM
    have c0 : wr.cell? ⟨bx, 0, none⟩ = some (.slice ta c.ts.length tc) := M.out.c1.cell 0
    by_cases e : k = c.ts.length
    · have kn : ¬ (k : Int) < (c.ts.length : Int) := by omega
      clear e
      go_upto_region 8 with fail
      clear c0 kn
      refine wp_region_lit ?_
      refine lst_val (v := .pointer (some ⟨bx, 1, none⟩)) (by kernel_rfl) ?_ ?_
      · go_simp
      simp only [Act.put, List.setIfInBounds_toArray, List.set_cons_zero, List.set_cons_succ]
      refine lst_val (v := .slice ca c.cs.length cc) (by kernel_rfl) ?_ ?_
      · have c0 := M.out.c1.cell 1
        go_simp
      simp only [Act.put, List.setIfInBounds_toArray, List.set_cons_zero, List.set_cons_succ]
      refine lst_val (v := .pointer (some ⟨by', 1, none⟩)) (by kernel_rfl) ?_ ?_
      · go_simp
      simp only [Act.put, List.setIfInBounds_toArray, List.set_cons_zero, List.set_cons_succ]
      refine lst_val (v := .slice ca' c.cs.length cc') (by kernel_rfl) ?_ ?_
      · have c0 := M.out.c2.cell 1
        go_simp
      simp only [Act.put, List.setIfInBounds_toArray, List.set_cons_zero, List.set_cons_succ]
      refine lst_call (by kernel_rfl) (by first | (go_simp; done) | (go_simp; first | exact rfl | exact ⟨rfl, rfl⟩ | exact ⟨rfl, rfl, rfl⟩)) (toprows_is _ _ _ c.cs M.out.p1 M.out.p2) ?_
      rintro e z1 ⟨rfl, hB⟩
      refine ⟨_, rfl, ?_⟩
      have M9 := M.out.past hB
      clear hB M
      have M : Hid _ := M9
      clear M9
      simp only [Act.put, List.setIfInBounds_toArray, List.set_cons_zero, List.set_cons_succ]
      refine lst_val (v := .bool true) (by kernel_rfl) ?_ ?_
      · go_simp
      simp only [Act.put, List.setIfInBounds_toArray, List.set_cons_zero, List.set_cons_succ]
      refine lst_val (v := .pointer (some ⟨bx, 2, none⟩)) (by kernel_rfl) ?_ ?_
      · go_simp
      simp only [Act.put, List.setIfInBounds_toArray, List.set_cons_zero, List.set_cons_succ]
      refine lst_val (v := .slice sa c.ss.length sc) (by kernel_rfl) ?_ ?_
      · have c0 := M.out.c1.cell 2
        go_simp
      simp only [Act.put, List.setIfInBounds_toArray, List.set_cons_zero, List.set_cons_succ]
      refine lst_val (v := .pointer (some ⟨by', 2, none⟩)) (by kernel_rfl) ?_ ?_
      · go_simp
      simp only [Act.put, List.setIfInBounds_toArray, List.set_cons_zero, List.set_cons_succ]
      refine lst_val (v := .slice sa' c.ss.length sc') (by kernel_rfl) ?_ ?_
      · have c0 := M.out.c2.cell 2
        go_simp
      simp only [Act.put, List.setIfInBounds_toArray, List.set_cons_zero, List.set_cons_succ]
      refine lst_call (by kernel_rfl) (by first | (go_simp; done) | (go_simp; first | exact rfl | exact ⟨rfl, rfl⟩ | exact ⟨rfl, rfl, rfl⟩)) (toprows_is _ _ _ c.ss M.out.s1 M.out.s2) ?_
      rintro e z1 ⟨rfl, hB⟩
      refine ⟨_, rfl, ?_⟩
      have M9 := M.out.past hB
      clear hB M
      have M : Hid _ := M9
      clear M9
      simp only [Act.put, List.setIfInBounds_toArray, List.set_cons_zero, List.set_cons_succ]
      refine lst_val (v := .bool true) (by kernel_rfl) ?_ ?_
      · go_simp
      simp only [Act.put, List.setIfInBounds_toArray, List.set_cons_zero, List.set_cons_succ]
      refine lst_val (v := .bool true) (by kernel_rfl) ?_ ?_
      · go_simp
      simp only [Act.put, List.setIfInBounds_toArray, List.set_cons_zero, List.set_cons_succ]
      refine lst_val (v := .pointer (some ⟨bx, 3, none⟩)) (by kernel_rfl) ?_ ?_
      · go_simp
      simp only [Act.put, List.setIfInBounds_toArray, List.set_cons_zero, List.set_cons_succ]
      refine lst_val (v := .slice da c.d.length dc) (by kernel_rfl) ?_ ?_
      · have c0 := M.out.c1.cell 3
        go_simp
      simp only [Act.put, List.setIfInBounds_toArray, List.set_cons_zero, List.set_cons_succ]
      refine lst_val (v := .pointer (some ⟨by', 3, none⟩)) (by kernel_rfl) ?_ ?_
      · go_simp
      simp only [Act.put, List.setIfInBounds_toArray, List.set_cons_zero, List.set_cons_succ]
      refine lst_val (v := .slice da' c.d.length dc') (by kernel_rfl) ?_ ?_
      · have c0 := M.out.c2.cell 3
        go_simp
      simp only [Act.put, List.setIfInBounds_toArray, List.set_cons_zero, List.set_cons_succ]
      refine lst_call (by kernel_rfl) (by first | (go_simp; done) | (go_simp; first | exact rfl | exact ⟨rfl, rfl⟩ | exact ⟨rfl, rfl, rfl⟩)) (topsameB_is _ _ _ c.d M.out.d1 M.out.d2) ?_
      rintro e z1 ⟨rfl, hB⟩
      refine ⟨_, rfl, ?_⟩
      have M9 := M.out.past hB
      clear hB M
      have M : Hid _ := M9
      clear M9
      simp only [Act.put, List.setIfInBounds_toArray, List.set_cons_zero, List.set_cons_succ]
      refine lst_val (v := .bool true) (by kernel_rfl) ?_ ?_
      · go_simp
      simp only [Act.put, List.setIfInBounds_toArray, List.set_cons_zero, List.set_cons_succ]
      refine lst_val (v := .bool true) (by kernel_rfl) ?_ ?_
      · go_simp
      simp only [Act.put, List.setIfInBounds_toArray, List.set_cons_zero, List.set_cons_succ]
      refine wpList_nil ?_
      go_wp2
      go_ret
      exact ⟨rfl, by rw [GB.out]; exact M.out.bel⟩
    · have kn : (k : Int) < (c.ts.length : Int) := by omega
      obtain ⟨t, ht⟩ : ∃ t, c.ts[k]? = some t := ⟨c.ts[k]'(by omega), List.getElem?_eq_getElem _⟩
      obtain ⟨x, y, z⟩ := t
      obtain ⟨g1, a1, e1, q1, q2, q3⟩ := M.out.t1.get ht
      obtain ⟨g2, a2, e2, r1, r2, r3⟩ := M.out.t2.get ht
      subst e1 e2
      clear e ht
      go_upto_region 6 with fail
      clear c0
      refine wp_region_held_drew (S := fun V' => V'.cell? ⟨bx, 0, none⟩ = some (.slice (some ⟨g1, a1, none⟩) c.ts.length tc) ∧ V'.cell? ⟨by', 0, none⟩ = some (.slice (some ⟨g2, a2, none⟩) c.ts.length tc') ∧ V'.cell? ⟨g1, a1 + k * 3, none⟩ = some (.int .i64 x) ∧ V'.cell? ⟨g1, a1 + k * 3 + 1, none⟩ = some (.int .i64 y) ∧ V'.cell? ⟨g1, a1 + k * 3 + 2, none⟩ = some (.int .i64 z) ∧ V'.cell? ⟨g2, a2 + k * 3, none⟩ = some (.int .i64 x) ∧ V'.cell? ⟨g2, a2 + k * 3 + 1, none⟩ = some (.int .i64 y) ∧ V'.cell? ⟨g2, a2 + k * 3 + 2, none⟩ = some (.int .i64 z)) (by kernel_rfl) ⟨M.out.c1.cell 0, M.out.c2.cell 0, q1, q2, q3, r1, r2, r3⟩ (fun hHeld => ?_)
      have M1 : Hid (SmM bx bx by' P R w wr.drew (.slice (some ⟨g1, a1, none⟩) c.ts.length tc) (.slice ca c.cs.length cc) (.slice sa c.ss.length sc) (.slice da c.d.length dc) (.slice (some ⟨g2, a2, none⟩) c.ts.length tc') (.slice ca' c.cs.length cc') (.slice sa' c.ss.length sc') (.slice da' c.d.length dc') c) := M.out.past below_drew
      clear M q1 q2 q3 r1 r2 r3
      generalize wr.drew = z0 at hHeld M1 ⊢
      refine wpAnyH_take (i := 0) (v := .pointer (some ⟨bx, 0, none⟩)) ov0 (by kernel_rfl) (by kernel_rfl) (by kernel_rfl) (fun _ _ _ h => h) (Or.inl ⟨by rfl, fun V' hS => ?_⟩) hHeld ?_
      · go_simp
      simp only [Act.put, List.setIfInBounds_toArray, List.set_cons_zero, List.set_cons_succ]
      refine wpAnyH_take (i := 1) (v := .slice (some ⟨g1, a1, none⟩) c.ts.length tc) ov1 (by kernel_rfl) (by kernel_rfl) (by kernel_rfl) (fun _ _ _ h => h) (Or.inl ⟨by rfl, fun V' hS => ?_⟩) hHeld ?_
      · have c0 := hS.1
        go_simp
      simp only [Act.put, List.setIfInBounds_toArray, List.set_cons_zero, List.set_cons_succ]
      refine wpAnyH_take (i := 2) (v := .int .i64 (k : Int)) ov2 (by kernel_rfl) (by kernel_rfl) (by kernel_rfl) (fun _ _ _ h => h) (Or.inl ⟨by rfl, fun V' hS => ?_⟩) hHeld ?_
      · go_simp
      simp only [Act.put, List.setIfInBounds_toArray, List.set_cons_zero, List.set_cons_succ]
      refine wpAnyH_take (i := 3) (v := .pointer (some ⟨g1, a1 + k * 3, none⟩)) ov3 (by kernel_rfl) (by kernel_rfl) (by kernel_rfl) (fun _ _ _ h => h) (Or.inl ⟨by rfl, fun V' hS => ?_⟩) hHeld ?_
      · go_simp
      simp only [Act.put, List.setIfInBounds_toArray, List.set_cons_zero, List.set_cons_succ]
      refine wpAnyH_take (i := 4) (v := .agg #[.int .i64 x, .int .i64 y, .int .i64 z]) ov4 (by kernel_rfl) (by kernel_rfl) (by kernel_rfl) (fun _ _ _ h => h) (Or.inl ⟨by rfl, fun V' hS => ?_⟩) hHeld ?_
      · obtain ⟨c0, c1, c2, _⟩ := hS.2.2
        go_simp
      simp only [Act.put, List.setIfInBounds_toArray, List.set_cons_zero, List.set_cons_succ]
      refine wpAnyH_take (i := 5) (v := .pointer (some ⟨by', 0, none⟩)) ov5 (by kernel_rfl) (by kernel_rfl) (by kernel_rfl) (fun _ _ _ h => h) (Or.inl ⟨by rfl, fun V' hS => ?_⟩) hHeld ?_
      · go_simp
      simp only [Act.put, List.setIfInBounds_toArray, List.set_cons_zero, List.set_cons_succ]
      refine wpAnyH_take (i := 6) (v := .slice (some ⟨g2, a2, none⟩) c.ts.length tc') ov6 (by kernel_rfl) (by kernel_rfl) (by kernel_rfl) (fun _ _ _ h => h) (Or.inl ⟨by rfl, fun V' hS => ?_⟩) hHeld ?_
      · have c0 := hS.2.1
        go_simp
      simp only [Act.put, List.setIfInBounds_toArray, List.set_cons_zero, List.set_cons_succ]
      refine wpAnyH_take (i := 7) (v := .int .i64 (k : Int)) ov7 (by kernel_rfl) (by kernel_rfl) (by kernel_rfl) (fun _ _ _ h => h) (Or.inl ⟨by rfl, fun V' hS => ?_⟩) hHeld ?_
      · go_simp
      simp only [Act.put, List.setIfInBounds_toArray, List.set_cons_zero, List.set_cons_succ]
      refine wpAnyH_take (i := 8) (v := .pointer (some ⟨g2, a2 + k * 3, none⟩)) ov8 (by kernel_rfl) (by kernel_rfl) (by kernel_rfl) (fun _ _ _ h => h) (Or.inl ⟨by rfl, fun V' hS => ?_⟩) hHeld ?_
      · go_simp
      simp only [Act.put, List.setIfInBounds_toArray, List.set_cons_zero, List.set_cons_succ]
      refine wpAnyH_take (i := 9) (v := .agg #[.int .i64 x, .int .i64 y, .int .i64 z]) ov9 (by kernel_rfl) (by kernel_rfl) (by kernel_rfl) (fun _ _ _ h => h) (Or.inl ⟨by rfl, fun V' hS => ?_⟩) hHeld ?_
      · obtain ⟨_, _, _, c0, c1, c2⟩ := hS.2.2
        go_simp
      simp only [Act.put, List.setIfInBounds_toArray, List.set_cons_zero, List.set_cons_succ]
      refine wpAnyH_take (i := 10) (v := .bool false) ov10 (by kernel_rfl) (by kernel_rfl) (by kernel_rfl) (fun _ _ _ h => h) (Or.inl ⟨by rfl, fun V' hS => ?_⟩) hHeld ?_
      · exact (by have := ty_neq x y z V'; go_simp)
      simp only [Act.put, List.setIfInBounds_toArray, List.set_cons_zero, List.set_cons_succ]
      refine wpAnyH_done (by kernel_rfl) ?_ _
      clear hHeld
      go_wp2
      go_roundw
      case rel => exact ⟨k + 1, by first | rfl | go_num, by omega, M1.out⟩
      case measure => simp [intOf]; omega
def turnB : List Nat := [238, 0, 1, 1, 0, 4, 2, 0, 1, 0, 1, 255, 0, 0, 0, 0, 128, 0, 0, 0]
theorem turn_prs : prs turnB false = .error (51, 0) := rfl
theorem turn_byt : Byt turnB := by unfold Byt; decide
set_option maxHeartbeats 8000000 in
set_option maxRecDepth 100000 in
theorem topleast_is (w : World) : Calls Try.prog 48 #[] w fun e w' => e = .returned (.bool true) ∧ Below w.heap.size w w' := by
  have M0 : Hid (CBox (w.alloc (.cells #[.int .u8 239, .int .u8 0, .int .u8 1, .int .u8 1, .int .u8 0, .int .u8 4, .int .u8 2, .int .u8 0, .int .u8 1, .int .u8 0, .int .u8 1, .int .u8 255, .int .u8 0, .int .u8 0, .int .u8 0, .int .u8 0, .int .u8 128, .int .u8 0, .int .u8 0, .int .u8 0] 5)) w.heap.size 5 [.int .u8 239, .int .u8 0, .int .u8 1, .int .u8 1, .int .u8 0, .int .u8 4, .int .u8 2, .int .u8 0, .int .u8 1, .int .u8 0, .int .u8 1, .int .u8 255, .int .u8 0, .int .u8 0, .int .u8 0, .int .u8 0, .int .u8 128, .int .u8 0, .int .u8 0, .int .u8 0] ∧ Below w.heap.size w (w.alloc (.cells #[.int .u8 239, .int .u8 0, .int .u8 1, .int .u8 1, .int .u8 0, .int .u8 4, .int .u8 2, .int .u8 0, .int .u8 1, .int .u8 0, .int .u8 1, .int .u8 255, .int .u8 0, .int .u8 0, .int .u8 0, .int .u8 0, .int .u8 128, .int .u8 0, .int .u8 0, .int .u8 0] 5))) := ⟨CBox.new w 5 [.int .u8 239, .int .u8 0, .int .u8 1, .int .u8 1, .int .u8 0, .int .u8 4, .int .u8 2, .int .u8 0, .int .u8 1, .int .u8 0, .int .u8 1, .int .u8 255, .int .u8 0, .int .u8 0, .int .u8 0, .int .u8 0, .int .u8 128, .int .u8 0, .int .u8 0, .int .u8 0], below_alloc _ _⟩
  go_enter Try.func48, Try.ntmps48
  go_upto_region 2 with fail
  generalize hbw : w.heap.size = bw at M0 ⊢
  have GB : Hid (w.heap.size = bw) := hbw
  have GE : Hid (bw ≤ w.heap.size) := by unfold Hid; omega
  clear hbw
  generalize w.alloc _ = W1 at M0 ⊢
  obtain ⟨c0, hc0⟩ : ∃ c0, prs leastB false = .ok c0 := ⟨_, least_prs⟩
  have PX : Hid (∀ (W : World) (R : Nat → Prop) (u : Value), BL R W u leastB → Calls Try.prog 31 #[u, .bool false] W fun e w' => (∃ ta tc ca cc sa sc da dc, e = .returned (.tuple #[.agg #[.slice ta c0.ts.length tc, .slice ca c0.cs.length cc, .slice sa c0.ss.length sc, .slice da c0.d.length dc, .int .i64 c0.n], .agg #[.int .i64 0, .slice none 0 0, .int .i64 0, .int .i64 0]])) ∧ Below W.heap.size W w') := fun W R u q => (parse_ans W u leastB false q least_byt (by decide)).mono fun e w' q9 => by
    rw [hc0] at q9
    obtain ⟨⟨ta, tc, ca, cc, sa, sc, da, dc, e9, _⟩, hB⟩ := q9
    exact ⟨⟨ta, tc, ca, cc, sa, sc, da, dc, e9⟩, hB⟩
  have PY : Hid (∀ (W : World) (R : Nat → Prop) (u : Value), BL R W u turnB → Calls Try.prog 31 #[u, .bool false] W fun e w' => (∃ ta tc ca cc sa sc da dc, e = .returned (.tuple #[.agg #[.slice ta con0.ts.length tc, .slice ca con0.cs.length cc, .slice sa con0.ss.length sc, .slice da con0.d.length dc, .int .i64 con0.n], .agg #[.int .i64 51, .slice none 0 0, .int .i64 0, .int .i64 0]])) ∧ Below W.heap.size W w') := fun W R u q => (parse_ans W u turnB false q turn_byt (by decide)).mono fun e w' q9 => by
    rw [turn_prs] at q9
    obtain ⟨⟨ta, tc, ca, cc, sa, sc, da, dc, e9, _⟩, hB⟩ := q9
    exact ⟨⟨ta, tc, ca, cc, sa, sc, da, dc, e9⟩, hB⟩
  clear hc0
  have HD : Hid (∀ W, CBox W bw 5 [.int .u8 239, .int .u8 0, .int .u8 1, .int .u8 1, .int .u8 0, .int .u8 4, .int .u8 2, .int .u8 0, .int .u8 1, .int .u8 0, .int .u8 1, .int .u8 255, .int .u8 0, .int .u8 0, .int .u8 0, .int .u8 0, .int .u8 128, .int .u8 0, .int .u8 0, .int .u8 0] → BL (fun _ => True) W (.slice (some ⟨bw, 0, none⟩) 20 20) leastB) := fun W hW => SL.box (n := 20) (s := 1) hW rfl (by decide) trivial
  have HD2 : Hid (∀ W, CBox W bw 5 [.int .u8 238, .int .u8 0, .int .u8 1, .int .u8 1, .int .u8 0, .int .u8 4, .int .u8 2, .int .u8 0, .int .u8 1, .int .u8 0, .int .u8 1, .int .u8 255, .int .u8 0, .int .u8 0, .int .u8 0, .int .u8 0, .int .u8 128, .int .u8 0, .int .u8 0, .int .u8 0] → BL (fun _ => True) W (.slice (some ⟨bw, 0, none⟩) 20 20) turnB) := fun W hW => SL.box (n := 20) (s := 1) hW rfl (by decide) trivial
  go_upto_region 3 with (go_at_call 31; refine (PX.out _ _ _ (HD.out _ M0.out.1)).mono ?_; rintro e w2 ⟨⟨ta, tc, ca, cc, sa, sc, da, dc, rfl⟩, hB⟩; (have M1 : Hid (CBox w2 bw 5 [.int .u8 239, .int .u8 0, .int .u8 1, .int .u8 1, .int .u8 0, .int .u8 4, .int .u8 2, .int .u8 0, .int .u8 1, .int .u8 0, .int .u8 1, .int .u8 255, .int .u8 0, .int .u8 0, .int .u8 0, .int .u8 0, .int .u8 128, .int .u8 0, .int .u8 0, .int .u8 0] ∧ Below bw w w2) := ⟨M0.out.1.past hB, M0.out.2.trans (hB.mono (Nat.le_trans GE.out M0.out.2.size))⟩); (clear hB))
  have T2 := top_boxes w2 [.slice ta c0.ts.length tc, .slice ca c0.cs.length cc, .slice sa c0.ss.length sc, .slice da c0.d.length dc, .int .i64 c0.n] [.int .i64 0, .slice none 0 0, .int .i64 0, .int .i64 0]
  have M2 : Hid (CBox ((w2.alloc (.cells #[.slice ta c0.ts.length tc, .slice ca c0.cs.length cc, .slice sa c0.ss.length sc, .slice da c0.d.length dc, .int .i64 c0.n] 28)).alloc (.cells #[.int .i64 0, .slice none 0 0, .int .i64 0, .int .i64 0] 47)) bw 5 [.int .u8 239, .int .u8 0, .int .u8 1, .int .u8 1, .int .u8 0, .int .u8 4, .int .u8 2, .int .u8 0, .int .u8 1, .int .u8 0, .int .u8 1, .int .u8 255, .int .u8 0, .int .u8 0, .int .u8 0, .int .u8 0, .int .u8 128, .int .u8 0, .int .u8 0, .int .u8 0] ∧ Below bw w ((w2.alloc (.cells #[.slice ta c0.ts.length tc, .slice ca c0.cs.length cc, .slice sa c0.ss.length sc, .slice da c0.d.length dc, .int .i64 c0.n] 28)).alloc (.cells #[.int .i64 0, .slice none 0 0, .int .i64 0, .int .i64 0] 47)) ∧ CBox ((w2.alloc (.cells #[.slice ta c0.ts.length tc, .slice ca c0.cs.length cc, .slice sa c0.ss.length sc, .slice da c0.d.length dc, .int .i64 c0.n] 28)).alloc (.cells #[.int .i64 0, .slice none 0 0, .int .i64 0, .int .i64 0] 47)) (w2.heap.size + 1) 47 [.int .i64 0, .slice none 0 0, .int .i64 0, .int .i64 0] ∧ bw < w2.heap.size) := ⟨M1.out.1.past T2.2.2, M1.out.2.trans (T2.2.2.mono (Nat.le_trans GE.out M1.out.2.size)), T2.2.1, M1.out.1.lt⟩
  have HB3 : Hid (bw ≠ w2.heap.size + 1) := by have := M2.out.2.2.2; unfold Hid; omega
  have M3 : Hid (CBox ((w2.alloc (.cells #[.slice ta c0.ts.length tc, .slice ca c0.cs.length cc, .slice sa c0.ss.length sc, .slice da c0.d.length dc, .int .i64 c0.n] 28)).alloc (.cells #[.int .i64 0, .slice none 0 0, .int .i64 0, .int .i64 0] 47)) bw 5 [.int .u8 239, .int .u8 0, .int .u8 1, .int .u8 1, .int .u8 0, .int .u8 4, .int .u8 2, .int .u8 0, .int .u8 1, .int .u8 0, .int .u8 1, .int .u8 255, .int .u8 0, .int .u8 0, .int .u8 0, .int .u8 0, .int .u8 128, .int .u8 0, .int .u8 0, .int .u8 0] ∧ Below bw w ((w2.alloc (.cells #[.slice ta c0.ts.length tc, .slice ca c0.cs.length cc, .slice sa c0.ss.length sc, .slice da c0.d.length dc, .int .i64 c0.n] 28)).alloc (.cells #[.int .i64 0, .slice none 0 0, .int .i64 0, .int .i64 0] 47)) ∧ CBox ((w2.alloc (.cells #[.slice ta c0.ts.length tc, .slice ca c0.cs.length cc, .slice sa c0.ss.length sc, .slice da c0.d.length dc, .int .i64 c0.n] 28)).alloc (.cells #[.int .i64 0, .slice none 0 0, .int .i64 0, .int .i64 0] 47)) (w2.heap.size + 1) 47 [.int .i64 0, .slice none 0 0, .int .i64 0, .int .i64 0]) := ⟨M2.out.1, M2.out.2.1, M2.out.2.2.1⟩
  clear T2 M0 M1 M2 PX HD
  generalize w2.heap.size + 1 = b3 at M3 HB3 ⊢
  generalize w2.heap.size = b2 at M3 ⊢
  generalize (w2.alloc _).alloc _ = W2 at M3 ⊢
  have k0 : W2.cell? ⟨bw, 0, none⟩ = some (.int .u8 239) := M3.out.1.cell 0
  have f0 := CBox.frozen M3.out.1 0
  go_upto_region 4 with fail
  have hs : But (fun y => y = bw) W2 (W2.setCell ⟨bw, 0, none⟩ (.int .u8 238)) := (But.refl (fun y => y = bw) W2).setCell ⟨bw, 0, none⟩ _ (Or.inl rfl)
  have M4 : Hid (CBox (W2.setCell ⟨bw, 0, none⟩ (.int .u8 238)) bw 5 [.int .u8 238, .int .u8 0, .int .u8 1, .int .u8 1, .int .u8 0, .int .u8 4, .int .u8 2, .int .u8 0, .int .u8 1, .int .u8 0, .int .u8 1, .int .u8 255, .int .u8 0, .int .u8 0, .int .u8 0, .int .u8 0, .int .u8 128, .int .u8 0, .int .u8 0, .int .u8 0] ∧ Below bw w (W2.setCell ⟨bw, 0, none⟩ (.int .u8 238)) ∧ CBox (W2.setCell ⟨bw, 0, none⟩ (.int .u8 238)) b3 47 [.int .i64 0, .slice none 0 0, .int .i64 0, .int .i64 0]) := ⟨M3.out.1.set 0 _, M3.out.2.1.trans (hs.below (fun g (e : g = bw) => by omega) (Nat.le_trans GE.out M3.out.2.1.size)), M3.out.2.2.but hs (fun (e : b3 = bw) => HB3.out e.symm)⟩
  clear hs k0 f0 M3 HB3
  generalize W2.setCell _ _ = W3 at M4 ⊢
  go_upto_region 5 with (go_at_call 31; refine (PY.out _ _ _ (HD2.out _ M4.out.1)).mono ?_; rintro e w4 ⟨⟨ta', tc', ca', cc', sa', sc', da', dc', rfl⟩, hB⟩; (have M5 : Hid (Below bw w w4 ∧ CBox w4 b3 47 [.int .i64 0, .slice none 0 0, .int .i64 0, .int .i64 0]) := ⟨M4.out.2.1.trans (hB.mono (Nat.le_trans GE.out M4.out.2.1.size)), M4.out.2.2.past hB⟩); (clear hB))
  have T2 := top_boxes w4 [.slice ta' con0.ts.length tc', .slice ca' con0.cs.length cc', .slice sa' con0.ss.length sc', .slice da' con0.d.length dc', .int .i64 con0.n] [.int .i64 51, .slice none 0 0, .int .i64 0, .int .i64 0]
  have M6 : Hid (Below bw w ((w4.alloc (.cells #[.slice ta' con0.ts.length tc', .slice ca' con0.cs.length cc', .slice sa' con0.ss.length sc', .slice da' con0.d.length dc', .int .i64 con0.n] 28)).alloc (.cells #[.int .i64 51, .slice none 0 0, .int .i64 0, .int .i64 0] 47)) ∧ CBox ((w4.alloc (.cells #[.slice ta' con0.ts.length tc', .slice ca' con0.cs.length cc', .slice sa' con0.ss.length sc', .slice da' con0.d.length dc', .int .i64 con0.n] 28)).alloc (.cells #[.int .i64 51, .slice none 0 0, .int .i64 0, .int .i64 0] 47)) b3 47 [.int .i64 0, .slice none 0 0, .int .i64 0, .int .i64 0] ∧ CBox ((w4.alloc (.cells #[.slice ta' con0.ts.length tc', .slice ca' con0.cs.length cc', .slice sa' con0.ss.length sc', .slice da' con0.d.length dc', .int .i64 con0.n] 28)).alloc (.cells #[.int .i64 51, .slice none 0 0, .int .i64 0, .int .i64 0] 47)) (w4.heap.size + 1) 47 [.int .i64 51, .slice none 0 0, .int .i64 0, .int .i64 0]) := ⟨M5.out.1.trans (T2.2.2.mono (Nat.le_trans GE.out M5.out.1.size)), M5.out.2.past T2.2.2, T2.2.1⟩
  clear T2 M4 M5 PY HD2
  generalize w4.heap.size + 1 = b5 at M6 ⊢
  generalize w4.heap.size = b4 at M6 ⊢
  generalize (w4.alloc _).alloc _ = W4 at M6 ⊢
  have a0 : W4.cell? ⟨b3, 0, none⟩ = some (.int .i64 0) := M6.out.2.1.cell 0
  have d0 : W4.cell? ⟨b5, 0, none⟩ = some (.int .i64 51) := M6.out.2.2.cell 0
  go_wp2
  go_ret
  exact ⟨rfl, by rw [GB.out]; exact M6.out.1⟩
end Go.Proofs.Ytndhabhlajldeaa
/- What is refused: why and where; whole and open. -/
namespace Go.Proofs.Ytndhabhlajldeaa
/-- what is taken open, with less data than declared, is cut as a whole one -/
theorem prs_short {b : List Nat} {c : Con} (g : prs b true = .ok c) (hn : (c.d.length : Int) ≠ c.n) : prs b false = .error (50, b.length) := by
  unfold prs at g ⊢
  cases hh : hdr b with
  | error er => rw [hh] at g; cases g
  | ok h =>
    rw [hh] at g
    simp only [Except.bind, if_true, if_false, Bool.false_eq_true] at g ⊢
    split at g
    · cases g
    · split at g
      · cases g
      · rename_i q1 q2
        cases ht : tys b h.e 0 h.cs.length with
        | error er => rw [ht] at g; cases g
        | ok ts =>
          rw [ht] at g
          cases g
          simp at hn
          rw [if_pos (by omega)]
end Go.Proofs.Ytndhabhlajldeaa
/- A beginning of a container's bytes is cut at its end; with bytes behind there is a tail. -/
namespace Go.Proofs.Ytndhabhlajldeaa
end Go.Proofs.Ytndhabhlajldeaa
/- A fixed byte of a container's bytes turned: what was taken is refused. -/
namespace Go.Proofs.Ytndhabhlajldeaa
theorem byt_app {l m : List Nat} (h : Byt l) (k : Byt m) : Byt (l ++ m) := fun x hx => (List.mem_append.1 hx).elim (h x) (k x)
theorem byt_flat {ll : List (List Nat)} (h : ∀ l ∈ ll, Byt l) : Byt ll.flatten := fun x hx => by
  obtain ⟨l, hl, hx⟩ := List.mem_flatten.1 hx
  exact h l hl x hx
theorem byt_map {α : Type} {l : List α} {f : α → List Nat} (h : ∀ a, Byt (f a)) : Byt (l.flatMap f) := fun x hx => by
  obtain ⟨a, _, hx⟩ := List.mem_flatMap.1 hx
  exact h a x hx
theorem byt_one {n : Nat} (h : n < 256) : Byt [n] := fun x hx => by rw [List.mem_singleton.1 hx]; exact h
theorem ser_byt {c : Con} (h1 : ∀ l ∈ c.cs, Byt l) (h2 : ∀ l ∈ c.ss, Byt l) (h3 : Byt c.d) : Byt (ser c) := by
  have t : Byt (c.ts.flatMap tyb) := byt_map fun a => byt_app (byt_app (dig_byt _ _) (dig_byt _ _)) (dig_byt _ _)
  have q : Byt (hd (lns c.cs) (lns c.ss) c.n.toNat) := by
    unfold hd
    refine byt_app (byt_app (byt_app (byt_app (byt_app ?_ (byt_app (byt_one (by decide)) (dig_byt _ _))) (byt_app (byt_app (byt_one (by decide)) (dig_byt _ _)) (byt_map fun _ => dig_byt _ _))) ?_) (byt_app (byt_one (by decide)) (dig_byt _ _))) (byt_one (by decide))
    · unfold Byt; decide
    · split
      · exact fun x hx => by cases hx
      · exact byt_app (byt_app (byt_one (by decide)) (dig_byt _ _)) (byt_map fun _ => dig_byt _ _)
  unfold ser
  exact byt_app (byt_app (byt_app (byt_app q t) (byt_flat h1)) (byt_flat h2)) h3
/-- where the bytes begin that close the header -/
def endOf (c : Con) : Nat := 9 + 2 * c.cs.length + (if c.ss.length = 0 then 0 else 3 + 4 * c.ss.length)
theorem ser_total {c : Con} (h : May c) : (ser c).length = endOf c + 4 + 4 * c.cs.length + sumL (lns c.cs) + sumL (lns c.ss) + c.d.length := by
  rw [ser_len h, hd_len, lns_len, lns_len]
  unfold endOf
  omega
end Go.Proofs.Ytndhabhlajldeaa
/- A law's container in its box. -/
namespace Go.Proofs.Ytndhabhlajldeaa
open Go.RowKit
/-- a law's container in its box -/
structure CtM (bx : Nat) (w W : World) (L : List Value) (c : Con) : Prop where
  cb : CBox W bx 28 L
  cw : CW (fun _ => True) W (.agg L.toArray) c
  bel : Below w.heap.size w W
theorem CtM.past {bx : Nat} {w W W' : World} {L : List Value} {c : Con} (h : CtM bx w W L c) (k : Below W.heap.size W W') : CtM bx w W' L c := ⟨h.cb.past k, h.cw.past k, h.bel.trans (k.mono h.bel.size)⟩
end Go.Proofs.Ytndhabhlajldeaa
/- TopOneForm: the walk. -/
namespace Go.Proofs.Ytndhabhlajldeaa
open Go.RowKit
theorem ser_tiny {c : Con} (h : May c) (ht : total c ≤ 200000) : (ser c).length ≤ 2200000 := by
  have h1 := ser_total h
  have h3 := h.n2
  have h4 := h.ns
  rw [sum_lns, sum_lns] at h1
  unfold total fourOf at ht
  unfold endOf at h1
  split at h1 <;> omega
/-- the law's boxes -/
structure OfM (bx b5 b6 : Nat) (w W : World) (L L5 L6 : List Value) (c : Con) : Prop where
  m : CtM bx w W L c
  c5 : CBox W b5 28 L5
  k5 : CW (fun _ => True) W (.agg L5.toArray) c
  c6 : CBox W b6 47 L6
theorem OfM.past {bx b5 b6 : Nat} {w W W' : World} {L L5 L6 : List Value} {c : Con} (h : OfM bx b5 b6 w W L L5 L6 c) (q : Below W.heap.size W W') : OfM bx b5 b6 w W' L L5 L6 c := ⟨h.m.past q, h.c5.past q, h.k5.past q, h.c6.past q⟩
set_option maxHeartbeats 8000000 in
set_option maxRecDepth 100000 in
theorem topOneForm_walk (w : World) (v : Value) (c : Con) (h : CW (fun _ => True) w v c) (hbc : BytC c) : Calls Try.prog 15 #[v] w fun e w' => e = .returned (.bool true) ∧ Below w.heap.size w w' := by
  obtain ⟨ta, tc, ca, cc, sa, sc, da, dc, rfl⟩ := cw_form h
  have b1 := below_alloc w (.cells #[.slice ta c.ts.length tc, .slice ca c.cs.length cc, .slice sa c.ss.length sc, .slice da c.d.length dc, .int .i64 c.n] 28)
  have M0 : Hid (CtM w.heap.size w (w.alloc (.cells #[.slice ta c.ts.length tc, .slice ca c.cs.length cc, .slice sa c.ss.length sc, .slice da c.d.length dc, .int .i64 c.n] 28)) [.slice ta c.ts.length tc, .slice ca c.cs.length cc, .slice sa c.ss.length sc, .slice da c.d.length dc, .int .i64 c.n] c) := ⟨CBox.new w _ [_, _, _, _, _], h.past b1, b1⟩
  have HBC : Hid (BytC c) := hbc
  clear h b1 hbc
  go_enter Try.func15, Try.ntmps15
  go_upto_region 1 with fail
  generalize w.heap.size = bx at M0 ⊢
  generalize w.alloc _ = W0 at M0 ⊢
  refine wp_region_lit ?_
  refine lst_val (v := .agg #[.slice ta c.ts.length tc, .slice ca c.cs.length cc, .slice sa c.ss.length sc, .slice da c.d.length dc, .int .i64 c.n]) (by kernel_rfl) ?_ ?_
  · have a0 := M0.out.cb.cell 0; have a1 := M0.out.cb.cell 1; have a2 := M0.out.cb.cell 2; have a3 := M0.out.cb.cell 3; have a4 := M0.out.cb.cell 4
    go_simp
  simp only [Act.put, List.setIfInBounds_toArray, List.set_cons_zero, List.set_cons_succ]
  refine lst_call (by kernel_rfl) (by first | (go_simp; done) | (go_simp; first | exact rfl | exact ⟨rfl, rfl⟩ | exact ⟨rfl, rfl, rfl⟩)) (big_is _ _ c M0.out.cw) ?_
  rintro e w1 ⟨⟨n, rfl, hn⟩, hB⟩
  refine ⟨_, rfl, ?_⟩
  have M1 : Hid (CtM bx w w1 [.slice ta c.ts.length tc, .slice ca c.cs.length cc, .slice sa c.ss.length sc, .slice da c.d.length dc, .int .i64 c.n] c) := M0.out.past hB
  have HWT : Hid (n ≤ 200000 → total c = n) := hn
  clear hn hB M0
  simp only [Act.put, List.setIfInBounds_toArray, List.set_cons_zero, List.set_cons_succ]
  by_cases en : n ≤ 200000
  rotate_left
  · have q1 : (200000 : Int) < (n : Int) := by omega
    clear en HWT
    go_wp2
    go_ret
    exact ⟨rfl, M1.out.bel⟩
  have q1 : ¬ (200000 : Int) < (n : Int) := by omega
  have HTO : Hid (total c ≤ 200000) := by have := HWT.out en; unfold Hid; omega
  have HSM : Hid (Small c) := total_small (by have := HTO.out; omega)
  clear en HWT
  go_upto_region 3 with fail
  clear q1
  by_cases hm : May c
  · have HMY : Hid (May c) := hm
    obtain ⟨ec, hec⟩ : ∃ ec, ec = chk c := ⟨_, rfl⟩
    obtain ⟨bs, hbs⟩ : ∃ bs, bs = serR c := ⟨_, rfl⟩
    have hl : bs.length ≤ 2200000 := by
      rw [hbs]
      unfold serR
      split
      · rename_i e; exact ser_tiny (chk_may e) HTO.out
      · simp
    have SE : Hid (∀ (W : World) (R : Nat → Prop) (u : Value), CW R W u c → Calls Try.prog 35 #[u] W fun e w' => (∃ oa oc, e = .returned (.tuple #[.slice oa bs.length oc, .int .i64 ec]) ∧ BL (fun _ => True) w' (.slice oa bs.length oc) bs) ∧ Below W.heap.size W w') := fun W R u q => (serialize_is W u c q HSM.out).mono fun e w' q9 => by
      obtain ⟨v', rfl, hO, hB⟩ := q9
      rw [← hbs] at hO
      obtain ⟨oa, oc, rfl⟩ := owns_sl hO
      exact ⟨⟨oa, oc, by rw [hec], SL.own hO (by omega) fun _ _ => trivial⟩, hB⟩
    have hbs2 : bs = ser c := by rw [hbs]; unfold serR; rw [if_pos (may_chk hm)]
    have hby : Byt bs := by rw [hbs2]; exact ser_byt HBC.out.1 HBC.out.2.1 HBC.out.2.2
    have hc0 : ec = 0 := by rw [hec]; exact may_chk hm
    have HBS : Hid (bs.length ≤ 2200000) := hl
    have PT : Hid (∀ (W : World) (R : Nat → Prop) (u : Value), BL R W u bs → Calls Try.prog 31 #[u, .bool true] W fun e w' => (∃ ta5 tc5 ca5 cc5 sa5 sc5 da5 dc5, e = .returned (.tuple #[.agg #[.slice ta5 c.ts.length tc5, .slice ca5 c.cs.length cc5, .slice sa5 c.ss.length sc5, .slice da5 c.d.length dc5, .int .i64 c.n], .agg #[.int .i64 0, .slice none 0 0, .int .i64 0, .int .i64 0]]) ∧ CW (fun _ => True) w' (.agg #[.slice ta5 c.ts.length tc5, .slice ca5 c.cs.length cc5, .slice sa5 c.ss.length sc5, .slice da5 c.d.length dc5, .int .i64 c.n]) c) ∧ Below W.heap.size W w') := fun W R u q => (parse_ans W u bs true q hby (by omega)).mono fun e w' q9 => by
      rw [hbs2, prs_ser HMY.out true (fun e => by cases e)] at q9
      obtain ⟨⟨ta, tc, ca, cc, sa, sc, da, dc, e9, hC⟩, hB⟩ := q9
      exact ⟨⟨ta, tc, ca, cc, sa, sc, da, dc, e9, hC.mono fun _ _ _ => trivial⟩, hB⟩
    have PF1 : Hid ((c.d.length : Int) = c.n → Hid (∀ (W : World) (R : Nat → Prop) (u : Value), BL R W u bs → Calls Try.prog 31 #[u, .bool false] W fun e w' => (∃ ta7 tc7 ca7 cc7 sa7 sc7 da7 dc7, e = .returned (.tuple #[.agg #[.slice ta7 c.ts.length tc7, .slice ca7 c.cs.length cc7, .slice sa7 c.ss.length sc7, .slice da7 c.d.length dc7, .int .i64 c.n], .agg #[.int .i64 0, .slice none 0 0, .int .i64 0, .int .i64 0]]) ∧ CW (fun _ => True) w' (.agg #[.slice ta7 c.ts.length tc7, .slice ca7 c.cs.length cc7, .slice sa7 c.ss.length sc7, .slice da7 c.d.length dc7, .int .i64 c.n]) c) ∧ Below W.heap.size W w')) := fun hd W R u q => (parse_ans W u bs false q hby (by omega)).mono fun e w' q9 => by
      rw [hbs2, prs_ser HMY.out false (fun _ => hd)] at q9
      obtain ⟨⟨ta, tc, ca, cc, sa, sc, da, dc, e9, hC⟩, hB⟩ := q9
      exact ⟨⟨ta, tc, ca, cc, sa, sc, da, dc, e9, hC.mono fun _ _ _ => trivial⟩, hB⟩
    have PF0 : Hid ((c.d.length : Int) ≠ c.n → Hid (∀ (W : World) (R : Nat → Prop) (u : Value), BL R W u bs → Calls Try.prog 31 #[u, .bool false] W fun e w' => (∃ ta7 tc7 ca7 cc7 sa7 sc7 da7 dc7, e = .returned (.tuple #[.agg #[.slice ta7 0 tc7, .slice ca7 0 cc7, .slice sa7 0 sc7, .slice da7 0 dc7, .int .i64 0], .agg #[.int .i64 50, .slice none 0 0, .int .i64 0, .int .i64 (bs.length : Int)]])) ∧ Below W.heap.size W w')) := fun hd W R u q => (parse_ans W u bs false q hby (by omega)).mono fun e w' q9 => by
      rw [prs_short (c := c) (by rw [hbs2]; exact prs_ser HMY.out true (fun e => by cases e)) hd] at q9
      obtain ⟨⟨ta, tc, ca, cc, sa, sc, da, dc, e9, _⟩, hB⟩ := q9
      exact ⟨⟨ta, tc, ca, cc, sa, sc, da, dc, e9⟩, hB⟩
    clear hm hec hbs hl hbs2 hby
    subst hc0
    have a0 : w1.cell? ⟨bx, 0, none⟩ = some (.slice ta c.ts.length tc) := M1.out.cb.cell 0
    have a1 : w1.cell? ⟨bx, 1, none⟩ = some (.slice ca c.cs.length cc) := M1.out.cb.cell 1
    have a2 : w1.cell? ⟨bx, 2, none⟩ = some (.slice sa c.ss.length sc) := M1.out.cb.cell 2
    have a3 : w1.cell? ⟨bx, 3, none⟩ = some (.slice da c.d.length dc) := M1.out.cb.cell 3
    have a4 : w1.cell? ⟨bx, 4, none⟩ = some (.int .i64 c.n) := M1.out.cb.cell 4
    go_upto_region 4 with (first | (go_at_call 52; refine (copied_is2 _ _ c M1.out.cw HSM.out).mono ?_; rintro e w2 ⟨v2, rfl, hC, hB⟩; (have N2 : Hid (CtM bx w w2 [.slice ta c.ts.length tc, .slice ca c.cs.length cc, .slice sa c.ss.length sc, .slice da c.d.length dc, .int .i64 c.n] c ∧ CW (fun _ => True) w2 v2 c) := ⟨M1.out.past hB, hC⟩); (clear hC hB)) | (go_at_call 35; refine (SE.out _ _ _ N2.out.2).mono ?_; rintro e w3 ⟨⟨oa, oc, rfl, hO⟩, hB⟩; (have N3 : Hid (CtM bx w w3 [.slice ta c.ts.length tc, .slice ca c.cs.length cc, .slice sa c.ss.length sc, .slice da c.d.length dc, .int .i64 c.n] c ∧ BL (fun _ => True) w3 (.slice oa bs.length oc) bs) := ⟨N2.out.1.past hB, hO⟩); (clear hO hB)))
    clear a0 a1 a2 a3 a4 M1 N2 SE
    have a0 : w3.cell? ⟨bx, 0, none⟩ = some (.slice ta c.ts.length tc) := N3.out.1.cb.cell 0
    have a1 : w3.cell? ⟨bx, 1, none⟩ = some (.slice ca c.cs.length cc) := N3.out.1.cb.cell 1
    have a2 : w3.cell? ⟨bx, 2, none⟩ = some (.slice sa c.ss.length sc) := N3.out.1.cb.cell 2
    have a3 : w3.cell? ⟨bx, 3, none⟩ = some (.slice da c.d.length dc) := N3.out.1.cb.cell 3
    have a4 : w3.cell? ⟨bx, 4, none⟩ = some (.int .i64 c.n) := N3.out.1.cb.cell 4
    go_upto_region 6 with (go_at_call 53; refine (topmay_is _ _ c N3.out.1.cw HSM.out).mono ?_; rintro e w4 ⟨⟨r, rfl, hr⟩, hB⟩; (obtain rfl : r = true := by exact hr.2 HMY.out); (have M4 : Hid (CtM bx w w4 [.slice ta c.ts.length tc, .slice ca c.cs.length cc, .slice sa c.ss.length sc, .slice da c.d.length dc, .int .i64 c.n] c ∧ BL (fun _ => True) w4 (.slice oa bs.length oc) bs) := ⟨N3.out.1.past hB, N3.out.2.past hB⟩); (clear hr hB))
    clear a0 a1 a2 a3 a4 N3
    go_upto_region 8 with fail
    go_upto_region 9 with (first | (go_at_call 47; refine (row_is _ _ bs M4.out.2 (by have := HBS.out; omega)).mono ?_; rintro e w5a ⟨v9, rfl, hO, hB⟩; (have N9 : Hid ((CtM bx w w5a [.slice ta c.ts.length tc, .slice ca c.cs.length cc, .slice sa c.ss.length sc, .slice da c.d.length dc, .int .i64 c.n] c ∧ BL (fun _ => True) w5a (.slice oa bs.length oc) bs) ∧ BL (fun _ => True) w5a v9 bs) := ⟨⟨M4.out.1.past hB, M4.out.2.past hB⟩, SL.own hO (by have := HBS.out; omega) (fun _ _ => trivial)⟩); (clear hO hB)) | (go_at_call 31; refine (PT.out _ _ _ N9.out.2).mono ?_; rintro e w5 ⟨⟨ta5, tc5, ca5, cc5, sa5, sc5, da5, dc5, rfl, hC⟩, hB⟩; (have N5 : Hid (CtM bx w w5 [.slice ta c.ts.length tc, .slice ca c.cs.length cc, .slice sa c.ss.length sc, .slice da c.d.length dc, .int .i64 c.n] c ∧ BL (fun _ => True) w5 (.slice oa bs.length oc) bs ∧ CW (fun _ => True) w5 (.agg #[.slice ta5 c.ts.length tc5, .slice ca5 c.cs.length cc5, .slice sa5 c.ss.length sc5, .slice da5 c.d.length dc5, .int .i64 c.n]) c) := ⟨N9.out.1.1.past hB, N9.out.1.2.past hB, hC⟩); (clear hC hB)))
    have T2 := top_boxes w5 [.slice ta5 c.ts.length tc5, .slice ca5 c.cs.length cc5, .slice sa5 c.ss.length sc5, .slice da5 c.d.length dc5, .int .i64 c.n] [.int .i64 0, .slice none 0 0, .int .i64 0, .int .i64 0]
    have M6 : Hid (OfM bx w5.heap.size (w5.heap.size + 1) w ((w5.alloc (.cells #[.slice ta5 c.ts.length tc5, .slice ca5 c.cs.length cc5, .slice sa5 c.ss.length sc5, .slice da5 c.d.length dc5, .int .i64 c.n] 28)).alloc (.cells #[.int .i64 0, .slice none 0 0, .int .i64 0, .int .i64 0] 47)) [.slice ta c.ts.length tc, .slice ca c.cs.length cc, .slice sa c.ss.length sc, .slice da c.d.length dc, .int .i64 c.n] [.slice ta5 c.ts.length tc5, .slice ca5 c.cs.length cc5, .slice sa5 c.ss.length sc5, .slice da5 c.d.length dc5, .int .i64 c.n] [.int .i64 0, .slice none 0 0, .int .i64 0, .int .i64 0] c ∧ BL (fun _ => True) ((w5.alloc (.cells #[.slice ta5 c.ts.length tc5, .slice ca5 c.cs.length cc5, .slice sa5 c.ss.length sc5, .slice da5 c.d.length dc5, .int .i64 c.n] 28)).alloc (.cells #[.int .i64 0, .slice none 0 0, .int .i64 0, .int .i64 0] 47)) (.slice oa bs.length oc) bs) := ⟨⟨N5.out.1.past T2.2.2, T2.1, N5.out.2.2.past T2.2.2, T2.2.1⟩, N5.out.2.1.past T2.2.2⟩
    clear T2 N9 N5 M4 PT
    generalize w5.heap.size + 1 = b6 at M6 ⊢
    generalize w5.heap.size = b5 at M6 ⊢
    generalize (w5.alloc _).alloc _ = W6 at M6 ⊢
    by_cases hd : (c.d.length : Int) = c.n
    · have q8 : ((c.d.length : Int) == c.n) = true := by simp; exact hd
      have PF := PF1.out hd
      clear hd PF1 PF0
      go_upto_region 10 with (first | (go_at_call 47; refine (row_is _ _ bs M6.out.2 (by have := HBS.out; omega)).mono ?_; rintro e w7a ⟨v9, rfl, hO, hB⟩; (have N9 : Hid (OfM bx b5 b6 w w7a [.slice ta c.ts.length tc, .slice ca c.cs.length cc, .slice sa c.ss.length sc, .slice da c.d.length dc, .int .i64 c.n] [.slice ta5 c.ts.length tc5, .slice ca5 c.cs.length cc5, .slice sa5 c.ss.length sc5, .slice da5 c.d.length dc5, .int .i64 c.n] [.int .i64 0, .slice none 0 0, .int .i64 0, .int .i64 0] c ∧ BL (fun _ => True) w7a v9 bs) := ⟨M6.out.1.past hB, SL.own hO (by have := HBS.out; omega) (fun _ _ => trivial)⟩); (clear hO hB)) | (go_at_call 31; refine (PF.out _ _ _ N9.out.2).mono ?_; rintro e w7 ⟨⟨ta7, tc7, ca7, cc7, sa7, sc7, da7, dc7, rfl, hC⟩, hB⟩; (have N7 : Hid (OfM bx b5 b6 w w7 [.slice ta c.ts.length tc, .slice ca c.cs.length cc, .slice sa c.ss.length sc, .slice da c.d.length dc, .int .i64 c.n] [.slice ta5 c.ts.length tc5, .slice ca5 c.cs.length cc5, .slice sa5 c.ss.length sc5, .slice da5 c.d.length dc5, .int .i64 c.n] [.int .i64 0, .slice none 0 0, .int .i64 0, .int .i64 0] c ∧ CW (fun _ => True) w7 (.agg #[.slice ta7 c.ts.length tc7, .slice ca7 c.cs.length cc7, .slice sa7 c.ss.length sc7, .slice da7 c.d.length dc7, .int .i64 c.n]) c) := ⟨N9.out.1.past hB, hC⟩); (clear hB hC)))
      have T2 := top_boxes w7 [.slice ta7 c.ts.length tc7, .slice ca7 c.cs.length cc7, .slice sa7 c.ss.length sc7, .slice da7 c.d.length dc7, .int .i64 c.n] [.int .i64 0, .slice none 0 0, .int .i64 0, .int .i64 0]
      have M8 : Hid (OfM bx b5 b6 w ((w7.alloc (.cells #[.slice ta7 c.ts.length tc7, .slice ca7 c.cs.length cc7, .slice sa7 c.ss.length sc7, .slice da7 c.d.length dc7, .int .i64 c.n] 28)).alloc (.cells #[.int .i64 0, .slice none 0 0, .int .i64 0, .int .i64 0] 47)) [.slice ta c.ts.length tc, .slice ca c.cs.length cc, .slice sa c.ss.length sc, .slice da c.d.length dc, .int .i64 c.n] [.slice ta5 c.ts.length tc5, .slice ca5 c.cs.length cc5, .slice sa5 c.ss.length sc5, .slice da5 c.d.length dc5, .int .i64 c.n] [.int .i64 0, .slice none 0 0, .int .i64 0, .int .i64 0] c ∧ CBox ((w7.alloc (.cells #[.slice ta7 c.ts.length tc7, .slice ca7 c.cs.length cc7, .slice sa7 c.ss.length sc7, .slice da7 c.d.length dc7, .int .i64 c.n] 28)).alloc (.cells #[.int .i64 0, .slice none 0 0, .int .i64 0, .int .i64 0] 47)) w7.heap.size 28 [.slice ta7 c.ts.length tc7, .slice ca7 c.cs.length cc7, .slice sa7 c.ss.length sc7, .slice da7 c.d.length dc7, .int .i64 c.n] ∧ CBox ((w7.alloc (.cells #[.slice ta7 c.ts.length tc7, .slice ca7 c.cs.length cc7, .slice sa7 c.ss.length sc7, .slice da7 c.d.length dc7, .int .i64 c.n] 28)).alloc (.cells #[.int .i64 0, .slice none 0 0, .int .i64 0, .int .i64 0] 47)) (w7.heap.size + 1) 47 [.int .i64 0, .slice none 0 0, .int .i64 0, .int .i64 0] ∧ CW (fun _ => True) ((w7.alloc (.cells #[.slice ta7 c.ts.length tc7, .slice ca7 c.cs.length cc7, .slice sa7 c.ss.length sc7, .slice da7 c.d.length dc7, .int .i64 c.n] 28)).alloc (.cells #[.int .i64 0, .slice none 0 0, .int .i64 0, .int .i64 0] 47)) (.agg #[.slice ta7 c.ts.length tc7, .slice ca7 c.cs.length cc7, .slice sa7 c.ss.length sc7, .slice da7 c.d.length dc7, .int .i64 c.n]) c) := ⟨N7.out.1.past T2.2.2, T2.1, T2.2.1, N7.out.2.past T2.2.2⟩
      clear T2 N9 N7 M6 PF
      generalize w7.heap.size + 1 = b8 at M8 ⊢
      generalize w7.heap.size = b7 at M8 ⊢
      generalize (w7.alloc _).alloc _ = W8 at M8 ⊢
      refine wp_region_lit ?_
      refine lst_val (v := .pointer (some ⟨b6, 0, none⟩)) (by kernel_rfl) ?_ ?_
      · go_simp
      simp only [Act.put, List.setIfInBounds_toArray, List.set_cons_zero, List.set_cons_succ]
      refine lst_val (v := .int .i64 0) (by kernel_rfl) ?_ ?_
      · have c0 := M8.out.1.c6.cell 0
        go_simp
      simp only [Act.put, List.setIfInBounds_toArray, List.set_cons_zero, List.set_cons_succ]
      refine lst_val (v := .bool false) (by kernel_rfl) ?_ ?_
      · go_simp
      simp only [Act.put, List.setIfInBounds_toArray, List.set_cons_zero, List.set_cons_succ]
      refine lst_val (v := .bool false) (by kernel_rfl) ?_ ?_
      · go_simp
      simp only [Act.put, List.setIfInBounds_toArray, List.set_cons_zero, List.set_cons_succ]
      refine lst_val (v := .agg #[.slice ta c.ts.length tc, .slice ca c.cs.length cc, .slice sa c.ss.length sc, .slice da c.d.length dc, .int .i64 c.n]) (by kernel_rfl) ?_ ?_
      · have a0 := M8.out.1.m.cb.cell 0; have a1 := M8.out.1.m.cb.cell 1; have a2 := M8.out.1.m.cb.cell 2; have a3 := M8.out.1.m.cb.cell 3; have a4 := M8.out.1.m.cb.cell 4
        go_simp
      simp only [Act.put, List.setIfInBounds_toArray, List.set_cons_zero, List.set_cons_succ]
      refine lst_val (v := .agg #[.slice ta5 c.ts.length tc5, .slice ca5 c.cs.length cc5, .slice sa5 c.ss.length sc5, .slice da5 c.d.length dc5, .int .i64 c.n]) (by kernel_rfl) ?_ ?_
      · have a0 := M8.out.1.c5.cell 0; have a1 := M8.out.1.c5.cell 1; have a2 := M8.out.1.c5.cell 2; have a3 := M8.out.1.c5.cell 3; have a4 := M8.out.1.c5.cell 4
        go_simp
      simp only [Act.put, List.setIfInBounds_toArray, List.set_cons_zero, List.set_cons_succ]
      refine lst_call (by kernel_rfl) (by first | (go_simp; done) | (go_simp; first | exact rfl | exact ⟨rfl, rfl⟩ | exact ⟨rfl, rfl, rfl⟩)) (equal_is _ _ _ c M8.out.1.m.cw M8.out.1.k5) ?_
      rintro e z1 ⟨rfl, hB⟩
      refine ⟨_, rfl, ?_⟩
      have M9 : Hid (OfM bx b5 b6 w z1 [.slice ta c.ts.length tc, .slice ca c.cs.length cc, .slice sa c.ss.length sc, .slice da c.d.length dc, .int .i64 c.n] [.slice ta5 c.ts.length tc5, .slice ca5 c.cs.length cc5, .slice sa5 c.ss.length sc5, .slice da5 c.d.length dc5, .int .i64 c.n] [.int .i64 0, .slice none 0 0, .int .i64 0, .int .i64 0] c ∧ CBox z1 b7 28 [.slice ta7 c.ts.length tc7, .slice ca7 c.cs.length cc7, .slice sa7 c.ss.length sc7, .slice da7 c.d.length dc7, .int .i64 c.n] ∧ CBox z1 b8 47 [.int .i64 0, .slice none 0 0, .int .i64 0, .int .i64 0] ∧ CW (fun _ => True) z1 (.agg #[.slice ta7 c.ts.length tc7, .slice ca7 c.cs.length cc7, .slice sa7 c.ss.length sc7, .slice da7 c.d.length dc7, .int .i64 c.n]) c) := ⟨M8.out.1.past hB, M8.out.2.1.past hB, M8.out.2.2.1.past hB, M8.out.2.2.2.past hB⟩
      clear hB
      simp only [Act.put, List.setIfInBounds_toArray, List.set_cons_zero, List.set_cons_succ]
      refine lst_val (v := .bool false) (by kernel_rfl) ?_ ?_
      · go_simp
      simp only [Act.put, List.setIfInBounds_toArray, List.set_cons_zero, List.set_cons_succ]
      refine lst_val (v := .bool false) (by kernel_rfl) ?_ ?_
      · go_simp
      simp only [Act.put, List.setIfInBounds_toArray, List.set_cons_zero, List.set_cons_succ]
      refine lst_val (v := .bool false) (by kernel_rfl) ?_ ?_
      · go_simp
      simp only [Act.put, List.setIfInBounds_toArray, List.set_cons_zero, List.set_cons_succ]
      refine lst_val (v := .pointer (some ⟨b8, 0, none⟩)) (by kernel_rfl) ?_ ?_
      · go_simp
      simp only [Act.put, List.setIfInBounds_toArray, List.set_cons_zero, List.set_cons_succ]
      refine lst_val (v := .int .i64 0) (by kernel_rfl) ?_ ?_
      · have c0 := M9.out.2.2.1.cell 0
        go_simp
      simp only [Act.put, List.setIfInBounds_toArray, List.set_cons_zero, List.set_cons_succ]
      refine lst_val (v := .bool true) (by kernel_rfl) ?_ ?_
      · go_simp
      simp only [Act.put, List.setIfInBounds_toArray, List.set_cons_zero, List.set_cons_succ]
      refine lst_val (v := .pointer (some ⟨bx, 3, none⟩)) (by kernel_rfl) ?_ ?_
      · go_simp
      simp only [Act.put, List.setIfInBounds_toArray, List.set_cons_zero, List.set_cons_succ]
      refine lst_val (v := .slice da c.d.length dc) (by kernel_rfl) ?_ ?_
      · have c0 := M9.out.1.m.cb.cell 3
        go_simp
      simp only [Act.put, List.setIfInBounds_toArray, List.set_cons_zero, List.set_cons_succ]
      refine lst_val (v := .int .i64 (c.d.length : Int)) (by kernel_rfl) ?_ ?_
      · go_simp
      simp only [Act.put, List.setIfInBounds_toArray, List.set_cons_zero, List.set_cons_succ]
      refine lst_val (v := .pointer (some ⟨bx, 4, none⟩)) (by kernel_rfl) ?_ ?_
      · go_simp
      simp only [Act.put, List.setIfInBounds_toArray, List.set_cons_zero, List.set_cons_succ]
      refine lst_val (v := .int .i64 c.n) (by kernel_rfl) ?_ ?_
      · have c0 := M9.out.1.m.cb.cell 4
        go_simp
      simp only [Act.put, List.setIfInBounds_toArray, List.set_cons_zero, List.set_cons_succ]
      refine lst_val (v := .bool true) (by kernel_rfl) ?_ ?_
      · go_simp
      simp only [Act.put, List.setIfInBounds_toArray, List.set_cons_zero, List.set_cons_succ]
      refine lst_val (v := .bool false) (by kernel_rfl) ?_ ?_
      · go_simp
      simp only [Act.put, List.setIfInBounds_toArray, List.set_cons_zero, List.set_cons_succ]
      refine lst_val (v := .bool false) (by kernel_rfl) ?_ ?_
      · go_simp
      simp only [Act.put, List.setIfInBounds_toArray, List.set_cons_zero, List.set_cons_succ]
      refine wpList_nil ?_
      clear M8 q8
      go_upto_region 12 with fail
      refine wp_region_lit ?_
      refine lst_val (v := .pointer (some ⟨b8, 0, none⟩)) (by kernel_rfl) ?_ ?_
      · go_simp
      simp only [Act.put, List.setIfInBounds_toArray, List.set_cons_zero, List.set_cons_succ]
      refine lst_val (v := .int .i64 0) (by kernel_rfl) ?_ ?_
      · have c0 := M9.out.2.2.1.cell 0
        go_simp
      simp only [Act.put, List.setIfInBounds_toArray, List.set_cons_zero, List.set_cons_succ]
      refine lst_val (v := .bool false) (by kernel_rfl) ?_ ?_
      · go_simp
      simp only [Act.put, List.setIfInBounds_toArray, List.set_cons_zero, List.set_cons_succ]
      refine lst_val (v := .bool false) (by kernel_rfl) ?_ ?_
      · go_simp
      simp only [Act.put, List.setIfInBounds_toArray, List.set_cons_zero, List.set_cons_succ]
      refine lst_val (v := .agg #[.slice ta c.ts.length tc, .slice ca c.cs.length cc, .slice sa c.ss.length sc, .slice da c.d.length dc, .int .i64 c.n]) (by kernel_rfl) ?_ ?_
      · have a0 := M9.out.1.m.cb.cell 0; have a1 := M9.out.1.m.cb.cell 1; have a2 := M9.out.1.m.cb.cell 2; have a3 := M9.out.1.m.cb.cell 3; have a4 := M9.out.1.m.cb.cell 4
        go_simp
      simp only [Act.put, List.setIfInBounds_toArray, List.set_cons_zero, List.set_cons_succ]
      refine lst_val (v := .agg #[.slice ta7 c.ts.length tc7, .slice ca7 c.cs.length cc7, .slice sa7 c.ss.length sc7, .slice da7 c.d.length dc7, .int .i64 c.n]) (by kernel_rfl) ?_ ?_
      · have a0 := M9.out.2.1.cell 0; have a1 := M9.out.2.1.cell 1; have a2 := M9.out.2.1.cell 2; have a3 := M9.out.2.1.cell 3; have a4 := M9.out.2.1.cell 4
        go_simp
      simp only [Act.put, List.setIfInBounds_toArray, List.set_cons_zero, List.set_cons_succ]
      refine lst_call (by kernel_rfl) (by first | (go_simp; done) | (go_simp; first | exact rfl | exact ⟨rfl, rfl⟩ | exact ⟨rfl, rfl, rfl⟩)) (equal_is _ _ _ c M9.out.1.m.cw M9.out.2.2.2) ?_
      rintro e z2 ⟨rfl, hB⟩
      refine ⟨_, rfl, ?_⟩
      have M10 : Hid (OfM bx b5 b6 w z2 [.slice ta c.ts.length tc, .slice ca c.cs.length cc, .slice sa c.ss.length sc, .slice da c.d.length dc, .int .i64 c.n] [.slice ta5 c.ts.length tc5, .slice ca5 c.cs.length cc5, .slice sa5 c.ss.length sc5, .slice da5 c.d.length dc5, .int .i64 c.n] [.int .i64 0, .slice none 0 0, .int .i64 0, .int .i64 0] c ∧ CBox z2 b7 28 [.slice ta7 c.ts.length tc7, .slice ca7 c.cs.length cc7, .slice sa7 c.ss.length sc7, .slice da7 c.d.length dc7, .int .i64 c.n] ∧ CBox z2 b8 47 [.int .i64 0, .slice none 0 0, .int .i64 0, .int .i64 0] ∧ CW (fun _ => True) z2 (.agg #[.slice ta7 c.ts.length tc7, .slice ca7 c.cs.length cc7, .slice sa7 c.ss.length sc7, .slice da7 c.d.length dc7, .int .i64 c.n]) c) := ⟨M9.out.1.past hB, M9.out.2.1.past hB, M9.out.2.2.1.past hB, M9.out.2.2.2.past hB⟩
      clear hB
      simp only [Act.put, List.setIfInBounds_toArray, List.set_cons_zero, List.set_cons_succ]
      refine lst_val (v := .bool true) (by kernel_rfl) ?_ ?_
      · go_simp
      simp only [Act.put, List.setIfInBounds_toArray, List.set_cons_zero, List.set_cons_succ]
      refine lst_val (v := .bool true) (by kernel_rfl) ?_ ?_
      · go_simp
      simp only [Act.put, List.setIfInBounds_toArray, List.set_cons_zero, List.set_cons_succ]
      refine lst_call (by kernel_rfl) (by first | (go_simp; done) | (go_simp; first | exact rfl | exact ⟨rfl, rfl⟩ | exact ⟨rfl, rfl, rfl⟩)) (topleast_is _) ?_
      rintro e z3 ⟨rfl, hB⟩
      refine ⟨_, rfl, ?_⟩
      have BF : Hid (Below w.heap.size w z3) := M10.out.1.m.bel.trans (hB.mono M10.out.1.m.bel.size)
      clear hB
      simp only [Act.put, List.setIfInBounds_toArray, List.set_cons_zero, List.set_cons_succ]
      refine lst_val (v := .bool true) (by kernel_rfl) ?_ ?_
      · go_simp
      simp only [Act.put, List.setIfInBounds_toArray, List.set_cons_zero, List.set_cons_succ]
      refine lst_val (v := .bool true) (by kernel_rfl) ?_ ?_
      · go_simp
      simp only [Act.put, List.setIfInBounds_toArray, List.set_cons_zero, List.set_cons_succ]
      refine wpList_nil ?_
      go_wp2
      go_ret
      exact ⟨rfl, BF.out⟩
    have q8 : ((c.d.length : Int) == c.n) = false := by simp; exact hd
    have PF := PF0.out hd
    clear hd PF1 PF0
    go_upto_region 10 with (first | (go_at_call 47; refine (row_is _ _ bs M6.out.2 (by have := HBS.out; omega)).mono ?_; rintro e w7a ⟨v9, rfl, hO, hB⟩; (have N9 : Hid (OfM bx b5 b6 w w7a [.slice ta c.ts.length tc, .slice ca c.cs.length cc, .slice sa c.ss.length sc, .slice da c.d.length dc, .int .i64 c.n] [.slice ta5 c.ts.length tc5, .slice ca5 c.cs.length cc5, .slice sa5 c.ss.length sc5, .slice da5 c.d.length dc5, .int .i64 c.n] [.int .i64 0, .slice none 0 0, .int .i64 0, .int .i64 0] c ∧ BL (fun _ => True) w7a v9 bs) := ⟨M6.out.1.past hB, SL.own hO (by have := HBS.out; omega) (fun _ _ => trivial)⟩); (clear hO hB)) | (go_at_call 31; refine (PF.out _ _ _ N9.out.2).mono ?_; rintro e w7 ⟨⟨ta7, tc7, ca7, cc7, sa7, sc7, da7, dc7, rfl⟩, hB⟩; (have N7 : Hid (OfM bx b5 b6 w w7 [.slice ta c.ts.length tc, .slice ca c.cs.length cc, .slice sa c.ss.length sc, .slice da c.d.length dc, .int .i64 c.n] [.slice ta5 c.ts.length tc5, .slice ca5 c.cs.length cc5, .slice sa5 c.ss.length sc5, .slice da5 c.d.length dc5, .int .i64 c.n] [.int .i64 0, .slice none 0 0, .int .i64 0, .int .i64 0] c ∧ True) := ⟨N9.out.1.past hB, trivial⟩); (clear hB)))
    have T2 := top_boxes w7 [.slice ta7 0 tc7, .slice ca7 0 cc7, .slice sa7 0 sc7, .slice da7 0 dc7, .int .i64 0] [.int .i64 50, .slice none 0 0, .int .i64 0, .int .i64 (bs.length : Int)]
    have M8 : Hid (OfM bx b5 b6 w ((w7.alloc (.cells #[.slice ta7 0 tc7, .slice ca7 0 cc7, .slice sa7 0 sc7, .slice da7 0 dc7, .int .i64 0] 28)).alloc (.cells #[.int .i64 50, .slice none 0 0, .int .i64 0, .int .i64 (bs.length : Int)] 47)) [.slice ta c.ts.length tc, .slice ca c.cs.length cc, .slice sa c.ss.length sc, .slice da c.d.length dc, .int .i64 c.n] [.slice ta5 c.ts.length tc5, .slice ca5 c.cs.length cc5, .slice sa5 c.ss.length sc5, .slice da5 c.d.length dc5, .int .i64 c.n] [.int .i64 0, .slice none 0 0, .int .i64 0, .int .i64 0] c ∧ CBox ((w7.alloc (.cells #[.slice ta7 0 tc7, .slice ca7 0 cc7, .slice sa7 0 sc7, .slice da7 0 dc7, .int .i64 0] 28)).alloc (.cells #[.int .i64 50, .slice none 0 0, .int .i64 0, .int .i64 (bs.length : Int)] 47)) w7.heap.size 28 [.slice ta7 0 tc7, .slice ca7 0 cc7, .slice sa7 0 sc7, .slice da7 0 dc7, .int .i64 0] ∧ CBox ((w7.alloc (.cells #[.slice ta7 0 tc7, .slice ca7 0 cc7, .slice sa7 0 sc7, .slice da7 0 dc7, .int .i64 0] 28)).alloc (.cells #[.int .i64 50, .slice none 0 0, .int .i64 0, .int .i64 (bs.length : Int)] 47)) (w7.heap.size + 1) 47 [.int .i64 50, .slice none 0 0, .int .i64 0, .int .i64 (bs.length : Int)] ∧ True) := ⟨N7.out.1.past T2.2.2, T2.1, T2.2.1, trivial⟩
    clear T2 N9 N7 M6 PF
    generalize w7.heap.size + 1 = b8 at M8 ⊢
    generalize w7.heap.size = b7 at M8 ⊢
    generalize (w7.alloc _).alloc _ = W8 at M8 ⊢
    refine wp_region_lit ?_
    refine lst_val (v := .pointer (some ⟨b6, 0, none⟩)) (by kernel_rfl) ?_ ?_
    · go_simp
    simp only [Act.put, List.setIfInBounds_toArray, List.set_cons_zero, List.set_cons_succ]
    refine lst_val (v := .int .i64 0) (by kernel_rfl) ?_ ?_
    · have c0 := M8.out.1.c6.cell 0
      go_simp
    simp only [Act.put, List.setIfInBounds_toArray, List.set_cons_zero, List.set_cons_succ]
    refine lst_val (v := .bool false) (by kernel_rfl) ?_ ?_
    · go_simp
    simp only [Act.put, List.setIfInBounds_toArray, List.set_cons_zero, List.set_cons_succ]
    refine lst_val (v := .bool false) (by kernel_rfl) ?_ ?_
    · go_simp
    simp only [Act.put, List.setIfInBounds_toArray, List.set_cons_zero, List.set_cons_succ]
    refine lst_val (v := .agg #[.slice ta c.ts.length tc, .slice ca c.cs.length cc, .slice sa c.ss.length sc, .slice da c.d.length dc, .int .i64 c.n]) (by kernel_rfl) ?_ ?_
    · have a0 := M8.out.1.m.cb.cell 0; have a1 := M8.out.1.m.cb.cell 1; have a2 := M8.out.1.m.cb.cell 2; have a3 := M8.out.1.m.cb.cell 3; have a4 := M8.out.1.m.cb.cell 4
      go_simp
    simp only [Act.put, List.setIfInBounds_toArray, List.set_cons_zero, List.set_cons_succ]
    refine lst_val (v := .agg #[.slice ta5 c.ts.length tc5, .slice ca5 c.cs.length cc5, .slice sa5 c.ss.length sc5, .slice da5 c.d.length dc5, .int .i64 c.n]) (by kernel_rfl) ?_ ?_
    · have a0 := M8.out.1.c5.cell 0; have a1 := M8.out.1.c5.cell 1; have a2 := M8.out.1.c5.cell 2; have a3 := M8.out.1.c5.cell 3; have a4 := M8.out.1.c5.cell 4
      go_simp
    simp only [Act.put, List.setIfInBounds_toArray, List.set_cons_zero, List.set_cons_succ]
    refine lst_call (by kernel_rfl) (by first | (go_simp; done) | (go_simp; first | exact rfl | exact ⟨rfl, rfl⟩ | exact ⟨rfl, rfl, rfl⟩)) (equal_is _ _ _ c M8.out.1.m.cw M8.out.1.k5) ?_
    rintro e z1 ⟨rfl, hB⟩
    refine ⟨_, rfl, ?_⟩
    have M9 : Hid (OfM bx b5 b6 w z1 [.slice ta c.ts.length tc, .slice ca c.cs.length cc, .slice sa c.ss.length sc, .slice da c.d.length dc, .int .i64 c.n] [.slice ta5 c.ts.length tc5, .slice ca5 c.cs.length cc5, .slice sa5 c.ss.length sc5, .slice da5 c.d.length dc5, .int .i64 c.n] [.int .i64 0, .slice none 0 0, .int .i64 0, .int .i64 0] c ∧ CBox z1 b7 28 [.slice ta7 0 tc7, .slice ca7 0 cc7, .slice sa7 0 sc7, .slice da7 0 dc7, .int .i64 0] ∧ CBox z1 b8 47 [.int .i64 50, .slice none 0 0, .int .i64 0, .int .i64 (bs.length : Int)] ∧ True) := ⟨M8.out.1.past hB, M8.out.2.1.past hB, M8.out.2.2.1.past hB, trivial⟩
    clear hB
    simp only [Act.put, List.setIfInBounds_toArray, List.set_cons_zero, List.set_cons_succ]
    refine lst_val (v := .bool false) (by kernel_rfl) ?_ ?_
    · go_simp
    simp only [Act.put, List.setIfInBounds_toArray, List.set_cons_zero, List.set_cons_succ]
    refine lst_val (v := .bool false) (by kernel_rfl) ?_ ?_
    · go_simp
    simp only [Act.put, List.setIfInBounds_toArray, List.set_cons_zero, List.set_cons_succ]
    refine lst_val (v := .bool false) (by kernel_rfl) ?_ ?_
    · go_simp
    simp only [Act.put, List.setIfInBounds_toArray, List.set_cons_zero, List.set_cons_succ]
    refine lst_val (v := .pointer (some ⟨b8, 0, none⟩)) (by kernel_rfl) ?_ ?_
    · go_simp
    simp only [Act.put, List.setIfInBounds_toArray, List.set_cons_zero, List.set_cons_succ]
    refine lst_val (v := .int .i64 50) (by kernel_rfl) ?_ ?_
    · have c0 := M9.out.2.2.1.cell 0
      go_simp
    simp only [Act.put, List.setIfInBounds_toArray, List.set_cons_zero, List.set_cons_succ]
    refine lst_val (v := .bool false) (by kernel_rfl) ?_ ?_
    · go_simp
    simp only [Act.put, List.setIfInBounds_toArray, List.set_cons_zero, List.set_cons_succ]
    refine lst_val (v := .pointer (some ⟨bx, 3, none⟩)) (by kernel_rfl) ?_ ?_
    · go_simp
    simp only [Act.put, List.setIfInBounds_toArray, List.set_cons_zero, List.set_cons_succ]
    refine lst_val (v := .slice da c.d.length dc) (by kernel_rfl) ?_ ?_
    · have c0 := M9.out.1.m.cb.cell 3
      go_simp
    simp only [Act.put, List.setIfInBounds_toArray, List.set_cons_zero, List.set_cons_succ]
    refine lst_val (v := .int .i64 (c.d.length : Int)) (by kernel_rfl) ?_ ?_
    · go_simp
    simp only [Act.put, List.setIfInBounds_toArray, List.set_cons_zero, List.set_cons_succ]
    refine lst_val (v := .pointer (some ⟨bx, 4, none⟩)) (by kernel_rfl) ?_ ?_
    · go_simp
    simp only [Act.put, List.setIfInBounds_toArray, List.set_cons_zero, List.set_cons_succ]
    refine lst_val (v := .int .i64 c.n) (by kernel_rfl) ?_ ?_
    · have c0 := M9.out.1.m.cb.cell 4
      go_simp
    simp only [Act.put, List.setIfInBounds_toArray, List.set_cons_zero, List.set_cons_succ]
    refine lst_val (v := .bool false) (by kernel_rfl) ?_ ?_
    · go_simp
    simp only [Act.put, List.setIfInBounds_toArray, List.set_cons_zero, List.set_cons_succ]
    refine lst_val (v := .bool false) (by kernel_rfl) ?_ ?_
    · go_simp
    simp only [Act.put, List.setIfInBounds_toArray, List.set_cons_zero, List.set_cons_succ]
    refine lst_val (v := .bool false) (by kernel_rfl) ?_ ?_
    · go_simp
    simp only [Act.put, List.setIfInBounds_toArray, List.set_cons_zero, List.set_cons_succ]
    refine wpList_nil ?_
    clear M8 q8
    go_upto_region 12 with fail
    refine wp_region_lit ?_
    refine lst_val (v := .pointer (some ⟨b8, 0, none⟩)) (by kernel_rfl) ?_ ?_
    · go_simp
    simp only [Act.put, List.setIfInBounds_toArray, List.set_cons_zero, List.set_cons_succ]
    refine lst_val (v := .int .i64 50) (by kernel_rfl) ?_ ?_
    · have c0 := M9.out.2.2.1.cell 0
      go_simp
    simp only [Act.put, List.setIfInBounds_toArray, List.set_cons_zero, List.set_cons_succ]
    refine lst_val (v := .bool true) (by kernel_rfl) ?_ ?_
    · go_simp
    simp only [Act.put, List.setIfInBounds_toArray, List.set_cons_zero, List.set_cons_succ]
    refine lst_val (v := .bool true) (by kernel_rfl) ?_ ?_
    · go_simp
    simp only [Act.put, List.setIfInBounds_toArray, List.set_cons_zero, List.set_cons_succ]
    refine lst_not (by kernel_rfl) ?_
    simp only [Act.put, List.setIfInBounds_toArray, List.set_cons_zero, List.set_cons_succ]
    refine lst_not (by kernel_rfl) ?_
    simp only [Act.put, List.setIfInBounds_toArray, List.set_cons_zero, List.set_cons_succ]
    refine lst_not (by kernel_rfl) ?_
    simp only [Act.put, List.setIfInBounds_toArray, List.set_cons_zero, List.set_cons_succ]
    refine lst_val (v := .bool true) (by kernel_rfl) ?_ ?_
    · go_simp
    simp only [Act.put, List.setIfInBounds_toArray, List.set_cons_zero, List.set_cons_succ]
    refine lst_val (v := .bool true) (by kernel_rfl) ?_ ?_
    · go_simp
    simp only [Act.put, List.setIfInBounds_toArray, List.set_cons_zero, List.set_cons_succ]
    refine lst_call (by kernel_rfl) (by first | (go_simp; done) | (go_simp; first | exact rfl | exact ⟨rfl, rfl⟩ | exact ⟨rfl, rfl, rfl⟩)) (topleast_is _) ?_
    rintro e z3 ⟨rfl, hB⟩
    refine ⟨_, rfl, ?_⟩
    have BF : Hid (Below w.heap.size w z3) := M9.out.1.m.bel.trans (hB.mono M9.out.1.m.bel.size)
    clear hB
    simp only [Act.put, List.setIfInBounds_toArray, List.set_cons_zero, List.set_cons_succ]
    refine lst_val (v := .bool true) (by kernel_rfl) ?_ ?_
    · go_simp
    simp only [Act.put, List.setIfInBounds_toArray, List.set_cons_zero, List.set_cons_succ]
    refine lst_val (v := .bool true) (by kernel_rfl) ?_ ?_
    · go_simp
    simp only [Act.put, List.setIfInBounds_toArray, List.set_cons_zero, List.set_cons_succ]
    refine wpList_nil ?_
    go_wp2
    go_ret
    exact ⟨rfl, BF.out⟩
  · have HMN : Hid (¬ May c) := hm
    obtain ⟨ec, hec⟩ : ∃ ec, ec = chk c := ⟨_, rfl⟩
    obtain ⟨bs, hbs⟩ : ∃ bs, bs = serR c := ⟨_, rfl⟩
    have hl : bs.length ≤ 2200000 := by
      rw [hbs]
      unfold serR
      split
      · rename_i e; exact ser_tiny (chk_may e) HTO.out
      · simp
    have SE : Hid (∀ (W : World) (R : Nat → Prop) (u : Value), CW R W u c → Calls Try.prog 35 #[u] W fun e w' => (∃ oa oc, e = .returned (.tuple #[.slice oa bs.length oc, .int .i64 ec]) ∧ BL (fun _ => True) w' (.slice oa bs.length oc) bs) ∧ Below W.heap.size W w') := fun W R u q => (serialize_is W u c q HSM.out).mono fun e w' q9 => by
      obtain ⟨v', rfl, hO, hB⟩ := q9
      rw [← hbs] at hO
      obtain ⟨oa, oc, rfl⟩ := owns_sl hO
      exact ⟨⟨oa, oc, by rw [hec], SL.own hO (by omega) fun _ _ => trivial⟩, hB⟩
    have he0 : bs = [] := by rw [hbs]; unfold serR; rw [if_neg (fun e => hm (chk_may e))]
    have hc0 : ec ≠ 0 := by rw [hec]; exact fun e => hm (chk_may e)
    clear hm hec hbs hl
    subst he0
    have q1 : (ec == 0) = false := by rw [beq_eq_false_iff_ne]; exact hc0
    have q2 : (ec != 0) = true := by rw [bne, q1]; rfl
    clear hc0
    have a0 : w1.cell? ⟨bx, 0, none⟩ = some (.slice ta c.ts.length tc) := M1.out.cb.cell 0
    have a1 : w1.cell? ⟨bx, 1, none⟩ = some (.slice ca c.cs.length cc) := M1.out.cb.cell 1
    have a2 : w1.cell? ⟨bx, 2, none⟩ = some (.slice sa c.ss.length sc) := M1.out.cb.cell 2
    have a3 : w1.cell? ⟨bx, 3, none⟩ = some (.slice da c.d.length dc) := M1.out.cb.cell 3
    have a4 : w1.cell? ⟨bx, 4, none⟩ = some (.int .i64 c.n) := M1.out.cb.cell 4
    go_upto_region 4 with (first | (go_at_call 52; refine (copied_is2 _ _ c M1.out.cw HSM.out).mono ?_; rintro e w2 ⟨v2, rfl, hC, hB⟩; (have N2 : Hid (CtM bx w w2 [.slice ta c.ts.length tc, .slice ca c.cs.length cc, .slice sa c.ss.length sc, .slice da c.d.length dc, .int .i64 c.n] c ∧ CW (fun _ => True) w2 v2 c) := ⟨M1.out.past hB, hC⟩); (clear hC hB)) | (go_at_call 35; refine (SE.out _ _ _ N2.out.2).mono ?_; rintro e w3 ⟨⟨oa, oc, rfl, hO⟩, hB⟩; (have N3 : Hid (CtM bx w w3 [.slice ta c.ts.length tc, .slice ca c.cs.length cc, .slice sa c.ss.length sc, .slice da c.d.length dc, .int .i64 c.n] c ∧ BL (fun _ => True) w3 (.slice oa ([] : List Nat).length oc) []) := ⟨N2.out.1.past hB, hO⟩); (clear hO hB)))
    clear a0 a1 a2 a3 a4 M1 N2 SE
    have a0 : w3.cell? ⟨bx, 0, none⟩ = some (.slice ta c.ts.length tc) := N3.out.1.cb.cell 0
    have a1 : w3.cell? ⟨bx, 1, none⟩ = some (.slice ca c.cs.length cc) := N3.out.1.cb.cell 1
    have a2 : w3.cell? ⟨bx, 2, none⟩ = some (.slice sa c.ss.length sc) := N3.out.1.cb.cell 2
    have a3 : w3.cell? ⟨bx, 3, none⟩ = some (.slice da c.d.length dc) := N3.out.1.cb.cell 3
    have a4 : w3.cell? ⟨bx, 4, none⟩ = some (.int .i64 c.n) := N3.out.1.cb.cell 4
    go_upto_region 6 with (go_at_call 53; refine (topmay_is _ _ c N3.out.1.cw HSM.out).mono ?_; rintro e w4 ⟨⟨r, rfl, hr⟩, hB⟩; (obtain rfl : r = false := by cases r; rfl; exact absurd (hr.1 rfl) HMN.out); (have M4 : Hid (CtM bx w w4 [.slice ta c.ts.length tc, .slice ca c.cs.length cc, .slice sa c.ss.length sc, .slice da c.d.length dc, .int .i64 c.n] c ∧ BL (fun _ => True) w4 (.slice oa ([] : List Nat).length oc) []) := ⟨N3.out.1.past hB, N3.out.2.past hB⟩); (clear hr hB))
    clear a0 a1 a2 a3 a4 N3
    go_wp2_with (go_at_call 48; refine (topleast_is _).mono ?_; rintro e w5 ⟨rfl, hB⟩; (have BF : Hid (Below w.heap.size w w5) := M4.out.1.bel.trans (hB.mono M4.out.1.bel.size)); clear hB)
    go_ret
    exact ⟨rfl, BF.out⟩
end Go.Proofs.Ytndhabhlajldeaa
