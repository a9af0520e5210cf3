/- ContainerCheck: the walk. -/
import Derived.Test.YtndhabhlajldeaaBtq
import Derived.Test.YtndhabhlajldeaaBtcM
import Derived.Test.YtndhabhlajldeaaFccM
namespace Go.Proofs.Ytndhabhlajldeaa
open Go.RowKit
/-- a law's container in its box, a twin of it in another -/
structure CkM (b1 b3 B : Nat) (w W : World) (L L3 : List Value) (c : Con) : Prop where
  c1 : CBox W b1 28 L
  c3 : CBox W b3 28 L3
  dq : DO B W (.agg L3.toArray) c
  bel : Below w.heap.size w W
  cw : CW (fun _ => True) W (.agg L.toArray) c
  ge : B ≤ W.heap.size
theorem CkM.past {b1 b3 B : Nat} {w W W' : World} {L L3 : List Value} {c : Con} (h : CkM b1 b3 B w W L L3 c) (k : Below W.heap.size W W') : CkM b1 b3 B w W' L L3 c := ⟨h.c1.past k, h.c3.past k, h.dq.past k, h.bel.trans (k.mono h.bel.size), h.cw.past k, Nat.le_trans h.ge k.size⟩
theorem CBox.kept {W W' : World} {b B : Nat} {t : TypeId} {l : List Value} (h : CBox W b t l) (k : Below B W W') (hb : b < B) : CBox W' b t l := (k.block b hb).trans h
set_option maxHeartbeats 8000000 in
set_option maxRecDepth 100000 in
theorem containerCheck_walk (w : World) (v : Value) (c : Con) (h : CW (fun _ => True) w v c) (_ : BytC c) : Calls Try.prog 4 #[v] w fun e w' => e = .returned (.bool true) ∧ Below w.heap.size w w' := by
  obtain ⟨ta, tc, ca, cc, sa, sc, da, dc, rfl⟩ := cw_form h
  have b1 := below_alloc w (.cells #[.slice ta c.ts.length tc, .slice ca c.cs.length cc, .slice sa c.ss.length sc, .slice da c.d.length dc, .int .i64 c.n] 28)
  have M0 : Hid (CtM w.heap.size w (w.alloc (.cells #[.slice ta c.ts.length tc, .slice ca c.cs.length cc, .slice sa c.ss.length sc, .slice da c.d.length dc, .int .i64 c.n] 28)) [.slice ta c.ts.length tc, .slice ca c.cs.length cc, .slice sa c.ss.length sc, .slice da c.d.length dc, .int .i64 c.n] c) := ⟨CBox.new w _ [_, _, _, _, _], h.past b1, b1⟩
  have HC : Hid (∀ W, Below w.heap.size w W → CW (fun _ => True) W (.agg #[.slice ta c.ts.length tc, .slice ca c.cs.length cc, .slice sa c.ss.length sc, .slice da c.d.length dc, .int .i64 c.n]) c) := fun W hW => h.past hW
  have GX : Hid (w.heap.size ≤ w.heap.size) := Nat.le_refl _
  clear h b1
  go_enter Try.func4, Try.ntmps4
  go_upto_region 1 with fail
  generalize w.heap.size = bx at M0 ⊢
  generalize w.alloc _ = W0 at M0 ⊢
  refine wp_region_lit ?_
  refine lst_val (v := .agg #[.slice ta c.ts.length tc, .slice ca c.cs.length cc, .slice sa c.ss.length sc, .slice da c.d.length dc, .int .i64 c.n]) (by kernel_rfl) ?_ ?_
  · have a0 := M0.out.cb.cell 0; have a1 := M0.out.cb.cell 1; have a2 := M0.out.cb.cell 2; have a3 := M0.out.cb.cell 3; have a4 := M0.out.cb.cell 4
    go_simp
  simp only [Act.put, List.setIfInBounds_toArray, List.set_cons_zero, List.set_cons_succ]
  refine lst_call (by kernel_rfl) (by first | (go_simp; done) | (go_simp; first | exact rfl | exact ⟨rfl, rfl⟩ | exact ⟨rfl, rfl, rfl⟩)) (weight_is _ _ c M0.out.cw) ?_
  rintro e w1 ⟨⟨n, rfl, hn⟩, hB⟩
  refine ⟨_, rfl, ?_⟩
  have M1 : Hid (CtM bx w w1 [.slice ta c.ts.length tc, .slice ca c.cs.length cc, .slice sa c.ss.length sc, .slice da c.d.length dc, .int .i64 c.n] c) := M0.out.past hB
  have HWT : Hid (n ≤ 2097152 → total c = n) := hn
  clear hn hB M0
  simp only [Act.put, List.setIfInBounds_toArray, List.set_cons_zero, List.set_cons_succ]
  by_cases en : n ≤ 2097152
  rotate_left
  · have q1 : (2097152 : Int) < (n : Int) := by omega
    clear en HWT
    go_wp2
    go_ret
    exact ⟨rfl, M1.out.bel⟩
  have q1 : ¬ (2097152 : Int) < (n : Int) := by omega
  have HTO : Hid (total c ≤ 2097152) := by have := HWT.out en; unfold Hid; omega
  have HSM : Hid (Small c) := total_small HTO.out
  clear en HWT GX
  go_upto_region 3 with fail
  clear q1
  have a0 : w1.cell? ⟨bx, 0, none⟩ = some (.slice ta c.ts.length tc) := M1.out.cb.cell 0
  have a1 : w1.cell? ⟨bx, 1, none⟩ = some (.slice ca c.cs.length cc) := M1.out.cb.cell 1
  have a2 : w1.cell? ⟨bx, 2, none⟩ = some (.slice sa c.ss.length sc) := M1.out.cb.cell 2
  have a3 : w1.cell? ⟨bx, 3, none⟩ = some (.slice da c.d.length dc) := M1.out.cb.cell 3
  have a4 : w1.cell? ⟨bx, 4, none⟩ = some (.int .i64 c.n) := M1.out.cb.cell 4
  go_upto_region 4 with (go_at_call 19; refine (twin_is _ _ c M1.out.cw HSM.out).mono ?_; rintro e w2 ⟨v2, rfl, hD, hB⟩; (obtain ⟨ta3, tc3, ca3, cc3, sa3, sc3, da3, dc3, e9, hQ⟩ := do_dq hD); (subst e9); (have N2 : Hid (CtM bx w w2 [.slice ta c.ts.length tc, .slice ca c.cs.length cc, .slice sa c.ss.length sc, .slice da c.d.length dc, .int .i64 c.n] c ∧ DO w1.heap.size w2 (.agg #[.slice ta3 c.ts.length tc3, .slice ca3 c.cs.length cc3, .slice sa3 c.ss.length sc3, .slice da3 c.d.length dc3, .int .i64 c.n]) c) := ⟨M1.out.past hB, hD⟩); (have HB2 : Hid (w1.heap.size ≤ w2.heap.size) := hB.size); (clear hD hB hQ))
  have b9 := below_alloc w2 (.cells #[.slice ta3 c.ts.length tc3, .slice ca3 c.cs.length cc3, .slice sa3 c.ss.length sc3, .slice da3 c.d.length dc3, .int .i64 c.n] 28)
  have M3 : Hid (CkM bx w2.heap.size w1.heap.size w (w2.alloc (.cells #[.slice ta3 c.ts.length tc3, .slice ca3 c.cs.length cc3, .slice sa3 c.ss.length sc3, .slice da3 c.d.length dc3, .int .i64 c.n] 28)) [.slice ta c.ts.length tc, .slice ca c.cs.length cc, .slice sa c.ss.length sc, .slice da c.d.length dc, .int .i64 c.n] [.slice ta3 c.ts.length tc3, .slice ca3 c.cs.length cc3, .slice sa3 c.ss.length sc3, .slice da3 c.d.length dc3, .int .i64 c.n] c) := ⟨N2.out.1.cb.past b9, CBox.new w2 _ [_, _, _, _, _], N2.out.2.past b9, N2.out.1.bel.trans (b9.mono N2.out.1.bel.size), N2.out.1.cw.past b9, Nat.le_trans HB2.out b9.size⟩
  have HBX : Hid (bx < w1.heap.size ∧ w.heap.size ≤ w1.heap.size) := ⟨M1.out.cb.lt, M1.out.bel.size⟩
  clear b9 N2 HB2 M1 a0 a1 a2 a3 a4
  generalize w1.heap.size = B at M3 HBX
  generalize w2.heap.size = b3 at M3 ⊢
  generalize w2.alloc _ = W3 at M3 ⊢
  obtain ⟨ec, hec⟩ : ∃ ec, ec = chk c := ⟨_, rfl⟩
  have CC : Hid (∀ (W : World) (R : Nat → Prop) (u : Value), CW R W u c → Calls Try.prog 20 #[u] W fun e w' => e = .returned (.int .i64 ec) ∧ Below W.heap.size W w') := fun W R u q => by rw [hec]; exact check_is W u c q
  have RK : Hid (∀ (W : World) (R : Nat → Prop) (u : Value), CW R W u c → Calls Try.prog 21 #[u] W fun e w' => e = .returned (.int .i64 ec) ∧ Below W.heap.size W w') := fun W R u q => by rw [hec]; exact rCheck_is W u c q
  clear hec
  have p0 : W3.cell? ⟨b3, 0, none⟩ = some (.slice ta3 c.ts.length tc3) := M3.out.c3.cell 0
  have p1 : W3.cell? ⟨b3, 1, none⟩ = some (.slice ca3 c.cs.length cc3) := M3.out.c3.cell 1
  have p2 : W3.cell? ⟨b3, 2, none⟩ = some (.slice sa3 c.ss.length sc3) := M3.out.c3.cell 2
  have p3 : W3.cell? ⟨b3, 3, none⟩ = some (.slice da3 c.d.length dc3) := M3.out.c3.cell 3
  have p4 : W3.cell? ⟨b3, 4, none⟩ = some (.int .i64 c.n) := M3.out.c3.cell 4
  go_upto_region 5 with (go_at_call 20; refine (CC.out _ _ _ (M3.out.dq.cw HSM.out)).mono ?_; rintro e w4 ⟨rfl, hB⟩; (have M4 : Hid (CkM bx b3 B w w4 [.slice ta c.ts.length tc, .slice ca c.cs.length cc, .slice sa c.ss.length sc, .slice da c.d.length dc, .int .i64 c.n] [.slice ta3 c.ts.length tc3, .slice ca3 c.cs.length cc3, .slice sa3 c.ss.length sc3, .slice da3 c.d.length dc3, .int .i64 c.n] c) := M3.out.past hB); (clear hB))
  clear p0 p1 p2 p3 p4 M3
  refine wp_region_lit ?_
  refine lst_call (by kernel_rfl) (by first | (go_simp; done) | (go_simp; first | exact rfl | exact ⟨rfl, rfl⟩ | exact ⟨rfl, rfl, rfl⟩)) (able_is _) ?_
  rintro e y1 ⟨rfl, hB⟩
  refine ⟨_, rfl, ?_⟩
  have MA : Hid (CkM bx b3 B w y1 [.slice ta c.ts.length tc, .slice ca c.cs.length cc, .slice sa c.ss.length sc, .slice da c.d.length dc, .int .i64 c.n] [.slice ta3 c.ts.length tc3, .slice ca3 c.cs.length cc3, .slice sa3 c.ss.length sc3, .slice da3 c.d.length dc3, .int .i64 c.n] c) := M4.out.past hB
  clear hB
  simp only [Act.put, List.setIfInBounds_toArray, List.set_cons_zero, List.set_cons_succ]
  refine lst_val (v := .bool false) (by kernel_rfl) ?_ ?_
  · go_simp
  simp only [Act.put, List.setIfInBounds_toArray, List.set_cons_zero, List.set_cons_succ]
  refine lst_val (v := .bool false) (by kernel_rfl) ?_ ?_
  · go_simp
  simp only [Act.put, List.setIfInBounds_toArray, List.set_cons_zero, List.set_cons_succ]
  refine lst_val (v := .int .i64 ec) (by kernel_rfl) ?_ ?_
  · go_simp
  simp only [Act.put, List.setIfInBounds_toArray, List.set_cons_zero, List.set_cons_succ]
  refine lst_val (v := .agg #[.slice ta c.ts.length tc, .slice ca c.cs.length cc, .slice sa c.ss.length sc, .slice da c.d.length dc, .int .i64 c.n]) (by kernel_rfl) ?_ ?_
  · (first | (have a9 := MB.out.c1) | (have a9 := MA.out.c1) | (have a9 := M4.out.c1)); have a0 := a9.cell 0; have a1 := a9.cell 1; have a2 := a9.cell 2; have a3 := a9.cell 3; have a4 := a9.cell 4
    go_simp
  simp only [Act.put, List.setIfInBounds_toArray, List.set_cons_zero, List.set_cons_succ]
  refine lst_call (by kernel_rfl) (by first | (go_simp; done) | (go_simp; first | exact rfl | exact ⟨rfl, rfl⟩ | exact ⟨rfl, rfl, rfl⟩)) (RK.out _ _ _ MA.out.cw) ?_
  rintro e y2 ⟨rfl, hB⟩
  refine ⟨_, rfl, ?_⟩
  have MB : Hid (CkM bx b3 B w y2 [.slice ta c.ts.length tc, .slice ca c.cs.length cc, .slice sa c.ss.length sc, .slice da c.d.length dc, .int .i64 c.n] [.slice ta3 c.ts.length tc3, .slice ca3 c.cs.length cc3, .slice sa3 c.ss.length sc3, .slice da3 c.d.length dc3, .int .i64 c.n] c) := MA.out.past hB
  clear hB
  simp only [Act.put, List.setIfInBounds_toArray, List.set_cons_zero, List.set_cons_succ]
  refine lst_val (v := .bool false) (by kernel_rfl) ?_ ?_
  · go_simp
  simp only [Act.put, List.setIfInBounds_toArray, List.set_cons_zero, List.set_cons_succ]
  refine lst_val (v := .bool false) (by kernel_rfl) ?_ ?_
  · go_simp
  simp only [Act.put, List.setIfInBounds_toArray, List.set_cons_zero, List.set_cons_succ]
  refine lst_val (v := .bool false) (by kernel_rfl) ?_ ?_
  · go_simp
  simp only [Act.put, List.setIfInBounds_toArray, List.set_cons_zero, List.set_cons_succ]
  refine lst_val (v := .agg #[.slice ta3 c.ts.length tc3, .slice ca3 c.cs.length cc3, .slice sa3 c.ss.length sc3, .slice da3 c.d.length dc3, .int .i64 c.n]) (by kernel_rfl) ?_ ?_
  · (first | (have a9 := MB.out.c3) | (have a9 := MA.out.c3) | (have a9 := M4.out.c3)); have a0 := a9.cell 0; have a1 := a9.cell 1; have a2 := a9.cell 2; have a3 := a9.cell 3; have a4 := a9.cell 4
    go_simp
  simp only [Act.put, List.setIfInBounds_toArray, List.set_cons_zero, List.set_cons_succ]
  refine lst_val (v := .agg #[.slice ta c.ts.length tc, .slice ca c.cs.length cc, .slice sa c.ss.length sc, .slice da c.d.length dc, .int .i64 c.n]) (by kernel_rfl) ?_ ?_
  · (first | (have a9 := MB.out.c1) | (have a9 := MA.out.c1) | (have a9 := M4.out.c1)); have a0 := a9.cell 0; have a1 := a9.cell 1; have a2 := a9.cell 2; have a3 := a9.cell 3; have a4 := a9.cell 4
    go_simp
  simp only [Act.put, List.setIfInBounds_toArray, List.set_cons_zero, List.set_cons_succ]
  refine lst_call (by kernel_rfl) (by first | (go_simp; done) | (go_simp; first | exact rfl | exact ⟨rfl, rfl⟩ | exact ⟨rfl, rfl, rfl⟩)) (same_is _ _ _ c (MB.out.dq.cw HSM.out) MB.out.cw) ?_
  rintro e y3 ⟨rfl, hB⟩
  refine ⟨_, rfl, ?_⟩
  have M5 : Hid (CkM bx b3 B w y3 [.slice ta c.ts.length tc, .slice ca c.cs.length cc, .slice sa c.ss.length sc, .slice da c.d.length dc, .int .i64 c.n] [.slice ta3 c.ts.length tc3, .slice ca3 c.cs.length cc3, .slice sa3 c.ss.length sc3, .slice da3 c.d.length dc3, .int .i64 c.n] c) := MB.out.past hB
  clear hB MA MB M4
  simp only [Act.put, List.setIfInBounds_toArray, List.set_cons_zero, List.set_cons_succ]
  refine lst_val (v := .bool false) (by kernel_rfl) ?_ ?_
  · go_simp
  simp only [Act.put, List.setIfInBounds_toArray, List.set_cons_zero, List.set_cons_succ]
  refine lst_val (v := .bool false) (by kernel_rfl) ?_ ?_
  · go_simp
  simp only [Act.put, List.setIfInBounds_toArray, List.set_cons_zero, List.set_cons_succ]
  refine wpList_nil ?_
  go_upto_region 7 with fail
  have p0 : y3.cell? ⟨b3, 0, none⟩ = some (.slice ta3 c.ts.length tc3) := M5.out.c3.cell 0
  have p1 : y3.cell? ⟨b3, 1, none⟩ = some (.slice ca3 c.cs.length cc3) := M5.out.c3.cell 1
  have p2 : y3.cell? ⟨b3, 2, none⟩ = some (.slice sa3 c.ss.length sc3) := M5.out.c3.cell 2
  have p3 : y3.cell? ⟨b3, 3, none⟩ = some (.slice da3 c.d.length dc3) := M5.out.c3.cell 3
  have p4 : y3.cell? ⟨b3, 4, none⟩ = some (.int .i64 c.n) := M5.out.c3.cell 4
  go_upto_region 8 with (go_at_call 20; refine (CC.out _ _ _ (M5.out.dq.cw HSM.out)).mono ?_; rintro e w6 ⟨rfl, hB⟩; (have M6 : Hid (CkM bx b3 B w w6 [.slice ta c.ts.length tc, .slice ca c.cs.length cc, .slice sa c.ss.length sc, .slice da c.d.length dc, .int .i64 c.n] [.slice ta3 c.ts.length tc3, .slice ca3 c.cs.length cc3, .slice sa3 c.ss.length sc3, .slice da3 c.d.length dc3, .int .i64 c.n] c) := M5.out.past hB); (clear hB))
  clear p0 p1 p2 p3 p4 M5
  have p0 : w6.cell? ⟨b3, 0, none⟩ = some (.slice ta3 c.ts.length tc3) := M6.out.c3.cell 0
  have p1 : w6.cell? ⟨b3, 1, none⟩ = some (.slice ca3 c.cs.length cc3) := M6.out.c3.cell 1
  have p2 : w6.cell? ⟨b3, 2, none⟩ = some (.slice sa3 c.ss.length sc3) := M6.out.c3.cell 2
  have p3 : w6.cell? ⟨b3, 3, none⟩ = some (.slice da3 c.d.length dc3) := M6.out.c3.cell 3
  have p4 : w6.cell? ⟨b3, 4, none⟩ = some (.int .i64 c.n) := M6.out.c3.cell 4
  go_upto_region 9 with (go_at_call 23; refine (over_is _ B M6.out.ge _ c M6.out.dq HTO.out).mono ?_; rintro e w8 ⟨⟨v8, c8, rfl, hD, hT⟩, hB⟩; (obtain ⟨ta8, tc8, ca8, cc8, sa8, sc8, da8, dc8, e9, hQ⟩ := do_dq hD); (subst e9); (have N8 : Hid (CBox w8 bx 28 [.slice ta c.ts.length tc, .slice ca c.cs.length cc, .slice sa c.ss.length sc, .slice da c.d.length dc, .int .i64 c.n] ∧ DO B w8 (.agg #[.slice ta8 c8.ts.length tc8, .slice ca8 c8.cs.length cc8, .slice sa8 c8.ss.length sc8, .slice da8 c8.d.length dc8, .int .i64 c8.n]) c8 ∧ Below w.heap.size w w8 ∧ total c8 ≤ 2097154) := ⟨M6.out.c1.kept hB HBX.out.1, hD, M6.out.bel.trans (hB.mono HBX.out.2), hT⟩); (clear hD hB hQ hT))
  clear p0 p1 p2 p3 p4 M6
  have b9 := below_alloc w8 (.cells #[.slice ta8 c8.ts.length tc8, .slice ca8 c8.cs.length cc8, .slice sa8 c8.ss.length sc8, .slice da8 c8.d.length dc8, .int .i64 c8.n] 28)
  have HS8 : Hid (Small c8) := by have := N8.out.2.2.2; unfold total fourOf at this; unfold Hid Small; omega
  have M8 : Hid (CBox (w8.alloc (.cells #[.slice ta8 c8.ts.length tc8, .slice ca8 c8.cs.length cc8, .slice sa8 c8.ss.length sc8, .slice da8 c8.d.length dc8, .int .i64 c8.n] 28)) bx 28 [.slice ta c.ts.length tc, .slice ca c.cs.length cc, .slice sa c.ss.length sc, .slice da c.d.length dc, .int .i64 c.n] ∧ CBox (w8.alloc (.cells #[.slice ta8 c8.ts.length tc8, .slice ca8 c8.cs.length cc8, .slice sa8 c8.ss.length sc8, .slice da8 c8.d.length dc8, .int .i64 c8.n] 28)) w8.heap.size 28 [.slice ta8 c8.ts.length tc8, .slice ca8 c8.cs.length cc8, .slice sa8 c8.ss.length sc8, .slice da8 c8.d.length dc8, .int .i64 c8.n] ∧ CW (fun _ => True) (w8.alloc (.cells #[.slice ta8 c8.ts.length tc8, .slice ca8 c8.cs.length cc8, .slice sa8 c8.ss.length sc8, .slice da8 c8.d.length dc8, .int .i64 c8.n] 28)) (.agg #[.slice ta8 c8.ts.length tc8, .slice ca8 c8.cs.length cc8, .slice sa8 c8.ss.length sc8, .slice da8 c8.d.length dc8, .int .i64 c8.n]) c8 ∧ Below w.heap.size w (w8.alloc (.cells #[.slice ta8 c8.ts.length tc8, .slice ca8 c8.cs.length cc8, .slice sa8 c8.ss.length sc8, .slice da8 c8.d.length dc8, .int .i64 c8.n] 28))) := ⟨N8.out.1.past b9, CBox.new w8 _ [_, _, _, _, _], ((N8.out.2.1.past b9).cw HS8.out).mono fun _ _ _ => trivial, N8.out.2.2.1.trans (b9.mono N8.out.2.2.1.size)⟩
  clear b9 N8 CC
  generalize w8.heap.size = b5 at M8 ⊢
  generalize w8.alloc _ = W8 at M8 ⊢
  obtain ⟨e8, he8⟩ : ∃ e8, e8 = chk c8 := ⟨_, rfl⟩
  have CC8 : Hid (∀ (W : World) (R : Nat → Prop) (u : Value), CW R W u c8 → Calls Try.prog 20 #[u] W fun e w' => e = .returned (.int .i64 e8) ∧ Below W.heap.size W w') := fun W R u q => by rw [he8]; exact check_is W u c8 q
  have RK8 : Hid (∀ (W : World) (R : Nat → Prop) (u : Value), CW R W u c8 → Calls Try.prog 21 #[u] W fun e w' => e = .returned (.int .i64 e8) ∧ Below W.heap.size W w') := fun W R u q => by rw [he8]; exact rCheck_is W u c8 q
  clear he8
  have p0 : W8.cell? ⟨b5, 0, none⟩ = some (.slice ta8 c8.ts.length tc8) := M8.out.2.1.cell 0
  have p1 : W8.cell? ⟨b5, 1, none⟩ = some (.slice ca8 c8.cs.length cc8) := M8.out.2.1.cell 1
  have p2 : W8.cell? ⟨b5, 2, none⟩ = some (.slice sa8 c8.ss.length sc8) := M8.out.2.1.cell 2
  have p3 : W8.cell? ⟨b5, 3, none⟩ = some (.slice da8 c8.d.length dc8) := M8.out.2.1.cell 3
  have p4 : W8.cell? ⟨b5, 4, none⟩ = some (.int .i64 c8.n) := M8.out.2.1.cell 4
  go_upto_region 10 with (go_at_call 20; refine (CC8.out _ _ _ M8.out.2.2.1).mono ?_; rintro e w9 ⟨rfl, hB⟩; (have M9 : Hid (CBox w9 bx 28 [.slice ta c.ts.length tc, .slice ca c.cs.length cc, .slice sa c.ss.length sc, .slice da c.d.length dc, .int .i64 c.n] ∧ CBox w9 b5 28 [.slice ta8 c8.ts.length tc8, .slice ca8 c8.cs.length cc8, .slice sa8 c8.ss.length sc8, .slice da8 c8.d.length dc8, .int .i64 c8.n] ∧ CW (fun _ => True) w9 (.agg #[.slice ta8 c8.ts.length tc8, .slice ca8 c8.cs.length cc8, .slice sa8 c8.ss.length sc8, .slice da8 c8.d.length dc8, .int .i64 c8.n]) c8 ∧ Below w.heap.size w w9) := ⟨M8.out.1.past hB, M8.out.2.1.past hB, M8.out.2.2.1.past hB, M8.out.2.2.2.trans (hB.mono M8.out.2.2.2.size)⟩); (clear hB))
  clear p0 p1 p2 p3 p4 M8 CC8
  refine wp_region_lit ?_
  refine lst_val (v := .int .i64 ec) (by kernel_rfl) ?_ ?_
  · go_simp
  simp only [Act.put, List.setIfInBounds_toArray, List.set_cons_zero, List.set_cons_succ]
  refine lst_val (v := .agg #[.slice ta c.ts.length tc, .slice ca c.cs.length cc, .slice sa c.ss.length sc, .slice da c.d.length dc, .int .i64 c.n]) (by kernel_rfl) ?_ ?_
  · (first | (have a9 := MB.out.1) | (have a9 := MA.out.1) | (have a9 := M9.out.1)); have a0 := a9.cell 0; have a1 := a9.cell 1; have a2 := a9.cell 2; have a3 := a9.cell 3; have a4 := a9.cell 4
    go_simp
  simp only [Act.put, List.setIfInBounds_toArray, List.set_cons_zero, List.set_cons_succ]
  refine lst_call (by kernel_rfl) (by first | (go_simp; done) | (go_simp; first | exact rfl | exact ⟨rfl, rfl⟩ | exact ⟨rfl, rfl, rfl⟩)) (RK.out _ _ _ (HC.out _ M9.out.2.2.2)) ?_
  rintro e y4 ⟨rfl, hB⟩
  refine ⟨_, rfl, ?_⟩
  have MA : Hid (CBox y4 bx 28 [.slice ta c.ts.length tc, .slice ca c.cs.length cc, .slice sa c.ss.length sc, .slice da c.d.length dc, .int .i64 c.n] ∧ CBox y4 b5 28 [.slice ta8 c8.ts.length tc8, .slice ca8 c8.cs.length cc8, .slice sa8 c8.ss.length sc8, .slice da8 c8.d.length dc8, .int .i64 c8.n] ∧ CW (fun _ => True) y4 (.agg #[.slice ta8 c8.ts.length tc8, .slice ca8 c8.cs.length cc8, .slice sa8 c8.ss.length sc8, .slice da8 c8.d.length dc8, .int .i64 c8.n]) c8 ∧ Below w.heap.size w y4) := ⟨M9.out.1.past hB, M9.out.2.1.past hB, M9.out.2.2.1.past hB, M9.out.2.2.2.trans (hB.mono M9.out.2.2.2.size)⟩
  clear hB
  simp only [Act.put, List.setIfInBounds_toArray, List.set_cons_zero, List.set_cons_succ]
  refine lst_val (v := .bool true) (by kernel_rfl) ?_ ?_
  · go_simp
  simp only [Act.put, List.setIfInBounds_toArray, List.set_cons_zero, List.set_cons_succ]
  refine lst_val (v := .bool true) (by kernel_rfl) ?_ ?_
  · go_simp
  simp only [Act.put, List.setIfInBounds_toArray, List.set_cons_zero, List.set_cons_succ]
  refine lst_val (v := .int .i64 e8) (by kernel_rfl) ?_ ?_
  · go_simp
  simp only [Act.put, List.setIfInBounds_toArray, List.set_cons_zero, List.set_cons_succ]
  refine lst_val (v := .agg #[.slice ta8 c8.ts.length tc8, .slice ca8 c8.cs.length cc8, .slice sa8 c8.ss.length sc8, .slice da8 c8.d.length dc8, .int .i64 c8.n]) (by kernel_rfl) ?_ ?_
  · (first | (have a9 := MB.out.2.1) | (have a9 := MA.out.2.1) | (have a9 := M9.out.2.1)); have a0 := a9.cell 0; have a1 := a9.cell 1; have a2 := a9.cell 2; have a3 := a9.cell 3; have a4 := a9.cell 4
    go_simp
  simp only [Act.put, List.setIfInBounds_toArray, List.set_cons_zero, List.set_cons_succ]
  refine lst_call (by kernel_rfl) (by first | (go_simp; done) | (go_simp; first | exact rfl | exact ⟨rfl, rfl⟩ | exact ⟨rfl, rfl, rfl⟩)) (twin_is _ _ c8 MA.out.2.2.1 HS8.out) ?_
  rintro e y5 ⟨v5, rfl, hD, hB⟩
  refine ⟨_, rfl, ?_⟩
  have HD5 : Hid (CW (fun _ => True) y5 v5 c8) := (hD.cw HS8.out).mono fun _ _ _ => trivial
  have MB : Hid (CBox y5 bx 28 [.slice ta c.ts.length tc, .slice ca c.cs.length cc, .slice sa c.ss.length sc, .slice da c.d.length dc, .int .i64 c.n] ∧ CBox y5 b5 28 [.slice ta8 c8.ts.length tc8, .slice ca8 c8.cs.length cc8, .slice sa8 c8.ss.length sc8, .slice da8 c8.d.length dc8, .int .i64 c8.n] ∧ CW (fun _ => True) y5 (.agg #[.slice ta8 c8.ts.length tc8, .slice ca8 c8.cs.length cc8, .slice sa8 c8.ss.length sc8, .slice da8 c8.d.length dc8, .int .i64 c8.n]) c8 ∧ Below w.heap.size w y5) := ⟨MA.out.1.past hB, MA.out.2.1.past hB, MA.out.2.2.1.past hB, MA.out.2.2.2.trans (hB.mono MA.out.2.2.2.size)⟩
  clear hB hD
  simp only [Act.put, List.setIfInBounds_toArray, List.set_cons_zero, List.set_cons_succ]
  refine lst_call (by kernel_rfl) (by first | (go_simp; done) | (go_simp; first | exact rfl | exact ⟨rfl, rfl⟩ | exact ⟨rfl, rfl, rfl⟩)) (RK8.out _ _ _ HD5.out) ?_
  rintro e y6 ⟨rfl, hB⟩
  refine ⟨_, rfl, ?_⟩
  have BF : Hid (Below w.heap.size w y6) := MB.out.2.2.2.trans (hB.mono MB.out.2.2.2.size)
  clear hB
  simp only [Act.put, List.setIfInBounds_toArray, List.set_cons_zero, List.set_cons_succ]
  refine lst_val (v := .bool true) (by kernel_rfl) ?_ ?_
  · go_simp
  simp only [Act.put, List.setIfInBounds_toArray, List.set_cons_zero, List.set_cons_succ]
  refine lst_val (v := .bool true) (by kernel_rfl) ?_ ?_
  · go_simp
  simp only [Act.put, List.setIfInBounds_toArray, List.set_cons_zero, List.set_cons_succ]
  refine lst_val (v := .bool true) (by kernel_rfl) ?_ ?_
  · go_simp
  simp only [Act.put, List.setIfInBounds_toArray, List.set_cons_zero, List.set_cons_succ]
  refine wpList_nil ?_
  go_wp2
  go_ret
  exact ⟨rfl, BF.out⟩
end Go.Proofs.Ytndhabhlajldeaa
