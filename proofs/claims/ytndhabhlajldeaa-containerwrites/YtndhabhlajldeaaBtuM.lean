/- ContainerCheck: the walk. -/
import Derived.Test.YtndhabhlajldeaaBtq
import Derived.Test.YtndhabhlajldeaaBtcM
import Derived.Test.YtndhabhlajldeaaFccM
import Derived.Test.YtndhabhlajldeaaBrj
namespace Go.Proofs.Ytndhabhlajldeaa
open Go.RowKit
/-- a law's container in its box, a twin of it in another -/
structure CkM (b1 b3 B : Nat) (w W : World) (L L3 : List Value) (c : Con) : Prop where
  c1 : CBox W b1 28 L
  c3 : CBox W b3 28 L3
  dq : DO B W (.agg L3.toArray) c
  bel : Below w.heap.size w W
  cw : CW (fun _ => True) W (.agg L.toArray) c
  ge : B ≤ W.heap.size
theorem CkM.past {b1 b3 B : Nat} {w W W' : World} {L L3 : List Value} {c : Con} (h : CkM b1 b3 B w W L L3 c) (k : Below W.heap.size W W') : CkM b1 b3 B w W' L L3 c := ⟨h.c1.past k, h.c3.past k, h.dq.past k, h.bel.trans (k.mono h.bel.size), h.cw.past k, Nat.le_trans h.ge k.size⟩
theorem CBox.kept {W W' : World} {b B : Nat} {t : TypeId} {l : List Value} (h : CBox W b t l) (k : Below B W W') (hb : b < B) : CBox W' b t l := (k.block b hb).trans h
set_option maxHeartbeats 8000000 in
set_option maxRecDepth 100000 in
theorem containerCheck_walk (w : World) (v : Value) (c : Con) (h : CW (fun _ => True) w v c) (_ : BytC c) : Calls Try.prog 4 #[v] w fun e w' => e = .returned (.bool true) ∧ Below w.heap.size w w' := by
  obtain ⟨ta, tc, ca, cc, sa, sc, da, dc, rfl⟩ := cw_form h
  have b1 := below_alloc w (.cells #[.slice ta c.ts.length tc, .slice ca c.cs.length cc, .slice sa c.ss.length sc, .slice da c.d.length dc, .int .i64 c.n] 28)
  have M0 : Hid (CtM w.heap.size w (w.alloc (.cells #[.slice ta c.ts.length tc, .slice ca c.cs.length cc, .slice sa c.ss.length sc, .slice da c.d.length dc, .int .i64 c.n] 28)) [.slice ta c.ts.length tc, .slice ca c.cs.length cc, .slice sa c.ss.length sc, .slice da c.d.length dc, .int .i64 c.n] c) := ⟨CBox.new w _ [_, _, _, _, _], h.past b1, b1⟩
  have HC : Hid (∀ W, Below w.heap.size w W → CW (fun _ => True) W (.agg #[.slice ta c.ts.length tc, .slice ca c.cs.length cc, .slice sa c.ss.length sc, .slice da c.d.length dc, .int .i64 c.n]) c) := fun W hW => h.past hW
  have GX : Hid (w.heap.size ≤ w.heap.size) := Nat.le_refl _
  clear h b1
  go_enter Try.func4, Try.ntmps4
  go_upto_region 1 with fail
  generalize w.heap.size = bx at M0 ⊢
  generalize w.alloc _ = W0 at M0 ⊢
  refine wp_region_lit ?_
  refine lst_val (v := .agg #[.slice ta c.ts.length tc, .slice ca c.cs.length cc, .slice sa c.ss.length sc, .slice da c.d.length dc, .int .i64 c.n]) (by kernel_rfl) ?_ ?_
  · have a0 := M0.out.cb.cell 0; have a1 := M0.out.cb.cell 1; have a2 := M0.out.cb.cell 2; have a3 := M0.out.cb.cell 3; have a4 := M0.out.cb.cell 4
    go_simp
  simp only [Act.put, List.setIfInBounds_toArray, List.set_cons_zero, List.set_cons_succ]
  refine lst_call (by kernel_rfl) (by first | (go_simp; done) | (go_simp; first | exact rfl | exact ⟨rfl, rfl⟩ | exact ⟨rfl, rfl, rfl⟩)) (weight_is _ _ c M0.out.cw) ?_
  rintro e w1 ⟨⟨n, rfl, hn⟩, hB⟩
  refine ⟨_, rfl, ?_⟩
  have M1 : Hid (CtM bx w w1 [.slice ta c.ts.length tc, .slice ca c.cs.length cc, .slice sa c.ss.length sc, .slice da c.d.length dc, .int .i64 c.n] c) := M0.out.past hB
  have HWT : Hid (n ≤ 2097152 → total c = n) := hn
  clear hn hB M0
  simp only [Act.put, List.setIfInBounds_toArray, List.set_cons_zero, List.set_cons_succ]
  by_cases en : n ≤ 2097152
  rotate_left
  · have q1 : (2097152 : Int) < (n : Int) := by omega
    clear en HWT
    go_wp2
    go_ret
    exact ⟨rfl, M1.out.bel⟩
  have q1 : ¬ (2097152 : Int) < (n : Int) := by omega
  have HTO : Hid (total c ≤ 2097152) := by have := HWT.out en; unfold Hid; omega
  have HSM : Hid (Small c) := total_small HTO.out
  clear en HWT GX
  go_upto_region 3 with fail
  clear q1
  have a0 : w1.cell? ⟨bx, 0, none⟩ = some (.slice ta c.ts.length tc) := M1.out.cb.cell 0
  have a1 : w1.cell? ⟨bx, 1, none⟩ = some (.slice ca c.cs.length cc) := M1.out.cb.cell 1
  have a2 : w1.cell? ⟨bx, 2, none⟩ = some (.slice sa c.ss.length sc) := M1.out.cb.cell 2
  have a3 : w1.cell? ⟨bx, 3, none⟩ = some (.slice da c.d.length dc) := M1.out.cb.cell 3
  have a4 : w1.cell? ⟨bx, 4, none⟩ = some (.int .i64 c.n) := M1.out.cb.cell 4
  go_upto_region 4 with (go_at_call 19; refine (twin_is _ _ c M1.out.cw HSM.out).mono ?_; rintro e w2 ⟨v2, rfl, hD, hB⟩; (obtain ⟨ta3, tc3, ca3, cc3, sa3, sc3, da3, dc3, e9, hQ⟩ := do_dq hD); (subst e9); (have N2 : Hid (CtM bx w w2 [.slice ta c.ts.length tc, .slice ca c.cs.length cc, .slice sa c.ss.length sc, .slice da c.d.length dc, .int .i64 c.n] c ∧ DO w1.heap.size w2 (.agg #[.slice ta3 c.ts.length tc3, .slice ca3 c.cs.length cc3, .slice sa3 c.ss.length sc3, .slice da3 c.d.length dc3, .int .i64 c.n]) c) := ⟨M1.out.past hB, hD⟩); (have HB2 : Hid (w1.heap.size ≤ w2.heap.size) := hB.size); (clear hD hB hQ))
  have b9 := below_alloc w2 (.cells #[.slice ta3 c.ts.length tc3, .slice ca3 c.cs.length cc3, .slice sa3 c.ss.length sc3, .slice da3 c.d.length dc3, .int .i64 c.n] 28)
  have M3 : Hid (CkM bx w2.heap.size w1.heap.size w (w2.alloc (.cells #[.slice ta3 c.ts.length tc3, .slice ca3 c.cs.length cc3, .slice sa3 c.ss.length sc3, .slice da3 c.d.length dc3, .int .i64 c.n] 28)) [.slice ta c.ts.length tc, .slice ca c.cs.length cc, .slice sa c.ss.length sc, .slice da c.d.length dc, .int .i64 c.n] [.slice ta3 c.ts.length tc3, .slice ca3 c.cs.length cc3, .slice sa3 c.ss.length sc3, .slice da3 c.d.length dc3, .int .i64 c.n] c) := ⟨N2.out.1.cb.past b9, CBox.new w2 _ [_, _, _, _, _], N2.out.2.past b9, N2.out.1.bel.trans (b9.mono N2.out.1.bel.size), N2.out.1.cw.past b9, Nat.le_trans HB2.out b9.size⟩
  have HBX : Hid (bx < w1.heap.size ∧ w.heap.size ≤ w1.heap.size) := ⟨M1.out.cb.lt, M1.out.bel.size⟩
  clear b9 N2 HB2 M1 a0 a1 a2 a3 a4
  generalize w1.heap.size = B at M3 HBX
  generalize w2.heap.size = b3 at M3 ⊢
  generalize w2.alloc _ = W3 at M3 ⊢
  obtain ⟨ec, hec⟩ : ∃ ec, ec = chk c := ⟨_, rfl⟩
  have CC : Hid (∀ (W : World) (R : Nat → Prop) (u : Value), CW R W u c → Calls Try.prog 20 #[u] W fun e w' => e = .returned (.int .i64 ec) ∧ Below W.heap.size W w') := fun W R u q => by rw [hec]; exact check_is W u c q
  have RK : Hid (∀ (W : World) (R : Nat → Prop) (u : Value), CW R W u c → Calls Try.prog 21 #[u] W fun e w' => e = .returned (.int .i64 ec) ∧ Below W.heap.size W w') := fun W R u q => by rw [hec]; exact rCheck_is W u c q
  clear hec
  have p0 : W3.cell? ⟨b3, 0, none⟩ = some (.slice ta3 c.ts.length tc3) := M3.out.c3.cell 0
  have p1 : W3.cell? ⟨b3, 1, none⟩ = some (.slice ca3 c.cs.length cc3) := M3.out.c3.cell 1
  have p2 : W3.cell? ⟨b3, 2, none⟩ = some (.slice sa3 c.ss.length sc3) := M3.out.c3.cell 2
  have p3 : W3.cell? ⟨b3, 3, none⟩ = some (.slice da3 c.d.length dc3) := M3.out.c3.cell 3
  have p4 : W3.cell? ⟨b3, 4, none⟩ = some (.int .i64 c.n) := M3.out.c3.cell 4
  go_upto_region 5 with (go_at_call 20; refine (CC.out _ _ _ (M3.out.dq.cw HSM.out)).mono ?_; rintro e w4 ⟨rfl, hB⟩; (have M4 : Hid (CkM bx b3 B w w4 [.slice ta c.ts.length tc, .slice ca c.cs.length cc, .slice sa c.ss.length sc, .slice da c.d.length dc, .int .i64 c.n] [.slice ta3 c.ts.length tc3, .slice ca3 c.cs.length cc3, .slice sa3 c.ss.length sc3, .slice da3 c.d.length dc3, .int .i64 c.n] c) := M3.out.past hB); (clear hB))
  clear p0 p1 p2 p3 p4 M3
  refine wp_region_lit ?_
  refine lst_call (by kernel_rfl) (by first | (go_simp; done) | (go_simp; first | exact rfl | exact ⟨rfl, rfl⟩ | exact ⟨rfl, rfl, rfl⟩)) (able_is _) ?_
  rintro e y1 ⟨rfl, hB⟩
  refine ⟨_, rfl, ?_⟩
  have MA : Hid (CkM bx b3 B w y1 [.slice ta c.ts.length tc, .slice ca c.cs.length cc, .slice sa c.ss.length sc, .slice da c.d.length dc, .int .i64 c.n] [.slice ta3 c.ts.length tc3, .slice ca3 c.cs.length cc3, .slice sa3 c.ss.length sc3, .slice da3 c.d.length dc3, .int .i64 c.n] c) := M4.out.past hB
  clear hB
  simp only [Act.put, List.setIfInBounds_toArray, List.set_cons_zero, List.set_cons_succ]
  refine lst_val (v := .bool false) (by kernel_rfl) ?_ ?_
  · go_simp
  simp only [Act.put, List.setIfInBounds_toArray, List.set_cons_zero, List.set_cons_succ]
  refine lst_val (v := .bool false) (by kernel_rfl) ?_ ?_
  · go_simp
  simp only [Act.put, List.setIfInBounds_toArray, List.set_cons_zero, List.set_cons_succ]
  refine lst_val (v := .int .i64 ec) (by kernel_rfl) ?_ ?_
  · go_simp
  simp only [Act.put, List.setIfInBounds_toArray, List.set_cons_zero, List.set_cons_succ]
  refine lst_val (v := .agg #[.slice ta c.ts.length tc, .slice ca c.cs.length cc, .slice sa c.ss.length sc, .slice da c.d.length dc, .int .i64 c.n]) (by kernel_rfl) ?_ ?_
  · (first | (have a9 := MB.out.c1) | (have a9 := MA.out.c1) | (have a9 := M4.out.c1)); have a0 := a9.cell 0; have a1 := a9.cell 1; have a2 := a9.cell 2; have a3 := a9.cell 3; have a4 := a9.cell 4
    go_simp
  simp only [Act.put, List.setIfInBounds_toArray, List.set_cons_zero, List.set_cons_succ]
  refine lst_call (by kernel_rfl) (by first | (go_simp; done) | (go_simp; first | exact rfl | exact ⟨rfl, rfl⟩ | exact ⟨rfl, rfl, rfl⟩)) (RK.out _ _ _ MA.out.cw) ?_
  rintro e y2 ⟨rfl, hB⟩
  refine ⟨_, rfl, ?_⟩
  have MB : Hid (CkM bx b3 B w y2 [.slice ta c.ts.length tc, .slice ca c.cs.length cc, .slice sa c.ss.length sc, .slice da c.d.length dc, .int .i64 c.n] [.slice ta3 c.ts.length tc3, .slice ca3 c.cs.length cc3, .slice sa3 c.ss.length sc3, .slice da3 c.d.length dc3, .int .i64 c.n] c) := MA.out.past hB
  clear hB
  simp only [Act.put, List.setIfInBounds_toArray, List.set_cons_zero, List.set_cons_succ]
  refine lst_val (v := .bool false) (by kernel_rfl) ?_ ?_
  · go_simp
  simp only [Act.put, List.setIfInBounds_toArray, List.set_cons_zero, List.set_cons_succ]
  refine lst_val (v := .bool false) (by kernel_rfl) ?_ ?_
  · go_simp
  simp only [Act.put, List.setIfInBounds_toArray, List.set_cons_zero, List.set_cons_succ]
  refine lst_val (v := .bool false) (by kernel_rfl) ?_ ?_
  · go_simp
  simp only [Act.put, List.setIfInBounds_toArray, List.set_cons_zero, List.set_cons_succ]
  refine lst_val (v := .agg #[.slice ta3 c.ts.length tc3, .slice ca3 c.cs.length cc3, .slice sa3 c.ss.length sc3, .slice da3 c.d.length dc3, .int .i64 c.n]) (by kernel_rfl) ?_ ?_
  · (first | (have a9 := MB.out.c3) | (have a9 := MA.out.c3) | (have a9 := M4.out.c3)); have a0 := a9.cell 0; have a1 := a9.cell 1; have a2 := a9.cell 2; have a3 := a9.cell 3; have a4 := a9.cell 4
    go_simp
  simp only [Act.put, List.setIfInBounds_toArray, List.set_cons_zero, List.set_cons_succ]
  refine lst_val (v := .agg #[.slice ta c.ts.length tc, .slice ca c.cs.length cc, .slice sa c.ss.length sc, .slice da c.d.length dc, .int .i64 c.n]) (by kernel_rfl) ?_ ?_
  · (first | (have a9 := MB.out.c1) | (have a9 := MA.out.c1) | (have a9 := M4.out.c1)); have a0 := a9.cell 0; have a1 := a9.cell 1; have a2 := a9.cell 2; have a3 := a9.cell 3; have a4 := a9.cell 4
    go_simp
  simp only [Act.put, List.setIfInBounds_toArray, List.set_cons_zero, List.set_cons_succ]
  refine lst_call (by kernel_rfl) (by first | (go_simp; done) | (go_simp; first | exact rfl | exact ⟨rfl, rfl⟩ | exact ⟨rfl, rfl, rfl⟩)) (same_is _ _ _ c (MB.out.dq.cw HSM.out) MB.out.cw) ?_
  rintro e y3 ⟨rfl, hB⟩
  refine ⟨_, rfl, ?_⟩
  have M5 : Hid (CkM bx b3 B w y3 [.slice ta c.ts.length tc, .slice ca c.cs.length cc, .slice sa c.ss.length sc, .slice da c.d.length dc, .int .i64 c.n] [.slice ta3 c.ts.length tc3, .slice ca3 c.cs.length cc3, .slice sa3 c.ss.length sc3, .slice da3 c.d.length dc3, .int .i64 c.n] c) := MB.out.past hB
  clear hB MA MB M4
  simp only [Act.put, List.setIfInBounds_toArray, List.set_cons_zero, List.set_cons_succ]
  refine lst_val (v := .bool false) (by kernel_rfl) ?_ ?_
  · go_simp
  simp only [Act.put, List.setIfInBounds_toArray, List.set_cons_zero, List.set_cons_succ]
  refine lst_val (v := .bool false) (by kernel_rfl) ?_ ?_
  · go_simp
  simp only [Act.put, List.setIfInBounds_toArray, List.set_cons_zero, List.set_cons_succ]
  refine wpList_nil ?_
  go_upto_region 7 with fail
  have p0 : y3.cell? ⟨b3, 0, none⟩ = some (.slice ta3 c.ts.length tc3) := M5.out.c3.cell 0
  have p1 : y3.cell? ⟨b3, 1, none⟩ = some (.slice ca3 c.cs.length cc3) := M5.out.c3.cell 1
  have p2 : y3.cell? ⟨b3, 2, none⟩ = some (.slice sa3 c.ss.length sc3) := M5.out.c3.cell 2
  have p3 : y3.cell? ⟨b3, 3, none⟩ = some (.slice da3 c.d.length dc3) := M5.out.c3.cell 3
  have p4 : y3.cell? ⟨b3, 4, none⟩ = some (.int .i64 c.n) := M5.out.c3.cell 4
  go_upto_region 8 with (go_at_call 20; refine (CC.out _ _ _ (M5.out.dq.cw HSM.out)).mono ?_; rintro e w6 ⟨rfl, hB⟩; (have M6 : Hid (CkM bx b3 B w w6 [.slice ta c.ts.length tc, .slice ca c.cs.length cc, .slice sa c.ss.length sc, .slice da c.d.length dc, .int .i64 c.n] [.slice ta3 c.ts.length tc3, .slice ca3 c.cs.length cc3, .slice sa3 c.ss.length sc3, .slice da3 c.d.length dc3, .int .i64 c.n] c) := M5.out.past hB); (clear hB))
  clear p0 p1 p2 p3 p4 M5
  have p0 : w6.cell? ⟨b3, 0, none⟩ = some (.slice ta3 c.ts.length tc3) := M6.out.c3.cell 0
  have p1 : w6.cell? ⟨b3, 1, none⟩ = some (.slice ca3 c.cs.length cc3) := M6.out.c3.cell 1
  have p2 : w6.cell? ⟨b3, 2, none⟩ = some (.slice sa3 c.ss.length sc3) := M6.out.c3.cell 2
  have p3 : w6.cell? ⟨b3, 3, none⟩ = some (.slice da3 c.d.length dc3) := M6.out.c3.cell 3
  have p4 : w6.cell? ⟨b3, 4, none⟩ = some (.int .i64 c.n) := M6.out.c3.cell 4
  go_upto_region 9 with (go_at_call 23; refine (over_is _ B M6.out.ge _ c M6.out.dq HTO.out).mono ?_; rintro e w8 ⟨⟨v8, c8, rfl, hD, hT⟩, hB⟩; (obtain ⟨ta8, tc8, ca8, cc8, sa8, sc8, da8, dc8, e9, hQ⟩ := do_dq hD); (subst e9); (have N8 : Hid (CBox w8 bx 28 [.slice ta c.ts.length tc, .slice ca c.cs.length cc, .slice sa c.ss.length sc, .slice da c.d.length dc, .int .i64 c.n] ∧ DO B w8 (.agg #[.slice ta8 c8.ts.length tc8, .slice ca8 c8.cs.length cc8, .slice sa8 c8.ss.length sc8, .slice da8 c8.d.length dc8, .int .i64 c8.n]) c8 ∧ Below w.heap.size w w8 ∧ total c8 ≤ 2097154) := ⟨M6.out.c1.kept hB HBX.out.1, hD, M6.out.bel.trans (hB.mono HBX.out.2), hT⟩); (clear hD hB hQ hT))
  clear p0 p1 p2 p3 p4 M6
  have b9 := below_alloc w8 (.cells #[.slice ta8 c8.ts.length tc8, .slice ca8 c8.cs.length cc8, .slice sa8 c8.ss.length sc8, .slice da8 c8.d.length dc8, .int .i64 c8.n] 28)
  have HS8 : Hid (Small c8) := by have := N8.out.2.2.2; unfold total fourOf at this; unfold Hid Small; omega
  have M8 : Hid (CBox (w8.alloc (.cells #[.slice ta8 c8.ts.length tc8, .slice ca8 c8.cs.length cc8, .slice sa8 c8.ss.length sc8, .slice da8 c8.d.length dc8, .int .i64 c8.n] 28)) bx 28 [.slice ta c.ts.length tc, .slice ca c.cs.length cc, .slice sa c.ss.length sc, .slice da c.d.length dc, .int .i64 c.n] ∧ CBox (w8.alloc (.cells #[.slice ta8 c8.ts.length tc8, .slice ca8 c8.cs.length cc8, .slice sa8 c8.ss.length sc8, .slice da8 c8.d.length dc8, .int .i64 c8.n] 28)) w8.heap.size 28 [.slice ta8 c8.ts.length tc8, .slice ca8 c8.cs.length cc8, .slice sa8 c8.ss.length sc8, .slice da8 c8.d.length dc8, .int .i64 c8.n] ∧ CW (fun _ => True) (w8.alloc (.cells #[.slice ta8 c8.ts.length tc8, .slice ca8 c8.cs.length cc8, .slice sa8 c8.ss.length sc8, .slice da8 c8.d.length dc8, .int .i64 c8.n] 28)) (.agg #[.slice ta8 c8.ts.length tc8, .slice ca8 c8.cs.length cc8, .slice sa8 c8.ss.length sc8, .slice da8 c8.d.length dc8, .int .i64 c8.n]) c8 ∧ Below w.heap.size w (w8.alloc (.cells #[.slice ta8 c8.ts.length tc8, .slice ca8 c8.cs.length cc8, .slice sa8 c8.ss.length sc8, .slice da8 c8.d.length dc8, .int .i64 c8.n] 28))) := ⟨N8.out.1.past b9, CBox.new w8 _ [_, _, _, _, _], ((N8.out.2.1.past b9).cw HS8.out).mono fun _ _ _ => trivial, N8.out.2.2.1.trans (b9.mono N8.out.2.2.1.size)⟩
  clear b9 N8 CC
  generalize w8.heap.size = b5 at M8 ⊢
  generalize w8.alloc _ = W8 at M8 ⊢
  obtain ⟨e8, he8⟩ : ∃ e8, e8 = chk c8 := ⟨_, rfl⟩
  have CC8 : Hid (∀ (W : World) (R : Nat → Prop) (u : Value), CW R W u c8 → Calls Try.prog 20 #[u] W fun e w' => e = .returned (.int .i64 e8) ∧ Below W.heap.size W w') := fun W R u q => by rw [he8]; exact check_is W u c8 q
  have RK8 : Hid (∀ (W : World) (R : Nat → Prop) (u : Value), CW R W u c8 → Calls Try.prog 21 #[u] W fun e w' => e = .returned (.int .i64 e8) ∧ Below W.heap.size W w') := fun W R u q => by rw [he8]; exact rCheck_is W u c8 q
  clear he8
  have p0 : W8.cell? ⟨b5, 0, none⟩ = some (.slice ta8 c8.ts.length tc8) := M8.out.2.1.cell 0
  have p1 : W8.cell? ⟨b5, 1, none⟩ = some (.slice ca8 c8.cs.length cc8) := M8.out.2.1.cell 1
  have p2 : W8.cell? ⟨b5, 2, none⟩ = some (.slice sa8 c8.ss.length sc8) := M8.out.2.1.cell 2
  have p3 : W8.cell? ⟨b5, 3, none⟩ = some (.slice da8 c8.d.length dc8) := M8.out.2.1.cell 3
  have p4 : W8.cell? ⟨b5, 4, none⟩ = some (.int .i64 c8.n) := M8.out.2.1.cell 4
  go_upto_region 10 with (go_at_call 20; refine (CC8.out _ _ _ M8.out.2.2.1).mono ?_; rintro e w9 ⟨rfl, hB⟩; (have M9 : Hid (CBox w9 bx 28 [.slice ta c.ts.length tc, .slice ca c.cs.length cc, .slice sa c.ss.length sc, .slice da c.d.length dc, .int .i64 c.n] ∧ CBox w9 b5 28 [.slice ta8 c8.ts.length tc8, .slice ca8 c8.cs.length cc8, .slice sa8 c8.ss.length sc8, .slice da8 c8.d.length dc8, .int .i64 c8.n] ∧ CW (fun _ => True) w9 (.agg #[.slice ta8 c8.ts.length tc8, .slice ca8 c8.cs.length cc8, .slice sa8 c8.ss.length sc8, .slice da8 c8.d.length dc8, .int .i64 c8.n]) c8 ∧ Below w.heap.size w w9) := ⟨M8.out.1.past hB, M8.out.2.1.past hB, M8.out.2.2.1.past hB, M8.out.2.2.2.trans (hB.mono M8.out.2.2.2.size)⟩); (clear hB))
  clear p0 p1 p2 p3 p4 M8 CC8
  refine wp_region_lit ?_
  refine lst_val (v := .int .i64 ec) (by kernel_rfl) ?_ ?_
  · go_simp
  simp only [Act.put, List.setIfInBounds_toArray, List.set_cons_zero, List.set_cons_succ]
  refine lst_val (v := .agg #[.slice ta c.ts.length tc, .slice ca c.cs.length cc, .slice sa c.ss.length sc, .slice da c.d.length dc, .int .i64 c.n]) (by kernel_rfl) ?_ ?_
  · (first | (have a9 := MB.out.1) | (have a9 := MA.out.1) | (have a9 := M9.out.1)); have a0 := a9.cell 0; have a1 := a9.cell 1; have a2 := a9.cell 2; have a3 := a9.cell 3; have a4 := a9.cell 4
    go_simp
  simp only [Act.put, List.setIfInBounds_toArray, List.set_cons_zero, List.set_cons_succ]
  refine lst_call (by kernel_rfl) (by first | (go_simp; done) | (go_simp; first | exact rfl | exact ⟨rfl, rfl⟩ | exact ⟨rfl, rfl, rfl⟩)) (RK.out _ _ _ (HC.out _ M9.out.2.2.2)) ?_
  rintro e y4 ⟨rfl, hB⟩
  refine ⟨_, rfl, ?_⟩
  have MA : Hid (CBox y4 bx 28 [.slice ta c.ts.length tc, .slice ca c.cs.length cc, .slice sa c.ss.length sc, .slice da c.d.length dc, .int .i64 c.n] ∧ CBox y4 b5 28 [.slice ta8 c8.ts.length tc8, .slice ca8 c8.cs.length cc8, .slice sa8 c8.ss.length sc8, .slice da8 c8.d.length dc8, .int .i64 c8.n] ∧ CW (fun _ => True) y4 (.agg #[.slice ta8 c8.ts.length tc8, .slice ca8 c8.cs.length cc8, .slice sa8 c8.ss.length sc8, .slice da8 c8.d.length dc8, .int .i64 c8.n]) c8 ∧ Below w.heap.size w y4) := ⟨M9.out.1.past hB, M9.out.2.1.past hB, M9.out.2.2.1.past hB, M9.out.2.2.2.trans (hB.mono M9.out.2.2.2.size)⟩
  clear hB
  simp only [Act.put, List.setIfInBounds_toArray, List.set_cons_zero, List.set_cons_succ]
  refine lst_val (v := .bool true) (by kernel_rfl) ?_ ?_
  · go_simp
  simp only [Act.put, List.setIfInBounds_toArray, List.set_cons_zero, List.set_cons_succ]
  refine lst_val (v := .bool true) (by kernel_rfl) ?_ ?_
  · go_simp
  simp only [Act.put, List.setIfInBounds_toArray, List.set_cons_zero, List.set_cons_succ]
  refine lst_val (v := .int .i64 e8) (by kernel_rfl) ?_ ?_
  · go_simp
  simp only [Act.put, List.setIfInBounds_toArray, List.set_cons_zero, List.set_cons_succ]
  refine lst_val (v := .agg #[.slice ta8 c8.ts.length tc8, .slice ca8 c8.cs.length cc8, .slice sa8 c8.ss.length sc8, .slice da8 c8.d.length dc8, .int .i64 c8.n]) (by kernel_rfl) ?_ ?_
  · (first | (have a9 := MB.out.2.1) | (have a9 := MA.out.2.1) | (have a9 := M9.out.2.1)); have a0 := a9.cell 0; have a1 := a9.cell 1; have a2 := a9.cell 2; have a3 := a9.cell 3; have a4 := a9.cell 4
    go_simp
  simp only [Act.put, List.setIfInBounds_toArray, List.set_cons_zero, List.set_cons_succ]
  refine lst_call (by kernel_rfl) (by first | (go_simp; done) | (go_simp; first | exact rfl | exact ⟨rfl, rfl⟩ | exact ⟨rfl, rfl, rfl⟩)) (twin_is _ _ c8 MA.out.2.2.1 HS8.out) ?_
  rintro e y5 ⟨v5, rfl, hD, hB⟩
  refine ⟨_, rfl, ?_⟩
  have HD5 : Hid (CW (fun _ => True) y5 v5 c8) := (hD.cw HS8.out).mono fun _ _ _ => trivial
  have MB : Hid (CBox y5 bx 28 [.slice ta c.ts.length tc, .slice ca c.cs.length cc, .slice sa c.ss.length sc, .slice da c.d.length dc, .int .i64 c.n] ∧ CBox y5 b5 28 [.slice ta8 c8.ts.length tc8, .slice ca8 c8.cs.length cc8, .slice sa8 c8.ss.length sc8, .slice da8 c8.d.length dc8, .int .i64 c8.n] ∧ CW (fun _ => True) y5 (.agg #[.slice ta8 c8.ts.length tc8, .slice ca8 c8.cs.length cc8, .slice sa8 c8.ss.length sc8, .slice da8 c8.d.length dc8, .int .i64 c8.n]) c8 ∧ Below w.heap.size w y5) := ⟨MA.out.1.past hB, MA.out.2.1.past hB, MA.out.2.2.1.past hB, MA.out.2.2.2.trans (hB.mono MA.out.2.2.2.size)⟩
  clear hB hD
  simp only [Act.put, List.setIfInBounds_toArray, List.set_cons_zero, List.set_cons_succ]
  refine lst_call (by kernel_rfl) (by first | (go_simp; done) | (go_simp; first | exact rfl | exact ⟨rfl, rfl⟩ | exact ⟨rfl, rfl, rfl⟩)) (RK8.out _ _ _ HD5.out) ?_
  rintro e y6 ⟨rfl, hB⟩
  refine ⟨_, rfl, ?_⟩
  have BF : Hid (Below w.heap.size w y6) := MB.out.2.2.2.trans (hB.mono MB.out.2.2.2.size)
  clear hB
  simp only [Act.put, List.setIfInBounds_toArray, List.set_cons_zero, List.set_cons_succ]
  refine lst_val (v := .bool true) (by kernel_rfl) ?_ ?_
  · go_simp
  simp only [Act.put, List.setIfInBounds_toArray, List.set_cons_zero, List.set_cons_succ]
  refine lst_val (v := .bool true) (by kernel_rfl) ?_ ?_
  · go_simp
  simp only [Act.put, List.setIfInBounds_toArray, List.set_cons_zero, List.set_cons_succ]
  refine lst_val (v := .bool true) (by kernel_rfl) ?_ ?_
  · go_simp
  simp only [Act.put, List.setIfInBounds_toArray, List.set_cons_zero, List.set_cons_succ]
  refine wpList_nil ?_
  go_wp2
  go_ret
  exact ⟨rfl, BF.out⟩
end Go.Proofs.Ytndhabhlajldeaa
/- ContainerWrites: writes, the walk. -/
namespace Go.Proofs.Ytndhabhlajldeaa
open Go.RowKit
/-- the two containers of writes -/
structure WrC (b2 b3 : Nat) (w W : World) (L L3 : List Value) (c : Con) : Prop where
  c2 : CBox W b2 28 L
  c3 : CBox W b3 28 L3
  cw : CW (fun _ => True) W (.agg L.toArray) c
  ck : CW (fun _ => True) W (.agg L3.toArray) c
  bel : Below w.heap.size w W
theorem WrC.past {b2 b3 : Nat} {w W W' : World} {L L3 : List Value} {c : Con} (h : WrC b2 b3 w W L L3 c) (k : Below W.heap.size W W') : WrC b2 b3 w W' L L3 c := ⟨h.c2.past k, h.c3.past k, h.cw.past k, h.ck.past k, h.bel.trans (k.mono h.bel.size)⟩
set_option maxHeartbeats 8000000 in
set_option maxRecDepth 100000 in
theorem writes_is {P R : Nat → Prop} (w : World) (v u : Value) (c : Con) (h : CW P w v c) (k : CW R w u c) (hs : Small c) : Calls Try.prog 24 #[v, u] w fun e w' => e = .returned (.bool true) ∧ Below w.heap.size w w' := by
  obtain ⟨ta, tc, ca, cc, sa, sc, da, dc, rfl⟩ := cw_form h
  obtain ⟨ta3, tc3, ca3, cc3, sa3, sc3, da3, dc3, rfl⟩ := cw_form k
  obtain ⟨bs, hbs⟩ : ∃ bs, bs = serR c := ⟨_, rfl⟩
  obtain ⟨ec, hec⟩ : ∃ ec, ec = chk c := ⟨_, rfl⟩
  have hl : bs.length ≤ 67108864 := by
    rw [hbs]
    unfold serR
    split
    · rename_i e; exact ser_small (chk_may e) hs
    · simp
  have SE : Hid (∀ (W : World) (R : Nat → Prop) (u : Value), CW R W u c → Calls Try.prog 35 #[u] W fun e w' => (∃ oa oc, e = .returned (.tuple #[.slice oa bs.length oc, .int .i64 ec]) ∧ BL (fun _ => True) w' (.slice oa bs.length oc) bs) ∧ Below W.heap.size W w') := fun W R u q => (serialize_is W u c q hs).mono fun e w' q9 => by
    obtain ⟨v', rfl, hO, hB⟩ := q9
    rw [← hbs] at hO
    obtain ⟨oa, oc, rfl⟩ := owns_sl hO
    exact ⟨⟨oa, oc, by rw [hec], SL.own hO (by omega) fun _ _ => trivial⟩, hB⟩
  have RE : Hid (∀ (W : World) (R : Nat → Prop) (u : Value), CW R W u c → Calls Try.prog 36 #[u] W fun e w' => (∃ oa oc, e = .returned (.tuple #[.slice oa bs.length oc, .int .i64 ec]) ∧ BL (fun _ => True) w' (.slice oa bs.length oc) bs) ∧ Below W.heap.size W w') := fun W R u q => (rserialize_is W u c q hs).mono fun e w' q9 => by
    obtain ⟨v', rfl, hO, hB⟩ := q9
    rw [← hbs] at hO
    obtain ⟨oa, oc, rfl⟩ := owns_sl hO
    exact ⟨⟨oa, oc, by rw [hec], SL.own hO (by omega) fun _ _ => trivial⟩, hB⟩
  have SZ : Hid (∀ (W : World) (R : Nat → Prop) (u : Value), CW R W u c → Calls Try.prog 38 #[u] W fun e w' => e = .returned (.tuple #[.int .i64 (bs.length : Int), .int .i64 ec]) ∧ Below W.heap.size W w') := fun W R u q => (size_is W u c q hs).mono fun e w' q9 => by
    have e1 : (if chk c = 0 then (ser c).length else 0) = bs.length := by rw [hbs]; unfold serR; split <;> rfl
    rw [e1, ← hec] at q9
    exact q9
  have RZ : Hid (∀ (W : World) (R : Nat → Prop) (u : Value), CW R W u c → Calls Try.prog 39 #[u] W fun e w' => e = .returned (.tuple #[.int .i64 (bs.length : Int), .int .i64 ec]) ∧ Below W.heap.size W w') := fun W R u q => (rsize_is W u c q hs).mono fun e w' q9 => by
    rw [← hbs, ← hec] at q9
    exact q9
  have b1 := below_alloc w (.cells #[.slice ta c.ts.length tc, .slice ca c.cs.length cc, .slice sa c.ss.length sc, .slice da c.d.length dc, .int .i64 c.n] 28)
  have b2 := below_alloc (w.alloc (.cells #[.slice ta c.ts.length tc, .slice ca c.cs.length cc, .slice sa c.ss.length sc, .slice da c.d.length dc, .int .i64 c.n] 28)) (.cells #[.slice ta3 c.ts.length tc3, .slice ca3 c.cs.length cc3, .slice sa3 c.ss.length sc3, .slice da3 c.d.length dc3, .int .i64 c.n] 28)
  have s1 : (w.alloc (.cells #[.slice ta c.ts.length tc, .slice ca c.cs.length cc, .slice sa c.ss.length sc, .slice da c.d.length dc, .int .i64 c.n] 28)).heap.size = w.heap.size + 1 := by simp
  have bb : Below w.heap.size w ((w.alloc (.cells #[.slice ta c.ts.length tc, .slice ca c.cs.length cc, .slice sa c.ss.length sc, .slice da c.d.length dc, .int .i64 c.n] 28)).alloc (.cells #[.slice ta3 c.ts.length tc3, .slice ca3 c.cs.length cc3, .slice sa3 c.ss.length sc3, .slice da3 c.d.length dc3, .int .i64 c.n] 28)) := b1.trans (b2.mono (by omega))
  have c2 := CBox.new (w.alloc (.cells #[.slice ta c.ts.length tc, .slice ca c.cs.length cc, .slice sa c.ss.length sc, .slice da c.d.length dc, .int .i64 c.n] 28)) 28 [.slice ta3 c.ts.length tc3, .slice ca3 c.cs.length cc3, .slice sa3 c.ss.length sc3, .slice da3 c.d.length dc3, .int .i64 c.n]
  rw [s1] at c2
  have M0 : Hid (WrC w.heap.size (w.heap.size + 1) w ((w.alloc (.cells #[.slice ta c.ts.length tc, .slice ca c.cs.length cc, .slice sa c.ss.length sc, .slice da c.d.length dc, .int .i64 c.n] 28)).alloc (.cells #[.slice ta3 c.ts.length tc3, .slice ca3 c.cs.length cc3, .slice sa3 c.ss.length sc3, .slice da3 c.d.length dc3, .int .i64 c.n] 28)) [.slice ta c.ts.length tc, .slice ca c.cs.length cc, .slice sa c.ss.length sc, .slice da c.d.length dc, .int .i64 c.n] [.slice ta3 c.ts.length tc3, .slice ca3 c.cs.length cc3, .slice sa3 c.ss.length sc3, .slice da3 c.d.length dc3, .int .i64 c.n] c) := ⟨(CBox.new w 28 [.slice ta c.ts.length tc, .slice ca c.cs.length cc, .slice sa c.ss.length sc, .slice da c.d.length dc, .int .i64 c.n]).past b2, c2, (h.past bb).mono fun _ _ _ => trivial, (k.past bb).mono fun _ _ _ => trivial, bb⟩
  clear h k hs hbs hec hl b1 b2 s1 bb c2
  go_enter Try.func24, Try.ntmps24
  go_upto_region 1 with fail
  generalize w.heap.size + 1 = b3 at M0 ⊢
  generalize w.heap.size = b2 at M0 ⊢
  generalize (w.alloc _).alloc _ = W0 at M0 ⊢
  have a0 : W0.cell? ⟨b2, 0, none⟩ = some (.slice ta c.ts.length tc) := M0.out.c2.cell 0
  have a1 : W0.cell? ⟨b2, 1, none⟩ = some (.slice ca c.cs.length cc) := M0.out.c2.cell 1
  have a2 : W0.cell? ⟨b2, 2, none⟩ = some (.slice sa c.ss.length sc) := M0.out.c2.cell 2
  have a3 : W0.cell? ⟨b2, 3, none⟩ = some (.slice da c.d.length dc) := M0.out.c2.cell 3
  have a4 : W0.cell? ⟨b2, 4, none⟩ = some (.int .i64 c.n) := M0.out.c2.cell 4
  go_upto_region 2 with (go_at_call 35; refine (SE.out _ _ _ M0.out.cw).mono ?_; rintro e w1 ⟨⟨oa, oc, rfl, hO⟩, hB⟩; (have M1 : Hid (WrC b2 b3 w w1 [.slice ta c.ts.length tc, .slice ca c.cs.length cc, .slice sa c.ss.length sc, .slice da c.d.length dc, .int .i64 c.n] [.slice ta3 c.ts.length tc3, .slice ca3 c.cs.length cc3, .slice sa3 c.ss.length sc3, .slice da3 c.d.length dc3, .int .i64 c.n] c ∧ BL (fun _ => True) w1 (.slice oa bs.length oc) bs) := ⟨M0.out.past hB, hO⟩); (clear hO hB))
  clear a0 a1 a2 a3 a4 M0 SE
  have a0 : w1.cell? ⟨b3, 0, none⟩ = some (.slice ta3 c.ts.length tc3) := M1.out.1.c3.cell 0
  have a1 : w1.cell? ⟨b3, 1, none⟩ = some (.slice ca3 c.cs.length cc3) := M1.out.1.c3.cell 1
  have a2 : w1.cell? ⟨b3, 2, none⟩ = some (.slice sa3 c.ss.length sc3) := M1.out.1.c3.cell 2
  have a3 : w1.cell? ⟨b3, 3, none⟩ = some (.slice da3 c.d.length dc3) := M1.out.1.c3.cell 3
  have a4 : w1.cell? ⟨b3, 4, none⟩ = some (.int .i64 c.n) := M1.out.1.c3.cell 4
  go_upto_region 3 with (go_at_call 36; refine (RE.out _ _ _ M1.out.1.ck).mono ?_; rintro e w2 ⟨⟨ob, od, rfl, hO⟩, hB⟩; (have M2 : Hid (WrC b2 b3 w w2 [.slice ta c.ts.length tc, .slice ca c.cs.length cc, .slice sa c.ss.length sc, .slice da c.d.length dc, .int .i64 c.n] [.slice ta3 c.ts.length tc3, .slice ca3 c.cs.length cc3, .slice sa3 c.ss.length sc3, .slice da3 c.d.length dc3, .int .i64 c.n] c ∧ BL (fun _ => True) w2 (.slice oa bs.length oc) bs ∧ BL (fun _ => True) w2 (.slice ob bs.length od) bs) := ⟨M1.out.1.past hB, M1.out.2.past hB, hO⟩); (clear hO hB))
  clear a0 a1 a2 a3 a4 M1 RE
  have a0 : w2.cell? ⟨b2, 0, none⟩ = some (.slice ta c.ts.length tc) := M2.out.1.c2.cell 0
  have a1 : w2.cell? ⟨b2, 1, none⟩ = some (.slice ca c.cs.length cc) := M2.out.1.c2.cell 1
  have a2 : w2.cell? ⟨b2, 2, none⟩ = some (.slice sa c.ss.length sc) := M2.out.1.c2.cell 2
  have a3 : w2.cell? ⟨b2, 3, none⟩ = some (.slice da c.d.length dc) := M2.out.1.c2.cell 3
  have a4 : w2.cell? ⟨b2, 4, none⟩ = some (.int .i64 c.n) := M2.out.1.c2.cell 4
  go_upto_region 4 with (go_at_call 38; refine (SZ.out _ _ _ M2.out.1.cw).mono ?_; rintro e w3 ⟨rfl, hB⟩; (have M3 : Hid (WrC b2 b3 w w3 [.slice ta c.ts.length tc, .slice ca c.cs.length cc, .slice sa c.ss.length sc, .slice da c.d.length dc, .int .i64 c.n] [.slice ta3 c.ts.length tc3, .slice ca3 c.cs.length cc3, .slice sa3 c.ss.length sc3, .slice da3 c.d.length dc3, .int .i64 c.n] c ∧ BL (fun _ => True) w3 (.slice oa bs.length oc) bs ∧ BL (fun _ => True) w3 (.slice ob bs.length od) bs) := ⟨M2.out.1.past hB, M2.out.2.1.past hB, M2.out.2.2.past hB⟩); (clear hB))
  clear a0 a1 a2 a3 a4 M2 SZ
  have a0 : w3.cell? ⟨b3, 0, none⟩ = some (.slice ta3 c.ts.length tc3) := M3.out.1.c3.cell 0
  have a1 : w3.cell? ⟨b3, 1, none⟩ = some (.slice ca3 c.cs.length cc3) := M3.out.1.c3.cell 1
  have a2 : w3.cell? ⟨b3, 2, none⟩ = some (.slice sa3 c.ss.length sc3) := M3.out.1.c3.cell 2
  have a3 : w3.cell? ⟨b3, 3, none⟩ = some (.slice da3 c.d.length dc3) := M3.out.1.c3.cell 3
  have a4 : w3.cell? ⟨b3, 4, none⟩ = some (.int .i64 c.n) := M3.out.1.c3.cell 4
  go_upto_region 5 with (go_at_call 39; refine (RZ.out _ _ _ M3.out.1.ck).mono ?_; rintro e w4 ⟨rfl, hB⟩; (have M4 : Hid (WrC b2 b3 w w4 [.slice ta c.ts.length tc, .slice ca c.cs.length cc, .slice sa c.ss.length sc, .slice da c.d.length dc, .int .i64 c.n] [.slice ta3 c.ts.length tc3, .slice ca3 c.cs.length cc3, .slice sa3 c.ss.length sc3, .slice da3 c.d.length dc3, .int .i64 c.n] c ∧ BL (fun _ => True) w4 (.slice oa bs.length oc) bs ∧ BL (fun _ => True) w4 (.slice ob bs.length od) bs) := ⟨M3.out.1.past hB, M3.out.2.1.past hB, M3.out.2.2.past hB⟩); (clear hB))
  clear a0 a1 a2 a3 a4 M3 RZ
  refine wp_region_lit ?_
  refine lst_val (v := .int .i64 ec) (by kernel_rfl) ?_ ?_
  · go_simp
  simp only [Act.put, List.setIfInBounds_toArray, List.set_cons_zero, List.set_cons_succ]
  refine lst_val (v := .int .i64 ec) (by kernel_rfl) ?_ ?_
  · go_simp
  simp only [Act.put, List.setIfInBounds_toArray, List.set_cons_zero, List.set_cons_succ]
  refine lst_val (v := .bool true) (by kernel_rfl) ?_ ?_
  · go_simp
  simp only [Act.put, List.setIfInBounds_toArray, List.set_cons_zero, List.set_cons_succ]
  refine lst_val (v := .bool true) (by kernel_rfl) ?_ ?_
  · go_simp
  simp only [Act.put, List.setIfInBounds_toArray, List.set_cons_zero, List.set_cons_succ]
  refine lst_val (v := .slice oa bs.length oc) (by kernel_rfl) ?_ ?_
  · go_simp
  simp only [Act.put, List.setIfInBounds_toArray, List.set_cons_zero, List.set_cons_succ]
  refine lst_val (v := .slice ob bs.length od) (by kernel_rfl) ?_ ?_
  · go_simp
  simp only [Act.put, List.setIfInBounds_toArray, List.set_cons_zero, List.set_cons_succ]
  refine lst_call (by kernel_rfl) (by first | (go_simp; done) | (go_simp; first | exact rfl | exact ⟨rfl, rfl⟩ | exact ⟨rfl, rfl, rfl⟩)) (sameB_is _ _ _ bs M4.out.2.1 M4.out.2.2) ?_
  rintro e y1 ⟨rfl, hB⟩
  refine ⟨_, rfl, ?_⟩
  have BF : Hid (Below w.heap.size w y1) := M4.out.1.bel.trans (hB.mono M4.out.1.bel.size)
  clear hB
  simp only [Act.put, List.setIfInBounds_toArray, List.set_cons_zero, List.set_cons_succ]
  refine lst_val (v := .bool true) (by kernel_rfl) ?_ ?_
  · go_simp
  simp only [Act.put, List.setIfInBounds_toArray, List.set_cons_zero, List.set_cons_succ]
  refine lst_val (v := .bool true) (by kernel_rfl) ?_ ?_
  · go_simp
  simp only [Act.put, List.setIfInBounds_toArray, List.set_cons_zero, List.set_cons_succ]
  refine lst_val (v := .int .i64 ec) (by kernel_rfl) ?_ ?_
  · go_simp
  simp only [Act.put, List.setIfInBounds_toArray, List.set_cons_zero, List.set_cons_succ]
  refine lst_val (v := .int .i64 ec) (by kernel_rfl) ?_ ?_
  · go_simp
  simp only [Act.put, List.setIfInBounds_toArray, List.set_cons_zero, List.set_cons_succ]
  refine lst_val (v := .bool true) (by kernel_rfl) ?_ ?_
  · go_simp
  simp only [Act.put, List.setIfInBounds_toArray, List.set_cons_zero, List.set_cons_succ]
  refine lst_val (v := .bool true) (by kernel_rfl) ?_ ?_
  · go_simp
  simp only [Act.put, List.setIfInBounds_toArray, List.set_cons_zero, List.set_cons_succ]
  refine lst_val (v := .bool true) (by kernel_rfl) ?_ ?_
  · go_simp
  simp only [Act.put, List.setIfInBounds_toArray, List.set_cons_zero, List.set_cons_succ]
  refine lst_val (v := .int .i64 (bs.length : Int)) (by kernel_rfl) ?_ ?_
  · go_simp
  simp only [Act.put, List.setIfInBounds_toArray, List.set_cons_zero, List.set_cons_succ]
  refine lst_val (v := .int .i64 (bs.length : Int)) (by kernel_rfl) ?_ ?_
  · go_simp
  simp only [Act.put, List.setIfInBounds_toArray, List.set_cons_zero, List.set_cons_succ]
  refine lst_val (v := .bool true) (by kernel_rfl) ?_ ?_
  · go_simp
  simp only [Act.put, List.setIfInBounds_toArray, List.set_cons_zero, List.set_cons_succ]
  refine lst_val (v := .bool true) (by kernel_rfl) ?_ ?_
  · go_simp
  simp only [Act.put, List.setIfInBounds_toArray, List.set_cons_zero, List.set_cons_succ]
  refine lst_val (v := .bool true) (by kernel_rfl) ?_ ?_
  · go_simp
  simp only [Act.put, List.setIfInBounds_toArray, List.set_cons_zero, List.set_cons_succ]
  refine wpList_nil ?_
  go_wp2
  go_ret
  exact ⟨rfl, BF.out⟩
set_option maxHeartbeats 8000000 in
set_option maxRecDepth 100000 in
theorem containerWrites_walk (w : World) (v : Value) (c : Con) (h : CW (fun _ => True) w v c) (_ : BytC c) : Calls Try.prog 5 #[v] w fun e w' => e = .returned (.bool true) ∧ Below w.heap.size w w' := by
  obtain ⟨ta, tc, ca, cc, sa, sc, da, dc, rfl⟩ := cw_form h
  have b1 := below_alloc w (.cells #[.slice ta c.ts.length tc, .slice ca c.cs.length cc, .slice sa c.ss.length sc, .slice da c.d.length dc, .int .i64 c.n] 28)
  have M0 : Hid (CtM w.heap.size w (w.alloc (.cells #[.slice ta c.ts.length tc, .slice ca c.cs.length cc, .slice sa c.ss.length sc, .slice da c.d.length dc, .int .i64 c.n] 28)) [.slice ta c.ts.length tc, .slice ca c.cs.length cc, .slice sa c.ss.length sc, .slice da c.d.length dc, .int .i64 c.n] c) := ⟨CBox.new w _ [_, _, _, _, _], h.past b1, b1⟩
  have HC : Hid (∀ W, Below w.heap.size w W → CW (fun _ => True) W (.agg #[.slice ta c.ts.length tc, .slice ca c.cs.length cc, .slice sa c.ss.length sc, .slice da c.d.length dc, .int .i64 c.n]) c) := fun W hW => h.past hW
  have GX : Hid (w.heap.size ≤ w.heap.size) := Nat.le_refl _
  clear h b1
  go_enter Try.func5, Try.ntmps5
  go_upto_region 1 with fail
  generalize w.heap.size = bx at M0 ⊢
  generalize w.alloc _ = W0 at M0 ⊢
  refine wp_region_lit ?_
  refine lst_val (v := .agg #[.slice ta c.ts.length tc, .slice ca c.cs.length cc, .slice sa c.ss.length sc, .slice da c.d.length dc, .int .i64 c.n]) (by kernel_rfl) ?_ ?_
  · have a0 := M0.out.cb.cell 0; have a1 := M0.out.cb.cell 1; have a2 := M0.out.cb.cell 2; have a3 := M0.out.cb.cell 3; have a4 := M0.out.cb.cell 4
    go_simp
  simp only [Act.put, List.setIfInBounds_toArray, List.set_cons_zero, List.set_cons_succ]
  refine lst_call (by kernel_rfl) (by first | (go_simp; done) | (go_simp; first | exact rfl | exact ⟨rfl, rfl⟩ | exact ⟨rfl, rfl, rfl⟩)) (weight_is _ _ c M0.out.cw) ?_
  rintro e w1 ⟨⟨n, rfl, hn⟩, hB⟩
  refine ⟨_, rfl, ?_⟩
  have M1 : Hid (CtM bx w w1 [.slice ta c.ts.length tc, .slice ca c.cs.length cc, .slice sa c.ss.length sc, .slice da c.d.length dc, .int .i64 c.n] c) := M0.out.past hB
  have HWT : Hid (n ≤ 2097152 → total c = n) := hn
  clear hn hB M0
  simp only [Act.put, List.setIfInBounds_toArray, List.set_cons_zero, List.set_cons_succ]
  by_cases en : n ≤ 2097152
  rotate_left
  · have q1 : (2097152 : Int) < (n : Int) := by omega
    clear en HWT
    go_wp2
    go_ret
    exact ⟨rfl, M1.out.bel⟩
  have q1 : ¬ (2097152 : Int) < (n : Int) := by omega
  have HTO : Hid (total c ≤ 2097152) := by have := HWT.out en; unfold Hid; omega
  have HSM : Hid (Small c) := total_small HTO.out
  clear en HWT GX
  go_upto_region 3 with fail
  clear q1
  have a0 : w1.cell? ⟨bx, 0, none⟩ = some (.slice ta c.ts.length tc) := M1.out.cb.cell 0
  have a1 : w1.cell? ⟨bx, 1, none⟩ = some (.slice ca c.cs.length cc) := M1.out.cb.cell 1
  have a2 : w1.cell? ⟨bx, 2, none⟩ = some (.slice sa c.ss.length sc) := M1.out.cb.cell 2
  have a3 : w1.cell? ⟨bx, 3, none⟩ = some (.slice da c.d.length dc) := M1.out.cb.cell 3
  have a4 : w1.cell? ⟨bx, 4, none⟩ = some (.int .i64 c.n) := M1.out.cb.cell 4
  go_upto_region 4 with (go_at_call 19; refine (twin_is _ _ c M1.out.cw HSM.out).mono ?_; rintro e w2 ⟨v2, rfl, hD, hB⟩; (obtain ⟨ta3, tc3, ca3, cc3, sa3, sc3, da3, dc3, e9, hQ⟩ := do_dq hD); (subst e9); (have N2 : Hid (CtM bx w w2 [.slice ta c.ts.length tc, .slice ca c.cs.length cc, .slice sa c.ss.length sc, .slice da c.d.length dc, .int .i64 c.n] c ∧ DO w1.heap.size w2 (.agg #[.slice ta3 c.ts.length tc3, .slice ca3 c.cs.length cc3, .slice sa3 c.ss.length sc3, .slice da3 c.d.length dc3, .int .i64 c.n]) c) := ⟨M1.out.past hB, hD⟩); (have HB2 : Hid (w1.heap.size ≤ w2.heap.size) := hB.size); (clear hD hB hQ))
  have b9 := below_alloc w2 (.cells #[.slice ta3 c.ts.length tc3, .slice ca3 c.cs.length cc3, .slice sa3 c.ss.length sc3, .slice da3 c.d.length dc3, .int .i64 c.n] 28)
  have M3 : Hid (CkM bx w2.heap.size w1.heap.size w (w2.alloc (.cells #[.slice ta3 c.ts.length tc3, .slice ca3 c.cs.length cc3, .slice sa3 c.ss.length sc3, .slice da3 c.d.length dc3, .int .i64 c.n] 28)) [.slice ta c.ts.length tc, .slice ca c.cs.length cc, .slice sa c.ss.length sc, .slice da c.d.length dc, .int .i64 c.n] [.slice ta3 c.ts.length tc3, .slice ca3 c.cs.length cc3, .slice sa3 c.ss.length sc3, .slice da3 c.d.length dc3, .int .i64 c.n] c) := ⟨N2.out.1.cb.past b9, CBox.new w2 _ [_, _, _, _, _], N2.out.2.past b9, N2.out.1.bel.trans (b9.mono N2.out.1.bel.size), N2.out.1.cw.past b9, Nat.le_trans HB2.out b9.size⟩
  have HBX : Hid (bx < w1.heap.size ∧ w.heap.size ≤ w1.heap.size) := ⟨M1.out.cb.lt, M1.out.bel.size⟩
  clear b9 N2 HB2 M1 a0 a1 a2 a3 a4
  generalize w1.heap.size = B at M3 HBX
  generalize w2.heap.size = b3 at M3 ⊢
  generalize w2.alloc _ = W3 at M3 ⊢
  refine wp_region_lit ?_
  refine lst_call (by kernel_rfl) (by first | (go_simp; done) | (go_simp; first | exact rfl | exact ⟨rfl, rfl⟩ | exact ⟨rfl, rfl, rfl⟩)) (able_is _) ?_
  rintro e y1 ⟨rfl, hB⟩
  refine ⟨_, rfl, ?_⟩
  have MA : Hid (CkM bx b3 B w y1 [.slice ta c.ts.length tc, .slice ca c.cs.length cc, .slice sa c.ss.length sc, .slice da c.d.length dc, .int .i64 c.n] [.slice ta3 c.ts.length tc3, .slice ca3 c.cs.length cc3, .slice sa3 c.ss.length sc3, .slice da3 c.d.length dc3, .int .i64 c.n] c) := M3.out.past hB
  clear hB
  simp only [Act.put, List.setIfInBounds_toArray, List.set_cons_zero, List.set_cons_succ]
  refine lst_val (v := .bool false) (by kernel_rfl) ?_ ?_
  · go_simp
  simp only [Act.put, List.setIfInBounds_toArray, List.set_cons_zero, List.set_cons_succ]
  refine lst_val (v := .bool false) (by kernel_rfl) ?_ ?_
  · go_simp
  simp only [Act.put, List.setIfInBounds_toArray, List.set_cons_zero, List.set_cons_succ]
  refine lst_val (v := .agg #[.slice ta3 c.ts.length tc3, .slice ca3 c.cs.length cc3, .slice sa3 c.ss.length sc3, .slice da3 c.d.length dc3, .int .i64 c.n]) (by kernel_rfl) ?_ ?_
  · (first | (have a9 := MC.out.c3) | (have a9 := MB.out.c3) | (have a9 := MA.out.c3) | (have a9 := M3.out.c3)); have a0 := a9.cell 0; have a1 := a9.cell 1; have a2 := a9.cell 2; have a3 := a9.cell 3; have a4 := a9.cell 4
    go_simp
  simp only [Act.put, List.setIfInBounds_toArray, List.set_cons_zero, List.set_cons_succ]
  refine lst_val (v := .agg #[.slice ta c.ts.length tc, .slice ca c.cs.length cc, .slice sa c.ss.length sc, .slice da c.d.length dc, .int .i64 c.n]) (by kernel_rfl) ?_ ?_
  · (first | (have a9 := MC.out.c1) | (have a9 := MB.out.c1) | (have a9 := MA.out.c1) | (have a9 := M3.out.c1)); have a0 := a9.cell 0; have a1 := a9.cell 1; have a2 := a9.cell 2; have a3 := a9.cell 3; have a4 := a9.cell 4
    go_simp
  simp only [Act.put, List.setIfInBounds_toArray, List.set_cons_zero, List.set_cons_succ]
  refine lst_call (by kernel_rfl) (by first | (go_simp; done) | (go_simp; first | exact rfl | exact ⟨rfl, rfl⟩ | exact ⟨rfl, rfl, rfl⟩)) (writes_is _ _ _ c (MA.out.dq.cw HSM.out) MA.out.cw HSM.out) ?_
  rintro e y2 ⟨rfl, hB⟩
  refine ⟨_, rfl, ?_⟩
  have MB : Hid (CkM bx b3 B w y2 [.slice ta c.ts.length tc, .slice ca c.cs.length cc, .slice sa c.ss.length sc, .slice da c.d.length dc, .int .i64 c.n] [.slice ta3 c.ts.length tc3, .slice ca3 c.cs.length cc3, .slice sa3 c.ss.length sc3, .slice da3 c.d.length dc3, .int .i64 c.n] c) := MA.out.past hB
  clear hB
  simp only [Act.put, List.setIfInBounds_toArray, List.set_cons_zero, List.set_cons_succ]
  refine lst_val (v := .bool false) (by kernel_rfl) ?_ ?_
  · go_simp
  simp only [Act.put, List.setIfInBounds_toArray, List.set_cons_zero, List.set_cons_succ]
  refine lst_val (v := .bool false) (by kernel_rfl) ?_ ?_
  · go_simp
  simp only [Act.put, List.setIfInBounds_toArray, List.set_cons_zero, List.set_cons_succ]
  refine lst_val (v := .bool false) (by kernel_rfl) ?_ ?_
  · go_simp
  simp only [Act.put, List.setIfInBounds_toArray, List.set_cons_zero, List.set_cons_succ]
  refine lst_val (v := .agg #[.slice ta3 c.ts.length tc3, .slice ca3 c.cs.length cc3, .slice sa3 c.ss.length sc3, .slice da3 c.d.length dc3, .int .i64 c.n]) (by kernel_rfl) ?_ ?_
  · (first | (have a9 := MC.out.c3) | (have a9 := MB.out.c3) | (have a9 := MA.out.c3) | (have a9 := M3.out.c3)); have a0 := a9.cell 0; have a1 := a9.cell 1; have a2 := a9.cell 2; have a3 := a9.cell 3; have a4 := a9.cell 4
    go_simp
  simp only [Act.put, List.setIfInBounds_toArray, List.set_cons_zero, List.set_cons_succ]
  refine lst_val (v := .agg #[.slice ta c.ts.length tc, .slice ca c.cs.length cc, .slice sa c.ss.length sc, .slice da c.d.length dc, .int .i64 c.n]) (by kernel_rfl) ?_ ?_
  · (first | (have a9 := MC.out.c1) | (have a9 := MB.out.c1) | (have a9 := MA.out.c1) | (have a9 := M3.out.c1)); have a0 := a9.cell 0; have a1 := a9.cell 1; have a2 := a9.cell 2; have a3 := a9.cell 3; have a4 := a9.cell 4
    go_simp
  simp only [Act.put, List.setIfInBounds_toArray, List.set_cons_zero, List.set_cons_succ]
  refine lst_call (by kernel_rfl) (by first | (go_simp; done) | (go_simp; first | exact rfl | exact ⟨rfl, rfl⟩ | exact ⟨rfl, rfl, rfl⟩)) (writes_is _ _ _ c (MB.out.dq.cw HSM.out) MB.out.cw HSM.out) ?_
  rintro e y3 ⟨rfl, hB⟩
  refine ⟨_, rfl, ?_⟩
  have MC : Hid (CkM bx b3 B w y3 [.slice ta c.ts.length tc, .slice ca c.cs.length cc, .slice sa c.ss.length sc, .slice da c.d.length dc, .int .i64 c.n] [.slice ta3 c.ts.length tc3, .slice ca3 c.cs.length cc3, .slice sa3 c.ss.length sc3, .slice da3 c.d.length dc3, .int .i64 c.n] c) := MB.out.past hB
  clear hB
  simp only [Act.put, List.setIfInBounds_toArray, List.set_cons_zero, List.set_cons_succ]
  refine lst_val (v := .bool false) (by kernel_rfl) ?_ ?_
  · go_simp
  simp only [Act.put, List.setIfInBounds_toArray, List.set_cons_zero, List.set_cons_succ]
  refine lst_val (v := .bool false) (by kernel_rfl) ?_ ?_
  · go_simp
  simp only [Act.put, List.setIfInBounds_toArray, List.set_cons_zero, List.set_cons_succ]
  refine lst_val (v := .bool false) (by kernel_rfl) ?_ ?_
  · go_simp
  simp only [Act.put, List.setIfInBounds_toArray, List.set_cons_zero, List.set_cons_succ]
  refine lst_val (v := .agg #[.slice ta3 c.ts.length tc3, .slice ca3 c.cs.length cc3, .slice sa3 c.ss.length sc3, .slice da3 c.d.length dc3, .int .i64 c.n]) (by kernel_rfl) ?_ ?_
  · (first | (have a9 := MC.out.c3) | (have a9 := MB.out.c3) | (have a9 := MA.out.c3) | (have a9 := M3.out.c3)); have a0 := a9.cell 0; have a1 := a9.cell 1; have a2 := a9.cell 2; have a3 := a9.cell 3; have a4 := a9.cell 4
    go_simp
  simp only [Act.put, List.setIfInBounds_toArray, List.set_cons_zero, List.set_cons_succ]
  refine lst_val (v := .agg #[.slice ta c.ts.length tc, .slice ca c.cs.length cc, .slice sa c.ss.length sc, .slice da c.d.length dc, .int .i64 c.n]) (by kernel_rfl) ?_ ?_
  · (first | (have a9 := MC.out.c1) | (have a9 := MB.out.c1) | (have a9 := MA.out.c1) | (have a9 := M3.out.c1)); have a0 := a9.cell 0; have a1 := a9.cell 1; have a2 := a9.cell 2; have a3 := a9.cell 3; have a4 := a9.cell 4
    go_simp
  simp only [Act.put, List.setIfInBounds_toArray, List.set_cons_zero, List.set_cons_succ]
  refine lst_call (by kernel_rfl) (by first | (go_simp; done) | (go_simp; first | exact rfl | exact ⟨rfl, rfl⟩ | exact ⟨rfl, rfl, rfl⟩)) (same_is _ _ _ c (MC.out.dq.cw HSM.out) MC.out.cw) ?_
  rintro e y4 ⟨rfl, hB⟩
  refine ⟨_, rfl, ?_⟩
  have M6 : Hid (CkM bx b3 B w y4 [.slice ta c.ts.length tc, .slice ca c.cs.length cc, .slice sa c.ss.length sc, .slice da c.d.length dc, .int .i64 c.n] [.slice ta3 c.ts.length tc3, .slice ca3 c.cs.length cc3, .slice sa3 c.ss.length sc3, .slice da3 c.d.length dc3, .int .i64 c.n] c) := MC.out.past hB
  clear hB MA MB MC M3
  simp only [Act.put, List.setIfInBounds_toArray, List.set_cons_zero, List.set_cons_succ]
  refine lst_val (v := .bool false) (by kernel_rfl) ?_ ?_
  · go_simp
  simp only [Act.put, List.setIfInBounds_toArray, List.set_cons_zero, List.set_cons_succ]
  refine lst_val (v := .bool false) (by kernel_rfl) ?_ ?_
  · go_simp
  simp only [Act.put, List.setIfInBounds_toArray, List.set_cons_zero, List.set_cons_succ]
  refine wpList_nil ?_
  go_upto_region 6 with fail
  have p0 : y4.cell? ⟨b3, 0, none⟩ = some (.slice ta3 c.ts.length tc3) := M6.out.c3.cell 0
  have p1 : y4.cell? ⟨b3, 1, none⟩ = some (.slice ca3 c.cs.length cc3) := M6.out.c3.cell 1
  have p2 : y4.cell? ⟨b3, 2, none⟩ = some (.slice sa3 c.ss.length sc3) := M6.out.c3.cell 2
  have p3 : y4.cell? ⟨b3, 3, none⟩ = some (.slice da3 c.d.length dc3) := M6.out.c3.cell 3
  have p4 : y4.cell? ⟨b3, 4, none⟩ = some (.int .i64 c.n) := M6.out.c3.cell 4
  go_upto_region 7 with (go_at_call 25; refine (longer_is _ B M6.out.ge _ c M6.out.dq HTO.out).mono ?_; rintro e w8 ⟨⟨v8, c8, rfl, hD, hT⟩, hB⟩; (obtain ⟨ta8, tc8, ca8, cc8, sa8, sc8, da8, dc8, e9, hQ⟩ := do_dq hD); (subst e9); (have N8 : Hid (DO B w8 (.agg #[.slice ta8 c8.ts.length tc8, .slice ca8 c8.cs.length cc8, .slice sa8 c8.ss.length sc8, .slice da8 c8.d.length dc8, .int .i64 c8.n]) c8 ∧ Below w.heap.size w w8 ∧ total c8 ≤ 2097154) := ⟨hD, M6.out.bel.trans (hB.mono HBX.out.2), hT⟩); (clear hD hB hQ hT))
  clear p0 p1 p2 p3 p4 M6
  have b9 := below_alloc w8 (.cells #[.slice ta8 c8.ts.length tc8, .slice ca8 c8.cs.length cc8, .slice sa8 c8.ss.length sc8, .slice da8 c8.d.length dc8, .int .i64 c8.n] 28)
  have HS8 : Hid (Small c8) := by have := N8.out.2.2; unfold total fourOf at this; unfold Hid Small; omega
  have M8 : Hid (CBox (w8.alloc (.cells #[.slice ta8 c8.ts.length tc8, .slice ca8 c8.cs.length cc8, .slice sa8 c8.ss.length sc8, .slice da8 c8.d.length dc8, .int .i64 c8.n] 28)) w8.heap.size 28 [.slice ta8 c8.ts.length tc8, .slice ca8 c8.cs.length cc8, .slice sa8 c8.ss.length sc8, .slice da8 c8.d.length dc8, .int .i64 c8.n] ∧ CW (fun _ => True) (w8.alloc (.cells #[.slice ta8 c8.ts.length tc8, .slice ca8 c8.cs.length cc8, .slice sa8 c8.ss.length sc8, .slice da8 c8.d.length dc8, .int .i64 c8.n] 28)) (.agg #[.slice ta8 c8.ts.length tc8, .slice ca8 c8.cs.length cc8, .slice sa8 c8.ss.length sc8, .slice da8 c8.d.length dc8, .int .i64 c8.n]) c8 ∧ Below w.heap.size w (w8.alloc (.cells #[.slice ta8 c8.ts.length tc8, .slice ca8 c8.cs.length cc8, .slice sa8 c8.ss.length sc8, .slice da8 c8.d.length dc8, .int .i64 c8.n] 28))) := ⟨CBox.new w8 _ [_, _, _, _, _], ((N8.out.1.past b9).cw HS8.out).mono fun _ _ _ => trivial, N8.out.2.1.trans (b9.mono N8.out.2.1.size)⟩
  clear b9 N8 HC
  generalize w8.heap.size = b5 at M8 ⊢
  generalize w8.alloc _ = W8 at M8 ⊢
  refine wp_region_held_drew (S := fun V' => CBox V' b5 28 [.slice ta8 c8.ts.length tc8, .slice ca8 c8.cs.length cc8, .slice sa8 c8.ss.length sc8, .slice da8 c8.d.length dc8, .int .i64 c8.n] ∧ CW (fun _ => True) V' (.agg #[.slice ta8 c8.ts.length tc8, .slice ca8 c8.cs.length cc8, .slice sa8 c8.ss.length sc8, .slice da8 c8.d.length dc8, .int .i64 c8.n]) c8 ∧ Below w.heap.size w V') (by kernel_rfl) ⟨M8.out.1.past below_drew, M8.out.2.1.past below_drew, M8.out.2.2.drew⟩ (fun HH => ?_)
  generalize W8.drew = z0 at HH ⊢
  refine wpAnyH_take (i := 0) (v := .agg #[.slice ta8 c8.ts.length tc8, .slice ca8 c8.cs.length cc8, .slice sa8 c8.ss.length sc8, .slice da8 c8.d.length dc8, .int .i64 c8.n]) ov0 (by kernel_rfl) (by kernel_rfl) (by kernel_rfl) (fun _ _ _ h => h) (Or.inl ⟨by rfl, fun V' hS => ?_⟩) HH ?_
  · have a0 := hS.1.cell 0; have a1 := hS.1.cell 1; have a2 := hS.1.cell 2; have a3 := hS.1.cell 3; have a4 := hS.1.cell 4
    go_simp
  simp only [Act.put, List.setIfInBounds_toArray, List.set_cons_zero, List.set_cons_succ]
  refine wpAnyH_take (i := 1) (v := .agg #[.slice ta8 c8.ts.length tc8, .slice ca8 c8.cs.length cc8, .slice sa8 c8.ss.length sc8, .slice da8 c8.d.length dc8, .int .i64 c8.n]) ov1 (by kernel_rfl) (by kernel_rfl) (by kernel_rfl) (fun _ _ _ h => h) (Or.inl ⟨by rfl, fun V' hS => ?_⟩) HH ?_
  · have a0 := hS.1.cell 0; have a1 := hS.1.cell 1; have a2 := hS.1.cell 2; have a3 := hS.1.cell 3; have a4 := hS.1.cell 4
    go_simp
  simp only [Act.put, List.setIfInBounds_toArray, List.set_cons_zero, List.set_cons_succ]
  refine wpAnyH_ready (rs := [2]) (by kernel_rfl) (by simp) ?_
  refine AllReadyH.cons ov2 (fun K hK => ?_) AllReadyH.nil
  rw [if_pos (by rfl)]
  go_simp
  refine (twin_is _ _ c8 HH.2.1 HS8.out).mono ?_
  rintro e z1 ⟨v5, rfl, hD, hB⟩
  have HD5 : Hid (CW (fun _ => True) z1 v5 c8) := (hD.cw HS8.out).mono fun _ _ _ => trivial
  have H9 := And.intro (HH.1.past hB) (And.intro (HH.2.1.past hB) (HH.2.2.trans (hB.mono HH.2.2.size)))
  clear HH hD hB
  (try go_wp2_with fail)
  refine hK.out _ _ H9 (fun _ => ?_)
  clear hK K
  (try simp only [Act.put, List.setIfInBounds_toArray, List.set_cons_zero, List.set_cons_succ])
  refine wpAnyH_ready (rs := [3]) (by kernel_rfl) (by simp) ?_
  refine AllReadyH.cons ov3 (fun K hK => ?_) AllReadyH.nil
  rw [if_pos (by rfl)]
  go_simp
  refine (writes_is _ _ _ c8 H9.2.1 HD5.out HS8.out).mono ?_
  rintro e z2 ⟨rfl, hB⟩
  have H8 := And.intro (H9.1.past hB) (And.intro (H9.2.1.past hB) (H9.2.2.trans (hB.mono H9.2.2.size)))
  clear H9 hB HD5
  (try go_wp2_with fail)
  refine hK.out _ _ H8 (fun _ => ?_)
  clear hK K
  (try simp only [Act.put, List.setIfInBounds_toArray, List.set_cons_zero, List.set_cons_succ])
  refine wpAnyH_take (i := 4) (v := .bool true) ov4 (by kernel_rfl) (by kernel_rfl) (by kernel_rfl) (fun _ _ _ h => h) (Or.inl ⟨by rfl, fun V' hS => ?_⟩) H8 ?_
  · go_simp
  simp only [Act.put, List.setIfInBounds_toArray, List.set_cons_zero, List.set_cons_succ]
  refine wpAnyH_done (by kernel_rfl) ?_ _
  go_wp2
  go_ret
  exact ⟨rfl, H8.2.2⟩
end Go.Proofs.Ytndhabhlajldeaa
