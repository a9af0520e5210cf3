/- ContainerBack: the walk. -/
import Derived.Test.YtndhabhlajldeaaBtkM
import Derived.Test.YtndhabhlajldeaaBtv
import Derived.Test.YtndhabhlajldeaaBtcM
import Derived.Test.YtndhabhlajldeaaFccM
namespace Go.Proofs.Ytndhabhlajldeaa
open Go.RowKit
/-- two boxes, a container and a refusal -/
theorem boxes_new (W : World) (L4 L5 : List Value) : CBox ((W.alloc (.cells L4.toArray 28)).alloc (.cells L5.toArray 47)) W.heap.size 28 L4 ∧ CBox ((W.alloc (.cells L4.toArray 28)).alloc (.cells L5.toArray 47)) (W.heap.size + 1) 47 L5 ∧ Below W.heap.size W ((W.alloc (.cells L4.toArray 28)).alloc (.cells L5.toArray 47)) := by
  have b1 := below_alloc W (.cells L4.toArray 28)
  have b2 := below_alloc (W.alloc (.cells L4.toArray 28)) (.cells L5.toArray 47)
  have s1 : (W.alloc (.cells L4.toArray 28)).heap.size = W.heap.size + 1 := by simp
  have c2 := CBox.new (W.alloc (.cells L4.toArray 28)) 47 L5
  rw [s1] at c2
  exact ⟨(CBox.new W _ L4).past b2, c2, b1.trans (b2.mono (by omega))⟩
/-- two boxes that are written over -/
theorem two_set (W : World) (b4 b5 : Nat) (o0 o1 o2 o3 o4 p0 p1 p2 p3 x0 x1 x2 x3 x4 y0 y1 y2 y3 : Value) (h4 : CBox W b4 28 [o0, o1, o2, o3, o4]) (h5 : CBox W b5 47 [p0, p1, p2, p3]) (ne : b4 ≠ b5) :
    CBox (boxes W b4 b5 [x0, x1, x2, x3, x4] [y0, y1, y2, y3]) b4 28 [x0, x1, x2, x3, x4] ∧ CBox (boxes W b4 b5 [x0, x1, x2, x3, x4] [y0, y1, y2, y3]) b5 47 [y0, y1, y2, y3] ∧ But (fun g => g = b4 ∨ g = b5) W (boxes W b4 b5 [x0, x1, x2, x3, x4] [y0, y1, y2, y3]) := by
  unfold boxes
  have k4 : But (fun g => g = b4) W (((((W.setCell ⟨b4, 0, none⟩ x0).setCell ⟨b4, 1, none⟩ x1).setCell ⟨b4, 2, none⟩ x2).setCell ⟨b4, 3, none⟩ x3).setCell ⟨b4, 4, none⟩ x4) := (((((But.refl (fun g => g = b4) W).setCell ⟨b4, 0, none⟩ _ (Or.inl rfl)).setCell ⟨b4, 1, none⟩ _ (Or.inl rfl)).setCell ⟨b4, 2, none⟩ _ (Or.inl rfl)).setCell ⟨b4, 3, none⟩ _ (Or.inl rfl)).setCell ⟨b4, 4, none⟩ _ (Or.inl rfl)
  have c4 : CBox (((((W.setCell ⟨b4, 0, none⟩ x0).setCell ⟨b4, 1, none⟩ x1).setCell ⟨b4, 2, none⟩ x2).setCell ⟨b4, 3, none⟩ x3).setCell ⟨b4, 4, none⟩ x4) b4 28 [x0, x1, x2, x3, x4] := ((((h4.set 0 _).set 1 _).set 2 _).set 3 _).set 4 _
  have z5 := h5.but k4 (Ne.symm ne)
  simp only [List.getD_cons_zero, List.getD_cons_succ]
  generalize ((((W.setCell ⟨b4, 0, none⟩ x0).setCell ⟨b4, 1, none⟩ x1).setCell ⟨b4, 2, none⟩ x2).setCell ⟨b4, 3, none⟩ x3).setCell ⟨b4, 4, none⟩ x4 = Z at k4 c4 z5 ⊢
  have k5 : But (fun g => g = b5) Z ((((Z.setCell ⟨b5, 0, none⟩ y0).setCell ⟨b5, 1, none⟩ y1).setCell ⟨b5, 2, none⟩ y2).setCell ⟨b5, 3, none⟩ y3) := ((((But.refl (fun g => g = b5) Z).setCell ⟨b5, 0, none⟩ _ (Or.inl rfl)).setCell ⟨b5, 1, none⟩ _ (Or.inl rfl)).setCell ⟨b5, 2, none⟩ _ (Or.inl rfl)).setCell ⟨b5, 3, none⟩ _ (Or.inl rfl)
  exact ⟨c4.but k5 ne, (((z5.set 0 _).set 1 _).set 2 _).set 3 _, (k4.mono fun g e => Or.inl e).trans (k5.mono fun g e => Or.inr e)⟩
/-- in the midst of ContainerBack -/
structure BkM (bx b9 b10 : Nat) (w W : World) (L L9 L10 : List Value) (c : Con) : Prop where
  cb : CBox W bx 28 L
  c9 : CBox W b9 28 L9
  c10 : CBox W b10 47 L10
  cw : CW (fun _ => True) W (.agg L.toArray) c
  bel : Below w.heap.size w W
  g9 : w.heap.size ≤ b9
  g10 : w.heap.size ≤ b10
  n1 : bx ≠ b9
theorem BkM.past {bx b9 b10 : Nat} {w W W' : World} {L L9 L10 : List Value} {c : Con} (h : BkM bx b9 b10 w W L L9 L10 c) (k : Below W.heap.size W W') : BkM bx b9 b10 w W' L L9 L10 c := ⟨h.cb.past k, h.c9.past k, h.c10.past k, h.cw.past k, h.bel.trans (k.mono h.bel.size), h.g9, h.g10, h.n1⟩
theorem ser_two {c : Con} (h : May c) (ht : total c ≤ 2097152) : (ser c).length ≤ 2200000 := by
  have h1 := ser_total h
  have h3 := h.n2
  have h4 := h.ns
  rw [sum_lns, sum_lns] at h1
  unfold total fourOf at ht
  unfold endOf at h1
  split at h1 <;> omega
set_option maxHeartbeats 8000000 in
set_option maxRecDepth 100000 in
theorem containerBack_walk (w : World) (v : Value) (c : Con) (h : CW (fun _ => True) w v c) (hbc : BytC c) : Calls Try.prog 8 #[v] w fun e w' => e = .returned (.bool true) ∧ Below w.heap.size w w' := by
  obtain ⟨ta, tc, ca, cc, sa, sc, da, dc, rfl⟩ := cw_form h
  have b1 := below_alloc w (.cells #[.slice ta c.ts.length tc, .slice ca c.cs.length cc, .slice sa c.ss.length sc, .slice da c.d.length dc, .int .i64 c.n] 28)
  have M0 : Hid (CtM w.heap.size w (w.alloc (.cells #[.slice ta c.ts.length tc, .slice ca c.cs.length cc, .slice sa c.ss.length sc, .slice da c.d.length dc, .int .i64 c.n] 28)) [.slice ta c.ts.length tc, .slice ca c.cs.length cc, .slice sa c.ss.length sc, .slice da c.d.length dc, .int .i64 c.n] c) := ⟨CBox.new w _ [_, _, _, _, _], h.past b1, b1⟩
  have HCA : Hid (∀ W, Below w.heap.size w W → CW (fun _ => True) W (.agg #[.slice ta c.ts.length tc, .slice ca c.cs.length cc, .slice sa c.ss.length sc, .slice da c.d.length dc, .int .i64 c.n]) c) := fun W hW => h.past hW
  have HBC : Hid (BytC c) := hbc
  clear h b1 hbc
  go_enter Try.func8, Try.ntmps8
  go_upto_region 1 with fail
  generalize w.heap.size = bx at M0 ⊢
  generalize w.alloc _ = W0 at M0 ⊢
  refine wp_region_lit ?_
  refine lst_val (v := .agg #[.slice ta c.ts.length tc, .slice ca c.cs.length cc, .slice sa c.ss.length sc, .slice da c.d.length dc, .int .i64 c.n]) (by kernel_rfl) ?_ ?_
  · have a0 := M0.out.cb.cell 0; have a1 := M0.out.cb.cell 1; have a2 := M0.out.cb.cell 2; have a3 := M0.out.cb.cell 3; have a4 := M0.out.cb.cell 4
    go_simp
  simp only [Act.put, List.setIfInBounds_toArray, List.set_cons_zero, List.set_cons_succ]
  refine lst_call (by kernel_rfl) (by first | (go_simp; done) | (go_simp; first | exact rfl | exact ⟨rfl, rfl⟩ | exact ⟨rfl, rfl, rfl⟩)) (weight_is _ _ c M0.out.cw) ?_
  rintro e w1 ⟨⟨n, rfl, hn⟩, hB⟩
  refine ⟨_, rfl, ?_⟩
  have M1 : Hid (CtM bx w w1 [.slice ta c.ts.length tc, .slice ca c.cs.length cc, .slice sa c.ss.length sc, .slice da c.d.length dc, .int .i64 c.n] c) := M0.out.past hB
  have HWT : Hid (n ≤ 2097152 → total c = n) := hn
  clear hn hB M0
  simp only [Act.put, List.setIfInBounds_toArray, List.set_cons_zero, List.set_cons_succ]
  by_cases en : n ≤ 2097152
  rotate_left
  · have q1 : (2097152 : Int) < (n : Int) := by omega
    clear en HWT
    go_wp2
    go_ret
    exact ⟨rfl, M1.out.bel⟩
  have q1 : ¬ (2097152 : Int) < (n : Int) := by omega
  have HTO : Hid (total c ≤ 2097152) := by have := HWT.out en; unfold Hid; omega
  have HSM : Hid (Small c) := total_small HTO.out
  clear en HWT
  go_upto_region 3 with fail
  clear q1
  go_upto_region 5 with (go_at_call 16; refine (able_is _).mono ?_; rintro e w2 ⟨rfl, hB⟩; (have M2 : Hid (CtM bx w w2 [.slice ta c.ts.length tc, .slice ca c.cs.length cc, .slice sa c.ss.length sc, .slice da c.d.length dc, .int .i64 c.n] c) := M1.out.past hB); (clear hB M1))
  have a0 : w2.cell? ⟨bx, 0, none⟩ = some (.slice ta c.ts.length tc) := M2.out.cb.cell 0
  have a1 : w2.cell? ⟨bx, 1, none⟩ = some (.slice ca c.cs.length cc) := M2.out.cb.cell 1
  have a2 : w2.cell? ⟨bx, 2, none⟩ = some (.slice sa c.ss.length sc) := M2.out.cb.cell 2
  have a3 : w2.cell? ⟨bx, 3, none⟩ = some (.slice da c.d.length dc) := M2.out.cb.cell 3
  have a4 : w2.cell? ⟨bx, 4, none⟩ = some (.int .i64 c.n) := M2.out.cb.cell 4
  by_cases hm : May c
  · have HMY : Hid (May c) := hm
    obtain ⟨ec, hec⟩ : ∃ ec, ec = chk c := ⟨_, rfl⟩
    obtain ⟨bs, hbs⟩ : ∃ bs, bs = serR c := ⟨_, rfl⟩
    have hl : bs.length ≤ 2200000 := by
      rw [hbs]
      unfold serR
      split
      · rename_i e; exact ser_two (chk_may e) HTO.out
      · simp
    have CC : Hid (∀ (W : World) (R : Nat → Prop) (u : Value), CW R W u c → Calls Try.prog 20 #[u] W fun e w' => e = .returned (.int .i64 ec) ∧ Below W.heap.size W w') := fun W R u q => by rw [hec]; exact check_is W u c q
    have SE : Hid (∀ (W : World) (R : Nat → Prop) (u : Value), CW R W u c → Calls Try.prog 35 #[u] W fun e w' => (∃ oa oc, e = .returned (.tuple #[.slice oa bs.length oc, .int .i64 ec]) ∧ BL (fun _ => True) w' (.slice oa bs.length oc) bs) ∧ Below W.heap.size W w') := fun W R u q => (serialize_is W u c q HSM.out).mono fun e w' q9 => by
      obtain ⟨v', rfl, hO, hB⟩ := q9
      rw [← hbs] at hO
      obtain ⟨oa, oc, rfl⟩ := owns_sl hO
      exact ⟨⟨oa, oc, by rw [hec], SL.own hO (by omega) fun _ _ => trivial⟩, hB⟩
    have SZ : Hid (∀ (W : World) (R : Nat → Prop) (u : Value), CW R W u c → Calls Try.prog 38 #[u] W fun e w' => e = .returned (.tuple #[.int .i64 (bs.length : Int), .int .i64 ec]) ∧ Below W.heap.size W w') := fun W R u q => (size_is W u c q HSM.out).mono fun e w' q9 => by
      have e1 : (if chk c = 0 then (ser c).length else 0) = bs.length := by rw [hbs]; unfold serR; split <;> rfl
      rw [e1, ← hec] at q9
      exact q9
    have hbs2 : bs = ser c := by rw [hbs]; unfold serR; rw [if_pos (may_chk hm)]
    have hby : Byt bs := by rw [hbs2]; exact ser_byt HBC.out.1 HBC.out.2.1 HBC.out.2.2
    have hc0 : ec = 0 := by rw [hec]; exact may_chk hm
    have HBS : Hid (bs.length ≤ 2200000) := hl
    have BY : Hid (∀ (W : World) (R : Nat → Prop) (u : Value), CW R W u c → Calls Try.prog 41 #[u] W fun e w' => (∃ oa oc, e = .returned (.slice oa bs.length oc) ∧ BL (fun _ => True) w' (.slice oa bs.length oc) bs) ∧ Below W.heap.size W w') := fun W R u q => (bytes_is W u c q HSM.out HMY.out).mono fun e w' q9 => by
      obtain ⟨v', rfl, hO, hB⟩ := q9
      rw [← hbs2] at hO
      obtain ⟨oa, oc, rfl⟩ := owns_sl hO
      exact ⟨⟨oa, oc, rfl, SL.own hO (by omega) fun _ _ => trivial⟩, hB⟩
    have PT : Hid (∀ (W : World) (R : Nat → Prop) (u : Value), BL R W u bs → Calls Try.prog 31 #[u, .bool true] W fun e w' => (∃ ta5 tc5 ca5 cc5 sa5 sc5 da5 dc5, e = .returned (.tuple #[.agg #[.slice ta5 c.ts.length tc5, .slice ca5 c.cs.length cc5, .slice sa5 c.ss.length sc5, .slice da5 c.d.length dc5, .int .i64 c.n], .agg #[.int .i64 0, .slice none 0 0, .int .i64 0, .int .i64 0]]) ∧ CW (fun k => W.heap.size ≤ k) w' (.agg #[.slice ta5 c.ts.length tc5, .slice ca5 c.cs.length cc5, .slice sa5 c.ss.length sc5, .slice da5 c.d.length dc5, .int .i64 c.n]) c) ∧ Below W.heap.size W w') := fun W R u q => (parse_ans W u bs true q hby (by omega)).mono fun e w' q9 => by
      rw [hbs2, prs_ser HMY.out true (fun e => by cases e)] at q9
      obtain ⟨⟨ta, tc, ca, cc, sa, sc, da, dc, e9, hC⟩, hB⟩ := q9
      exact ⟨⟨ta, tc, ca, cc, sa, sc, da, dc, e9, hC⟩, hB⟩
    have PF1 : Hid ((c.d.length : Int) = c.n → Hid (∀ (W : World) (R : Nat → Prop) (u : Value), BL R W u bs → Calls Try.prog 31 #[u, .bool false] W fun e w' => (∃ ta6 tc6 ca6 cc6 sa6 sc6 da6 dc6, e = .returned (.tuple #[.agg #[.slice ta6 c.ts.length tc6, .slice ca6 c.cs.length cc6, .slice sa6 c.ss.length sc6, .slice da6 c.d.length dc6, .int .i64 c.n], .agg #[.int .i64 0, .slice none 0 0, .int .i64 0, .int .i64 0]]) ∧ CW (fun k => W.heap.size ≤ k) w' (.agg #[.slice ta6 c.ts.length tc6, .slice ca6 c.cs.length cc6, .slice sa6 c.ss.length sc6, .slice da6 c.d.length dc6, .int .i64 c.n]) c) ∧ Below W.heap.size W w')) := fun hd W R u q => (parse_ans W u bs false q hby (by omega)).mono fun e w' q9 => by
      rw [hbs2, prs_ser HMY.out false (fun _ => hd)] at q9
      obtain ⟨⟨ta, tc, ca, cc, sa, sc, da, dc, e9, hC⟩, hB⟩ := q9
      exact ⟨⟨ta, tc, ca, cc, sa, sc, da, dc, e9, hC⟩, hB⟩
    have PF0 : Hid ((c.d.length : Int) ≠ c.n → Hid (∀ (W : World) (R : Nat → Prop) (u : Value), BL R W u bs → Calls Try.prog 31 #[u, .bool false] W fun e w' => (∃ ta6 tc6 ca6 cc6 sa6 sc6 da6 dc6, e = .returned (.tuple #[.agg #[.slice ta6 0 tc6, .slice ca6 0 cc6, .slice sa6 0 sc6, .slice da6 0 dc6, .int .i64 0], .agg #[.int .i64 50, .slice none 0 0, .int .i64 0, .int .i64 (bs.length : Int)]])) ∧ Below W.heap.size W w')) := fun hd W R u q => (parse_ans W u bs false q hby (by omega)).mono fun e w' q9 => by
      rw [prs_short (c := c) (by rw [hbs2]; exact prs_ser HMY.out true (fun e => by cases e)) hd] at q9
      obtain ⟨⟨ta, tc, ca, cc, sa, sc, da, dc, e9, _⟩, hB⟩ := q9
      exact ⟨⟨ta, tc, ca, cc, sa, sc, da, dc, e9⟩, hB⟩
    clear hm hec hbs hl hbs2 hby
    subst hc0
    go_upto_region 6 with (go_at_call 40; refine (may_yes _ _ c M2.out.cw HMY.out).mono ?_; rintro e w3 ⟨rfl, hB⟩; (have M3 : Hid (CtM bx w w3 [.slice ta c.ts.length tc, .slice ca c.cs.length cc, .slice sa c.ss.length sc, .slice da c.d.length dc, .int .i64 c.n] c) := M2.out.past hB); (clear hB))
    clear a0 a1 a2 a3 a4 M2
    have a0 : w3.cell? ⟨bx, 0, none⟩ = some (.slice ta c.ts.length tc) := M3.out.cb.cell 0
    have a1 : w3.cell? ⟨bx, 1, none⟩ = some (.slice ca c.cs.length cc) := M3.out.cb.cell 1
    have a2 : w3.cell? ⟨bx, 2, none⟩ = some (.slice sa c.ss.length sc) := M3.out.cb.cell 2
    have a3 : w3.cell? ⟨bx, 3, none⟩ = some (.slice da c.d.length dc) := M3.out.cb.cell 3
    have a4 : w3.cell? ⟨bx, 4, none⟩ = some (.int .i64 c.n) := M3.out.cb.cell 4
    go_upto_region 7 with (first | (go_at_call 19; refine (twin_is _ _ c M3.out.cw HSM.out).mono ?_; rintro e w4a ⟨v4, rfl, hD, hB⟩; (have N4 : Hid (CtM bx w w4a [.slice ta c.ts.length tc, .slice ca c.cs.length cc, .slice sa c.ss.length sc, .slice da c.d.length dc, .int .i64 c.n] c ∧ CW (fun _ => True) w4a v4 c) := ⟨M3.out.past hB, (hD.cw HSM.out).mono fun _ _ _ => trivial⟩); (clear hD hB)) | (go_at_call 20; refine (CC.out _ _ _ N4.out.2).mono ?_; rintro e w4 ⟨rfl, hB⟩; (have M4 : Hid (CtM bx w w4 [.slice ta c.ts.length tc, .slice ca c.cs.length cc, .slice sa c.ss.length sc, .slice da c.d.length dc, .int .i64 c.n] c) := N4.out.1.past hB); (clear hB)))
    clear a0 a1 a2 a3 a4 M3 N4
    have a0 : w4.cell? ⟨bx, 0, none⟩ = some (.slice ta c.ts.length tc) := M4.out.cb.cell 0
    have a1 : w4.cell? ⟨bx, 1, none⟩ = some (.slice ca c.cs.length cc) := M4.out.cb.cell 1
    have a2 : w4.cell? ⟨bx, 2, none⟩ = some (.slice sa c.ss.length sc) := M4.out.cb.cell 2
    have a3 : w4.cell? ⟨bx, 3, none⟩ = some (.slice da c.d.length dc) := M4.out.cb.cell 3
    have a4 : w4.cell? ⟨bx, 4, none⟩ = some (.int .i64 c.n) := M4.out.cb.cell 4
    go_upto_region 8 with (first | (go_at_call 19; refine (twin_is _ _ c M4.out.cw HSM.out).mono ?_; rintro e w5a ⟨v4, rfl, hD, hB⟩; (have N4 : Hid (CtM bx w w5a [.slice ta c.ts.length tc, .slice ca c.cs.length cc, .slice sa c.ss.length sc, .slice da c.d.length dc, .int .i64 c.n] c ∧ CW (fun _ => True) w5a v4 c) := ⟨M4.out.past hB, (hD.cw HSM.out).mono fun _ _ _ => trivial⟩); (clear hD hB)) | (go_at_call 35; refine (SE.out _ _ _ N4.out.2).mono ?_; rintro e w5 ⟨⟨oa, oc, rfl, hO⟩, hB⟩; (have M5 : Hid (CtM bx w w5 [.slice ta c.ts.length tc, .slice ca c.cs.length cc, .slice sa c.ss.length sc, .slice da c.d.length dc, .int .i64 c.n] c) := N4.out.1.past hB); (have BB : Hid (BL (fun _ => True) w5 (.slice oa bs.length oc) bs) := hO); (clear hO); (clear hB)))
    clear a0 a1 a2 a3 a4 M4 N4
    have a0 : w5.cell? ⟨bx, 0, none⟩ = some (.slice ta c.ts.length tc) := M5.out.cb.cell 0
    have a1 : w5.cell? ⟨bx, 1, none⟩ = some (.slice ca c.cs.length cc) := M5.out.cb.cell 1
    have a2 : w5.cell? ⟨bx, 2, none⟩ = some (.slice sa c.ss.length sc) := M5.out.cb.cell 2
    have a3 : w5.cell? ⟨bx, 3, none⟩ = some (.slice da c.d.length dc) := M5.out.cb.cell 3
    have a4 : w5.cell? ⟨bx, 4, none⟩ = some (.int .i64 c.n) := M5.out.cb.cell 4
    go_upto_region 9 with (first | (go_at_call 19; refine (twin_is _ _ c M5.out.cw HSM.out).mono ?_; rintro e w6a ⟨v4, rfl, hD, hB⟩; (have N4 : Hid (CtM bx w w6a [.slice ta c.ts.length tc, .slice ca c.cs.length cc, .slice sa c.ss.length sc, .slice da c.d.length dc, .int .i64 c.n] c ∧ CW (fun _ => True) w6a v4 c) := ⟨M5.out.past hB, (hD.cw HSM.out).mono fun _ _ _ => trivial⟩); (have BC : Hid (BL (fun _ => True) w6a (.slice oa bs.length oc) bs) := BB.out.past hB); (clear hD hB)) | (go_at_call 38; refine (SZ.out _ _ _ N4.out.2).mono ?_; rintro e w6 ⟨rfl, hB⟩; (have M6 : Hid (CtM bx w w6 [.slice ta c.ts.length tc, .slice ca c.cs.length cc, .slice sa c.ss.length sc, .slice da c.d.length dc, .int .i64 c.n] c) := N4.out.1.past hB); (have BD : Hid (BL (fun _ => True) w6 (.slice oa bs.length oc) bs) := BC.out.past hB); (clear hB)))
    clear a0 a1 a2 a3 a4 M5 N4
    clear BB BC CC SE SZ
    go_upto_region 13 with fail
    refine wp_region_lit ?_
    refine lst_val (v := .int .i64 (bs.length : Int)) (by kernel_rfl) ?_ ?_
    · go_simp
    simp only [Act.put, List.setIfInBounds_toArray, List.set_cons_zero, List.set_cons_succ]
    refine lst_val (v := .slice oa bs.length oc) (by kernel_rfl) ?_ ?_
    · go_simp
    simp only [Act.put, List.setIfInBounds_toArray, List.set_cons_zero, List.set_cons_succ]
    refine lst_val (v := .int .i64 (bs.length : Int)) (by kernel_rfl) ?_ ?_
    · go_simp
    simp only [Act.put, List.setIfInBounds_toArray, List.set_cons_zero, List.set_cons_succ]
    refine lst_val (v := .bool false) (by kernel_rfl) ?_ ?_
    · go_simp
    simp only [Act.put, List.setIfInBounds_toArray, List.set_cons_zero, List.set_cons_succ]
    refine lst_val (v := .bool false) (by kernel_rfl) ?_ ?_
    · go_simp
    simp only [Act.put, List.setIfInBounds_toArray, List.set_cons_zero, List.set_cons_succ]
    refine lst_val (v := .slice oa bs.length oc) (by kernel_rfl) ?_ ?_
    · go_simp
    simp only [Act.put, List.setIfInBounds_toArray, List.set_cons_zero, List.set_cons_succ]
    refine lst_val (v := .agg #[.slice ta c.ts.length tc, .slice ca c.cs.length cc, .slice sa c.ss.length sc, .slice da c.d.length dc, .int .i64 c.n]) (by kernel_rfl) ?_ ?_
    · have a0 := M6.out.cb.cell 0; have a1 := M6.out.cb.cell 1; have a2 := M6.out.cb.cell 2; have a3 := M6.out.cb.cell 3; have a4 := M6.out.cb.cell 4
      go_simp
    simp only [Act.put, List.setIfInBounds_toArray, List.set_cons_zero, List.set_cons_succ]
    refine lst_call (by kernel_rfl) (by first | (go_simp; done) | (go_simp; first | exact rfl | exact ⟨rfl, rfl⟩ | exact ⟨rfl, rfl, rfl⟩)) (BY.out _ _ _ M6.out.cw) ?_
    rintro e w7 ⟨⟨ob, od, rfl, hO⟩, hB⟩
    refine ⟨_, rfl, ?_⟩
    have M7 : Hid (CtM bx w w7 [.slice ta c.ts.length tc, .slice ca c.cs.length cc, .slice sa c.ss.length sc, .slice da c.d.length dc, .int .i64 c.n] c ∧ BL (fun _ => True) w7 (.slice oa bs.length oc) bs ∧ BL (fun _ => True) w7 (.slice ob bs.length od) bs) := ⟨M6.out.past hB, BD.out.past hB, hO⟩
    clear hO hB
    simp only [Act.put, List.setIfInBounds_toArray, List.set_cons_zero, List.set_cons_succ]
    refine lst_call (by kernel_rfl) (by first | (go_simp; done) | (go_simp; first | exact rfl | exact ⟨rfl, rfl⟩ | exact ⟨rfl, rfl, rfl⟩)) (sameB_is _ _ _ bs M7.out.2.1 M7.out.2.2) ?_
    rintro e w8 ⟨rfl, hB⟩
    refine ⟨_, rfl, ?_⟩
    have M8 : Hid (CtM bx w w8 [.slice ta c.ts.length tc, .slice ca c.cs.length cc, .slice sa c.ss.length sc, .slice da c.d.length dc, .int .i64 c.n] c ∧ BL (fun _ => True) w8 (.slice oa bs.length oc) bs) := ⟨M7.out.1.past hB, M7.out.2.1.past hB⟩
    clear hB M7 M6 BD BY
    simp only [Act.put, List.setIfInBounds_toArray, List.set_cons_zero, List.set_cons_succ]
    refine lst_val (v := .bool false) (by kernel_rfl) ?_ ?_
    · go_simp
    simp only [Act.put, List.setIfInBounds_toArray, List.set_cons_zero, List.set_cons_succ]
    refine lst_val (v := .bool false) (by kernel_rfl) ?_ ?_
    · go_simp
    simp only [Act.put, List.setIfInBounds_toArray, List.set_cons_zero, List.set_cons_succ]
    refine wpList_nil ?_
    go_upto_region 15 with fail
    go_upto_region 16 with (first | (go_at_call 32; refine (own_is _ _ bs M8.out.2 (by have := HBS.out; omega)).mono ?_; rintro e w9a ⟨v9, rfl, hO, hB⟩; (have N9 : Hid (CtM bx w w9a [.slice ta c.ts.length tc, .slice ca c.cs.length cc, .slice sa c.ss.length sc, .slice da c.d.length dc, .int .i64 c.n] c ∧ BL (fun _ => True) w9a (.slice oa bs.length oc) bs ∧ BL (fun _ => True) w9a v9 bs) := ⟨M8.out.1.past hB, M8.out.2.past hB, SL.own hO (by have := HBS.out; omega) (fun _ _ => trivial)⟩); (clear hO hB)) | (go_at_call 31; refine (PT.out _ _ _ N9.out.2.2).mono ?_; rintro e w9 ⟨⟨ta5, tc5, ca5, cc5, sa5, sc5, da5, dc5, rfl, hC⟩, hB⟩; (have N10 : Hid (CtM bx w w9 [.slice ta c.ts.length tc, .slice ca c.cs.length cc, .slice sa c.ss.length sc, .slice da c.d.length dc, .int .i64 c.n] c ∧ CW (fun _ => True) w9 (.agg #[.slice ta5 c.ts.length tc5, .slice ca5 c.cs.length cc5, .slice sa5 c.ss.length sc5, .slice da5 c.d.length dc5, .int .i64 c.n]) c ∧ BL (fun _ => True) w9 (.slice oa bs.length oc) bs) := ⟨N9.out.1.past hB, hC.mono fun _ _ _ => trivial, N9.out.2.1.past hB⟩); (clear hC); (clear hB)))
    have T2 := boxes_new w9 [.slice ta5 c.ts.length tc5, .slice ca5 c.cs.length cc5, .slice sa5 c.ss.length sc5, .slice da5 c.d.length dc5, .int .i64 c.n] [.int .i64 0, .slice none 0 0, .int .i64 0, .int .i64 0]
    have HBX : Hid (bx < w9.heap.size ∧ w.heap.size ≤ w9.heap.size) := ⟨N10.out.1.cb.lt, N10.out.1.bel.size⟩
    have M10 : Hid (BkM bx w9.heap.size (w9.heap.size + 1) w ((w9.alloc (.cells #[.slice ta5 c.ts.length tc5, .slice ca5 c.cs.length cc5, .slice sa5 c.ss.length sc5, .slice da5 c.d.length dc5, .int .i64 c.n] 28)).alloc (.cells #[.int .i64 0, .slice none 0 0, .int .i64 0, .int .i64 0] 47)) [.slice ta c.ts.length tc, .slice ca c.cs.length cc, .slice sa c.ss.length sc, .slice da c.d.length dc, .int .i64 c.n] [.slice ta5 c.ts.length tc5, .slice ca5 c.cs.length cc5, .slice sa5 c.ss.length sc5, .slice da5 c.d.length dc5, .int .i64 c.n] [.int .i64 0, .slice none 0 0, .int .i64 0, .int .i64 0] c ∧ CW (fun _ => True) ((w9.alloc (.cells #[.slice ta5 c.ts.length tc5, .slice ca5 c.cs.length cc5, .slice sa5 c.ss.length sc5, .slice da5 c.d.length dc5, .int .i64 c.n] 28)).alloc (.cells #[.int .i64 0, .slice none 0 0, .int .i64 0, .int .i64 0] 47)) (.agg #[.slice ta5 c.ts.length tc5, .slice ca5 c.cs.length cc5, .slice sa5 c.ss.length sc5, .slice da5 c.d.length dc5, .int .i64 c.n]) c ∧ BL (fun _ => True) ((w9.alloc (.cells #[.slice ta5 c.ts.length tc5, .slice ca5 c.cs.length cc5, .slice sa5 c.ss.length sc5, .slice da5 c.d.length dc5, .int .i64 c.n] 28)).alloc (.cells #[.int .i64 0, .slice none 0 0, .int .i64 0, .int .i64 0] 47)) (.slice oa bs.length oc) bs) := ⟨⟨N10.out.1.cb.past T2.2.2, T2.1, T2.2.1, N10.out.1.cw.past T2.2.2, N10.out.1.bel.trans (T2.2.2.mono N10.out.1.bel.size), HBX.out.2, by have := HBX.out.2; omega, by have := HBX.out.1; omega⟩, N10.out.2.1.past T2.2.2, N10.out.2.2.past T2.2.2⟩
    have HN2 : Hid (bx ≠ w9.heap.size + 1) := by have := HBX.out.1; unfold Hid; omega
    have HNE : Hid (w9.heap.size ≠ w9.heap.size + 1) := by unfold Hid; omega
    clear T2 N9 N10 M8 PT HBX
    generalize w9.heap.size + 1 = b10 at M10 HN2 HNE ⊢
    generalize w9.heap.size = b9 at M10 HNE ⊢
    generalize (w9.alloc _).alloc _ = W10 at M10 ⊢
    refine wp_region_lit ?_
    refine lst_val (v := .pointer (some ⟨b10, 0, none⟩)) (by kernel_rfl) ?_ ?_
    · go_simp
    simp only [Act.put, List.setIfInBounds_toArray, List.set_cons_zero, List.set_cons_succ]
    refine lst_val (v := .int .i64 0) (by kernel_rfl) ?_ ?_
    · have a0 := M10.out.1.c10.cell 0
      go_simp
    simp only [Act.put, List.setIfInBounds_toArray, List.set_cons_zero, List.set_cons_succ]
    refine lst_val (v := .bool false) (by kernel_rfl) ?_ ?_
    · go_simp
    simp only [Act.put, List.setIfInBounds_toArray, List.set_cons_zero, List.set_cons_succ]
    refine lst_val (v := .bool false) (by kernel_rfl) ?_ ?_
    · go_simp
    simp only [Act.put, List.setIfInBounds_toArray, List.set_cons_zero, List.set_cons_succ]
    refine lst_val (v := .agg #[.slice ta5 c.ts.length tc5, .slice ca5 c.cs.length cc5, .slice sa5 c.ss.length sc5, .slice da5 c.d.length dc5, .int .i64 c.n]) (by kernel_rfl) ?_ ?_
    · have a0 := M10.out.1.c9.cell 0; have a1 := M10.out.1.c9.cell 1; have a2 := M10.out.1.c9.cell 2; have a3 := M10.out.1.c9.cell 3; have a4 := M10.out.1.c9.cell 4
      go_simp
    simp only [Act.put, List.setIfInBounds_toArray, List.set_cons_zero, List.set_cons_succ]
    refine lst_val (v := .agg #[.slice ta c.ts.length tc, .slice ca c.cs.length cc, .slice sa c.ss.length sc, .slice da c.d.length dc, .int .i64 c.n]) (by kernel_rfl) ?_ ?_
    · have a0 := M10.out.1.cb.cell 0; have a1 := M10.out.1.cb.cell 1; have a2 := M10.out.1.cb.cell 2; have a3 := M10.out.1.cb.cell 3; have a4 := M10.out.1.cb.cell 4
      go_simp
    simp only [Act.put, List.setIfInBounds_toArray, List.set_cons_zero, List.set_cons_succ]
    refine lst_call (by kernel_rfl) (by first | (go_simp; done) | (go_simp; first | exact rfl | exact ⟨rfl, rfl⟩ | exact ⟨rfl, rfl, rfl⟩)) (same_is _ _ _ c M10.out.2.1 M10.out.1.cw) ?_
    rintro e w11 ⟨rfl, hB⟩
    refine ⟨_, rfl, ?_⟩
    have M11 : Hid (BkM bx b9 b10 w w11 [.slice ta c.ts.length tc, .slice ca c.cs.length cc, .slice sa c.ss.length sc, .slice da c.d.length dc, .int .i64 c.n] [.slice ta5 c.ts.length tc5, .slice ca5 c.cs.length cc5, .slice sa5 c.ss.length sc5, .slice da5 c.d.length dc5, .int .i64 c.n] [.int .i64 0, .slice none 0 0, .int .i64 0, .int .i64 0] c ∧ BL (fun _ => True) w11 (.slice oa bs.length oc) bs) := ⟨M10.out.1.past hB, M10.out.2.2.past hB⟩
    clear hB M10
    simp only [Act.put, List.setIfInBounds_toArray, List.set_cons_zero, List.set_cons_succ]
    refine lst_val (v := .bool false) (by kernel_rfl) ?_ ?_
    · go_simp
    simp only [Act.put, List.setIfInBounds_toArray, List.set_cons_zero, List.set_cons_succ]
    refine lst_val (v := .bool false) (by kernel_rfl) ?_ ?_
    · go_simp
    simp only [Act.put, List.setIfInBounds_toArray, List.set_cons_zero, List.set_cons_succ]
    refine wpList_nil ?_
    go_upto_region 18 with fail
    have hz2 := HMY.out.z2
    by_cases hd : (c.d.length : Int) = c.n
    · have q8 : ¬ (c.d.length : Int) < c.n := by omega
      have PF := PF1.out hd
      clear hd hz2 PF1 PF0
      have ne1 : ¬ b9 = b10 := HNE.out
      have ne2 : ¬ b10 = b9 := fun e => HNE.out e.symm
      go_upto_region 19 with (first | (go_at_call 32; refine (own_is _ _ bs M11.out.2 (by have := HBS.out; omega)).mono ?_; rintro e w12a ⟨v9, rfl, hO, hB⟩; (have N9 : Hid (BkM bx b9 b10 w w12a [.slice ta c.ts.length tc, .slice ca c.cs.length cc, .slice sa c.ss.length sc, .slice da c.d.length dc, .int .i64 c.n] [.slice ta5 c.ts.length tc5, .slice ca5 c.cs.length cc5, .slice sa5 c.ss.length sc5, .slice da5 c.d.length dc5, .int .i64 c.n] [.int .i64 0, .slice none 0 0, .int .i64 0, .int .i64 0] c ∧ BL (fun _ => True) w12a (.slice oa bs.length oc) bs ∧ BL (fun _ => True) w12a v9 bs) := ⟨M11.out.1.past hB, M11.out.2.past hB, SL.own hO (by have := HBS.out; omega) (fun _ _ => trivial)⟩); (clear hO hB)) | (go_at_call 31; refine (PF.out _ _ _ N9.out.2.2).mono ?_; rintro e w12 ⟨⟨ta6, tc6, ca6, cc6, sa6, sc6, da6, dc6, rfl, hC⟩, hB⟩; (have N12 : Hid (BkM bx b9 b10 w w12 [.slice ta c.ts.length tc, .slice ca c.cs.length cc, .slice sa c.ss.length sc, .slice da c.d.length dc, .int .i64 c.n] [.slice ta5 c.ts.length tc5, .slice ca5 c.cs.length cc5, .slice sa5 c.ss.length sc5, .slice da5 c.d.length dc5, .int .i64 c.n] [.int .i64 0, .slice none 0 0, .int .i64 0, .int .i64 0] c ∧ CW (fun k => k ≠ b9 ∧ k ≠ b10) w12 (.agg #[.slice ta6 c.ts.length tc6, .slice ca6 c.cs.length cc6, .slice sa6 c.ss.length sc6, .slice da6 c.d.length dc6, .int .i64 c.n]) c) := ⟨N9.out.1.past hB, hC.mono fun k hk _ => ⟨by have := N9.out.1.c9.lt; omega, by have := N9.out.1.c10.lt; omega⟩⟩); (clear hC); (have k0 : w12.cell? ⟨b9, 0, none⟩ = some (.slice ta5 c.ts.length tc5) := N12.out.1.c9.cell 0); (have k1 : w12.cell? ⟨b9, 1, none⟩ = some (.slice ca5 c.cs.length cc5) := N12.out.1.c9.cell 1); (have k2 : w12.cell? ⟨b9, 2, none⟩ = some (.slice sa5 c.ss.length sc5) := N12.out.1.c9.cell 2); (have k3 : w12.cell? ⟨b9, 3, none⟩ = some (.slice da5 c.d.length dc5) := N12.out.1.c9.cell 3); (have k4 : w12.cell? ⟨b9, 4, none⟩ = some (.int .i64 c.n) := N12.out.1.c9.cell 4); (have f0 := CBox.frozen N12.out.1.c9 0); (have f1 := CBox.frozen N12.out.1.c9 1); (have f2 := CBox.frozen N12.out.1.c9 2); (have f3 := CBox.frozen N12.out.1.c9 3); (have f4 := CBox.frozen N12.out.1.c9 4); (have j0 : w12.cell? ⟨b10, 0, none⟩ = some (.int .i64 0) := N12.out.1.c10.cell 0); (have j1 : w12.cell? ⟨b10, 1, none⟩ = some (.slice none 0 0) := N12.out.1.c10.cell 1); (have j2 : w12.cell? ⟨b10, 2, none⟩ = some (.int .i64 0) := N12.out.1.c10.cell 2); (have j3 : w12.cell? ⟨b10, 3, none⟩ = some (.int .i64 0) := N12.out.1.c10.cell 3); (have h0 := CBox.frozen N12.out.1.c10 0); (have h1 := CBox.frozen N12.out.1.c10 1); (have h2 := CBox.frozen N12.out.1.c10 2); (have h3 := CBox.frozen N12.out.1.c10 3); (clear hB)))
      clear k0 k1 k2 k3 k4 f0 f1 f2 f3 f4 j0 j1 j2 j3 h0 h1 h2 h3 N9 M11 PF ne1 ne2
      have hT := two_set w12 b9 b10 (.slice ta5 c.ts.length tc5) (.slice ca5 c.cs.length cc5) (.slice sa5 c.ss.length sc5) (.slice da5 c.d.length dc5) (.int .i64 c.n) (.int .i64 0) (.slice none 0 0) (.int .i64 0) (.int .i64 0) (.slice ta6 c.ts.length tc6) (.slice ca6 c.cs.length cc6) (.slice sa6 c.ss.length sc6) (.slice da6 c.d.length dc6) (.int .i64 c.n) (.int .i64 0) (.slice none 0 0) (.int .i64 0) (.int .i64 0) N12.out.1.c9 N12.out.1.c10 HNE.out
      have hW : boxes w12 b9 b10 [.slice ta6 c.ts.length tc6, .slice ca6 c.cs.length cc6, .slice sa6 c.ss.length sc6, .slice da6 c.d.length dc6, .int .i64 c.n] [.int .i64 0, .slice none 0 0, .int .i64 0, .int .i64 0] = (((((((((w12.setCell ⟨b9, 0, none⟩ (.slice ta6 c.ts.length tc6)).setCell ⟨b9, 1, none⟩ (.slice ca6 c.cs.length cc6)).setCell ⟨b9, 2, none⟩ (.slice sa6 c.ss.length sc6)).setCell ⟨b9, 3, none⟩ (.slice da6 c.d.length dc6)).setCell ⟨b9, 4, none⟩ (.int .i64 c.n)).setCell ⟨b10, 0, none⟩ (.int .i64 0)).setCell ⟨b10, 1, none⟩ (.slice none 0 0)).setCell ⟨b10, 2, none⟩ (.int .i64 0)).setCell ⟨b10, 3, none⟩ (.int .i64 0)) := rfl
      rw [hW] at hT
      have N13 : Hid (CBox (((((((((w12.setCell ⟨b9, 0, none⟩ (.slice ta6 c.ts.length tc6)).setCell ⟨b9, 1, none⟩ (.slice ca6 c.cs.length cc6)).setCell ⟨b9, 2, none⟩ (.slice sa6 c.ss.length sc6)).setCell ⟨b9, 3, none⟩ (.slice da6 c.d.length dc6)).setCell ⟨b9, 4, none⟩ (.int .i64 c.n)).setCell ⟨b10, 0, none⟩ (.int .i64 0)).setCell ⟨b10, 1, none⟩ (.slice none 0 0)).setCell ⟨b10, 2, none⟩ (.int .i64 0)).setCell ⟨b10, 3, none⟩ (.int .i64 0)) bx 28 [.slice ta c.ts.length tc, .slice ca c.cs.length cc, .slice sa c.ss.length sc, .slice da c.d.length dc, .int .i64 c.n] ∧ CBox (((((((((w12.setCell ⟨b9, 0, none⟩ (.slice ta6 c.ts.length tc6)).setCell ⟨b9, 1, none⟩ (.slice ca6 c.cs.length cc6)).setCell ⟨b9, 2, none⟩ (.slice sa6 c.ss.length sc6)).setCell ⟨b9, 3, none⟩ (.slice da6 c.d.length dc6)).setCell ⟨b9, 4, none⟩ (.int .i64 c.n)).setCell ⟨b10, 0, none⟩ (.int .i64 0)).setCell ⟨b10, 1, none⟩ (.slice none 0 0)).setCell ⟨b10, 2, none⟩ (.int .i64 0)).setCell ⟨b10, 3, none⟩ (.int .i64 0)) b9 28 [.slice ta6 c.ts.length tc6, .slice ca6 c.cs.length cc6, .slice sa6 c.ss.length sc6, .slice da6 c.d.length dc6, .int .i64 c.n] ∧ CBox (((((((((w12.setCell ⟨b9, 0, none⟩ (.slice ta6 c.ts.length tc6)).setCell ⟨b9, 1, none⟩ (.slice ca6 c.cs.length cc6)).setCell ⟨b9, 2, none⟩ (.slice sa6 c.ss.length sc6)).setCell ⟨b9, 3, none⟩ (.slice da6 c.d.length dc6)).setCell ⟨b9, 4, none⟩ (.int .i64 c.n)).setCell ⟨b10, 0, none⟩ (.int .i64 0)).setCell ⟨b10, 1, none⟩ (.slice none 0 0)).setCell ⟨b10, 2, none⟩ (.int .i64 0)).setCell ⟨b10, 3, none⟩ (.int .i64 0)) b10 47 [.int .i64 0, .slice none 0 0, .int .i64 0, .int .i64 0] ∧ Below w.heap.size w (((((((((w12.setCell ⟨b9, 0, none⟩ (.slice ta6 c.ts.length tc6)).setCell ⟨b9, 1, none⟩ (.slice ca6 c.cs.length cc6)).setCell ⟨b9, 2, none⟩ (.slice sa6 c.ss.length sc6)).setCell ⟨b9, 3, none⟩ (.slice da6 c.d.length dc6)).setCell ⟨b9, 4, none⟩ (.int .i64 c.n)).setCell ⟨b10, 0, none⟩ (.int .i64 0)).setCell ⟨b10, 1, none⟩ (.slice none 0 0)).setCell ⟨b10, 2, none⟩ (.int .i64 0)).setCell ⟨b10, 3, none⟩ (.int .i64 0)) ∧ CW (fun k => k ≠ b9 ∧ k ≠ b10) (((((((((w12.setCell ⟨b9, 0, none⟩ (.slice ta6 c.ts.length tc6)).setCell ⟨b9, 1, none⟩ (.slice ca6 c.cs.length cc6)).setCell ⟨b9, 2, none⟩ (.slice sa6 c.ss.length sc6)).setCell ⟨b9, 3, none⟩ (.slice da6 c.d.length dc6)).setCell ⟨b9, 4, none⟩ (.int .i64 c.n)).setCell ⟨b10, 0, none⟩ (.int .i64 0)).setCell ⟨b10, 1, none⟩ (.slice none 0 0)).setCell ⟨b10, 2, none⟩ (.int .i64 0)).setCell ⟨b10, 3, none⟩ (.int .i64 0)) (.agg #[.slice ta6 c.ts.length tc6, .slice ca6 c.cs.length cc6, .slice sa6 c.ss.length sc6, .slice da6 c.d.length dc6, .int .i64 c.n]) c) := ⟨N12.out.1.cb.but hT.2.2 (fun e => e.elim N12.out.1.n1 HN2.out), hT.1, hT.2.1, N12.out.1.bel.trans (hT.2.2.below (fun k e => e.elim (fun e => by have := N12.out.1.g9; omega) (fun e => by have := N12.out.1.g10; omega)) N12.out.1.bel.size), N12.out.2.but hT.2.2 (fun g hg e => e.elim hg.1 hg.2)⟩
      clear hT hW N12
      generalize (((((((((w12.setCell ⟨b9, 0, none⟩ (.slice ta6 c.ts.length tc6)).setCell ⟨b9, 1, none⟩ (.slice ca6 c.cs.length cc6)).setCell ⟨b9, 2, none⟩ (.slice sa6 c.ss.length sc6)).setCell ⟨b9, 3, none⟩ (.slice da6 c.d.length dc6)).setCell ⟨b9, 4, none⟩ (.int .i64 c.n)).setCell ⟨b10, 0, none⟩ (.int .i64 0)).setCell ⟨b10, 1, none⟩ (.slice none 0 0)).setCell ⟨b10, 2, none⟩ (.int .i64 0)).setCell ⟨b10, 3, none⟩ (.int .i64 0)) = w13 at N13 ⊢
      have a3 : w13.cell? ⟨bx, 3, none⟩ = some (.slice da c.d.length dc) := N13.out.1.cell 3
      have a4 : w13.cell? ⟨bx, 4, none⟩ = some (.int .i64 c.n) := N13.out.1.cell 4
      go_upto_region 21 with fail
      clear a3 a4 q8
      refine wp_region_lit ?_
      refine lst_val (v := .pointer (some ⟨b10, 0, none⟩)) (by kernel_rfl) ?_ ?_
      · go_simp
      simp only [Act.put, List.setIfInBounds_toArray, List.set_cons_zero, List.set_cons_succ]
      refine lst_val (v := .int .i64 0) (by kernel_rfl) ?_ ?_
      · have a0 := N13.out.2.2.1.cell 0
        go_simp
      simp only [Act.put, List.setIfInBounds_toArray, List.set_cons_zero, List.set_cons_succ]
      refine lst_val (v := .bool true) (by kernel_rfl) ?_ ?_
      · go_simp
      simp only [Act.put, List.setIfInBounds_toArray, List.set_cons_zero, List.set_cons_succ]
      refine lst_val (v := .bool true) (by kernel_rfl) ?_ ?_
      · go_simp
      simp only [Act.put, List.setIfInBounds_toArray, List.set_cons_zero, List.set_cons_succ]
      refine lst_val (v := .agg #[.slice ta6 c.ts.length tc6, .slice ca6 c.cs.length cc6, .slice sa6 c.ss.length sc6, .slice da6 c.d.length dc6, .int .i64 c.n]) (by kernel_rfl) ?_ ?_
      · have a0 := N13.out.2.1.cell 0; have a1 := N13.out.2.1.cell 1; have a2 := N13.out.2.1.cell 2; have a3 := N13.out.2.1.cell 3; have a4 := N13.out.2.1.cell 4
        go_simp
      simp only [Act.put, List.setIfInBounds_toArray, List.set_cons_zero, List.set_cons_succ]
      refine lst_val (v := .agg #[.slice ta c.ts.length tc, .slice ca c.cs.length cc, .slice sa c.ss.length sc, .slice da c.d.length dc, .int .i64 c.n]) (by kernel_rfl) ?_ ?_
      · have a0 := N13.out.1.cell 0; have a1 := N13.out.1.cell 1; have a2 := N13.out.1.cell 2; have a3 := N13.out.1.cell 3; have a4 := N13.out.1.cell 4
        go_simp
      simp only [Act.put, List.setIfInBounds_toArray, List.set_cons_zero, List.set_cons_succ]
      refine lst_call (by kernel_rfl) (by first | (go_simp; done) | (go_simp; first | exact rfl | exact ⟨rfl, rfl⟩ | exact ⟨rfl, rfl, rfl⟩)) (same_is _ _ _ c N13.out.2.2.2.2 (HCA.out _ N13.out.2.2.2.1)) ?_
      rintro e w14 ⟨rfl, hB⟩
      refine ⟨_, rfl, ?_⟩
      have BF : Hid (Below w.heap.size w w14) := N13.out.2.2.2.1.trans (hB.mono N13.out.2.2.2.1.size)
      clear hB
      simp only [Act.put, List.setIfInBounds_toArray, List.set_cons_zero, List.set_cons_succ]
      refine lst_val (v := .bool true) (by kernel_rfl) ?_ ?_
      · go_simp
      simp only [Act.put, List.setIfInBounds_toArray, List.set_cons_zero, List.set_cons_succ]
      refine lst_val (v := .bool true) (by kernel_rfl) ?_ ?_
      · go_simp
      simp only [Act.put, List.setIfInBounds_toArray, List.set_cons_zero, List.set_cons_succ]
      refine wpList_nil ?_
      go_wp2
      go_ret
      exact ⟨rfl, BF.out⟩
    · have q8 : (c.d.length : Int) < c.n := by omega
      have PF := PF0.out hd
      clear hd hz2 PF1 PF0
      have ne1 : ¬ b9 = b10 := HNE.out
      have ne2 : ¬ b10 = b9 := fun e => HNE.out e.symm
      go_upto_region 19 with (first | (go_at_call 32; refine (own_is _ _ bs M11.out.2 (by have := HBS.out; omega)).mono ?_; rintro e w12a ⟨v9, rfl, hO, hB⟩; (have N9 : Hid (BkM bx b9 b10 w w12a [.slice ta c.ts.length tc, .slice ca c.cs.length cc, .slice sa c.ss.length sc, .slice da c.d.length dc, .int .i64 c.n] [.slice ta5 c.ts.length tc5, .slice ca5 c.cs.length cc5, .slice sa5 c.ss.length sc5, .slice da5 c.d.length dc5, .int .i64 c.n] [.int .i64 0, .slice none 0 0, .int .i64 0, .int .i64 0] c ∧ BL (fun _ => True) w12a (.slice oa bs.length oc) bs ∧ BL (fun _ => True) w12a v9 bs) := ⟨M11.out.1.past hB, M11.out.2.past hB, SL.own hO (by have := HBS.out; omega) (fun _ _ => trivial)⟩); (clear hO hB)) | (go_at_call 31; refine (PF.out _ _ _ N9.out.2.2).mono ?_; rintro e w12 ⟨⟨ta6, tc6, ca6, cc6, sa6, sc6, da6, dc6, rfl⟩, hB⟩; (have N12 : Hid (BkM bx b9 b10 w w12 [.slice ta c.ts.length tc, .slice ca c.cs.length cc, .slice sa c.ss.length sc, .slice da c.d.length dc, .int .i64 c.n] [.slice ta5 c.ts.length tc5, .slice ca5 c.cs.length cc5, .slice sa5 c.ss.length sc5, .slice da5 c.d.length dc5, .int .i64 c.n] [.int .i64 0, .slice none 0 0, .int .i64 0, .int .i64 0] c ∧ True) := ⟨N9.out.1.past hB, trivial⟩); (have k0 : w12.cell? ⟨b9, 0, none⟩ = some (.slice ta5 c.ts.length tc5) := N12.out.1.c9.cell 0); (have k1 : w12.cell? ⟨b9, 1, none⟩ = some (.slice ca5 c.cs.length cc5) := N12.out.1.c9.cell 1); (have k2 : w12.cell? ⟨b9, 2, none⟩ = some (.slice sa5 c.ss.length sc5) := N12.out.1.c9.cell 2); (have k3 : w12.cell? ⟨b9, 3, none⟩ = some (.slice da5 c.d.length dc5) := N12.out.1.c9.cell 3); (have k4 : w12.cell? ⟨b9, 4, none⟩ = some (.int .i64 c.n) := N12.out.1.c9.cell 4); (have f0 := CBox.frozen N12.out.1.c9 0); (have f1 := CBox.frozen N12.out.1.c9 1); (have f2 := CBox.frozen N12.out.1.c9 2); (have f3 := CBox.frozen N12.out.1.c9 3); (have f4 := CBox.frozen N12.out.1.c9 4); (have j0 : w12.cell? ⟨b10, 0, none⟩ = some (.int .i64 0) := N12.out.1.c10.cell 0); (have j1 : w12.cell? ⟨b10, 1, none⟩ = some (.slice none 0 0) := N12.out.1.c10.cell 1); (have j2 : w12.cell? ⟨b10, 2, none⟩ = some (.int .i64 0) := N12.out.1.c10.cell 2); (have j3 : w12.cell? ⟨b10, 3, none⟩ = some (.int .i64 0) := N12.out.1.c10.cell 3); (have h0 := CBox.frozen N12.out.1.c10 0); (have h1 := CBox.frozen N12.out.1.c10 1); (have h2 := CBox.frozen N12.out.1.c10 2); (have h3 := CBox.frozen N12.out.1.c10 3); (clear hB)))
      clear k0 k1 k2 k3 k4 f0 f1 f2 f3 f4 j0 j1 j2 j3 h0 h1 h2 h3 N9 M11 PF ne1 ne2
      have hT := two_set w12 b9 b10 (.slice ta5 c.ts.length tc5) (.slice ca5 c.cs.length cc5) (.slice sa5 c.ss.length sc5) (.slice da5 c.d.length dc5) (.int .i64 c.n) (.int .i64 0) (.slice none 0 0) (.int .i64 0) (.int .i64 0) (.slice ta6 0 tc6) (.slice ca6 0 cc6) (.slice sa6 0 sc6) (.slice da6 0 dc6) (.int .i64 0) (.int .i64 50) (.slice none 0 0) (.int .i64 0) (.int .i64 (bs.length : Int)) N12.out.1.c9 N12.out.1.c10 HNE.out
      have hW : boxes w12 b9 b10 [.slice ta6 0 tc6, .slice ca6 0 cc6, .slice sa6 0 sc6, .slice da6 0 dc6, .int .i64 0] [.int .i64 50, .slice none 0 0, .int .i64 0, .int .i64 (bs.length : Int)] = (((((((((w12.setCell ⟨b9, 0, none⟩ (.slice ta6 0 tc6)).setCell ⟨b9, 1, none⟩ (.slice ca6 0 cc6)).setCell ⟨b9, 2, none⟩ (.slice sa6 0 sc6)).setCell ⟨b9, 3, none⟩ (.slice da6 0 dc6)).setCell ⟨b9, 4, none⟩ (.int .i64 0)).setCell ⟨b10, 0, none⟩ (.int .i64 50)).setCell ⟨b10, 1, none⟩ (.slice none 0 0)).setCell ⟨b10, 2, none⟩ (.int .i64 0)).setCell ⟨b10, 3, none⟩ (.int .i64 (bs.length : Int))) := rfl
      rw [hW] at hT
      have N13 : Hid (CBox (((((((((w12.setCell ⟨b9, 0, none⟩ (.slice ta6 0 tc6)).setCell ⟨b9, 1, none⟩ (.slice ca6 0 cc6)).setCell ⟨b9, 2, none⟩ (.slice sa6 0 sc6)).setCell ⟨b9, 3, none⟩ (.slice da6 0 dc6)).setCell ⟨b9, 4, none⟩ (.int .i64 0)).setCell ⟨b10, 0, none⟩ (.int .i64 50)).setCell ⟨b10, 1, none⟩ (.slice none 0 0)).setCell ⟨b10, 2, none⟩ (.int .i64 0)).setCell ⟨b10, 3, none⟩ (.int .i64 (bs.length : Int))) bx 28 [.slice ta c.ts.length tc, .slice ca c.cs.length cc, .slice sa c.ss.length sc, .slice da c.d.length dc, .int .i64 c.n] ∧ CBox (((((((((w12.setCell ⟨b9, 0, none⟩ (.slice ta6 0 tc6)).setCell ⟨b9, 1, none⟩ (.slice ca6 0 cc6)).setCell ⟨b9, 2, none⟩ (.slice sa6 0 sc6)).setCell ⟨b9, 3, none⟩ (.slice da6 0 dc6)).setCell ⟨b9, 4, none⟩ (.int .i64 0)).setCell ⟨b10, 0, none⟩ (.int .i64 50)).setCell ⟨b10, 1, none⟩ (.slice none 0 0)).setCell ⟨b10, 2, none⟩ (.int .i64 0)).setCell ⟨b10, 3, none⟩ (.int .i64 (bs.length : Int))) b9 28 [.slice ta6 0 tc6, .slice ca6 0 cc6, .slice sa6 0 sc6, .slice da6 0 dc6, .int .i64 0] ∧ CBox (((((((((w12.setCell ⟨b9, 0, none⟩ (.slice ta6 0 tc6)).setCell ⟨b9, 1, none⟩ (.slice ca6 0 cc6)).setCell ⟨b9, 2, none⟩ (.slice sa6 0 sc6)).setCell ⟨b9, 3, none⟩ (.slice da6 0 dc6)).setCell ⟨b9, 4, none⟩ (.int .i64 0)).setCell ⟨b10, 0, none⟩ (.int .i64 50)).setCell ⟨b10, 1, none⟩ (.slice none 0 0)).setCell ⟨b10, 2, none⟩ (.int .i64 0)).setCell ⟨b10, 3, none⟩ (.int .i64 (bs.length : Int))) b10 47 [.int .i64 50, .slice none 0 0, .int .i64 0, .int .i64 (bs.length : Int)] ∧ Below w.heap.size w (((((((((w12.setCell ⟨b9, 0, none⟩ (.slice ta6 0 tc6)).setCell ⟨b9, 1, none⟩ (.slice ca6 0 cc6)).setCell ⟨b9, 2, none⟩ (.slice sa6 0 sc6)).setCell ⟨b9, 3, none⟩ (.slice da6 0 dc6)).setCell ⟨b9, 4, none⟩ (.int .i64 0)).setCell ⟨b10, 0, none⟩ (.int .i64 50)).setCell ⟨b10, 1, none⟩ (.slice none 0 0)).setCell ⟨b10, 2, none⟩ (.int .i64 0)).setCell ⟨b10, 3, none⟩ (.int .i64 (bs.length : Int)))) := ⟨N12.out.1.cb.but hT.2.2 (fun e => e.elim N12.out.1.n1 HN2.out), hT.1, hT.2.1, N12.out.1.bel.trans (hT.2.2.below (fun k e => e.elim (fun e => by have := N12.out.1.g9; omega) (fun e => by have := N12.out.1.g10; omega)) N12.out.1.bel.size)⟩
      clear hT hW N12
      generalize (((((((((w12.setCell ⟨b9, 0, none⟩ (.slice ta6 0 tc6)).setCell ⟨b9, 1, none⟩ (.slice ca6 0 cc6)).setCell ⟨b9, 2, none⟩ (.slice sa6 0 sc6)).setCell ⟨b9, 3, none⟩ (.slice da6 0 dc6)).setCell ⟨b9, 4, none⟩ (.int .i64 0)).setCell ⟨b10, 0, none⟩ (.int .i64 50)).setCell ⟨b10, 1, none⟩ (.slice none 0 0)).setCell ⟨b10, 2, none⟩ (.int .i64 0)).setCell ⟨b10, 3, none⟩ (.int .i64 (bs.length : Int))) = w13 at N13 ⊢
      have a3 : w13.cell? ⟨bx, 3, none⟩ = some (.slice da c.d.length dc) := N13.out.1.cell 3
      have a4 : w13.cell? ⟨bx, 4, none⟩ = some (.int .i64 c.n) := N13.out.1.cell 4
      have p0 : w13.cell? ⟨b10, 0, none⟩ = some (.int .i64 50) := N13.out.2.2.1.cell 0
      have p1 : w13.cell? ⟨b10, 1, none⟩ = some (.slice none 0 0) := N13.out.2.2.1.cell 1
      have p2 : w13.cell? ⟨b10, 2, none⟩ = some (.int .i64 0) := N13.out.2.2.1.cell 2
      have p3 : w13.cell? ⟨b10, 3, none⟩ = some (.int .i64 (bs.length : Int)) := N13.out.2.2.1.cell 3
      have e1 : w13.cell? ⟨b9, 1, none⟩ = some (.slice ca6 0 cc6) := N13.out.2.1.cell 1
      go_wp2
      go_ret
      exact ⟨rfl, N13.out.2.2.2⟩
  · have HMN : Hid (¬ May c) := hm
    obtain ⟨ec, hec⟩ : ∃ ec, ec = chk c := ⟨_, rfl⟩
    obtain ⟨bs, hbs⟩ : ∃ bs, bs = serR c := ⟨_, rfl⟩
    have hl : bs.length ≤ 2200000 := by
      rw [hbs]
      unfold serR
      split
      · rename_i e; exact ser_two (chk_may e) HTO.out
      · simp
    have CC : Hid (∀ (W : World) (R : Nat → Prop) (u : Value), CW R W u c → Calls Try.prog 20 #[u] W fun e w' => e = .returned (.int .i64 ec) ∧ Below W.heap.size W w') := fun W R u q => by rw [hec]; exact check_is W u c q
    have SE : Hid (∀ (W : World) (R : Nat → Prop) (u : Value), CW R W u c → Calls Try.prog 35 #[u] W fun e w' => (∃ oa oc, e = .returned (.tuple #[.slice oa bs.length oc, .int .i64 ec]) ∧ BL (fun _ => True) w' (.slice oa bs.length oc) bs) ∧ Below W.heap.size W w') := fun W R u q => (serialize_is W u c q HSM.out).mono fun e w' q9 => by
      obtain ⟨v', rfl, hO, hB⟩ := q9
      rw [← hbs] at hO
      obtain ⟨oa, oc, rfl⟩ := owns_sl hO
      exact ⟨⟨oa, oc, by rw [hec], SL.own hO (by omega) fun _ _ => trivial⟩, hB⟩
    have SZ : Hid (∀ (W : World) (R : Nat → Prop) (u : Value), CW R W u c → Calls Try.prog 38 #[u] W fun e w' => e = .returned (.tuple #[.int .i64 (bs.length : Int), .int .i64 ec]) ∧ Below W.heap.size W w') := fun W R u q => (size_is W u c q HSM.out).mono fun e w' q9 => by
      have e1 : (if chk c = 0 then (ser c).length else 0) = bs.length := by rw [hbs]; unfold serR; split <;> rfl
      rw [e1, ← hec] at q9
      exact q9
    have he0 : bs = [] := by rw [hbs]; unfold serR; rw [if_neg (fun e => hm (chk_may e))]
    have hc0 : ec ≠ 0 := by rw [hec]; exact fun e => hm (chk_may e)
    clear hm hec hbs hl
    subst he0
    have HC0 : Hid (ec ≠ 0) := hc0
    clear hc0
    go_upto_region 6 with (go_at_call 40; refine (may_no _ _ c M2.out.cw HMN.out).mono ?_; rintro e w3 ⟨rfl, hB⟩; (have M3 : Hid (CtM bx w w3 [.slice ta c.ts.length tc, .slice ca c.cs.length cc, .slice sa c.ss.length sc, .slice da c.d.length dc, .int .i64 c.n] c) := M2.out.past hB); (clear hB))
    clear a0 a1 a2 a3 a4 M2
    have a0 : w3.cell? ⟨bx, 0, none⟩ = some (.slice ta c.ts.length tc) := M3.out.cb.cell 0
    have a1 : w3.cell? ⟨bx, 1, none⟩ = some (.slice ca c.cs.length cc) := M3.out.cb.cell 1
    have a2 : w3.cell? ⟨bx, 2, none⟩ = some (.slice sa c.ss.length sc) := M3.out.cb.cell 2
    have a3 : w3.cell? ⟨bx, 3, none⟩ = some (.slice da c.d.length dc) := M3.out.cb.cell 3
    have a4 : w3.cell? ⟨bx, 4, none⟩ = some (.int .i64 c.n) := M3.out.cb.cell 4
    go_upto_region 7 with (first | (go_at_call 19; refine (twin_is _ _ c M3.out.cw HSM.out).mono ?_; rintro e w4a ⟨v4, rfl, hD, hB⟩; (have N4 : Hid (CtM bx w w4a [.slice ta c.ts.length tc, .slice ca c.cs.length cc, .slice sa c.ss.length sc, .slice da c.d.length dc, .int .i64 c.n] c ∧ CW (fun _ => True) w4a v4 c) := ⟨M3.out.past hB, (hD.cw HSM.out).mono fun _ _ _ => trivial⟩); (clear hD hB)) | (go_at_call 20; refine (CC.out _ _ _ N4.out.2).mono ?_; rintro e w4 ⟨rfl, hB⟩; (have M4 : Hid (CtM bx w w4 [.slice ta c.ts.length tc, .slice ca c.cs.length cc, .slice sa c.ss.length sc, .slice da c.d.length dc, .int .i64 c.n] c) := N4.out.1.past hB); (clear hB)))
    clear a0 a1 a2 a3 a4 M3 N4
    have a0 : w4.cell? ⟨bx, 0, none⟩ = some (.slice ta c.ts.length tc) := M4.out.cb.cell 0
    have a1 : w4.cell? ⟨bx, 1, none⟩ = some (.slice ca c.cs.length cc) := M4.out.cb.cell 1
    have a2 : w4.cell? ⟨bx, 2, none⟩ = some (.slice sa c.ss.length sc) := M4.out.cb.cell 2
    have a3 : w4.cell? ⟨bx, 3, none⟩ = some (.slice da c.d.length dc) := M4.out.cb.cell 3
    have a4 : w4.cell? ⟨bx, 4, none⟩ = some (.int .i64 c.n) := M4.out.cb.cell 4
    go_upto_region 8 with (first | (go_at_call 19; refine (twin_is _ _ c M4.out.cw HSM.out).mono ?_; rintro e w5a ⟨v4, rfl, hD, hB⟩; (have N4 : Hid (CtM bx w w5a [.slice ta c.ts.length tc, .slice ca c.cs.length cc, .slice sa c.ss.length sc, .slice da c.d.length dc, .int .i64 c.n] c ∧ CW (fun _ => True) w5a v4 c) := ⟨M4.out.past hB, (hD.cw HSM.out).mono fun _ _ _ => trivial⟩); (clear hD hB)) | (go_at_call 35; refine (SE.out _ _ _ N4.out.2).mono ?_; rintro e w5 ⟨⟨oa, oc, rfl, hO⟩, hB⟩; (have M5 : Hid (CtM bx w w5 [.slice ta c.ts.length tc, .slice ca c.cs.length cc, .slice sa c.ss.length sc, .slice da c.d.length dc, .int .i64 c.n] c) := N4.out.1.past hB); (have BB : Hid (BL (fun _ => True) w5 (.slice oa ([] : List Nat).length oc) []) := hO); (clear hO); (clear hB)))
    clear a0 a1 a2 a3 a4 M4 N4
    have a0 : w5.cell? ⟨bx, 0, none⟩ = some (.slice ta c.ts.length tc) := M5.out.cb.cell 0
    have a1 : w5.cell? ⟨bx, 1, none⟩ = some (.slice ca c.cs.length cc) := M5.out.cb.cell 1
    have a2 : w5.cell? ⟨bx, 2, none⟩ = some (.slice sa c.ss.length sc) := M5.out.cb.cell 2
    have a3 : w5.cell? ⟨bx, 3, none⟩ = some (.slice da c.d.length dc) := M5.out.cb.cell 3
    have a4 : w5.cell? ⟨bx, 4, none⟩ = some (.int .i64 c.n) := M5.out.cb.cell 4
    go_upto_region 9 with (first | (go_at_call 19; refine (twin_is _ _ c M5.out.cw HSM.out).mono ?_; rintro e w6a ⟨v4, rfl, hD, hB⟩; (have N4 : Hid (CtM bx w w6a [.slice ta c.ts.length tc, .slice ca c.cs.length cc, .slice sa c.ss.length sc, .slice da c.d.length dc, .int .i64 c.n] c ∧ CW (fun _ => True) w6a v4 c) := ⟨M5.out.past hB, (hD.cw HSM.out).mono fun _ _ _ => trivial⟩); (have BC : Hid (BL (fun _ => True) w6a (.slice oa ([] : List Nat).length oc) []) := BB.out.past hB); (clear hD hB)) | (go_at_call 38; refine (SZ.out _ _ _ N4.out.2).mono ?_; rintro e w6 ⟨rfl, hB⟩; (have M6 : Hid (CtM bx w w6 [.slice ta c.ts.length tc, .slice ca c.cs.length cc, .slice sa c.ss.length sc, .slice da c.d.length dc, .int .i64 c.n] c) := N4.out.1.past hB); (have BD : Hid (BL (fun _ => True) w6 (.slice oa ([] : List Nat).length oc) []) := BC.out.past hB); (clear hB)))
    clear a0 a1 a2 a3 a4 M5 N4
    clear BB BC CC SE SZ
    have q1 : (ec == 0) = false := by rw [beq_eq_false_iff_ne]; exact HC0.out
    go_wp2
    go_ret
    exact ⟨rfl, M6.out.bel⟩
end Go.Proofs.Ytndhabhlajldeaa
