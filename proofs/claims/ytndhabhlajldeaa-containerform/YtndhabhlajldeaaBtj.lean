/- ContainerForm: the walk. -/
import Derived.Test.YtndhabhlajldeaaBti
import Derived.Test.YtndhabhlajldeaaBsfM
namespace Go.Proofs.Ytndhabhlajldeaa
open Go.RowKit
/-- in the midst of ContainerForm -/
structure FmM (b3 b4 b5 b6 : Nat) (w W : World) (L3 R4 L5 R6 : List Value) (c d : Con) : Prop where
  c3 : CBox W b3 28 L3
  c4 : CBox W b4 47 R4
  c5 : CBox W b5 28 L5
  c6 : CBox W b6 47 R6
  kc : CW (fun _ => True) W (.agg L3.toArray) c
  kd : CW (fun _ => True) W (.agg L5.toArray) d
  bel : Below w.heap.size w W
theorem FmM.past {b3 b4 b5 b6 : Nat} {w W W' : World} {L3 R4 L5 R6 : List Value} {c d : Con} (h : FmM b3 b4 b5 b6 w W L3 R4 L5 R6 c d) (k : Below W.heap.size W W') : FmM b3 b4 b5 b6 w W' L3 R4 L5 R6 c d := ⟨h.c3.past k, h.c4.past k, h.c5.past k, h.c6.past k, h.kc.past k, h.kd.past k, h.bel.trans (k.mono h.bel.size)⟩
set_option maxHeartbeats 8000000 in
set_option maxRecDepth 100000 in
theorem form_ok (w : World) (ad : Option Addr) (cap : Nat) (b : List Nat) (c d : Con) (x2 y2 : Int) (h : BL (fun _ => True) w (.slice ad b.length cap) b) (hl : b.length ≤ 2097152) (PA : Hid (∀ (W : World) (R : Nat → Prop) (u : Value), BL R W u b → Calls Try.prog 31 #[u, .bool true] W fun e w' => (∃ ta tc ca cc sa sc da dc, e = .returned (.tuple #[.agg #[.slice ta c.ts.length tc, .slice ca c.cs.length cc, .slice sa c.ss.length sc, .slice da c.d.length dc, .int .i64 c.n], .agg #[.int .i64 0, .slice none 0 0, .int .i64 0, .int .i64 0]]) ∧ CW (fun k => W.heap.size ≤ k) w' (.agg #[.slice ta c.ts.length tc, .slice ca c.cs.length cc, .slice sa c.ss.length sc, .slice da c.d.length dc, .int .i64 c.n]) c) ∧ Below W.heap.size W w')) (PD : Hid (∀ (W : World) (R : Nat → Prop) (u : Value), BL R W u b → Calls Try.prog 31 #[u, .bool false] W fun e w' => (∃ ta tc ca cc sa sc da dc, e = .returned (.tuple #[.agg #[.slice ta d.ts.length tc, .slice ca d.cs.length cc, .slice sa d.ss.length sc, .slice da d.d.length dc, .int .i64 d.n], .agg #[.int .i64 x2, .slice none 0 0, .int .i64 0, .int .i64 y2]]) ∧ CW (fun k => W.heap.size ≤ k) w' (.agg #[.slice ta d.ts.length tc, .slice ca d.cs.length cc, .slice sa d.ss.length sc, .slice da d.d.length dc, .int .i64 d.n]) d) ∧ Below W.heap.size W w')) (hm : May c) (hs : Small c) (hr : ser c = b)
    (hd : ((c.d.length : Int) = c.n → d = c ∧ x2 = 0 ∧ y2 = 0) ∧ ((c.d.length : Int) ≠ c.n → x2 = 50 ∧ y2 = (b.length : Int))) : Calls Try.prog 9 #[.slice ad b.length cap] w fun e w' => e = .returned (.bool true) ∧ Below w.heap.size w w' := by
  have HMY : Hid (May c) := hm
  have HSM : Hid (Small c) := hs
  have HDD : Hid (((c.d.length : Int) = c.n → d = c ∧ x2 = 0 ∧ y2 = 0) ∧ ((c.d.length : Int) ≠ c.n → x2 = 50 ∧ y2 = (b.length : Int))) := hd
  have SE : Hid (∀ (W : World) (R : Nat → Prop) (u : Value), CW R W u c → Calls Try.prog 35 #[u] W fun e w' => (∃ oa oc, e = .returned (.tuple #[.slice oa b.length oc, .int .i64 0]) ∧ BL (fun _ => True) w' (.slice oa b.length oc) b) ∧ Below W.heap.size W w') := fun W R u q => (serialize_is W u c q hs).mono fun e w' t => by
    obtain ⟨v', rfl, hO, hB⟩ := t
    have e1 : serR c = b := by unfold serR; rw [if_pos (may_chk hm)]; exact hr
    rw [e1] at hO
    obtain ⟨oa, oc, rfl⟩ := owns_sl hO
    exact ⟨⟨oa, oc, by rw [may_chk hm], SL.own hO (by omega) fun _ _ => trivial⟩, hB⟩
  have SZ : Hid (∀ (W : World) (R : Nat → Prop) (u : Value), CW R W u c → Calls Try.prog 38 #[u] W fun e w' => e = .returned (.tuple #[.int .i64 (b.length : Int), .int .i64 0]) ∧ Below W.heap.size W w') := fun W R u q => (size_is W u c q hs).mono fun e w' t => by
    rw [may_chk hm, if_pos rfl, hr] at t
    exact t
  have CK : Hid (∀ (W : World) (R : Nat → Prop) (u : Value), CW R W u c → Calls Try.prog 20 #[u] W fun e w' => e = .returned (.int .i64 0) ∧ Below W.heap.size W w') := fun W R u q => (check_is W u c q).mono fun e w' t => by
    rw [may_chk hm] at t
    exact t
  clear hm hs hr hd
  have q1 : ¬ (2097152 : Int) < (b.length : Int) := by omega
  have nI : (b.length : Int) ≤ 2097152 := by omega
  have HLN : Hid (b.length ≤ 2097152) := hl
  have HV : Hid (∀ W, Below w.heap.size w W → BL (fun _ => True) W (.slice ad b.length cap) b) := fun W hW => h.past hW
  clear h hl
  go_enter Try.func9, Try.ntmps9
  go_upto_region 5 with (go_at_call 16; refine (able_is _).mono ?_; rintro e w1 ⟨rfl, hB⟩; (have B1 : Hid (Below w.heap.size w w1) := hB); (clear hB))
  go_upto_region 6 with (first | (go_at_call 32; refine (own_is _ _ b (HV.out _ B1.out) (by have := HLN.out; omega)).mono ?_; rintro e w2 ⟨v9, rfl, hO, hB⟩; (have N2 : Hid (BL (fun _ => True) w2 v9 b ∧ Below w.heap.size w w2) := ⟨SL.own hO (by have := HLN.out; omega) (fun _ _ => trivial), B1.out.trans (hB.mono B1.out.size)⟩); (clear hO hB)) | (go_at_call 31; refine (PA.out _ _ _ N2.out.1).mono ?_; rintro e w3 ⟨⟨ta, tc, ca, cc, sa, sc, da, dc, rfl, hC⟩, hB⟩; (have N3 : Hid (Below w.heap.size w w3 ∧ CW (fun _ => True) w3 (.agg #[.slice ta c.ts.length tc, .slice ca c.cs.length cc, .slice sa c.ss.length sc, .slice da c.d.length dc, .int .i64 c.n]) c) := ⟨N2.out.2.trans (hB.mono N2.out.2.size), hC.mono fun _ _ _ => trivial⟩); (clear hC hB)))
  have T2 := two_boxes w3 [.slice ta c.ts.length tc, .slice ca c.cs.length cc, .slice sa c.ss.length sc, .slice da c.d.length dc, .int .i64 c.n] [.int .i64 0, .slice none 0 0, .int .i64 0, .int .i64 0]
  have N4 : Hid (Below w.heap.size w ((w3.alloc (.cells #[.slice ta c.ts.length tc, .slice ca c.cs.length cc, .slice sa c.ss.length sc, .slice da c.d.length dc, .int .i64 c.n] 28)).alloc (.cells #[.int .i64 0, .slice none 0 0, .int .i64 0, .int .i64 0] 47)) ∧ CW (fun _ => True) ((w3.alloc (.cells #[.slice ta c.ts.length tc, .slice ca c.cs.length cc, .slice sa c.ss.length sc, .slice da c.d.length dc, .int .i64 c.n] 28)).alloc (.cells #[.int .i64 0, .slice none 0 0, .int .i64 0, .int .i64 0] 47)) (.agg #[.slice ta c.ts.length tc, .slice ca c.cs.length cc, .slice sa c.ss.length sc, .slice da c.d.length dc, .int .i64 c.n]) c ∧ CBox ((w3.alloc (.cells #[.slice ta c.ts.length tc, .slice ca c.cs.length cc, .slice sa c.ss.length sc, .slice da c.d.length dc, .int .i64 c.n] 28)).alloc (.cells #[.int .i64 0, .slice none 0 0, .int .i64 0, .int .i64 0] 47)) w3.heap.size 28 [.slice ta c.ts.length tc, .slice ca c.cs.length cc, .slice sa c.ss.length sc, .slice da c.d.length dc, .int .i64 c.n] ∧ CBox ((w3.alloc (.cells #[.slice ta c.ts.length tc, .slice ca c.cs.length cc, .slice sa c.ss.length sc, .slice da c.d.length dc, .int .i64 c.n] 28)).alloc (.cells #[.int .i64 0, .slice none 0 0, .int .i64 0, .int .i64 0] 47)) (w3.heap.size + 1) 47 [.int .i64 0, .slice none 0 0, .int .i64 0, .int .i64 0]) := ⟨N3.out.1.trans (T2.2.2.mono N3.out.1.size), N3.out.2.past T2.2.2, T2.1, T2.2.1⟩
  clear T2 N2 N3 PA B1 q1
  generalize w3.heap.size + 1 = b4 at N4 ⊢
  generalize w3.heap.size = b3 at N4 ⊢
  generalize (w3.alloc _).alloc _ = W3 at N4 ⊢
  go_upto_region 7 with (first | (go_at_call 32; refine (own_is _ _ b (HV.out _ N4.out.1) (by have := HLN.out; omega)).mono ?_; rintro e w4 ⟨v8, rfl, hO, hB⟩; (have N5 : Hid (BL (fun _ => True) w4 v8 b ∧ Below w.heap.size w w4 ∧ CW (fun _ => True) w4 (.agg #[.slice ta c.ts.length tc, .slice ca c.cs.length cc, .slice sa c.ss.length sc, .slice da c.d.length dc, .int .i64 c.n]) c ∧ CBox w4 b3 28 [.slice ta c.ts.length tc, .slice ca c.cs.length cc, .slice sa c.ss.length sc, .slice da c.d.length dc, .int .i64 c.n] ∧ CBox w4 b4 47 [.int .i64 0, .slice none 0 0, .int .i64 0, .int .i64 0]) := ⟨SL.own hO (by have := HLN.out; omega) (fun _ _ => trivial), N4.out.1.trans (hB.mono N4.out.1.size), N4.out.2.1.past hB, N4.out.2.2.1.past hB, N4.out.2.2.2.past hB⟩); (clear hO hB)) | (go_at_call 31; refine (PD.out _ _ _ N5.out.1).mono ?_; rintro e w5 ⟨⟨ta', tc', ca', cc', sa', sc', da', dc', rfl, hC⟩, hB⟩; (have N6 : Hid (Below w.heap.size w w5 ∧ CW (fun _ => True) w5 (.agg #[.slice ta c.ts.length tc, .slice ca c.cs.length cc, .slice sa c.ss.length sc, .slice da c.d.length dc, .int .i64 c.n]) c ∧ CBox w5 b3 28 [.slice ta c.ts.length tc, .slice ca c.cs.length cc, .slice sa c.ss.length sc, .slice da c.d.length dc, .int .i64 c.n] ∧ CBox w5 b4 47 [.int .i64 0, .slice none 0 0, .int .i64 0, .int .i64 0] ∧ CW (fun _ => True) w5 (.agg #[.slice ta' d.ts.length tc', .slice ca' d.cs.length cc', .slice sa' d.ss.length sc', .slice da' d.d.length dc', .int .i64 d.n]) d) := ⟨N5.out.2.1.trans (hB.mono N5.out.2.1.size), N5.out.2.2.1.past hB, N5.out.2.2.2.1.past hB, N5.out.2.2.2.2.past hB, hC.mono fun _ _ _ => trivial⟩); (clear hC hB)))
  have T2 := two_boxes w5 [.slice ta' d.ts.length tc', .slice ca' d.cs.length cc', .slice sa' d.ss.length sc', .slice da' d.d.length dc', .int .i64 d.n] [.int .i64 x2, .slice none 0 0, .int .i64 0, .int .i64 y2]
  have M7 : Hid (FmM b3 b4 w5.heap.size (w5.heap.size + 1) w ((w5.alloc (.cells #[.slice ta' d.ts.length tc', .slice ca' d.cs.length cc', .slice sa' d.ss.length sc', .slice da' d.d.length dc', .int .i64 d.n] 28)).alloc (.cells #[.int .i64 x2, .slice none 0 0, .int .i64 0, .int .i64 y2] 47)) [.slice ta c.ts.length tc, .slice ca c.cs.length cc, .slice sa c.ss.length sc, .slice da c.d.length dc, .int .i64 c.n] [.int .i64 0, .slice none 0 0, .int .i64 0, .int .i64 0] [.slice ta' d.ts.length tc', .slice ca' d.cs.length cc', .slice sa' d.ss.length sc', .slice da' d.d.length dc', .int .i64 d.n] [.int .i64 x2, .slice none 0 0, .int .i64 0, .int .i64 y2] c d) := ⟨N6.out.2.2.1.past T2.2.2, N6.out.2.2.2.1.past T2.2.2, T2.1, T2.2.1, N6.out.2.1.past T2.2.2, N6.out.2.2.2.2.past T2.2.2, N6.out.1.trans (T2.2.2.mono N6.out.1.size)⟩
  clear T2 N4 N5 N6 PD
  generalize w5.heap.size + 1 = b6 at M7 ⊢
  generalize w5.heap.size = b5 at M7 ⊢
  generalize (w5.alloc _).alloc _ = W5 at M7 ⊢
  have p0 : W5.cell? ⟨b4, 0, none⟩ = some (.int .i64 0) := M7.out.c4.cell 0
  have p1 : W5.cell? ⟨b4, 1, none⟩ = some (.slice none 0 0) := M7.out.c4.cell 1
  have p2 : W5.cell? ⟨b4, 2, none⟩ = some (.int .i64 0) := M7.out.c4.cell 2
  have p3 : W5.cell? ⟨b4, 3, none⟩ = some (.int .i64 0) := M7.out.c4.cell 3
  go_upto_region 8 with fail
  clear p0 p1 p2 p3
  have a0 : W5.cell? ⟨b3, 0, none⟩ = some (.slice ta c.ts.length tc) := M7.out.c3.cell 0
  have a1 : W5.cell? ⟨b3, 1, none⟩ = some (.slice ca c.cs.length cc) := M7.out.c3.cell 1
  have a2 : W5.cell? ⟨b3, 2, none⟩ = some (.slice sa c.ss.length sc) := M7.out.c3.cell 2
  have a3 : W5.cell? ⟨b3, 3, none⟩ = some (.slice da c.d.length dc) := M7.out.c3.cell 3
  have a4 : W5.cell? ⟨b3, 4, none⟩ = some (.int .i64 c.n) := M7.out.c3.cell 4
  go_upto_region 9 with (first | (go_at_call 19; refine (twin_is _ _ c M7.out.kc HSM.out).mono ?_; rintro e z1 ⟨v1, rfl, hD, hB⟩; (have N8 : Hid (FmM b3 b4 b5 b6 w z1 [.slice ta c.ts.length tc, .slice ca c.cs.length cc, .slice sa c.ss.length sc, .slice da c.d.length dc, .int .i64 c.n] [.int .i64 0, .slice none 0 0, .int .i64 0, .int .i64 0] [.slice ta' d.ts.length tc', .slice ca' d.cs.length cc', .slice sa' d.ss.length sc', .slice da' d.d.length dc', .int .i64 d.n] [.int .i64 x2, .slice none 0 0, .int .i64 0, .int .i64 y2] c d ∧ CW (fun _ => True) z1 v1 c) := ⟨M7.out.past hB, (hD.cw HSM.out).mono fun _ _ _ => trivial⟩); (clear hD hB)) | (go_at_call 35; refine (SE.out _ _ _ N8.out.2).mono ?_; rintro e z2 ⟨⟨oa, oc, rfl, hO⟩, hB⟩; (have M8 : Hid (FmM b3 b4 b5 b6 w z2 [.slice ta c.ts.length tc, .slice ca c.cs.length cc, .slice sa c.ss.length sc, .slice da c.d.length dc, .int .i64 c.n] [.int .i64 0, .slice none 0 0, .int .i64 0, .int .i64 0] [.slice ta' d.ts.length tc', .slice ca' d.cs.length cc', .slice sa' d.ss.length sc', .slice da' d.d.length dc', .int .i64 d.n] [.int .i64 x2, .slice none 0 0, .int .i64 0, .int .i64 y2] c d) := N8.out.1.past hB); (have SA : Hid (BL (fun _ => True) z2 (.slice oa b.length oc) b) := hO); (clear hO hB)))
  clear N8 M7 a0 a1 a2 a3 a4 SE
  have a0 : z2.cell? ⟨b3, 0, none⟩ = some (.slice ta c.ts.length tc) := M8.out.c3.cell 0
  have a1 : z2.cell? ⟨b3, 1, none⟩ = some (.slice ca c.cs.length cc) := M8.out.c3.cell 1
  have a2 : z2.cell? ⟨b3, 2, none⟩ = some (.slice sa c.ss.length sc) := M8.out.c3.cell 2
  have a3 : z2.cell? ⟨b3, 3, none⟩ = some (.slice da c.d.length dc) := M8.out.c3.cell 3
  have a4 : z2.cell? ⟨b3, 4, none⟩ = some (.int .i64 c.n) := M8.out.c3.cell 4
  go_upto_region 10 with (first | (go_at_call 19; refine (twin_is _ _ c M8.out.kc HSM.out).mono ?_; rintro e z3 ⟨v3, rfl, hD, hB⟩; (have N9 : Hid (FmM b3 b4 b5 b6 w z3 [.slice ta c.ts.length tc, .slice ca c.cs.length cc, .slice sa c.ss.length sc, .slice da c.d.length dc, .int .i64 c.n] [.int .i64 0, .slice none 0 0, .int .i64 0, .int .i64 0] [.slice ta' d.ts.length tc', .slice ca' d.cs.length cc', .slice sa' d.ss.length sc', .slice da' d.d.length dc', .int .i64 d.n] [.int .i64 x2, .slice none 0 0, .int .i64 0, .int .i64 y2] c d ∧ CW (fun _ => True) z3 v3 c) := ⟨M8.out.past hB, (hD.cw HSM.out).mono fun _ _ _ => trivial⟩); (have SZ3 : Hid (BL (fun _ => True) z3 (.slice oa b.length oc) b) := SA.out.past hB); (clear hD hB)) | (go_at_call 38; refine (SZ.out _ _ _ N9.out.2).mono ?_; rintro e z4 ⟨rfl, hB⟩; (have M9 : Hid (FmM b3 b4 b5 b6 w z4 [.slice ta c.ts.length tc, .slice ca c.cs.length cc, .slice sa c.ss.length sc, .slice da c.d.length dc, .int .i64 c.n] [.int .i64 0, .slice none 0 0, .int .i64 0, .int .i64 0] [.slice ta' d.ts.length tc', .slice ca' d.cs.length cc', .slice sa' d.ss.length sc', .slice da' d.d.length dc', .int .i64 d.n] [.int .i64 x2, .slice none 0 0, .int .i64 0, .int .i64 y2] c d) := N9.out.1.past hB); (have SB : Hid (BL (fun _ => True) z4 (.slice oa b.length oc) b) := SZ3.out.past hB); (clear hB)))
  clear N9 M8 SA SZ3 a0 a1 a2 a3 a4 SZ
  refine wp_region_lit ?_
  refine lst_val (v := .agg #[.slice ta c.ts.length tc, .slice ca c.cs.length cc, .slice sa c.ss.length sc, .slice da c.d.length dc, .int .i64 c.n]) (by kernel_rfl) ?_ ?_
  · (first | (have a9 := MB.out.c3) | (have a9 := MA.out.c3) | (have a9 := M9.out.c3)); have a0 := a9.cell 0; have a1 := a9.cell 1; have a2 := a9.cell 2; have a3 := a9.cell 3; have a4 := a9.cell 4
    go_simp
  simp only [Act.put, List.setIfInBounds_toArray, List.set_cons_zero, List.set_cons_succ]
  refine lst_call (by kernel_rfl) (by first | (go_simp; done) | (go_simp; first | exact rfl | exact ⟨rfl, rfl⟩ | exact ⟨rfl, rfl, rfl⟩)) (may_yes _ _ c M9.out.kc HMY.out) ?_
  rintro e y1 ⟨rfl, hB⟩
  refine ⟨_, rfl, ?_⟩
  have MA : Hid (FmM b3 b4 b5 b6 w y1 [.slice ta c.ts.length tc, .slice ca c.cs.length cc, .slice sa c.ss.length sc, .slice da c.d.length dc, .int .i64 c.n] [.int .i64 0, .slice none 0 0, .int .i64 0, .int .i64 0] [.slice ta' d.ts.length tc', .slice ca' d.cs.length cc', .slice sa' d.ss.length sc', .slice da' d.d.length dc', .int .i64 d.n] [.int .i64 x2, .slice none 0 0, .int .i64 0, .int .i64 y2] c d) := M9.out.past hB
  have SA := SB.out.past hB
  clear SB
  have SB : Hid _ := SA
  clear SA hB
  simp only [Act.put, List.setIfInBounds_toArray, List.set_cons_zero, List.set_cons_succ]
  refine lst_val (v := .bool false) (by kernel_rfl) ?_ ?_
  · go_simp
  simp only [Act.put, List.setIfInBounds_toArray, List.set_cons_zero, List.set_cons_succ]
  refine lst_val (v := .bool false) (by kernel_rfl) ?_ ?_
  · go_simp
  simp only [Act.put, List.setIfInBounds_toArray, List.set_cons_zero, List.set_cons_succ]
  refine lst_val (v := .int .i64 0) (by kernel_rfl) ?_ ?_
  · go_simp
  simp only [Act.put, List.setIfInBounds_toArray, List.set_cons_zero, List.set_cons_succ]
  refine lst_val (v := .bool false) (by kernel_rfl) ?_ ?_
  · go_simp
  simp only [Act.put, List.setIfInBounds_toArray, List.set_cons_zero, List.set_cons_succ]
  refine lst_val (v := .bool false) (by kernel_rfl) ?_ ?_
  · go_simp
  simp only [Act.put, List.setIfInBounds_toArray, List.set_cons_zero, List.set_cons_succ]
  refine lst_val (v := .bool false) (by kernel_rfl) ?_ ?_
  · go_simp
  simp only [Act.put, List.setIfInBounds_toArray, List.set_cons_zero, List.set_cons_succ]
  refine lst_val (v := .int .i64 0) (by kernel_rfl) ?_ ?_
  · go_simp
  simp only [Act.put, List.setIfInBounds_toArray, List.set_cons_zero, List.set_cons_succ]
  refine lst_val (v := .bool false) (by kernel_rfl) ?_ ?_
  · go_simp
  simp only [Act.put, List.setIfInBounds_toArray, List.set_cons_zero, List.set_cons_succ]
  refine lst_val (v := .bool false) (by kernel_rfl) ?_ ?_
  · go_simp
  simp only [Act.put, List.setIfInBounds_toArray, List.set_cons_zero, List.set_cons_succ]
  refine lst_val (v := .bool false) (by kernel_rfl) ?_ ?_
  · go_simp
  simp only [Act.put, List.setIfInBounds_toArray, List.set_cons_zero, List.set_cons_succ]
  refine lst_val (v := .int .i64 (b.length : Int)) (by kernel_rfl) ?_ ?_
  · go_simp
  simp only [Act.put, List.setIfInBounds_toArray, List.set_cons_zero, List.set_cons_succ]
  refine lst_val (v := .slice ad b.length cap) (by kernel_rfl) ?_ ?_
  · go_simp
  simp only [Act.put, List.setIfInBounds_toArray, List.set_cons_zero, List.set_cons_succ]
  refine lst_val (v := .int .i64 (b.length : Int)) (by kernel_rfl) ?_ ?_
  · go_simp
  simp only [Act.put, List.setIfInBounds_toArray, List.set_cons_zero, List.set_cons_succ]
  refine lst_val (v := .bool false) (by kernel_rfl) ?_ ?_
  · go_simp
  simp only [Act.put, List.setIfInBounds_toArray, List.set_cons_zero, List.set_cons_succ]
  refine lst_val (v := .bool false) (by kernel_rfl) ?_ ?_
  · go_simp
  simp only [Act.put, List.setIfInBounds_toArray, List.set_cons_zero, List.set_cons_succ]
  refine lst_val (v := .bool false) (by kernel_rfl) ?_ ?_
  · go_simp
  simp only [Act.put, List.setIfInBounds_toArray, List.set_cons_zero, List.set_cons_succ]
  refine lst_val (v := .slice oa b.length oc) (by kernel_rfl) ?_ ?_
  · go_simp
  simp only [Act.put, List.setIfInBounds_toArray, List.set_cons_zero, List.set_cons_succ]
  refine lst_val (v := .slice ad b.length cap) (by kernel_rfl) ?_ ?_
  · go_simp
  simp only [Act.put, List.setIfInBounds_toArray, List.set_cons_zero, List.set_cons_succ]
  refine lst_call (by kernel_rfl) (by first | (go_simp; done) | (go_simp; first | exact rfl | exact ⟨rfl, rfl⟩ | exact ⟨rfl, rfl, rfl⟩)) (sameB_is _ _ _ b SB.out (HV.out _ MA.out.bel)) ?_
  rintro e y2' ⟨rfl, hB⟩
  refine ⟨_, rfl, ?_⟩
  have MB : Hid (FmM b3 b4 b5 b6 w y2' [.slice ta c.ts.length tc, .slice ca c.cs.length cc, .slice sa c.ss.length sc, .slice da c.d.length dc, .int .i64 c.n] [.int .i64 0, .slice none 0 0, .int .i64 0, .int .i64 0] [.slice ta' d.ts.length tc', .slice ca' d.cs.length cc', .slice sa' d.ss.length sc', .slice da' d.d.length dc', .int .i64 d.n] [.int .i64 x2, .slice none 0 0, .int .i64 0, .int .i64 y2] c d) := MA.out.past hB
  clear hB
  simp only [Act.put, List.setIfInBounds_toArray, List.set_cons_zero, List.set_cons_succ]
  refine lst_val (v := .bool false) (by kernel_rfl) ?_ ?_
  · go_simp
  simp only [Act.put, List.setIfInBounds_toArray, List.set_cons_zero, List.set_cons_succ]
  refine lst_val (v := .bool false) (by kernel_rfl) ?_ ?_
  · go_simp
  simp only [Act.put, List.setIfInBounds_toArray, List.set_cons_zero, List.set_cons_succ]
  refine lst_val (v := .bool false) (by kernel_rfl) ?_ ?_
  · go_simp
  simp only [Act.put, List.setIfInBounds_toArray, List.set_cons_zero, List.set_cons_succ]
  refine lst_val (v := .agg #[.slice ta c.ts.length tc, .slice ca c.cs.length cc, .slice sa c.ss.length sc, .slice da c.d.length dc, .int .i64 c.n]) (by kernel_rfl) ?_ ?_
  · (first | (have a9 := MB.out.c3) | (have a9 := MA.out.c3) | (have a9 := M9.out.c3)); have a0 := a9.cell 0; have a1 := a9.cell 1; have a2 := a9.cell 2; have a3 := a9.cell 3; have a4 := a9.cell 4
    go_simp
  simp only [Act.put, List.setIfInBounds_toArray, List.set_cons_zero, List.set_cons_succ]
  refine lst_call (by kernel_rfl) (by first | (go_simp; done) | (go_simp; first | exact rfl | exact ⟨rfl, rfl⟩ | exact ⟨rfl, rfl, rfl⟩)) (twin_is _ _ c MB.out.kc HSM.out) ?_
  rintro e y3 ⟨v5, rfl, hD, hB⟩
  refine ⟨_, rfl, ?_⟩
  have MC : Hid (FmM b3 b4 b5 b6 w y3 [.slice ta c.ts.length tc, .slice ca c.cs.length cc, .slice sa c.ss.length sc, .slice da c.d.length dc, .int .i64 c.n] [.int .i64 0, .slice none 0 0, .int .i64 0, .int .i64 0] [.slice ta' d.ts.length tc', .slice ca' d.cs.length cc', .slice sa' d.ss.length sc', .slice da' d.d.length dc', .int .i64 d.n] [.int .i64 x2, .slice none 0 0, .int .i64 0, .int .i64 y2] c d ∧ CW (fun _ => True) y3 v5 c) := ⟨MB.out.past hB, (hD.cw HSM.out).mono fun _ _ _ => trivial⟩
  clear hD hB
  simp only [Act.put, List.setIfInBounds_toArray, List.set_cons_zero, List.set_cons_succ]
  refine lst_call (by kernel_rfl) (by first | (go_simp; done) | (go_simp; first | exact rfl | exact ⟨rfl, rfl⟩ | exact ⟨rfl, rfl, rfl⟩)) (CK.out _ _ _ MC.out.2) ?_
  rintro e y4 ⟨rfl, hB⟩
  refine ⟨_, rfl, ?_⟩
  have MD : Hid (FmM b3 b4 b5 b6 w y4 [.slice ta c.ts.length tc, .slice ca c.cs.length cc, .slice sa c.ss.length sc, .slice da c.d.length dc, .int .i64 c.n] [.int .i64 0, .slice none 0 0, .int .i64 0, .int .i64 0] [.slice ta' d.ts.length tc', .slice ca' d.cs.length cc', .slice sa' d.ss.length sc', .slice da' d.d.length dc', .int .i64 d.n] [.int .i64 x2, .slice none 0 0, .int .i64 0, .int .i64 y2] c d) := MC.out.1.past hB
  clear hB
  simp only [Act.put, List.setIfInBounds_toArray, List.set_cons_zero, List.set_cons_succ]
  refine lst_val (v := .bool false) (by kernel_rfl) ?_ ?_
  · go_simp
  simp only [Act.put, List.setIfInBounds_toArray, List.set_cons_zero, List.set_cons_succ]
  refine lst_val (v := .bool false) (by kernel_rfl) ?_ ?_
  · go_simp
  simp only [Act.put, List.setIfInBounds_toArray, List.set_cons_zero, List.set_cons_succ]
  refine wpList_nil ?_
  clear MA MB MC M9 SB CK
  go_upto_region 12 with fail
  have a3 : y4.cell? ⟨b3, 3, none⟩ = some (.slice da c.d.length dc) := MD.out.c3.cell 3
  have a4 : y4.cell? ⟨b3, 4, none⟩ = some (.int .i64 c.n) := MD.out.c3.cell 4
  by_cases e : (c.d.length : Int) = c.n
  · have q1 : ((c.d.length : Int) == c.n) = true := by simp [e]
    obtain ⟨e1, e2, e3⟩ := HDD.out.1 e
    (have e1 := e1.symm)
    subst e1 e2 e3
    clear e HDD
    go_upto_region 13 with fail
    clear a3 a4 q1
    refine wp_region_lit ?_
    refine lst_val (v := .pointer (some ⟨b6, 0, none⟩)) (by kernel_rfl) ?_ ?_
    · go_simp
    simp only [Act.put, List.setIfInBounds_toArray, List.set_cons_zero, List.set_cons_succ]
    refine lst_val (v := .int .i64 0) (by kernel_rfl) ?_ ?_
    · have a0 := MD.out.c6.cell 0
      go_simp
    simp only [Act.put, List.setIfInBounds_toArray, List.set_cons_zero, List.set_cons_succ]
    refine lst_val (v := .bool true) (by kernel_rfl) ?_ ?_
    · go_simp
    simp only [Act.put, List.setIfInBounds_toArray, List.set_cons_zero, List.set_cons_succ]
    refine lst_val (v := .bool true) (by kernel_rfl) ?_ ?_
    · go_simp
    simp only [Act.put, List.setIfInBounds_toArray, List.set_cons_zero, List.set_cons_succ]
    refine lst_val (v := .agg #[.slice ta c.ts.length tc, .slice ca c.cs.length cc, .slice sa c.ss.length sc, .slice da c.d.length dc, .int .i64 c.n]) (by kernel_rfl) ?_ ?_
    · have a0 := MD.out.c3.cell 0; have a1 := MD.out.c3.cell 1; have a2 := MD.out.c3.cell 2; have a3 := MD.out.c3.cell 3; have a4 := MD.out.c3.cell 4
      go_simp
    simp only [Act.put, List.setIfInBounds_toArray, List.set_cons_zero, List.set_cons_succ]
    refine lst_val (v := .agg #[.slice ta' c.ts.length tc', .slice ca' c.cs.length cc', .slice sa' c.ss.length sc', .slice da' c.d.length dc', .int .i64 c.n]) (by kernel_rfl) ?_ ?_
    · have a0 := MD.out.c5.cell 0; have a1 := MD.out.c5.cell 1; have a2 := MD.out.c5.cell 2; have a3 := MD.out.c5.cell 3; have a4 := MD.out.c5.cell 4
      go_simp
    simp only [Act.put, List.setIfInBounds_toArray, List.set_cons_zero, List.set_cons_succ]
    refine lst_call (by kernel_rfl) (by first | (go_simp; done) | (go_simp; first | exact rfl | exact ⟨rfl, rfl⟩ | exact ⟨rfl, rfl, rfl⟩)) (same_is _ _ _ c MD.out.kc MD.out.kd) ?_
    rintro e y5 ⟨rfl, hB⟩
    refine ⟨_, rfl, ?_⟩
    have B9 : Hid (Below w.heap.size w y5) := MD.out.bel.trans (hB.mono MD.out.bel.size)
    clear hB
    simp only [Act.put, List.setIfInBounds_toArray, List.set_cons_zero, List.set_cons_succ]
    refine lst_val (v := .bool true) (by kernel_rfl) ?_ ?_
    · go_simp
    simp only [Act.put, List.setIfInBounds_toArray, List.set_cons_zero, List.set_cons_succ]
    refine lst_val (v := .bool true) (by kernel_rfl) ?_ ?_
    · go_simp
    simp only [Act.put, List.setIfInBounds_toArray, List.set_cons_zero, List.set_cons_succ]
    refine wpList_nil ?_
    go_wp2
    go_ret
    exact ⟨rfl, B9.out⟩
  · have q1 : ((c.d.length : Int) == c.n) = false := by simp [e]
    obtain ⟨e2, e3⟩ := HDD.out.2 e
    subst e2 e3
    clear e HDD
    go_upto_region 14 with fail
    clear a3 a4 q1
    refine wp_region_lit ?_
    refine lst_val (v := .pointer (some ⟨b6, 0, none⟩)) (by kernel_rfl) ?_ ?_
    · go_simp
    simp only [Act.put, List.setIfInBounds_toArray, List.set_cons_zero, List.set_cons_succ]
    refine lst_val (v := .int .i64 50) (by kernel_rfl) ?_ ?_
    · have a0 := MD.out.c6.cell 0
      go_simp
    simp only [Act.put, List.setIfInBounds_toArray, List.set_cons_zero, List.set_cons_succ]
    refine lst_val (v := .bool true) (by kernel_rfl) ?_ ?_
    · go_simp
    simp only [Act.put, List.setIfInBounds_toArray, List.set_cons_zero, List.set_cons_succ]
    refine lst_val (v := .bool true) (by kernel_rfl) ?_ ?_
    · go_simp
    simp only [Act.put, List.setIfInBounds_toArray, List.set_cons_zero, List.set_cons_succ]
    refine lst_val (v := .pointer (some ⟨b6, 3, none⟩)) (by kernel_rfl) ?_ ?_
    · go_simp
    simp only [Act.put, List.setIfInBounds_toArray, List.set_cons_zero, List.set_cons_succ]
    refine lst_val (v := .int .i64 (b.length : Int)) (by kernel_rfl) ?_ ?_
    · have a0 := MD.out.c6.cell 3
      go_simp
    simp only [Act.put, List.setIfInBounds_toArray, List.set_cons_zero, List.set_cons_succ]
    refine lst_val (v := .slice ad b.length cap) (by kernel_rfl) ?_ ?_
    · go_simp
    simp only [Act.put, List.setIfInBounds_toArray, List.set_cons_zero, List.set_cons_succ]
    refine lst_val (v := .int .i64 (b.length : Int)) (by kernel_rfl) ?_ ?_
    · go_simp
    simp only [Act.put, List.setIfInBounds_toArray, List.set_cons_zero, List.set_cons_succ]
    refine lst_val (v := .bool true) (by kernel_rfl) ?_ ?_
    · go_simp
    simp only [Act.put, List.setIfInBounds_toArray, List.set_cons_zero, List.set_cons_succ]
    refine lst_val (v := .bool true) (by kernel_rfl) ?_ ?_
    · go_simp
    simp only [Act.put, List.setIfInBounds_toArray, List.set_cons_zero, List.set_cons_succ]
    refine lst_val (v := .bool true) (by kernel_rfl) ?_ ?_
    · go_simp
    simp only [Act.put, List.setIfInBounds_toArray, List.set_cons_zero, List.set_cons_succ]
    refine wpList_nil ?_
    go_wp2
    go_ret
    exact ⟨rfl, MD.out.bel⟩
set_option maxHeartbeats 8000000 in
set_option maxRecDepth 100000 in
theorem form_er (w : World) (ad : Option Addr) (cap : Nat) (b : List Nat) (x y x2 y2 : Int) (h : BL (fun _ => True) w (.slice ad b.length cap) b) (hl : b.length ≤ 2097152) (PA : Hid (∀ (W : World) (R : Nat → Prop) (u : Value), BL R W u b → Calls Try.prog 31 #[u, .bool true] W fun e w' => (∃ ta tc ca cc sa sc da dc, e = .returned (.tuple #[.agg #[.slice ta con0.ts.length tc, .slice ca con0.cs.length cc, .slice sa con0.ss.length sc, .slice da con0.d.length dc, .int .i64 con0.n], .agg #[.int .i64 x, .slice none 0 0, .int .i64 0, .int .i64 y]]) ∧ CW (fun k => W.heap.size ≤ k) w' (.agg #[.slice ta con0.ts.length tc, .slice ca con0.cs.length cc, .slice sa con0.ss.length sc, .slice da con0.d.length dc, .int .i64 con0.n]) con0) ∧ Below W.heap.size W w')) (PD : Hid (∀ (W : World) (R : Nat → Prop) (u : Value), BL R W u b → Calls Try.prog 31 #[u, .bool false] W fun e w' => (∃ ta tc ca cc sa sc da dc, e = .returned (.tuple #[.agg #[.slice ta con0.ts.length tc, .slice ca con0.cs.length cc, .slice sa con0.ss.length sc, .slice da con0.d.length dc, .int .i64 con0.n], .agg #[.int .i64 x2, .slice none 0 0, .int .i64 0, .int .i64 y2]]) ∧ CW (fun k => W.heap.size ≤ k) w' (.agg #[.slice ta con0.ts.length tc, .slice ca con0.cs.length cc, .slice sa con0.ss.length sc, .slice da con0.d.length dc, .int .i64 con0.n]) con0) ∧ Below W.heap.size W w')) (hx : 0 < x) (hx2 : 0 < x2) (hy : 0 ≤ y ∧ y ≤ (b.length : Int)) (hy2 : 0 ≤ y2 ∧ y2 ≤ (b.length : Int)) : Calls Try.prog 9 #[.slice ad b.length cap] w fun e w' => e = .returned (.bool true) ∧ Below w.heap.size w w' := by
  have k1 : (x == 0) = false := by simp; omega
  have k2 : (x2 == 0) = false := by simp; omega
  have k3 : ¬ y < 0 := by omega
  have k4 : ¬ (b.length : Int) < y := by omega
  have k5 : ¬ y2 < 0 := by omega
  have k6 : ¬ (b.length : Int) < y2 := by omega
  clear hx hx2 hy hy2
  have q1 : ¬ (2097152 : Int) < (b.length : Int) := by omega
  have nI : (b.length : Int) ≤ 2097152 := by omega
  have HLN : Hid (b.length ≤ 2097152) := hl
  have HV : Hid (∀ W, Below w.heap.size w W → BL (fun _ => True) W (.slice ad b.length cap) b) := fun W hW => h.past hW
  clear h hl
  go_enter Try.func9, Try.ntmps9
  go_upto_region 5 with (go_at_call 16; refine (able_is _).mono ?_; rintro e w1 ⟨rfl, hB⟩; (have B1 : Hid (Below w.heap.size w w1) := hB); (clear hB))
  go_upto_region 6 with (first | (go_at_call 32; refine (own_is _ _ b (HV.out _ B1.out) (by have := HLN.out; omega)).mono ?_; rintro e w2 ⟨v9, rfl, hO, hB⟩; (have N2 : Hid (BL (fun _ => True) w2 v9 b ∧ Below w.heap.size w w2) := ⟨SL.own hO (by have := HLN.out; omega) (fun _ _ => trivial), B1.out.trans (hB.mono B1.out.size)⟩); (clear hO hB)) | (go_at_call 31; refine (PA.out _ _ _ N2.out.1).mono ?_; rintro e w3 ⟨⟨ta, tc, ca, cc, sa, sc, da, dc, rfl, hC⟩, hB⟩; (have N3 : Hid (Below w.heap.size w w3 ∧ CW (fun _ => True) w3 (.agg #[.slice ta con0.ts.length tc, .slice ca con0.cs.length cc, .slice sa con0.ss.length sc, .slice da con0.d.length dc, .int .i64 con0.n]) con0) := ⟨N2.out.2.trans (hB.mono N2.out.2.size), hC.mono fun _ _ _ => trivial⟩); (clear hC hB)))
  have T2 := two_boxes w3 [.slice ta con0.ts.length tc, .slice ca con0.cs.length cc, .slice sa con0.ss.length sc, .slice da con0.d.length dc, .int .i64 con0.n] [.int .i64 x, .slice none 0 0, .int .i64 0, .int .i64 y]
  have N4 : Hid (Below w.heap.size w ((w3.alloc (.cells #[.slice ta con0.ts.length tc, .slice ca con0.cs.length cc, .slice sa con0.ss.length sc, .slice da con0.d.length dc, .int .i64 con0.n] 28)).alloc (.cells #[.int .i64 x, .slice none 0 0, .int .i64 0, .int .i64 y] 47)) ∧ CW (fun _ => True) ((w3.alloc (.cells #[.slice ta con0.ts.length tc, .slice ca con0.cs.length cc, .slice sa con0.ss.length sc, .slice da con0.d.length dc, .int .i64 con0.n] 28)).alloc (.cells #[.int .i64 x, .slice none 0 0, .int .i64 0, .int .i64 y] 47)) (.agg #[.slice ta con0.ts.length tc, .slice ca con0.cs.length cc, .slice sa con0.ss.length sc, .slice da con0.d.length dc, .int .i64 con0.n]) con0 ∧ CBox ((w3.alloc (.cells #[.slice ta con0.ts.length tc, .slice ca con0.cs.length cc, .slice sa con0.ss.length sc, .slice da con0.d.length dc, .int .i64 con0.n] 28)).alloc (.cells #[.int .i64 x, .slice none 0 0, .int .i64 0, .int .i64 y] 47)) w3.heap.size 28 [.slice ta con0.ts.length tc, .slice ca con0.cs.length cc, .slice sa con0.ss.length sc, .slice da con0.d.length dc, .int .i64 con0.n] ∧ CBox ((w3.alloc (.cells #[.slice ta con0.ts.length tc, .slice ca con0.cs.length cc, .slice sa con0.ss.length sc, .slice da con0.d.length dc, .int .i64 con0.n] 28)).alloc (.cells #[.int .i64 x, .slice none 0 0, .int .i64 0, .int .i64 y] 47)) (w3.heap.size + 1) 47 [.int .i64 x, .slice none 0 0, .int .i64 0, .int .i64 y]) := ⟨N3.out.1.trans (T2.2.2.mono N3.out.1.size), N3.out.2.past T2.2.2, T2.1, T2.2.1⟩
  clear T2 N2 N3 PA B1 q1
  generalize w3.heap.size + 1 = b4 at N4 ⊢
  generalize w3.heap.size = b3 at N4 ⊢
  generalize (w3.alloc _).alloc _ = W3 at N4 ⊢
  go_upto_region 7 with (first | (go_at_call 32; refine (own_is _ _ b (HV.out _ N4.out.1) (by have := HLN.out; omega)).mono ?_; rintro e w4 ⟨v8, rfl, hO, hB⟩; (have N5 : Hid (BL (fun _ => True) w4 v8 b ∧ Below w.heap.size w w4 ∧ CW (fun _ => True) w4 (.agg #[.slice ta con0.ts.length tc, .slice ca con0.cs.length cc, .slice sa con0.ss.length sc, .slice da con0.d.length dc, .int .i64 con0.n]) con0 ∧ CBox w4 b3 28 [.slice ta con0.ts.length tc, .slice ca con0.cs.length cc, .slice sa con0.ss.length sc, .slice da con0.d.length dc, .int .i64 con0.n] ∧ CBox w4 b4 47 [.int .i64 x, .slice none 0 0, .int .i64 0, .int .i64 y]) := ⟨SL.own hO (by have := HLN.out; omega) (fun _ _ => trivial), N4.out.1.trans (hB.mono N4.out.1.size), N4.out.2.1.past hB, N4.out.2.2.1.past hB, N4.out.2.2.2.past hB⟩); (clear hO hB)) | (go_at_call 31; refine (PD.out _ _ _ N5.out.1).mono ?_; rintro e w5 ⟨⟨ta', tc', ca', cc', sa', sc', da', dc', rfl, hC⟩, hB⟩; (have N6 : Hid (Below w.heap.size w w5 ∧ CW (fun _ => True) w5 (.agg #[.slice ta con0.ts.length tc, .slice ca con0.cs.length cc, .slice sa con0.ss.length sc, .slice da con0.d.length dc, .int .i64 con0.n]) con0 ∧ CBox w5 b3 28 [.slice ta con0.ts.length tc, .slice ca con0.cs.length cc, .slice sa con0.ss.length sc, .slice da con0.d.length dc, .int .i64 con0.n] ∧ CBox w5 b4 47 [.int .i64 x, .slice none 0 0, .int .i64 0, .int .i64 y] ∧ CW (fun _ => True) w5 (.agg #[.slice ta' con0.ts.length tc', .slice ca' con0.cs.length cc', .slice sa' con0.ss.length sc', .slice da' con0.d.length dc', .int .i64 con0.n]) con0) := ⟨N5.out.2.1.trans (hB.mono N5.out.2.1.size), N5.out.2.2.1.past hB, N5.out.2.2.2.1.past hB, N5.out.2.2.2.2.past hB, hC.mono fun _ _ _ => trivial⟩); (clear hC hB)))
  have T2 := two_boxes w5 [.slice ta' con0.ts.length tc', .slice ca' con0.cs.length cc', .slice sa' con0.ss.length sc', .slice da' con0.d.length dc', .int .i64 con0.n] [.int .i64 x2, .slice none 0 0, .int .i64 0, .int .i64 y2]
  have M7 : Hid (FmM b3 b4 w5.heap.size (w5.heap.size + 1) w ((w5.alloc (.cells #[.slice ta' con0.ts.length tc', .slice ca' con0.cs.length cc', .slice sa' con0.ss.length sc', .slice da' con0.d.length dc', .int .i64 con0.n] 28)).alloc (.cells #[.int .i64 x2, .slice none 0 0, .int .i64 0, .int .i64 y2] 47)) [.slice ta con0.ts.length tc, .slice ca con0.cs.length cc, .slice sa con0.ss.length sc, .slice da con0.d.length dc, .int .i64 con0.n] [.int .i64 x, .slice none 0 0, .int .i64 0, .int .i64 y] [.slice ta' con0.ts.length tc', .slice ca' con0.cs.length cc', .slice sa' con0.ss.length sc', .slice da' con0.d.length dc', .int .i64 con0.n] [.int .i64 x2, .slice none 0 0, .int .i64 0, .int .i64 y2] con0 con0) := ⟨N6.out.2.2.1.past T2.2.2, N6.out.2.2.2.1.past T2.2.2, T2.1, T2.2.1, N6.out.2.1.past T2.2.2, N6.out.2.2.2.2.past T2.2.2, N6.out.1.trans (T2.2.2.mono N6.out.1.size)⟩
  clear T2 N4 N5 N6 PD
  generalize w5.heap.size + 1 = b6 at M7 ⊢
  generalize w5.heap.size = b5 at M7 ⊢
  generalize (w5.alloc _).alloc _ = W5 at M7 ⊢
  have p0 : W5.cell? ⟨b4, 0, none⟩ = some (.int .i64 x) := M7.out.c4.cell 0
  have p1 : W5.cell? ⟨b4, 1, none⟩ = some (.slice none 0 0) := M7.out.c4.cell 1
  have p2 : W5.cell? ⟨b4, 2, none⟩ = some (.int .i64 0) := M7.out.c4.cell 2
  have p3 : W5.cell? ⟨b4, 3, none⟩ = some (.int .i64 y) := M7.out.c4.cell 3
  go_upto_region 15 with fail
  clear p0 p1 p2 p3
  refine wp_region_lit ?_
  refine lst_val (v := .pointer (some ⟨b6, 0, none⟩)) (by kernel_rfl) ?_ ?_
  · go_simp
  simp only [Act.put, List.setIfInBounds_toArray, List.set_cons_zero, List.set_cons_succ]
  refine lst_val (v := .int .i64 x2) (by kernel_rfl) ?_ ?_
  · have a0 := M7.out.c6.cell 0
    go_simp
  simp only [Act.put, List.setIfInBounds_toArray, List.set_cons_zero, List.set_cons_succ]
  refine lst_val (v := .bool false) (by kernel_rfl) ?_ ?_
  · go_simp
  simp only [Act.put, List.setIfInBounds_toArray, List.set_cons_zero, List.set_cons_succ]
  refine lst_val (v := .bool false) (by kernel_rfl) ?_ ?_
  · go_simp
  simp only [Act.put, List.setIfInBounds_toArray, List.set_cons_zero, List.set_cons_succ]
  refine lst_val (v := .pointer (some ⟨b4, 3, none⟩)) (by kernel_rfl) ?_ ?_
  · go_simp
  simp only [Act.put, List.setIfInBounds_toArray, List.set_cons_zero, List.set_cons_succ]
  refine lst_val (v := .int .i64 y) (by kernel_rfl) ?_ ?_
  · have a0 := M7.out.c4.cell 3
    go_simp
  simp only [Act.put, List.setIfInBounds_toArray, List.set_cons_zero, List.set_cons_succ]
  refine lst_val (v := .bool false) (by kernel_rfl) ?_ ?_
  · go_simp
  simp only [Act.put, List.setIfInBounds_toArray, List.set_cons_zero, List.set_cons_succ]
  refine lst_val (v := .bool false) (by kernel_rfl) ?_ ?_
  · go_simp
  simp only [Act.put, List.setIfInBounds_toArray, List.set_cons_zero, List.set_cons_succ]
  refine lst_val (v := .bool false) (by kernel_rfl) ?_ ?_
  · go_simp
  simp only [Act.put, List.setIfInBounds_toArray, List.set_cons_zero, List.set_cons_succ]
  refine lst_val (v := .pointer (some ⟨b4, 3, none⟩)) (by kernel_rfl) ?_ ?_
  · go_simp
  simp only [Act.put, List.setIfInBounds_toArray, List.set_cons_zero, List.set_cons_succ]
  refine lst_val (v := .int .i64 y) (by kernel_rfl) ?_ ?_
  · have a0 := M7.out.c4.cell 3
    go_simp
  simp only [Act.put, List.setIfInBounds_toArray, List.set_cons_zero, List.set_cons_succ]
  refine lst_val (v := .slice ad b.length cap) (by kernel_rfl) ?_ ?_
  · go_simp
  simp only [Act.put, List.setIfInBounds_toArray, List.set_cons_zero, List.set_cons_succ]
  refine lst_val (v := .int .i64 (b.length : Int)) (by kernel_rfl) ?_ ?_
  · go_simp
  simp only [Act.put, List.setIfInBounds_toArray, List.set_cons_zero, List.set_cons_succ]
  refine lst_val (v := .bool false) (by kernel_rfl) ?_ ?_
  · go_simp
  simp only [Act.put, List.setIfInBounds_toArray, List.set_cons_zero, List.set_cons_succ]
  refine lst_val (v := .bool false) (by kernel_rfl) ?_ ?_
  · go_simp
  simp only [Act.put, List.setIfInBounds_toArray, List.set_cons_zero, List.set_cons_succ]
  refine lst_val (v := .bool false) (by kernel_rfl) ?_ ?_
  · go_simp
  simp only [Act.put, List.setIfInBounds_toArray, List.set_cons_zero, List.set_cons_succ]
  refine lst_val (v := .pointer (some ⟨b6, 3, none⟩)) (by kernel_rfl) ?_ ?_
  · go_simp
  simp only [Act.put, List.setIfInBounds_toArray, List.set_cons_zero, List.set_cons_succ]
  refine lst_val (v := .int .i64 y2) (by kernel_rfl) ?_ ?_
  · have a0 := M7.out.c6.cell 3
    go_simp
  simp only [Act.put, List.setIfInBounds_toArray, List.set_cons_zero, List.set_cons_succ]
  refine lst_val (v := .bool false) (by kernel_rfl) ?_ ?_
  · go_simp
  simp only [Act.put, List.setIfInBounds_toArray, List.set_cons_zero, List.set_cons_succ]
  refine lst_val (v := .bool false) (by kernel_rfl) ?_ ?_
  · go_simp
  simp only [Act.put, List.setIfInBounds_toArray, List.set_cons_zero, List.set_cons_succ]
  refine lst_val (v := .bool false) (by kernel_rfl) ?_ ?_
  · go_simp
  simp only [Act.put, List.setIfInBounds_toArray, List.set_cons_zero, List.set_cons_succ]
  refine lst_val (v := .pointer (some ⟨b6, 3, none⟩)) (by kernel_rfl) ?_ ?_
  · go_simp
  simp only [Act.put, List.setIfInBounds_toArray, List.set_cons_zero, List.set_cons_succ]
  refine lst_val (v := .int .i64 y2) (by kernel_rfl) ?_ ?_
  · have a0 := M7.out.c6.cell 3
    go_simp
  simp only [Act.put, List.setIfInBounds_toArray, List.set_cons_zero, List.set_cons_succ]
  refine lst_val (v := .slice ad b.length cap) (by kernel_rfl) ?_ ?_
  · go_simp
  simp only [Act.put, List.setIfInBounds_toArray, List.set_cons_zero, List.set_cons_succ]
  refine lst_val (v := .int .i64 (b.length : Int)) (by kernel_rfl) ?_ ?_
  · go_simp
  simp only [Act.put, List.setIfInBounds_toArray, List.set_cons_zero, List.set_cons_succ]
  refine lst_val (v := .bool false) (by kernel_rfl) ?_ ?_
  · go_simp
  simp only [Act.put, List.setIfInBounds_toArray, List.set_cons_zero, List.set_cons_succ]
  refine lst_val (v := .bool false) (by kernel_rfl) ?_ ?_
  · go_simp
  simp only [Act.put, List.setIfInBounds_toArray, List.set_cons_zero, List.set_cons_succ]
  refine lst_val (v := .bool false) (by kernel_rfl) ?_ ?_
  · go_simp
  simp only [Act.put, List.setIfInBounds_toArray, List.set_cons_zero, List.set_cons_succ]
  refine lst_val (v := .pointer (some ⟨b4, 2, none⟩)) (by kernel_rfl) ?_ ?_
  · go_simp
  simp only [Act.put, List.setIfInBounds_toArray, List.set_cons_zero, List.set_cons_succ]
  refine lst_val (v := .int .i64 0) (by kernel_rfl) ?_ ?_
  · have a0 := M7.out.c4.cell 2
    go_simp
  simp only [Act.put, List.setIfInBounds_toArray, List.set_cons_zero, List.set_cons_succ]
  refine lst_val (v := .bool false) (by kernel_rfl) ?_ ?_
  · go_simp
  simp only [Act.put, List.setIfInBounds_toArray, List.set_cons_zero, List.set_cons_succ]
  refine lst_val (v := .bool false) (by kernel_rfl) ?_ ?_
  · go_simp
  simp only [Act.put, List.setIfInBounds_toArray, List.set_cons_zero, List.set_cons_succ]
  refine lst_val (v := .bool false) (by kernel_rfl) ?_ ?_
  · go_simp
  simp only [Act.put, List.setIfInBounds_toArray, List.set_cons_zero, List.set_cons_succ]
  refine lst_val (v := .pointer (some ⟨b4, 1, none⟩)) (by kernel_rfl) ?_ ?_
  · go_simp
  simp only [Act.put, List.setIfInBounds_toArray, List.set_cons_zero, List.set_cons_succ]
  refine lst_val (v := .slice none 0 0) (by kernel_rfl) ?_ ?_
  · have a0 := M7.out.c4.cell 1
    go_simp
  simp only [Act.put, List.setIfInBounds_toArray, List.set_cons_zero, List.set_cons_succ]
  refine lst_val (v := .int .i64 0) (by kernel_rfl) ?_ ?_
  · go_simp
  simp only [Act.put, List.setIfInBounds_toArray, List.set_cons_zero, List.set_cons_succ]
  refine lst_val (v := .bool false) (by kernel_rfl) ?_ ?_
  · go_simp
  simp only [Act.put, List.setIfInBounds_toArray, List.set_cons_zero, List.set_cons_succ]
  refine lst_val (v := .bool false) (by kernel_rfl) ?_ ?_
  · go_simp
  simp only [Act.put, List.setIfInBounds_toArray, List.set_cons_zero, List.set_cons_succ]
  refine wpList_nil ?_
  clear k1 k2 k3 k4 k5 k6
  go_upto_region 17 with fail
  refine wp_region_lit ?_
  refine lst_val (v := .agg #[.slice ta con0.ts.length tc, .slice ca con0.cs.length cc, .slice sa con0.ss.length sc, .slice da con0.d.length dc, .int .i64 con0.n]) (by kernel_rfl) ?_ ?_
  · have a0 := M7.out.c3.cell 0; have a1 := M7.out.c3.cell 1; have a2 := M7.out.c3.cell 2; have a3 := M7.out.c3.cell 3; have a4 := M7.out.c3.cell 4
    go_simp
  simp only [Act.put, List.setIfInBounds_toArray, List.set_cons_zero, List.set_cons_succ]
  refine lst_val (v := .agg #[.slice none 0 0, .slice none 0 0, .slice none 0 0, .slice none 0 0, .int .i64 0]) (by kernel_rfl) ?_ ?_
  · go_simp
  simp only [Act.put, List.setIfInBounds_toArray, List.set_cons_zero, List.set_cons_succ]
  refine lst_call (by kernel_rfl) (by first | (go_simp; done) | (go_simp; first | exact rfl | exact ⟨rfl, rfl⟩ | exact ⟨rfl, rfl, rfl⟩)) (same_is _ _ _ con0 M7.out.kc (CW.zero (fun _ => True) _)) ?_
  rintro e y5 ⟨rfl, hB⟩
  refine ⟨_, rfl, ?_⟩
  have M8 : Hid (FmM b3 b4 b5 b6 w y5 [.slice ta con0.ts.length tc, .slice ca con0.cs.length cc, .slice sa con0.ss.length sc, .slice da con0.d.length dc, .int .i64 con0.n] [.int .i64 x, .slice none 0 0, .int .i64 0, .int .i64 y] [.slice ta' con0.ts.length tc', .slice ca' con0.cs.length cc', .slice sa' con0.ss.length sc', .slice da' con0.d.length dc', .int .i64 con0.n] [.int .i64 x2, .slice none 0 0, .int .i64 0, .int .i64 y2] con0 con0) := M7.out.past hB
  clear hB
  simp only [Act.put, List.setIfInBounds_toArray, List.set_cons_zero, List.set_cons_succ]
  refine lst_val (v := .bool true) (by kernel_rfl) ?_ ?_
  · go_simp
  simp only [Act.put, List.setIfInBounds_toArray, List.set_cons_zero, List.set_cons_succ]
  refine lst_val (v := .agg #[.slice ta' con0.ts.length tc', .slice ca' con0.cs.length cc', .slice sa' con0.ss.length sc', .slice da' con0.d.length dc', .int .i64 con0.n]) (by kernel_rfl) ?_ ?_
  · have a0 := M8.out.c5.cell 0; have a1 := M8.out.c5.cell 1; have a2 := M8.out.c5.cell 2; have a3 := M8.out.c5.cell 3; have a4 := M8.out.c5.cell 4
    go_simp
  simp only [Act.put, List.setIfInBounds_toArray, List.set_cons_zero, List.set_cons_succ]
  refine lst_val (v := .agg #[.slice none 0 0, .slice none 0 0, .slice none 0 0, .slice none 0 0, .int .i64 0]) (by kernel_rfl) ?_ ?_
  · go_simp
  simp only [Act.put, List.setIfInBounds_toArray, List.set_cons_zero, List.set_cons_succ]
  refine lst_call (by kernel_rfl) (by first | (go_simp; done) | (go_simp; first | exact rfl | exact ⟨rfl, rfl⟩ | exact ⟨rfl, rfl, rfl⟩)) (same_is _ _ _ con0 M8.out.kd (CW.zero (fun _ => True) _)) ?_
  rintro e y6 ⟨rfl, hB⟩
  refine ⟨_, rfl, ?_⟩
  have B9 : Hid (Below w.heap.size w y6) := M8.out.bel.trans (hB.mono M8.out.bel.size)
  clear hB
  simp only [Act.put, List.setIfInBounds_toArray, List.set_cons_zero, List.set_cons_succ]
  refine lst_val (v := .bool true) (by kernel_rfl) ?_ ?_
  · go_simp
  simp only [Act.put, List.setIfInBounds_toArray, List.set_cons_zero, List.set_cons_succ]
  refine lst_val (v := .bool true) (by kernel_rfl) ?_ ?_
  · go_simp
  simp only [Act.put, List.setIfInBounds_toArray, List.set_cons_zero, List.set_cons_succ]
  refine wpList_nil ?_
  go_wp2
  go_ret
  exact ⟨rfl, B9.out⟩
set_option maxHeartbeats 8000000 in
set_option maxRecDepth 100000 in
theorem containerForm_walk (w : World) (v : Value) (b : List Nat) (h : BL (fun _ => True) w v b) (hb : Byt b) (hl : b.length ≤ 140737488355328) : Calls Try.prog 9 #[v] w fun e w' => e = .returned (.bool true) ∧ Below w.heap.size w w' := by
  obtain ⟨ad, cap, rfl, _, _⟩ := h.len
  by_cases e : b.length ≤ 2097152
  · have A : ∀ o r, prs b o = r → (∀ (W : World) (R : Nat → Prop) (u : Value), BL R W u b → Calls Try.prog 31 #[u, .bool o] W fun e w' => Ans W.heap.size (conOf r) (rjOf r).1 (rjOf r).2 e w' ∧ Below W.heap.size W w') := fun o r hr W R u q => by
      have t := parse_ans W u b o q hb (by omega)
      rw [hr] at t
      exact t
    cases h1 : prs b true with
    | ok c =>
      have hp := prs_ok hb h1
      by_cases en : (c.d.length : Int) = c.n
      · exact form_ok w ad cap b c c 0 0 h e (A _ _ h1) (A _ _ (prs_whole hb h1 en)) hp.1 (prs_total hb h1 e) hp.2.1 ⟨fun _ => ⟨rfl, rfl, rfl⟩, fun q => absurd en q⟩
      · exact form_ok w ad cap b c con0 50 (b.length : Int) h e (A _ _ h1) (A _ _ (prs_short h1 en)) hp.1 (prs_total hb h1 e) hp.2.1 ⟨fun q => absurd q en, fun _ => ⟨rfl, rfl⟩⟩
    | error er =>
      obtain ⟨ec, ea⟩ := er
      cases h2 : prs b false with
      | ok c =>
        have := prs_opens hb h2
        rw [h1] at this
        cases this
      | error er2 =>
        obtain ⟨ec2, ea2⟩ := er2
        have g1 := gd_prs b true ec ea h1
        have g2 := gd_prs b false ec2 ea2 h2
        exact form_er w ad cap b ec ea ec2 ea2 h e (A _ _ h1) (A _ _ h2) (by omega) (by omega) (by omega) (by omega)
  · have q1 : (2097152 : Int) < (b.length : Int) := by omega
    clear e h
    go_enter Try.func9, Try.ntmps9
    go_wp2
    go_ret
    exact ⟨rfl, Below.refl _ _⟩
end Go.Proofs.Ytndhabhlajldeaa
