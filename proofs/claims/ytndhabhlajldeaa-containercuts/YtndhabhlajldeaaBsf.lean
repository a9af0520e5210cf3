/- The laws' read: Parse, as the document says. -/
import Derived.Test.YtndhabhlajldeaaBseM
namespace Go.Proofs.Ytndhabhlajldeaa
open Go.RowKit
/-- two boxes, a container and a refusal -/
theorem two_boxes (W : World) (L4 L5 : List Value) : CBox ((W.alloc (.cells L4.toArray 28)).alloc (.cells L5.toArray 47)) W.heap.size 28 L4 ∧ CBox ((W.alloc (.cells L4.toArray 28)).alloc (.cells L5.toArray 47)) (W.heap.size + 1) 47 L5 ∧ Below W.heap.size W ((W.alloc (.cells L4.toArray 28)).alloc (.cells L5.toArray 47)) := by
  have b1 := below_alloc W (.cells L4.toArray 28)
  have b2 := below_alloc (W.alloc (.cells L4.toArray 28)) (.cells L5.toArray 47)
  have s1 : (W.alloc (.cells L4.toArray 28)).heap.size = W.heap.size + 1 := by simp
  have c2 := CBox.new (W.alloc (.cells L4.toArray 28)) 47 L5
  rw [s1] at c2
  exact ⟨(CBox.new W _ L4).past b2, c2, b1.trans (b2.mono (by omega))⟩
/-- in the midst of read -/
structure RdM (bw g b6 b7 b8 b9 : Nat) (w W : World) (L6 L8 R7 ww : List Value) (c : Con) : Prop where
  cb : CBox W g 5 ww
  c6 : CBox W b6 28 L6
  c7 : CBox W b7 47 R7
  c8 : CBox W b8 28 L8
  c9 : CBox W b9 47 R7
  kc : CW (fun k => g < k) W (.agg L6.toArray) c
  kd : CW (fun k => g < k) W (.agg L8.toArray) c
  bel : Below bw w W
  ge : bw ≤ w.heap.size
  gb : bw ≤ g
theorem RdM.past {bw g b6 b7 b8 b9 : Nat} {w W W' : World} {L6 L8 R7 ww : List Value} {c : Con} (h : RdM bw g b6 b7 b8 b9 w W L6 L8 R7 ww c) (k : Below W.heap.size W W') : RdM bw g b6 b7 b8 b9 w W' L6 L8 R7 ww c := ⟨h.cb.past k, h.c6.past k, h.c7.past k, h.c8.past k, h.c9.past k, h.kc.past k, h.kd.past k, h.bel.trans (k.mono (Nat.le_trans h.ge h.bel.size)), h.ge, h.gb⟩
theorem RdM.put {bw g b6 b7 b8 b9 : Nat} {w W : World} {L6 L8 R7 ww : List Value} {c : Con} (h : RdM bw g b6 b7 b8 b9 w W L6 L8 R7 ww c) (i : Nat) (v : Value) : RdM bw g b6 b7 b8 b9 w (W.setCell ⟨g, i, none⟩ v) L6 L8 R7 (ww.set i v) c := by
  have hs : But (fun y => y = g) W (W.setCell ⟨g, i, none⟩ v) := (But.refl (fun y => y = g) W).setCell ⟨g, i, none⟩ _ (Or.inl rfl)
  exact ⟨h.cb.set i v, h.c6.but hs (box_type h.c6 h.cb (by decide)), h.c7.but hs (box_type h.c7 h.cb (by decide)), h.c8.but hs (box_type h.c8 h.cb (by decide)), h.c9.but hs (box_type h.c9 h.cb (by decide)), h.kc.but hs (fun y hy e => by omega), h.kd.but hs (fun y hy e => by omega), h.bel.trans (hs.below (fun y e => by have := h.gb; omega) (Nat.le_trans h.ge h.bel.size)), h.ge, h.gb⟩
theorem RdM.le {bw g b6 b7 b8 b9 : Nat} {w W : World} {L6 L8 R7 ww : List Value} {c : Con} (h : RdM bw g b6 b7 b8 b9 w W L6 L8 R7 ww c) : bw ≤ W.heap.size := Nat.le_trans h.ge h.bel.size
/-- the last byte is another one -/
def turned (b : List Nat) (y : Nat) : List Nat := b.take (b.length - 1) ++ [y]
theorem turned_len {b : List Nat} (y : Nat) (h : b.length ≠ 0) : (turned b y).length = b.length := by simp [turned]; omega
theorem turned_byt {b : List Nat} {y : Nat} (h : Byt b) (hy : y < 256) : Byt (turned b y) := fun x hx => by
  rcases List.mem_append.1 hx with q | q
  · exact h x (List.mem_of_mem_take q)
  · rw [List.mem_singleton.1 q]; exact hy
theorem turned_at {b : List Nat} {y n : Nat} (h : b.length ≠ 0) (i : Nat) (c : Value) (hc : (bV (turned b y))[i]? = some c) : ((bV (marked b n n)).set (b.length - 1) (.int .u8 (y : Int)))[i]? = some c := by
  obtain ⟨x, hx, rfl⟩ := bV_inv hc
  unfold turned at hx
  by_cases e : i < b.length - 1
  · rw [List.getElem?_append_left (by rw [List.length_take]; omega), List.getElem?_take_of_lt e] at hx
    rw [List.getElem?_set_ne (by omega)]
    exact marked_lo hx
  · have hi := (List.getElem?_eq_some_iff.1 hx).1
    simp at hi
    have ei : i = b.length - 1 := by omega
    subst ei
    rw [List.getElem?_append_right (by rw [List.length_take]; omega), List.length_take] at hx
    have e0 : b.length - 1 - min (b.length - 1) b.length = 0 := by omega
    rw [e0] at hx
    simp at hx
    subst hx
    rw [List.getElem?_set_self]
    rw [bV_len, marked_len _ _ _ (Nat.le_refl _)]
    omega
set_option maxHeartbeats 8000000 in
set_option maxRecDepth 100000 in
theorem read_is {P : Nat → Prop} (w : World) (v : Value) (b : List Nat) (opn : Bool) (h : BL P w v b) (hb : Byt b) (hl : b.length ≤ 2097152) : Calls Try.prog 17 #[v, .bool opn] w fun e w' => e = .returned (.bool true) ∧ Below w.heap.size w w' := by
  obtain ⟨ad, cap, rfl, _, _⟩ := h.len
  have HV : Hid (∀ W, Below w.heap.size w W → BL P W (.slice ad b.length cap) b) := fun W hW => h.past hW
  have HBY : Hid (Byt b) := hb
  have HLN : Hid (b.length ≤ 2097152) := hl
  have LE : Hid (Calls Try.prog 26 #[.slice ad b.length cap, .int .i64 90] w fun e w' => (∃ g, e = .returned (.slice (some ⟨g, 0, none⟩) (b.length + 90) (b.length + 90)) ∧ CBox w' g 5 (bV (marked b 90 90)) ∧ w.heap.size ≤ g) ∧ Below w.heap.size w w') := lent_is w _ b 90 h (by omega) (by omega)
  have PA : Hid (∀ (W : World) (R : Nat → Prop) (u : Value), BL R W u b → Calls Try.prog 31 #[u, .bool opn] W fun e w' => (∃ ta tc ca cc sa sc da dc, e = .returned (.tuple #[.agg #[.slice ta (conOf (prs b opn)).ts.length tc, .slice ca (conOf (prs b opn)).cs.length cc, .slice sa (conOf (prs b opn)).ss.length sc, .slice da (conOf (prs b opn)).d.length dc, .int .i64 (conOf (prs b opn)).n], .agg #[.int .i64 (rjOf (prs b opn)).1, .slice none 0 0, .int .i64 0, .int .i64 (rjOf (prs b opn)).2]]) ∧ CW (fun k => W.heap.size ≤ k) w' (.agg #[.slice ta (conOf (prs b opn)).ts.length tc, .slice ca (conOf (prs b opn)).cs.length cc, .slice sa (conOf (prs b opn)).ss.length sc, .slice da (conOf (prs b opn)).d.length dc, .int .i64 (conOf (prs b opn)).n]) (conOf (prs b opn))) ∧ Below W.heap.size W w') := fun W R u q => parse_ans W u b opn q hb (by omega)
  have PD : Hid (∀ (W : World) (R : Nat → Prop) (u : Value), BL R W u b → Calls Try.prog 33 #[u, .bool opn] W fun e w' => (∃ ta tc ca cc sa sc da dc, e = .returned (.tuple #[.agg #[.slice ta (conOf (prs b opn)).ts.length tc, .slice ca (conOf (prs b opn)).cs.length cc, .slice sa (conOf (prs b opn)).ss.length sc, .slice da (conOf (prs b opn)).d.length dc, .int .i64 (conOf (prs b opn)).n], .agg #[.int .i64 (rjOf (prs b opn)).1, .slice none 0 0, .int .i64 0, .int .i64 (rjOf (prs b opn)).2]]) ∧ CW (fun k => W.heap.size ≤ k) w' (.agg #[.slice ta (conOf (prs b opn)).ts.length tc, .slice ca (conOf (prs b opn)).cs.length cc, .slice sa (conOf (prs b opn)).ss.length sc, .slice da (conOf (prs b opn)).d.length dc, .int .i64 (conOf (prs b opn)).n]) (conOf (prs b opn))) ∧ Below W.heap.size W w') := fun W R u q => rparse_ans W u b opn q hb (by omega)
  generalize (rjOf (prs b opn)).1 = x at *
  generalize (rjOf (prs b opn)).2 = y at *
  generalize conOf (prs b opn) = c at *
  have KP : Hid (∀ W g, Below w.heap.size w W → CBox W g 5 (bV (marked b 90 90)) → Calls Try.prog 29 #[.slice (some ⟨g, 0, none⟩) (b.length + 90) (b.length + 90), .slice ad b.length cap] W fun e w' => e = .returned (.bool true) ∧ Below W.heap.size W w') := fun W g hW hc => kept_is W _ b 90 g (h.past hW) hc (by omega) (by omega)
  obtain ⟨M, hM⟩ : ∃ M, M = b.length + 90 := ⟨_, rfl⟩
  rw [← hM] at LE KP
  have HM : Hid (M = b.length + 90) := hM
  have nI : (b.length : Int) ≤ 2097152 := by omega
  have hsl : ∀ (g : Nat) (W : World), Sem.run Try.prog (Instr.slice 22 (.slice (some ⟨g, 0, none⟩) M M) none (some (.int .i64 (b.length : Int))) none) W = .ok (.slice (some ⟨g, 0, none⟩) b.length M) W := fun g W => slice_j g M M b.length (by omega) W
  clear h hb hl hM
  generalize hn : b.length = nb at *
  have HN : Hid (b.length = nb) := hn
  clear hn
  generalize hbw : w.heap.size = bw at *
  have GB : Hid (w.heap.size = bw) := hbw
  have GE : Hid (bw ≤ w.heap.size) := by unfold Hid; omega
  clear hbw
  go_enter Try.func17, Try.ntmps17
  go_upto_region 2 with (go_at_call 26; refine LE.out.mono ?_; rintro e w1 ⟨⟨g, rfl, hC, hg⟩, hB⟩; (have N1 : Hid (CBox w1 g 5 (bV (marked b 90 90)) ∧ bw ≤ g ∧ Below bw w w1) := ⟨hC, hg, hB⟩); (clear hC hg hB))
  clear LE
  have HD : Hid (∀ W, CBox W g 5 (bV (marked b 90 90)) → BL (fun k => k = g) W (.slice (some ⟨g, 0, none⟩) nb M) b) := fun W hW => by
    have q := BL.head (M := M) hW (fun i c hc => by obtain ⟨z, hz, rfl⟩ := bV_inv hc; exact marked_lo hz) (by have := HM.out; have := HN.out; omega) (by have := HLN.out; have := HN.out; omega)
    rwa [HN.out] at q
  go_upto_region 3 with (go_at_call 31; refine (PA.out _ _ _ (HD.out _ N1.out.1)).mono ?_; rintro e w2 ⟨⟨ta, tc, ca, cc, sa, sc, da, dc, rfl, hC⟩, hB⟩; (have N2 : Hid (CBox w2 g 5 (bV (marked b 90 90)) ∧ Below bw w w2 ∧ CW (fun k => g < k) w2 (.agg #[.slice ta c.ts.length tc, .slice ca c.cs.length cc, .slice sa c.ss.length sc, .slice da c.d.length dc, .int .i64 c.n]) c) := ⟨N1.out.1.past hB, N1.out.2.2.trans (hB.mono (Nat.le_trans GE.out N1.out.2.2.size)), hC.mono fun k q _ => Nat.lt_of_lt_of_le N1.out.1.lt q⟩); (clear hC hB))
  have T2 := two_boxes w2 [.slice ta c.ts.length tc, .slice ca c.cs.length cc, .slice sa c.ss.length sc, .slice da c.d.length dc, .int .i64 c.n] [.int .i64 x, .slice none 0 0, .int .i64 0, .int .i64 y]
  have N3 : Hid (CBox ((w2.alloc (.cells #[.slice ta c.ts.length tc, .slice ca c.cs.length cc, .slice sa c.ss.length sc, .slice da c.d.length dc, .int .i64 c.n] 28)).alloc (.cells #[.int .i64 x, .slice none 0 0, .int .i64 0, .int .i64 y] 47)) g 5 (bV (marked b 90 90)) ∧ Below bw w ((w2.alloc (.cells #[.slice ta c.ts.length tc, .slice ca c.cs.length cc, .slice sa c.ss.length sc, .slice da c.d.length dc, .int .i64 c.n] 28)).alloc (.cells #[.int .i64 x, .slice none 0 0, .int .i64 0, .int .i64 y] 47)) ∧ CW (fun k => g < k) ((w2.alloc (.cells #[.slice ta c.ts.length tc, .slice ca c.cs.length cc, .slice sa c.ss.length sc, .slice da c.d.length dc, .int .i64 c.n] 28)).alloc (.cells #[.int .i64 x, .slice none 0 0, .int .i64 0, .int .i64 y] 47)) (.agg #[.slice ta c.ts.length tc, .slice ca c.cs.length cc, .slice sa c.ss.length sc, .slice da c.d.length dc, .int .i64 c.n]) c ∧ CBox ((w2.alloc (.cells #[.slice ta c.ts.length tc, .slice ca c.cs.length cc, .slice sa c.ss.length sc, .slice da c.d.length dc, .int .i64 c.n] 28)).alloc (.cells #[.int .i64 x, .slice none 0 0, .int .i64 0, .int .i64 y] 47)) w2.heap.size 28 [.slice ta c.ts.length tc, .slice ca c.cs.length cc, .slice sa c.ss.length sc, .slice da c.d.length dc, .int .i64 c.n] ∧ CBox ((w2.alloc (.cells #[.slice ta c.ts.length tc, .slice ca c.cs.length cc, .slice sa c.ss.length sc, .slice da c.d.length dc, .int .i64 c.n] 28)).alloc (.cells #[.int .i64 x, .slice none 0 0, .int .i64 0, .int .i64 y] 47)) (w2.heap.size + 1) 47 [.int .i64 x, .slice none 0 0, .int .i64 0, .int .i64 y]) := ⟨N2.out.1.past T2.2.2, N2.out.2.1.trans (T2.2.2.mono (Nat.le_trans GE.out N2.out.2.1.size)), N2.out.2.2.past T2.2.2, T2.1, T2.2.1⟩
  clear T2 N2
  generalize w2.heap.size + 1 = b7 at N3 ⊢
  generalize w2.heap.size = b6 at N3 ⊢
  generalize (w2.alloc _).alloc _ = W2 at N3 ⊢
  go_upto_region 4 with (go_at_call 33; refine (PD.out _ _ _ (HV.out _ N3.out.2.1)).mono ?_; rintro e w3 ⟨⟨ta', tc', ca', cc', sa', sc', da', dc', rfl, hC⟩, hB⟩; (have N4 : Hid (CBox w3 g 5 (bV (marked b 90 90)) ∧ Below bw w w3 ∧ CW (fun k => g < k) w3 (.agg #[.slice ta c.ts.length tc, .slice ca c.cs.length cc, .slice sa c.ss.length sc, .slice da c.d.length dc, .int .i64 c.n]) c ∧ CBox w3 b6 28 [.slice ta c.ts.length tc, .slice ca c.cs.length cc, .slice sa c.ss.length sc, .slice da c.d.length dc, .int .i64 c.n] ∧ CBox w3 b7 47 [.int .i64 x, .slice none 0 0, .int .i64 0, .int .i64 y] ∧ CW (fun k => g < k) w3 (.agg #[.slice ta' c.ts.length tc', .slice ca' c.cs.length cc', .slice sa' c.ss.length sc', .slice da' c.d.length dc', .int .i64 c.n]) c) := ⟨N3.out.1.past hB, N3.out.2.1.trans (hB.mono (Nat.le_trans GE.out N3.out.2.1.size)), N3.out.2.2.1.past hB, N3.out.2.2.2.1.past hB, N3.out.2.2.2.2.past hB, hC.mono fun k q _ => Nat.lt_of_lt_of_le N3.out.1.lt q⟩); (clear hC hB))
  have T2 := two_boxes w3 [.slice ta' c.ts.length tc', .slice ca' c.cs.length cc', .slice sa' c.ss.length sc', .slice da' c.d.length dc', .int .i64 c.n] [.int .i64 x, .slice none 0 0, .int .i64 0, .int .i64 y]
  have M4 : Hid (RdM bw g b6 b7 w3.heap.size (w3.heap.size + 1) w ((w3.alloc (.cells #[.slice ta' c.ts.length tc', .slice ca' c.cs.length cc', .slice sa' c.ss.length sc', .slice da' c.d.length dc', .int .i64 c.n] 28)).alloc (.cells #[.int .i64 x, .slice none 0 0, .int .i64 0, .int .i64 y] 47)) [.slice ta c.ts.length tc, .slice ca c.cs.length cc, .slice sa c.ss.length sc, .slice da c.d.length dc, .int .i64 c.n] [.slice ta' c.ts.length tc', .slice ca' c.cs.length cc', .slice sa' c.ss.length sc', .slice da' c.d.length dc', .int .i64 c.n] [.int .i64 x, .slice none 0 0, .int .i64 0, .int .i64 y] (bV (marked b 90 90)) c) := ⟨N4.out.1.past T2.2.2, N4.out.2.2.2.1.past T2.2.2, N4.out.2.2.2.2.1.past T2.2.2, T2.1, T2.2.1, N4.out.2.2.1.past T2.2.2, N4.out.2.2.2.2.2.past T2.2.2, N4.out.2.1.trans (T2.2.2.mono (Nat.le_trans GE.out N4.out.2.1.size)), GE.out, N1.out.2.1⟩
  clear T2 N3 N4 N1 PA PD
  generalize w3.heap.size + 1 = b9 at M4 ⊢
  generalize w3.heap.size = b8 at M4 ⊢
  generalize (w3.alloc _).alloc _ = W4 at M4 ⊢
  have a0 : W4.cell? ⟨b6, 0, none⟩ = some (.slice ta c.ts.length tc) := M4.out.c6.cell 0
  have a1 : W4.cell? ⟨b6, 1, none⟩ = some (.slice ca c.cs.length cc) := M4.out.c6.cell 1
  have a2 : W4.cell? ⟨b6, 2, none⟩ = some (.slice sa c.ss.length sc) := M4.out.c6.cell 2
  have a3 : W4.cell? ⟨b6, 3, none⟩ = some (.slice da c.d.length dc) := M4.out.c6.cell 3
  have a4 : W4.cell? ⟨b6, 4, none⟩ = some (.int .i64 c.n) := M4.out.c6.cell 4
  have d0 : W4.cell? ⟨b8, 0, none⟩ = some (.slice ta' c.ts.length tc') := M4.out.c8.cell 0
  have d1 : W4.cell? ⟨b8, 1, none⟩ = some (.slice ca' c.cs.length cc') := M4.out.c8.cell 1
  have d2 : W4.cell? ⟨b8, 2, none⟩ = some (.slice sa' c.ss.length sc') := M4.out.c8.cell 2
  have d3 : W4.cell? ⟨b8, 3, none⟩ = some (.slice da' c.d.length dc') := M4.out.c8.cell 3
  have d4 : W4.cell? ⟨b8, 4, none⟩ = some (.int .i64 c.n) := M4.out.c8.cell 4
  go_upto_region 6 with (first | (go_at_call 22; refine (same_is _ _ _ c M4.out.kc M4.out.kd).mono ?_; rintro e z1 ⟨rfl, hB⟩; (have M5 : Hid (RdM bw g b6 b7 b8 b9 w z1 [.slice ta c.ts.length tc, .slice ca c.cs.length cc, .slice sa c.ss.length sc, .slice da c.d.length dc, .int .i64 c.n] [.slice ta' c.ts.length tc', .slice ca' c.cs.length cc', .slice sa' c.ss.length sc', .slice da' c.d.length dc', .int .i64 c.n] [.int .i64 x, .slice none 0 0, .int .i64 0, .int .i64 y] (bV (marked b 90 90)) c) := M4.out.past hB); (clear hB); (have p0 : z1.cell? ⟨b7, 0, none⟩ = some (.int .i64 x) := M5.out.c7.cell 0); (have p1 : z1.cell? ⟨b7, 1, none⟩ = some (.slice none 0 0) := M5.out.c7.cell 1); (have p2 : z1.cell? ⟨b7, 2, none⟩ = some (.int .i64 0) := M5.out.c7.cell 2); (have p3 : z1.cell? ⟨b7, 3, none⟩ = some (.int .i64 y) := M5.out.c7.cell 3); (have q0 : z1.cell? ⟨b9, 0, none⟩ = some (.int .i64 x) := M5.out.c9.cell 0); (have q1 : z1.cell? ⟨b9, 1, none⟩ = some (.slice none 0 0) := M5.out.c9.cell 1); (have q2 : z1.cell? ⟨b9, 2, none⟩ = some (.int .i64 0) := M5.out.c9.cell 2); (have q3 : z1.cell? ⟨b9, 3, none⟩ = some (.int .i64 y) := M5.out.c9.cell 3); skip) | (go_at_call 34; refine (rejects_is _ x y).mono ?_; rintro e z2 ⟨rfl, hB⟩; (have M6 : Hid (RdM bw g b6 b7 b8 b9 w z2 [.slice ta c.ts.length tc, .slice ca c.cs.length cc, .slice sa c.ss.length sc, .slice da c.d.length dc, .int .i64 c.n] [.slice ta' c.ts.length tc', .slice ca' c.cs.length cc', .slice sa' c.ss.length sc', .slice da' c.d.length dc', .int .i64 c.n] [.int .i64 x, .slice none 0 0, .int .i64 0, .int .i64 y] (bV (marked b 90 90)) c) := M5.out.past hB); (clear hB)) | (go_at_call 29; refine (KP.out _ _ M6.out.bel M6.out.cb).mono ?_; rintro e z3 ⟨rfl, hB⟩; (have M7 : Hid (RdM bw g b6 b7 b8 b9 w z3 [.slice ta c.ts.length tc, .slice ca c.cs.length cc, .slice sa c.ss.length sc, .slice da c.d.length dc, .int .i64 c.n] [.slice ta' c.ts.length tc', .slice ca' c.cs.length cc', .slice sa' c.ss.length sc', .slice da' c.d.length dc', .int .i64 c.n] [.int .i64 x, .slice none 0 0, .int .i64 0, .int .i64 y] (bV (marked b 90 90)) c) := M6.out.past hB); (clear hB)))
  clear a0 d0 a1 d1 a2 d2 a3 d3 a4 d4 p0 q0 p1 q1 p2 q2 p3 q3 M4 M5 M6 KP
  by_cases e0 : nb = 0
  · have q0 : ((nb : Int) == 0) = true := by simp; omega
    clear hsl
    go_wp2
    go_ret
    exact ⟨rfl, M7.out.bel⟩
  have q0 : ((nb : Int) == 0) = false := by simp; omega
  obtain ⟨nb1, hnb1⟩ : ∃ nb1, nb1 = nb - 1 := ⟨_, rfl⟩
  have r1 : (nb : Int) - 1 = (nb1 : Int) := by omega
  have w1' : IntKind.i64.wrap (nb1 : Int) = (nb1 : Int) := by rw [IntKind.wrap_i64]; omega
  have q1 : (nb1 : Int) < (M : Int) := by have := HM.out; omega
  obtain ⟨xl, hxl⟩ : ∃ xl, b[nb1]? = some xl := ⟨b[nb1]'(by rw [HN.out]; omega), List.getElem?_eq_getElem _⟩
  have k0 : z3.cell? ⟨g, nb1, none⟩ = some (.int .u8 (xl : Int)) := by rw [M7.out.cb.cell]; exact marked_lo hxl
  have f0 := M7.out.cb.frozen nb1
  obtain ⟨yy, hyy, hxx⟩ := xor8 xl
  have M8 : Hid (RdM bw g b6 b7 b8 b9 w (z3.setCell ⟨g, nb1, none⟩ (.int .u8 (yy : Int))) [.slice ta c.ts.length tc, .slice ca c.cs.length cc, .slice sa c.ss.length sc, .slice da c.d.length dc, .int .i64 c.n] [.slice ta' c.ts.length tc', .slice ca' c.cs.length cc', .slice sa' c.ss.length sc', .slice da' c.d.length dc', .int .i64 c.n] [.int .i64 x, .slice none 0 0, .int .i64 0, .int .i64 y] ((bV (marked b 90 90)).set nb1 (.int .u8 (yy : Int))) c) := M7.out.put nb1 _
  obtain ⟨tb, htb⟩ : ∃ tb, tb = turned b yy := ⟨_, rfl⟩
  have HTB : Hid (tb.length = nb ∧ Byt tb) := by unfold Hid; rw [htb, turned_len yy (by rw [HN.out]; exact e0)]; exact ⟨HN.out, turned_byt HBY.out hyy⟩
  have HD2 : Hid (∀ W, CBox W g 5 ((bV (marked b 90 90)).set nb1 (.int .u8 (yy : Int))) → BL (fun k => k = g) W (.slice (some ⟨g, 0, none⟩) nb M) tb) := fun W hW => by
    have q := BL.head (M := M) (x := tb) hW (fun i c hc => by rw [htb] at hc; have := turned_at (n := 90) (by rw [HN.out]; exact e0) i c hc; rwa [HN.out, ← hnb1] at this) (by have := HM.out; have := HTB.out; omega) (by have := HLN.out; have := HTB.out; omega)
    rwa [HTB.out.1] at q
  have PA : Hid (∀ (W : World) (R : Nat → Prop) (u : Value), BL R W u tb → Calls Try.prog 31 #[u, .bool opn] W fun e w' => (∃ ta tc ca cc sa sc da dc, e = .returned (.tuple #[.agg #[.slice ta (conOf (prs tb opn)).ts.length tc, .slice ca (conOf (prs tb opn)).cs.length cc, .slice sa (conOf (prs tb opn)).ss.length sc, .slice da (conOf (prs tb opn)).d.length dc, .int .i64 (conOf (prs tb opn)).n], .agg #[.int .i64 (rjOf (prs tb opn)).1, .slice none 0 0, .int .i64 0, .int .i64 (rjOf (prs tb opn)).2]]) ∧ CW (fun k => W.heap.size ≤ k) w' (.agg #[.slice ta (conOf (prs tb opn)).ts.length tc, .slice ca (conOf (prs tb opn)).cs.length cc, .slice sa (conOf (prs tb opn)).ss.length sc, .slice da (conOf (prs tb opn)).d.length dc, .int .i64 (conOf (prs tb opn)).n]) (conOf (prs tb opn))) ∧ Below W.heap.size W w') := fun W R u q => parse_ans W u tb opn q HTB.out.2 (by have := HLN.out; have := HTB.out; omega)
  have PD : Hid (∀ (W : World) (R : Nat → Prop) (u : Value), BL R W u tb → Calls Try.prog 33 #[u, .bool opn] W fun e w' => (∃ ta tc ca cc sa sc da dc, e = .returned (.tuple #[.agg #[.slice ta (conOf (prs tb opn)).ts.length tc, .slice ca (conOf (prs tb opn)).cs.length cc, .slice sa (conOf (prs tb opn)).ss.length sc, .slice da (conOf (prs tb opn)).d.length dc, .int .i64 (conOf (prs tb opn)).n], .agg #[.int .i64 (rjOf (prs tb opn)).1, .slice none 0 0, .int .i64 0, .int .i64 (rjOf (prs tb opn)).2]]) ∧ CW (fun k => W.heap.size ≤ k) w' (.agg #[.slice ta (conOf (prs tb opn)).ts.length tc, .slice ca (conOf (prs tb opn)).cs.length cc, .slice sa (conOf (prs tb opn)).ss.length sc, .slice da (conOf (prs tb opn)).d.length dc, .int .i64 (conOf (prs tb opn)).n]) (conOf (prs tb opn))) ∧ Below W.heap.size W w') := fun W R u q => rparse_ans W u tb opn q HTB.out.2 (by have := HLN.out; have := HTB.out; omega)
  generalize (rjOf (prs tb opn)).1 = x2 at *
  generalize (rjOf (prs tb opn)).2 = y2 at *
  generalize conOf (prs tb opn) = c2 at *
  clear hxl hyy hnb1 htb e0
  go_upto_region 9 with fail
  clear M7 k0 f0 r1 w1' q1 hxx
  generalize z3.setCell ⟨g, nb1, none⟩ (.int .u8 (yy : Int)) = w8 at M8 ⊢
  have hsl2 := hsl g
  go_upto_region 10 with (go_at_call 32; refine (own_is _ _ tb (HD2.out _ M8.out.cb) (by have := HLN.out; have := HTB.out; omega)).mono ?_; rintro e w9 ⟨v9, rfl, hO, hB⟩; (obtain ⟨oa, oc, e9⟩ := owns_sl hO); (rw [HTB.out.1] at e9); (subst e9); (have M9 : Hid (RdM bw g b6 b7 b8 b9 w w9 [.slice ta c.ts.length tc, .slice ca c.cs.length cc, .slice sa c.ss.length sc, .slice da c.d.length dc, .int .i64 c.n] [.slice ta' c.ts.length tc', .slice ca' c.cs.length cc', .slice sa' c.ss.length sc', .slice da' c.d.length dc', .int .i64 c.n] [.int .i64 x, .slice none 0 0, .int .i64 0, .int .i64 y] ((bV (marked b 90 90)).set nb1 (.int .u8 (yy : Int))) c ∧ BL (fun _ => True) w9 (.slice oa nb oc) tb) := ⟨M8.out.past hB, SL.own hO (by have := HLN.out; have := HTB.out; omega) fun _ _ => trivial⟩); (clear hO hB))
  clear M8
  go_upto_region 11 with (go_at_call 31; refine (PA.out _ _ _ (HD2.out _ M9.out.1.cb)).mono ?_; rintro e w10 ⟨⟨ta2, tc2, ca2, cc2, sa2, sc2, da2, dc2, rfl, hC⟩, hB⟩; (have N2 : Hid (RdM bw g b6 b7 b8 b9 w w10 [.slice ta c.ts.length tc, .slice ca c.cs.length cc, .slice sa c.ss.length sc, .slice da c.d.length dc, .int .i64 c.n] [.slice ta' c.ts.length tc', .slice ca' c.cs.length cc', .slice sa' c.ss.length sc', .slice da' c.d.length dc', .int .i64 c.n] [.int .i64 x, .slice none 0 0, .int .i64 0, .int .i64 y] ((bV (marked b 90 90)).set nb1 (.int .u8 (yy : Int))) c ∧ BL (fun _ => True) w10 (.slice oa nb oc) tb ∧ CW (fun _ => True) w10 (.agg #[.slice ta2 c2.ts.length tc2, .slice ca2 c2.cs.length cc2, .slice sa2 c2.ss.length sc2, .slice da2 c2.d.length dc2, .int .i64 c2.n]) c2) := ⟨M9.out.1.past hB, M9.out.2.past hB, hC.mono fun _ _ _ => trivial⟩); (clear hC hB))
  have T2 := two_boxes w10 [.slice ta2 c2.ts.length tc2, .slice ca2 c2.cs.length cc2, .slice sa2 c2.ss.length sc2, .slice da2 c2.d.length dc2, .int .i64 c2.n] [.int .i64 x2, .slice none 0 0, .int .i64 0, .int .i64 y2]
  have N3 : Hid (RdM bw g b6 b7 b8 b9 w ((w10.alloc (.cells #[.slice ta2 c2.ts.length tc2, .slice ca2 c2.cs.length cc2, .slice sa2 c2.ss.length sc2, .slice da2 c2.d.length dc2, .int .i64 c2.n] 28)).alloc (.cells #[.int .i64 x2, .slice none 0 0, .int .i64 0, .int .i64 y2] 47)) [.slice ta c.ts.length tc, .slice ca c.cs.length cc, .slice sa c.ss.length sc, .slice da c.d.length dc, .int .i64 c.n] [.slice ta' c.ts.length tc', .slice ca' c.cs.length cc', .slice sa' c.ss.length sc', .slice da' c.d.length dc', .int .i64 c.n] [.int .i64 x, .slice none 0 0, .int .i64 0, .int .i64 y] ((bV (marked b 90 90)).set nb1 (.int .u8 (yy : Int))) c ∧ BL (fun _ => True) ((w10.alloc (.cells #[.slice ta2 c2.ts.length tc2, .slice ca2 c2.cs.length cc2, .slice sa2 c2.ss.length sc2, .slice da2 c2.d.length dc2, .int .i64 c2.n] 28)).alloc (.cells #[.int .i64 x2, .slice none 0 0, .int .i64 0, .int .i64 y2] 47)) (.slice oa nb oc) tb ∧ CW (fun _ => True) ((w10.alloc (.cells #[.slice ta2 c2.ts.length tc2, .slice ca2 c2.cs.length cc2, .slice sa2 c2.ss.length sc2, .slice da2 c2.d.length dc2, .int .i64 c2.n] 28)).alloc (.cells #[.int .i64 x2, .slice none 0 0, .int .i64 0, .int .i64 y2] 47)) (.agg #[.slice ta2 c2.ts.length tc2, .slice ca2 c2.cs.length cc2, .slice sa2 c2.ss.length sc2, .slice da2 c2.d.length dc2, .int .i64 c2.n]) c2 ∧ CBox ((w10.alloc (.cells #[.slice ta2 c2.ts.length tc2, .slice ca2 c2.cs.length cc2, .slice sa2 c2.ss.length sc2, .slice da2 c2.d.length dc2, .int .i64 c2.n] 28)).alloc (.cells #[.int .i64 x2, .slice none 0 0, .int .i64 0, .int .i64 y2] 47)) w10.heap.size 28 [.slice ta2 c2.ts.length tc2, .slice ca2 c2.cs.length cc2, .slice sa2 c2.ss.length sc2, .slice da2 c2.d.length dc2, .int .i64 c2.n] ∧ CBox ((w10.alloc (.cells #[.slice ta2 c2.ts.length tc2, .slice ca2 c2.cs.length cc2, .slice sa2 c2.ss.length sc2, .slice da2 c2.d.length dc2, .int .i64 c2.n] 28)).alloc (.cells #[.int .i64 x2, .slice none 0 0, .int .i64 0, .int .i64 y2] 47)) (w10.heap.size + 1) 47 [.int .i64 x2, .slice none 0 0, .int .i64 0, .int .i64 y2]) := ⟨N2.out.1.past T2.2.2, N2.out.2.1.past T2.2.2, N2.out.2.2.past T2.2.2, T2.1, T2.2.1⟩
  clear T2 N2 M9
  generalize w10.heap.size + 1 = b12 at N3 ⊢
  generalize w10.heap.size = b11 at N3 ⊢
  generalize (w10.alloc _).alloc _ = W10 at N3 ⊢
  go_upto_region 12 with (go_at_call 33; refine (PD.out _ _ _ N3.out.2.1).mono ?_; rintro e w11 ⟨⟨ta3, tc3, ca3, cc3, sa3, sc3, da3, dc3, rfl, hC⟩, hB⟩; (have N4 : Hid (RdM bw g b6 b7 b8 b9 w w11 [.slice ta c.ts.length tc, .slice ca c.cs.length cc, .slice sa c.ss.length sc, .slice da c.d.length dc, .int .i64 c.n] [.slice ta' c.ts.length tc', .slice ca' c.cs.length cc', .slice sa' c.ss.length sc', .slice da' c.d.length dc', .int .i64 c.n] [.int .i64 x, .slice none 0 0, .int .i64 0, .int .i64 y] ((bV (marked b 90 90)).set nb1 (.int .u8 (yy : Int))) c ∧ CW (fun _ => True) w11 (.agg #[.slice ta2 c2.ts.length tc2, .slice ca2 c2.cs.length cc2, .slice sa2 c2.ss.length sc2, .slice da2 c2.d.length dc2, .int .i64 c2.n]) c2 ∧ CBox w11 b11 28 [.slice ta2 c2.ts.length tc2, .slice ca2 c2.cs.length cc2, .slice sa2 c2.ss.length sc2, .slice da2 c2.d.length dc2, .int .i64 c2.n] ∧ CBox w11 b12 47 [.int .i64 x2, .slice none 0 0, .int .i64 0, .int .i64 y2] ∧ CW (fun _ => True) w11 (.agg #[.slice ta3 c2.ts.length tc3, .slice ca3 c2.cs.length cc3, .slice sa3 c2.ss.length sc3, .slice da3 c2.d.length dc3, .int .i64 c2.n]) c2) := ⟨N3.out.1.past hB, N3.out.2.2.1.past hB, N3.out.2.2.2.1.past hB, N3.out.2.2.2.2.past hB, hC.mono fun _ _ _ => trivial⟩); (clear hC hB))
  have T2 := two_boxes w11 [.slice ta3 c2.ts.length tc3, .slice ca3 c2.cs.length cc3, .slice sa3 c2.ss.length sc3, .slice da3 c2.d.length dc3, .int .i64 c2.n] [.int .i64 x2, .slice none 0 0, .int .i64 0, .int .i64 y2]
  have N5 : Hid (RdM bw g b6 b7 b8 b9 w ((w11.alloc (.cells #[.slice ta3 c2.ts.length tc3, .slice ca3 c2.cs.length cc3, .slice sa3 c2.ss.length sc3, .slice da3 c2.d.length dc3, .int .i64 c2.n] 28)).alloc (.cells #[.int .i64 x2, .slice none 0 0, .int .i64 0, .int .i64 y2] 47)) [.slice ta c.ts.length tc, .slice ca c.cs.length cc, .slice sa c.ss.length sc, .slice da c.d.length dc, .int .i64 c.n] [.slice ta' c.ts.length tc', .slice ca' c.cs.length cc', .slice sa' c.ss.length sc', .slice da' c.d.length dc', .int .i64 c.n] [.int .i64 x, .slice none 0 0, .int .i64 0, .int .i64 y] ((bV (marked b 90 90)).set nb1 (.int .u8 (yy : Int))) c ∧ CW (fun _ => True) ((w11.alloc (.cells #[.slice ta3 c2.ts.length tc3, .slice ca3 c2.cs.length cc3, .slice sa3 c2.ss.length sc3, .slice da3 c2.d.length dc3, .int .i64 c2.n] 28)).alloc (.cells #[.int .i64 x2, .slice none 0 0, .int .i64 0, .int .i64 y2] 47)) (.agg #[.slice ta2 c2.ts.length tc2, .slice ca2 c2.cs.length cc2, .slice sa2 c2.ss.length sc2, .slice da2 c2.d.length dc2, .int .i64 c2.n]) c2 ∧ CBox ((w11.alloc (.cells #[.slice ta3 c2.ts.length tc3, .slice ca3 c2.cs.length cc3, .slice sa3 c2.ss.length sc3, .slice da3 c2.d.length dc3, .int .i64 c2.n] 28)).alloc (.cells #[.int .i64 x2, .slice none 0 0, .int .i64 0, .int .i64 y2] 47)) b11 28 [.slice ta2 c2.ts.length tc2, .slice ca2 c2.cs.length cc2, .slice sa2 c2.ss.length sc2, .slice da2 c2.d.length dc2, .int .i64 c2.n] ∧ CBox ((w11.alloc (.cells #[.slice ta3 c2.ts.length tc3, .slice ca3 c2.cs.length cc3, .slice sa3 c2.ss.length sc3, .slice da3 c2.d.length dc3, .int .i64 c2.n] 28)).alloc (.cells #[.int .i64 x2, .slice none 0 0, .int .i64 0, .int .i64 y2] 47)) b12 47 [.int .i64 x2, .slice none 0 0, .int .i64 0, .int .i64 y2] ∧ CW (fun _ => True) ((w11.alloc (.cells #[.slice ta3 c2.ts.length tc3, .slice ca3 c2.cs.length cc3, .slice sa3 c2.ss.length sc3, .slice da3 c2.d.length dc3, .int .i64 c2.n] 28)).alloc (.cells #[.int .i64 x2, .slice none 0 0, .int .i64 0, .int .i64 y2] 47)) (.agg #[.slice ta3 c2.ts.length tc3, .slice ca3 c2.cs.length cc3, .slice sa3 c2.ss.length sc3, .slice da3 c2.d.length dc3, .int .i64 c2.n]) c2 ∧ CBox ((w11.alloc (.cells #[.slice ta3 c2.ts.length tc3, .slice ca3 c2.cs.length cc3, .slice sa3 c2.ss.length sc3, .slice da3 c2.d.length dc3, .int .i64 c2.n] 28)).alloc (.cells #[.int .i64 x2, .slice none 0 0, .int .i64 0, .int .i64 y2] 47)) w11.heap.size 28 [.slice ta3 c2.ts.length tc3, .slice ca3 c2.cs.length cc3, .slice sa3 c2.ss.length sc3, .slice da3 c2.d.length dc3, .int .i64 c2.n] ∧ CBox ((w11.alloc (.cells #[.slice ta3 c2.ts.length tc3, .slice ca3 c2.cs.length cc3, .slice sa3 c2.ss.length sc3, .slice da3 c2.d.length dc3, .int .i64 c2.n] 28)).alloc (.cells #[.int .i64 x2, .slice none 0 0, .int .i64 0, .int .i64 y2] 47)) (w11.heap.size + 1) 47 [.int .i64 x2, .slice none 0 0, .int .i64 0, .int .i64 y2]) := ⟨N4.out.1.past T2.2.2, N4.out.2.1.past T2.2.2, N4.out.2.2.1.past T2.2.2, N4.out.2.2.2.1.past T2.2.2, N4.out.2.2.2.2.past T2.2.2, T2.1, T2.2.1⟩
  clear T2 N3 N4 PA PD hsl hsl2
  generalize w11.heap.size + 1 = b14 at N5 ⊢
  generalize w11.heap.size = b13 at N5 ⊢
  generalize (w11.alloc _).alloc _ = W11 at N5 ⊢
  have a0 : W11.cell? ⟨b11, 0, none⟩ = some (.slice ta2 c2.ts.length tc2) := N5.out.2.2.1.cell 0
  have a1 : W11.cell? ⟨b11, 1, none⟩ = some (.slice ca2 c2.cs.length cc2) := N5.out.2.2.1.cell 1
  have a2 : W11.cell? ⟨b11, 2, none⟩ = some (.slice sa2 c2.ss.length sc2) := N5.out.2.2.1.cell 2
  have a3 : W11.cell? ⟨b11, 3, none⟩ = some (.slice da2 c2.d.length dc2) := N5.out.2.2.1.cell 3
  have a4 : W11.cell? ⟨b11, 4, none⟩ = some (.int .i64 c2.n) := N5.out.2.2.1.cell 4
  have d0 : W11.cell? ⟨b13, 0, none⟩ = some (.slice ta3 c2.ts.length tc3) := N5.out.2.2.2.2.2.1.cell 0
  have d1 : W11.cell? ⟨b13, 1, none⟩ = some (.slice ca3 c2.cs.length cc3) := N5.out.2.2.2.2.2.1.cell 1
  have d2 : W11.cell? ⟨b13, 2, none⟩ = some (.slice sa3 c2.ss.length sc3) := N5.out.2.2.2.2.2.1.cell 2
  have d3 : W11.cell? ⟨b13, 3, none⟩ = some (.slice da3 c2.d.length dc3) := N5.out.2.2.2.2.2.1.cell 3
  have d4 : W11.cell? ⟨b13, 4, none⟩ = some (.int .i64 c2.n) := N5.out.2.2.2.2.2.1.cell 4
  have ONE : Hid True := trivial
  go_wp2_with (first | (go_at_call 22; (have hq := ONE); clear ONE; refine (same_is _ _ _ c2 N5.out.2.1 N5.out.2.2.2.2.1).mono ?_; rintro e y1 ⟨rfl, hB⟩; (have N6 : Hid (RdM bw g b6 b7 b8 b9 w y1 [.slice ta c.ts.length tc, .slice ca c.cs.length cc, .slice sa c.ss.length sc, .slice da c.d.length dc, .int .i64 c.n] [.slice ta' c.ts.length tc', .slice ca' c.cs.length cc', .slice sa' c.ss.length sc', .slice da' c.d.length dc', .int .i64 c.n] [.int .i64 x, .slice none 0 0, .int .i64 0, .int .i64 y] ((bV (marked b 90 90)).set nb1 (.int .u8 (yy : Int))) c) := N5.out.1.past hB); (have c12 := N5.out.2.2.2.1.past hB); (have c14 := N5.out.2.2.2.2.2.2.past hB); (have p0 : y1.cell? ⟨b12, 0, none⟩ = some (.int .i64 x2) := c12.cell 0); (have p1 : y1.cell? ⟨b12, 1, none⟩ = some (.slice none 0 0) := c12.cell 1); (have p2 : y1.cell? ⟨b12, 2, none⟩ = some (.int .i64 0) := c12.cell 2); (have p3 : y1.cell? ⟨b12, 3, none⟩ = some (.int .i64 y2) := c12.cell 3); (have q0 : y1.cell? ⟨b14, 0, none⟩ = some (.int .i64 x2) := c14.cell 0); (have q1 : y1.cell? ⟨b14, 1, none⟩ = some (.slice none 0 0) := c14.cell 1); (have q2 : y1.cell? ⟨b14, 2, none⟩ = some (.int .i64 0) := c14.cell 2); (have q3 : y1.cell? ⟨b14, 3, none⟩ = some (.int .i64 y2) := c14.cell 3); (clear hB c12 c14)) | (go_at_call 34; refine (rejects_is _ x2 y2).mono ?_; rintro e y2' ⟨rfl, hB⟩; (have N7 : Hid (RdM bw g b6 b7 b8 b9 w y2' [.slice ta c.ts.length tc, .slice ca c.cs.length cc, .slice sa c.ss.length sc, .slice da c.d.length dc, .int .i64 c.n] [.slice ta' c.ts.length tc', .slice ca' c.cs.length cc', .slice sa' c.ss.length sc', .slice da' c.d.length dc', .int .i64 c.n] [.int .i64 x, .slice none 0 0, .int .i64 0, .int .i64 y] ((bV (marked b 90 90)).set nb1 (.int .u8 (yy : Int))) c) := N6.out.past hB); (have u0 : y2'.cell? ⟨b6, 0, none⟩ = some (.slice ta c.ts.length tc) := N7.out.c6.cell 0); (have u1 : y2'.cell? ⟨b6, 1, none⟩ = some (.slice ca c.cs.length cc) := N7.out.c6.cell 1); (have u2 : y2'.cell? ⟨b6, 2, none⟩ = some (.slice sa c.ss.length sc) := N7.out.c6.cell 2); (have u3 : y2'.cell? ⟨b6, 3, none⟩ = some (.slice da c.d.length dc) := N7.out.c6.cell 3); (have u4 : y2'.cell? ⟨b6, 4, none⟩ = some (.int .i64 c.n) := N7.out.c6.cell 4); (have v0 : y2'.cell? ⟨b8, 0, none⟩ = some (.slice ta' c.ts.length tc') := N7.out.c8.cell 0); (have v1 : y2'.cell? ⟨b8, 1, none⟩ = some (.slice ca' c.cs.length cc') := N7.out.c8.cell 1); (have v2 : y2'.cell? ⟨b8, 2, none⟩ = some (.slice sa' c.ss.length sc') := N7.out.c8.cell 2); (have v3 : y2'.cell? ⟨b8, 3, none⟩ = some (.slice da' c.d.length dc') := N7.out.c8.cell 3); (have v4 : y2'.cell? ⟨b8, 4, none⟩ = some (.int .i64 c.n) := N7.out.c8.cell 4); (clear hB)) | (go_at_call 22; refine (same_is _ _ _ c N7.out.kc N7.out.kd).mono ?_; rintro e y3 ⟨rfl, hB⟩; (have B9 : Hid (Below bw w y3) := N7.out.bel.trans (hB.mono N7.out.le)); (clear hB)))
  go_ret
  exact ⟨rfl, B9.out⟩
end Go.Proofs.Ytndhabhlajldeaa
