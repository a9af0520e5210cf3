/- ContainerLaid: the walk. -/
import Derived.Test.YtndhabhlajldeaaMx8
import Derived.Test.YtndhabhlajldeaaMx9
import Derived.Test.YtndhabhlajldeaaMx10
import Derived.Test.YtndhabhlajldeaaMx1
namespace Go.Proofs.Ytndhabhlajldeaa
open Go.RowKit
theorem do_one {B : Nat} {W : World} {v : Value} {c : Con} (h : DO B W v c) : ∃ ta tc ca cc sa sc da dc, v = .agg #[.slice ta c.ts.length tc, .slice ca c.cs.length cc, .slice sa c.ss.length sc, .slice da c.d.length dc, .int .i64 c.n] ∧ True := by
  obtain ⟨ta, tc, ca, cc, sa, sc, da, dc, e, _⟩ := h
  exact ⟨ta, tc, ca, cc, sa, sc, da, dc, e, trivial⟩
theorem lay_50 {c : Con} {b : List Nat} {n : Nat} (hm : May c) (hn : n = c.d.length + b.length) (e : (n : Int) < c.n) : layC c b = (50, con0) := by
  subst hn
  unfold layC
  rw [if_neg (by simp [may_chk hm]), if_pos e]
theorem lay_2 {c : Con} {b : List Nat} {n : Nat} (hm : May c) (hn : n = c.d.length + b.length) (e : ¬ (n : Int) < c.n) (e2 : 65535 < n) : layC c b = (2, con0) := by
  subst hn
  unfold layC
  rw [if_neg (by simp [may_chk hm]), if_neg e, if_pos e2]
theorem lay_0 {c : Con} {b : List Nat} {n : Nat} (hm : May c) (hn : n = c.d.length + b.length) (e : ¬ (n : Int) < c.n) (e2 : ¬ 65535 < n) : layC c b = (0, ⟨c.ts, c.cs, c.ss, c.d ++ b, (n : Int)⟩) := by
  subst hn
  unfold layC
  rw [if_neg (by simp [may_chk hm]), if_neg e, if_neg e2]
theorem may_laid {c : Con} {b : List Nat} {n : Nat} (hm : May c) (hn : n = c.d.length + b.length) (e2 : ¬ 65535 < n) : May ⟨c.ts, c.cs, c.ss, c.d ++ b, (n : Int)⟩ :=
  ⟨hm.n1, hm.n2, hm.nt, hm.pc, hm.ns, hm.ps, by show (n : Int) ≤ 65535; omega, by show (((c.d ++ b).length : Nat) : Int) ≤ (n : Int); rw [List.length_append]; omega, hm.ty⟩
theorem small_laid {c : Con} {b : List Nat} {n : Nat} (hs : total c ≤ 2097152) (hn : n = c.d.length + b.length) (e2 : ¬ 65535 < n) : Small ⟨c.ts, c.cs, c.ss, c.d ++ b, (n : Int)⟩ := by
  unfold total fourOf at hs
  unfold Small
  simp only [List.length_append]
  omega
theorem small_zero : Small con0 := by unfold Small con0; simp
theorem cw_swap {P R : Nat → Prop} {W : World} {t k s d x : Value} {z n : Int} {c : Con} {dd : List Nat} (h : CW P W (.agg #[t, k, s, d, .int .i64 z]) c) (hx : BL R W x dd) : CW (fun _ => True) W (.agg #[t, k, s, x, .int .i64 n]) ⟨c.ts, c.cs, c.ss, dd, n⟩ := by
  obtain ⟨tv, cv, sv, dv, e, h1, h2, h3, h4⟩ := h
  injection e with e
  injection e with e
  injection e with e1 e
  injection e with e2 e
  injection e with e3 e
  subst e1
  subst e2
  subst e3
  exact ⟨_, _, _, _, rfl, h1.mono fun _ _ _ => trivial, h2.mono fun _ _ _ => trivial, h3.mono fun _ _ _ => trivial, hx.mono fun _ _ _ => trivial⟩
set_option maxHeartbeats 8000000 in
set_option maxRecDepth 100000 in
theorem containerLaid_walk (w : World) (v : Value) (c : Con) (u : Value) (b : List Nat) (u2 : Value) (b2 : List Nat) (h : CW (fun _ => True) w v c) (_ : BytC c) (hu : BL (fun _ => True) w u b) (_ : Byt b) (hul : b.length ≤ 140737488355328) (hv : BL (fun _ => True) w u2 b2) (_ : Byt b2) (hvl : b2.length ≤ 140737488355328) : Calls Try.prog 12 #[v, u, u2] w fun e w' => e = .returned (.bool true) ∧ Below w.heap.size w w' := by
  obtain ⟨ta, tc, ca, cc, sa, sc, da, dc, rfl⟩ := cw_form h
  obtain ⟨ua, uc, rfl, _, _⟩ := hu.len
  obtain ⟨va, vc, rfl, _, _⟩ := hv.len
  have b1 := below_alloc w (.cells #[.slice ta c.ts.length tc, .slice ca c.cs.length cc, .slice sa c.ss.length sc, .slice da c.d.length dc, .int .i64 c.n] 28)
  have M0 : Hid (CtM w.heap.size w (w.alloc (.cells #[.slice ta c.ts.length tc, .slice ca c.cs.length cc, .slice sa c.ss.length sc, .slice da c.d.length dc, .int .i64 c.n] 28)) [.slice ta c.ts.length tc, .slice ca c.cs.length cc, .slice sa c.ss.length sc, .slice da c.d.length dc, .int .i64 c.n] c) := ⟨CBox.new w _ [_, _, _, _, _], h.past b1, b1⟩
  have HCA : Hid (∀ W, Below w.heap.size w W → CW (fun _ => True) W (.agg #[.slice ta c.ts.length tc, .slice ca c.cs.length cc, .slice sa c.ss.length sc, .slice da c.d.length dc, .int .i64 c.n]) c) := fun W hW => h.past hW
  have HUB : Hid (∀ W, Below w.heap.size w W → BL (fun _ => True) W (.slice ua b.length uc) b) := fun W hW => hu.past hW
  have HVB : Hid (∀ W, Below w.heap.size w W → BL (fun _ => True) W (.slice va b2.length vc) b2) := fun W hW => hv.past hW
  have HDA : Hid (∀ W, Below w.heap.size w W → BL (fun _ => True) W (.slice da c.d.length dc) c.d) := fun W hW => by
    obtain ⟨tv, cv, sv, dv, e, h1, h2, h3, h4⟩ := h
    injection e with e
    injection e with e
    injection e with e1 e
    injection e with e2 e
    injection e with e3 e
    injection e with e4 e
    rw [e4]
    exact h4.past hW
  have nI : (b.length : Int) ≤ 140737488355328 := by omega
  have nJ : (b2.length : Int) ≤ 140737488355328 := by omega
  clear h hu hul hv hvl b1
  go_enter Try.func12, Try.ntmps12
  go_upto_region 1 with fail
  generalize w.heap.size = bx at M0 ⊢
  generalize w.alloc _ = W0 at M0 ⊢
  refine wp_region_lit ?_
  refine lst_val (v := .agg #[.slice ta c.ts.length tc, .slice ca c.cs.length cc, .slice sa c.ss.length sc, .slice da c.d.length dc, .int .i64 c.n]) (by kernel_rfl) ?_ ?_
  · have a0 := M0.out.cb.cell 0; have a1 := M0.out.cb.cell 1; have a2 := M0.out.cb.cell 2; have a3 := M0.out.cb.cell 3; have a4 := M0.out.cb.cell 4
    go_simp
  simp only [Act.put, List.setIfInBounds_toArray, List.set_cons_zero, List.set_cons_succ]
  refine lst_call (by kernel_rfl) (by first | (go_simp; done) | (go_simp; first | exact rfl | exact ⟨rfl, rfl⟩ | exact ⟨rfl, rfl, rfl⟩)) (weight_is _ _ c M0.out.cw) ?_
  rintro e w1 ⟨⟨n, rfl, hn⟩, hB⟩
  refine ⟨_, rfl, ?_⟩
  have M1 : Hid (CtM bx w w1 [.slice ta c.ts.length tc, .slice ca c.cs.length cc, .slice sa c.ss.length sc, .slice da c.d.length dc, .int .i64 c.n] c) := M0.out.past hB
  have HWT : Hid (n ≤ 2097152 → total c = n) := hn
  clear hn hB M0
  simp only [Act.put, List.setIfInBounds_toArray, List.set_cons_zero, List.set_cons_succ]
  by_cases en : n ≤ 2097152
  rotate_left
  · have q1 : (2097152 : Int) < (n : Int) := by omega
    clear en HWT
    go_wp2
    go_ret
    exact ⟨rfl, M1.out.bel⟩
  have q1 : ¬ (2097152 : Int) < (n : Int) := by omega
  by_cases et : b.length ≤ 2097152
  rotate_left
  · have q2 : (2097152 : Int) < (b.length : Int) := by omega
    clear en et HWT
    go_wp2
    go_ret
    exact ⟨rfl, M1.out.bel⟩
  have q2 : ¬ (2097152 : Int) < (b.length : Int) := by omega
  by_cases eu : b2.length ≤ 2097152
  rotate_left
  · have q3 : (2097152 : Int) < (b2.length : Int) := by omega
    clear en et eu HWT
    go_wp2
    go_ret
    exact ⟨rfl, M1.out.bel⟩
  have q3 : ¬ (2097152 : Int) < (b2.length : Int) := by omega
  have HTO : Hid (total c ≤ 2097152) := by have := HWT.out en; unfold Hid; omega
  have HSM : Hid (Small c) := total_small HTO.out
  have HBL : Hid (b.length ≤ 16777216) := by unfold Hid; omega
  have HVL : Hid (b2.length ≤ 16777216) := by unfold Hid; omega
  have HB2 : Hid (b.length + b2.length ≤ 4194304) := by unfold Hid; omega
  clear en et eu HWT
  go_upto_region 3 with fail
  clear q1 q2 q3
  go_upto_region 5 with (go_at_call 16; refine (able_is _).mono ?_; rintro e w2 ⟨rfl, hB⟩; (have M2 : Hid (CtM bx w w2 [.slice ta c.ts.length tc, .slice ca c.cs.length cc, .slice sa c.ss.length sc, .slice da c.d.length dc, .int .i64 c.n] c) := M1.out.past hB); (clear hB M1))
  have a0 : w2.cell? ⟨bx, 0, none⟩ = some (.slice ta c.ts.length tc) := M2.out.cb.cell 0
  have a1 : w2.cell? ⟨bx, 1, none⟩ = some (.slice ca c.cs.length cc) := M2.out.cb.cell 1
  have a2 : w2.cell? ⟨bx, 2, none⟩ = some (.slice sa c.ss.length sc) := M2.out.cb.cell 2
  have a3 : w2.cell? ⟨bx, 3, none⟩ = some (.slice da c.d.length dc) := M2.out.cb.cell 3
  have a4 : w2.cell? ⟨bx, 4, none⟩ = some (.int .i64 c.n) := M2.out.cb.cell 4
  by_cases hm : May c
  rotate_left
  · go_upto_region 6 with (go_at_call 40; refine (may_no _ _ c M2.out.cw hm).mono ?_; rintro e w3 ⟨rfl, hB⟩; (have M3 : Hid (CtM bx w w3 [.slice ta c.ts.length tc, .slice ca c.cs.length cc, .slice sa c.ss.length sc, .slice da c.d.length dc, .int .i64 c.n] c) := M2.out.past hB); (clear hB))
    clear a0 a1 a2 a3 a4 M2
    go_wp2
    go_ret
    exact ⟨rfl, M3.out.bel⟩
  go_upto_region 7 with (go_at_call 40; refine (may_yes _ _ c M2.out.cw hm).mono ?_; rintro e w2a ⟨rfl, hB⟩; (have M3 : Hid (CtM bx w w2a [.slice ta c.ts.length tc, .slice ca c.cs.length cc, .slice sa c.ss.length sc, .slice da c.d.length dc, .int .i64 c.n] c) := M2.out.past hB); (clear hB))
  clear a0 a1 a2 a3 a4 M2
  have M2 := M3
  clear M3
  have a0 : w2a.cell? ⟨bx, 0, none⟩ = some (.slice ta c.ts.length tc) := M2.out.cb.cell 0
  have a1 : w2a.cell? ⟨bx, 1, none⟩ = some (.slice ca c.cs.length cc) := M2.out.cb.cell 1
  have a2 : w2a.cell? ⟨bx, 2, none⟩ = some (.slice sa c.ss.length sc) := M2.out.cb.cell 2
  have a3 : w2a.cell? ⟨bx, 3, none⟩ = some (.slice da c.d.length dc) := M2.out.cb.cell 3
  have a4 : w2a.cell? ⟨bx, 4, none⟩ = some (.int .i64 c.n) := M2.out.cb.cell 4
  obtain ⟨nz, hnz⟩ : ∃ nz, nz = c.d.length + b.length := ⟨_, rfl⟩
  obtain ⟨nw, hnw⟩ : ∃ nw, nw = nz + b2.length := ⟨_, rfl⟩
  obtain ⟨dd, hdd⟩ : ∃ dd, c.d ++ b = dd := ⟨_, rfl⟩
  obtain ⟨bb, hbb⟩ : ∃ bb, b ++ b2 = bb := ⟨_, rfl⟩
  have HDD : Hid (c.d ++ b = dd) := hdd
  have HBB : Hid (b ++ b2 = bb) := hbb
  have HDL : Hid (c.d.length ≤ 2097152) := by have := HTO.out; unfold total fourOf at this; unfold Hid; omega
  have HDDL : Hid (dd.length ≤ 33554432) := by unfold Hid; rw [← hdd, List.length_append]; have := HDL.out; have := HBL.out; omega
  have HBBL : Hid (bb.length ≤ 16777216) := by unfold Hid; rw [← hbb, List.length_append]; have := HB2.out; omega
  clear HB2
  by_cases e1 : (nz : Int) < c.n
  · obtain ⟨cl, hcl⟩ : ∃ cl, cl = con0 := ⟨_, rfl⟩
    have hl : layC c b = (50, cl) := by rw [hcl]; exact lay_50 hm hnz e1
    have HCL : Hid (cl = con0) := hcl
    have HSL : Hid (Small cl) := by rw [hcl]; exact small_zero
    have LA : Hid (∀ (W : World) (R R2 : Nat → Prop) (u1 u2 : Value), CW R W u1 c → BL R2 W u2 b → Calls Try.prog 27 #[u1, u2] W fun e w' => (∃ ta tc ca cc sa sc da dc, e = .returned (.tuple #[.agg #[.slice ta cl.ts.length tc, .slice ca cl.cs.length cc, .slice sa cl.ss.length sc, .slice da cl.d.length dc, .int .i64 cl.n], .int .i64 50]) ∧ CW (fun g => g < w'.heap.size) w' (.agg #[.slice ta cl.ts.length tc, .slice ca cl.cs.length cc, .slice sa cl.ss.length sc, .slice da cl.d.length dc, .int .i64 cl.n]) cl) ∧ Below W.heap.size W w') := fun W R R2 u1 u2 q1 q2 => (lay_is W u1 u2 c b q1 q2 HSM.out HBL.out).mono fun e w' q9 => by
      have q8 : LayQ W.heap.size cl 50 e w' ∧ Below W.heap.size W w' := by rw [hl] at q9; exact q9
      obtain ⟨⟨v', rfl, hD⟩, hB⟩ := q8
      obtain ⟨ta, tc, ca, cc, sa, sc, da, dc, rfl, _⟩ := do_one hD
      exact ⟨⟨ta, tc, ca, cc, sa, sc, da, dc, rfl, (hD.cw HSL.out).mono fun _ _ q => q⟩, hB⟩
    have r1 : (c.d.length : Int) + (b.length : Int) = (nz : Int) := by omega
    have r2 : IntKind.i64.wrap (nz : Int) = (nz : Int) := by rw [IntKind.wrap_i64]; have := HDL.out; have := HBL.out; omega
    have q1 : (nz : Int) < c.n := e1
    clear hm hnz hnw hdd hbb e1 hcl hl
    go_upto_region 8 with fail
    go_upto_region 9 with (first | (go_at_call 19; refine (twin_is _ _ c M2.out.cw HSM.out).mono ?_; rintro e w3 ⟨v3, rfl, hD, hB⟩; (have NA : Hid (CtM bx w w3 [.slice ta c.ts.length tc, .slice ca c.cs.length cc, .slice sa c.ss.length sc, .slice da c.d.length dc, .int .i64 c.n] c ∧ CW (fun _ => True) w3 v3 c) := ⟨M2.out.past hB, (hD.cw HSM.out).mono fun _ _ _ => trivial⟩); (clear hD hB)) | (go_at_call 32; refine (own_is _ _ b (HUB.out _ NA.out.1.bel) HBL.out).mono ?_; rintro e w4 ⟨v4, rfl, hO, hB⟩; (have NB : Hid (CtM bx w w4 [.slice ta c.ts.length tc, .slice ca c.cs.length cc, .slice sa c.ss.length sc, .slice da c.d.length dc, .int .i64 c.n] c ∧ CW (fun _ => True) w4 v3 c ∧ BL (fun _ => True) w4 v4 b) := ⟨NA.out.1.past hB, NA.out.2.past hB, SL.own hO (by have := HBL.out; omega) fun _ _ => trivial⟩); (clear hO hB)) | (go_at_call 27; refine (LA.out _ _ _ _ _ NB.out.2.1 NB.out.2.2).mono ?_; rintro e w5 ⟨⟨ta8, tc8, ca8, cc8, sa8, sc8, da8, dc8, rfl, hC⟩, hB⟩; (have NC : Hid (CtM bx w w5 [.slice ta c.ts.length tc, .slice ca c.cs.length cc, .slice sa c.ss.length sc, .slice da c.d.length dc, .int .i64 c.n] c ∧ CW (fun g => g < w5.heap.size) w5 (.agg #[.slice ta8 cl.ts.length tc8, .slice ca8 cl.cs.length cc8, .slice sa8 cl.ss.length sc8, .slice da8 cl.d.length dc8, .int .i64 cl.n]) cl) := ⟨NB.out.1.past hB, hC⟩); (clear hC hB)))
    clear a0 a1 a2 a3 a4 M2 NA NB LA r1 r2
    have b9 := below_alloc w5 (.cells #[.slice ta8 cl.ts.length tc8, .slice ca8 cl.cs.length cc8, .slice sa8 cl.ss.length sc8, .slice da8 cl.d.length dc8, .int .i64 cl.n] 28)
    have M8 : Hid (CtM bx w (w5.alloc (.cells #[.slice ta8 cl.ts.length tc8, .slice ca8 cl.cs.length cc8, .slice sa8 cl.ss.length sc8, .slice da8 cl.d.length dc8, .int .i64 cl.n] 28)) [.slice ta c.ts.length tc, .slice ca c.cs.length cc, .slice sa c.ss.length sc, .slice da c.d.length dc, .int .i64 c.n] c ∧ CBox (w5.alloc (.cells #[.slice ta8 cl.ts.length tc8, .slice ca8 cl.cs.length cc8, .slice sa8 cl.ss.length sc8, .slice da8 cl.d.length dc8, .int .i64 cl.n] 28)) w5.heap.size 28 [.slice ta8 cl.ts.length tc8, .slice ca8 cl.cs.length cc8, .slice sa8 cl.ss.length sc8, .slice da8 cl.d.length dc8, .int .i64 cl.n] ∧ CW (fun g => g < w5.heap.size) (w5.alloc (.cells #[.slice ta8 cl.ts.length tc8, .slice ca8 cl.cs.length cc8, .slice sa8 cl.ss.length sc8, .slice da8 cl.d.length dc8, .int .i64 cl.n] 28)) (.agg #[.slice ta8 cl.ts.length tc8, .slice ca8 cl.cs.length cc8, .slice sa8 cl.ss.length sc8, .slice da8 cl.d.length dc8, .int .i64 cl.n]) cl) := ⟨NC.out.1.past b9, CBox.new w5 _ [_, _, _, _, _], NC.out.2.past b9⟩
    clear b9 NC
    generalize w5.heap.size = b8 at M8 ⊢
    generalize w5.alloc _ = W8 at M8 ⊢
    have a0 : W8.cell? ⟨bx, 0, none⟩ = some (.slice ta c.ts.length tc) := M8.out.1.cb.cell 0
    have a1 : W8.cell? ⟨bx, 1, none⟩ = some (.slice ca c.cs.length cc) := M8.out.1.cb.cell 1
    have a2 : W8.cell? ⟨bx, 2, none⟩ = some (.slice sa c.ss.length sc) := M8.out.1.cb.cell 2
    have a3 : W8.cell? ⟨bx, 3, none⟩ = some (.slice da c.d.length dc) := M8.out.1.cb.cell 3
    have a4 : W8.cell? ⟨bx, 4, none⟩ = some (.int .i64 c.n) := M8.out.1.cb.cell 4
    go_upto_region 10 with fail
    clear a0 a1 a2 a3 a4 q1
    refine wp_region_lit ?_
    refine lst_val (v := .int .i64 50) (by kernel_rfl) ?_ ?_
    · go_simp
    simp only [Act.put, List.setIfInBounds_toArray, List.set_cons_zero, List.set_cons_succ]
    refine lst_val (v := .bool true) (by kernel_rfl) ?_ ?_
    · go_simp
    simp only [Act.put, List.setIfInBounds_toArray, List.set_cons_zero, List.set_cons_succ]
    refine lst_val (v := .bool true) (by kernel_rfl) ?_ ?_
    · go_simp
    simp only [Act.put, List.setIfInBounds_toArray, List.set_cons_zero, List.set_cons_succ]
    refine lst_val (v := .agg #[.slice ta8 cl.ts.length tc8, .slice ca8 cl.cs.length cc8, .slice sa8 cl.ss.length sc8, .slice da8 cl.d.length dc8, .int .i64 cl.n]) (by kernel_rfl) ?_ ?_
    · have a0 := M8.out.2.1.cell 0; have a1 := M8.out.2.1.cell 1; have a2 := M8.out.2.1.cell 2; have a3 := M8.out.2.1.cell 3; have a4 := M8.out.2.1.cell 4
      go_simp
    simp only [Act.put, List.setIfInBounds_toArray, List.set_cons_zero, List.set_cons_succ]
    refine lst_val (v := .agg #[.slice none 0 0, .slice none 0 0, .slice none 0 0, .slice none 0 0, .int .i64 0]) (by kernel_rfl) ?_ ?_
    · go_simp
    simp only [Act.put, List.setIfInBounds_toArray, List.set_cons_zero, List.set_cons_succ]
    refine lst_call (by kernel_rfl) (by first | (go_simp; done) | (go_simp; first | exact rfl | exact ⟨rfl, rfl⟩ | exact ⟨rfl, rfl, rfl⟩)) (same_is _ _ _ cl M8.out.2.2 (by rw [HCL.out]; exact CW.zero (fun _ => True) _)) ?_
    rintro e y1 ⟨rfl, hB⟩
    refine ⟨_, rfl, ?_⟩
    have BF : Hid (Below w.heap.size w y1) := M8.out.1.bel.trans (hB.mono M8.out.1.bel.size)
    clear hB
    simp only [Act.put, List.setIfInBounds_toArray, List.set_cons_zero, List.set_cons_succ]
    refine lst_val (v := .bool true) (by kernel_rfl) ?_ ?_
    · go_simp
    simp only [Act.put, List.setIfInBounds_toArray, List.set_cons_zero, List.set_cons_succ]
    refine lst_val (v := .bool true) (by kernel_rfl) ?_ ?_
    · go_simp
    simp only [Act.put, List.setIfInBounds_toArray, List.set_cons_zero, List.set_cons_succ]
    refine wpList_nil ?_
    go_wp2
    go_ret
    exact ⟨rfl, BF.out⟩
  by_cases e2 : 65535 < nz
  · obtain ⟨cl, hcl⟩ : ∃ cl, cl = con0 := ⟨_, rfl⟩
    have hl : layC c b = (2, cl) := by rw [hcl]; exact lay_2 hm hnz e1 e2
    have HCL : Hid (cl = con0) := hcl
    have HSL : Hid (Small cl) := by rw [hcl]; exact small_zero
    have LA : Hid (∀ (W : World) (R R2 : Nat → Prop) (u1 u2 : Value), CW R W u1 c → BL R2 W u2 b → Calls Try.prog 27 #[u1, u2] W fun e w' => (∃ ta tc ca cc sa sc da dc, e = .returned (.tuple #[.agg #[.slice ta cl.ts.length tc, .slice ca cl.cs.length cc, .slice sa cl.ss.length sc, .slice da cl.d.length dc, .int .i64 cl.n], .int .i64 2]) ∧ CW (fun g => g < w'.heap.size) w' (.agg #[.slice ta cl.ts.length tc, .slice ca cl.cs.length cc, .slice sa cl.ss.length sc, .slice da cl.d.length dc, .int .i64 cl.n]) cl) ∧ Below W.heap.size W w') := fun W R R2 u1 u2 q1 q2 => (lay_is W u1 u2 c b q1 q2 HSM.out HBL.out).mono fun e w' q9 => by
      have q8 : LayQ W.heap.size cl 2 e w' ∧ Below W.heap.size W w' := by rw [hl] at q9; exact q9
      obtain ⟨⟨v', rfl, hD⟩, hB⟩ := q8
      obtain ⟨ta, tc, ca, cc, sa, sc, da, dc, rfl, _⟩ := do_one hD
      exact ⟨⟨ta, tc, ca, cc, sa, sc, da, dc, rfl, (hD.cw HSL.out).mono fun _ _ q => q⟩, hB⟩
    have r1 : (c.d.length : Int) + (b.length : Int) = (nz : Int) := by omega
    have r2 : IntKind.i64.wrap (nz : Int) = (nz : Int) := by rw [IntKind.wrap_i64]; have := HDL.out; have := HBL.out; omega
    have q1 : ¬ (nz : Int) < c.n := e1
    have q2 : (65535 : Int) < (nz : Int) := by omega
    clear hm hnz hnw hdd hbb e1 hcl hl e2
    go_upto_region 8 with fail
    go_upto_region 9 with (first | (go_at_call 19; refine (twin_is _ _ c M2.out.cw HSM.out).mono ?_; rintro e w3 ⟨v3, rfl, hD, hB⟩; (have NA : Hid (CtM bx w w3 [.slice ta c.ts.length tc, .slice ca c.cs.length cc, .slice sa c.ss.length sc, .slice da c.d.length dc, .int .i64 c.n] c ∧ CW (fun _ => True) w3 v3 c) := ⟨M2.out.past hB, (hD.cw HSM.out).mono fun _ _ _ => trivial⟩); (clear hD hB)) | (go_at_call 32; refine (own_is _ _ b (HUB.out _ NA.out.1.bel) HBL.out).mono ?_; rintro e w4 ⟨v4, rfl, hO, hB⟩; (have NB : Hid (CtM bx w w4 [.slice ta c.ts.length tc, .slice ca c.cs.length cc, .slice sa c.ss.length sc, .slice da c.d.length dc, .int .i64 c.n] c ∧ CW (fun _ => True) w4 v3 c ∧ BL (fun _ => True) w4 v4 b) := ⟨NA.out.1.past hB, NA.out.2.past hB, SL.own hO (by have := HBL.out; omega) fun _ _ => trivial⟩); (clear hO hB)) | (go_at_call 27; refine (LA.out _ _ _ _ _ NB.out.2.1 NB.out.2.2).mono ?_; rintro e w5 ⟨⟨ta8, tc8, ca8, cc8, sa8, sc8, da8, dc8, rfl, hC⟩, hB⟩; (have NC : Hid (CtM bx w w5 [.slice ta c.ts.length tc, .slice ca c.cs.length cc, .slice sa c.ss.length sc, .slice da c.d.length dc, .int .i64 c.n] c ∧ CW (fun g => g < w5.heap.size) w5 (.agg #[.slice ta8 cl.ts.length tc8, .slice ca8 cl.cs.length cc8, .slice sa8 cl.ss.length sc8, .slice da8 cl.d.length dc8, .int .i64 cl.n]) cl) := ⟨NB.out.1.past hB, hC⟩); (clear hC hB)))
    clear a0 a1 a2 a3 a4 M2 NA NB LA r1 r2
    have b9 := below_alloc w5 (.cells #[.slice ta8 cl.ts.length tc8, .slice ca8 cl.cs.length cc8, .slice sa8 cl.ss.length sc8, .slice da8 cl.d.length dc8, .int .i64 cl.n] 28)
    have M8 : Hid (CtM bx w (w5.alloc (.cells #[.slice ta8 cl.ts.length tc8, .slice ca8 cl.cs.length cc8, .slice sa8 cl.ss.length sc8, .slice da8 cl.d.length dc8, .int .i64 cl.n] 28)) [.slice ta c.ts.length tc, .slice ca c.cs.length cc, .slice sa c.ss.length sc, .slice da c.d.length dc, .int .i64 c.n] c ∧ CBox (w5.alloc (.cells #[.slice ta8 cl.ts.length tc8, .slice ca8 cl.cs.length cc8, .slice sa8 cl.ss.length sc8, .slice da8 cl.d.length dc8, .int .i64 cl.n] 28)) w5.heap.size 28 [.slice ta8 cl.ts.length tc8, .slice ca8 cl.cs.length cc8, .slice sa8 cl.ss.length sc8, .slice da8 cl.d.length dc8, .int .i64 cl.n] ∧ CW (fun g => g < w5.heap.size) (w5.alloc (.cells #[.slice ta8 cl.ts.length tc8, .slice ca8 cl.cs.length cc8, .slice sa8 cl.ss.length sc8, .slice da8 cl.d.length dc8, .int .i64 cl.n] 28)) (.agg #[.slice ta8 cl.ts.length tc8, .slice ca8 cl.cs.length cc8, .slice sa8 cl.ss.length sc8, .slice da8 cl.d.length dc8, .int .i64 cl.n]) cl) := ⟨NC.out.1.past b9, CBox.new w5 _ [_, _, _, _, _], NC.out.2.past b9⟩
    clear b9 NC
    generalize w5.heap.size = b8 at M8 ⊢
    generalize w5.alloc _ = W8 at M8 ⊢
    have a0 : W8.cell? ⟨bx, 0, none⟩ = some (.slice ta c.ts.length tc) := M8.out.1.cb.cell 0
    have a1 : W8.cell? ⟨bx, 1, none⟩ = some (.slice ca c.cs.length cc) := M8.out.1.cb.cell 1
    have a2 : W8.cell? ⟨bx, 2, none⟩ = some (.slice sa c.ss.length sc) := M8.out.1.cb.cell 2
    have a3 : W8.cell? ⟨bx, 3, none⟩ = some (.slice da c.d.length dc) := M8.out.1.cb.cell 3
    have a4 : W8.cell? ⟨bx, 4, none⟩ = some (.int .i64 c.n) := M8.out.1.cb.cell 4
    go_upto_region 12 with fail
    clear a0 a1 a2 a3 a4 q1 q2
    refine wp_region_lit ?_
    refine lst_val (v := .int .i64 2) (by kernel_rfl) ?_ ?_
    · go_simp
    simp only [Act.put, List.setIfInBounds_toArray, List.set_cons_zero, List.set_cons_succ]
    refine lst_val (v := .bool true) (by kernel_rfl) ?_ ?_
    · go_simp
    simp only [Act.put, List.setIfInBounds_toArray, List.set_cons_zero, List.set_cons_succ]
    refine lst_val (v := .bool true) (by kernel_rfl) ?_ ?_
    · go_simp
    simp only [Act.put, List.setIfInBounds_toArray, List.set_cons_zero, List.set_cons_succ]
    refine lst_val (v := .agg #[.slice ta8 cl.ts.length tc8, .slice ca8 cl.cs.length cc8, .slice sa8 cl.ss.length sc8, .slice da8 cl.d.length dc8, .int .i64 cl.n]) (by kernel_rfl) ?_ ?_
    · have a0 := M8.out.2.1.cell 0; have a1 := M8.out.2.1.cell 1; have a2 := M8.out.2.1.cell 2; have a3 := M8.out.2.1.cell 3; have a4 := M8.out.2.1.cell 4
      go_simp
    simp only [Act.put, List.setIfInBounds_toArray, List.set_cons_zero, List.set_cons_succ]
    refine lst_val (v := .agg #[.slice none 0 0, .slice none 0 0, .slice none 0 0, .slice none 0 0, .int .i64 0]) (by kernel_rfl) ?_ ?_
    · go_simp
    simp only [Act.put, List.setIfInBounds_toArray, List.set_cons_zero, List.set_cons_succ]
    refine lst_call (by kernel_rfl) (by first | (go_simp; done) | (go_simp; first | exact rfl | exact ⟨rfl, rfl⟩ | exact ⟨rfl, rfl, rfl⟩)) (same_is _ _ _ cl M8.out.2.2 (by rw [HCL.out]; exact CW.zero (fun _ => True) _)) ?_
    rintro e y1 ⟨rfl, hB⟩
    refine ⟨_, rfl, ?_⟩
    have BF : Hid (Below w.heap.size w y1) := M8.out.1.bel.trans (hB.mono M8.out.1.bel.size)
    clear hB
    simp only [Act.put, List.setIfInBounds_toArray, List.set_cons_zero, List.set_cons_succ]
    refine lst_val (v := .bool true) (by kernel_rfl) ?_ ?_
    · go_simp
    simp only [Act.put, List.setIfInBounds_toArray, List.set_cons_zero, List.set_cons_succ]
    refine lst_val (v := .bool true) (by kernel_rfl) ?_ ?_
    · go_simp
    simp only [Act.put, List.setIfInBounds_toArray, List.set_cons_zero, List.set_cons_succ]
    refine wpList_nil ?_
    go_wp2
    go_ret
    exact ⟨rfl, BF.out⟩
  by_cases e3 : 65535 < nw
  · obtain ⟨cl, hcl⟩ : ∃ cl : Con, cl = ⟨c.ts, c.cs, c.ss, dd, (nz : Int)⟩ := ⟨_, rfl⟩
    have hl : layC c b = (0, cl) := by rw [hcl, ← hdd]; exact lay_0 hm hnz e1 e2
    have HCL : Hid (cl = ⟨c.ts, c.cs, c.ss, dd, (nz : Int)⟩) := hcl
    have HSL : Hid (Small cl) := by rw [hcl, ← hdd]; exact small_laid HTO.out hnz e2
    have hmc : May cl := by rw [hcl, ← hdd]; exact may_laid hm hnz e2
    have hn2 : nw = cl.d.length + b2.length := by rw [hcl, ← hdd]; show nw = (c.d ++ b).length + b2.length; rw [List.length_append]; omega
    have hn3 : nw = c.d.length + bb.length := by rw [← hbb, List.length_append]; omega
    have e4 : ¬ (nw : Int) < cl.n := by rw [hcl]; show ¬ (nw : Int) < (nz : Int); omega
    have e5 : ¬ (nw : Int) < c.n := by omega
    obtain ⟨cx, hcx⟩ : ∃ cx, cx = con0 := ⟨_, rfl⟩
    have h2 : layC cl b2 = (2, cx) := by rw [hcx]; exact lay_2 hmc hn2 e4 e3
    have h3 : layC c bb = (2, cx) := by rw [hcx]; exact lay_2 hm hn3 e5 e3
    have HSX : Hid (Small cx) := by rw [hcx]; exact small_zero
    have LB : Hid (∀ (W : World) (R R2 : Nat → Prop) (u1 u2 : Value), CW R W u1 cl → BL R2 W u2 b2 → Calls Try.prog 27 #[u1, u2] W fun e w' => (∃ ta tc ca cc sa sc da dc, e = .returned (.tuple #[.agg #[.slice ta cx.ts.length tc, .slice ca cx.cs.length cc, .slice sa cx.ss.length sc, .slice da cx.d.length dc, .int .i64 cx.n], .int .i64 2]) ∧ CW (fun g => g < w'.heap.size) w' (.agg #[.slice ta cx.ts.length tc, .slice ca cx.cs.length cc, .slice sa cx.ss.length sc, .slice da cx.d.length dc, .int .i64 cx.n]) cx) ∧ Below W.heap.size W w') := fun W R R2 u1 u2 q1 q2 => (lay_is W u1 u2 cl b2 q1 q2 HSL.out HVL.out).mono fun e w' q9 => by
      have q8 : LayQ W.heap.size cx 2 e w' ∧ Below W.heap.size W w' := by rw [h2] at q9; exact q9
      obtain ⟨⟨v', rfl, hD⟩, hB⟩ := q8
      obtain ⟨ta, tc, ca, cc, sa, sc, da, dc, rfl, _⟩ := do_one hD
      exact ⟨⟨ta, tc, ca, cc, sa, sc, da, dc, rfl, (hD.cw HSX.out).mono fun _ _ q => q⟩, hB⟩
    have LD : Hid (∀ (W : World) (R R2 : Nat → Prop) (u1 u2 : Value), CW R W u1 c → BL R2 W u2 bb → Calls Try.prog 27 #[u1, u2] W fun e w' => (∃ ta tc ca cc sa sc da dc, e = .returned (.tuple #[.agg #[.slice ta cx.ts.length tc, .slice ca cx.cs.length cc, .slice sa cx.ss.length sc, .slice da cx.d.length dc, .int .i64 cx.n], .int .i64 2]) ∧ CW (fun g => g < w'.heap.size) w' (.agg #[.slice ta cx.ts.length tc, .slice ca cx.cs.length cc, .slice sa cx.ss.length sc, .slice da cx.d.length dc, .int .i64 cx.n]) cx) ∧ Below W.heap.size W w') := fun W R R2 u1 u2 q1 q2 => (lay_is W u1 u2 c bb q1 q2 HSM.out HBBL.out).mono fun e w' q9 => by
      have q8 : LayQ W.heap.size cx 2 e w' ∧ Below W.heap.size W w' := by rw [h3] at q9; exact q9
      obtain ⟨⟨v', rfl, hD⟩, hB⟩ := q8
      obtain ⟨ta, tc, ca, cc, sa, sc, da, dc, rfl, _⟩ := do_one hD
      exact ⟨⟨ta, tc, ca, cc, sa, sc, da, dc, rfl, (hD.cw HSX.out).mono fun _ _ q => q⟩, hB⟩
    clear hmc hn2 hn3 e4 e5 hcx h2 h3
    have LA : Hid (∀ (W : World) (R R2 : Nat → Prop) (u1 u2 : Value), CW R W u1 c → BL R2 W u2 b → Calls Try.prog 27 #[u1, u2] W fun e w' => (∃ ta tc ca cc sa sc da dc, e = .returned (.tuple #[.agg #[.slice ta cl.ts.length tc, .slice ca cl.cs.length cc, .slice sa cl.ss.length sc, .slice da cl.d.length dc, .int .i64 cl.n], .int .i64 0]) ∧ CW (fun g => g < w'.heap.size) w' (.agg #[.slice ta cl.ts.length tc, .slice ca cl.cs.length cc, .slice sa cl.ss.length sc, .slice da cl.d.length dc, .int .i64 cl.n]) cl) ∧ Below W.heap.size W w') := fun W R R2 u1 u2 q1 q2 => (lay_is W u1 u2 c b q1 q2 HSM.out HBL.out).mono fun e w' q9 => by
      have q8 : LayQ W.heap.size cl 0 e w' ∧ Below W.heap.size W w' := by rw [hl] at q9; exact q9
      obtain ⟨⟨v', rfl, hD⟩, hB⟩ := q8
      obtain ⟨ta, tc, ca, cc, sa, sc, da, dc, rfl, _⟩ := do_one hD
      exact ⟨⟨ta, tc, ca, cc, sa, sc, da, dc, rfl, (hD.cw HSL.out).mono fun _ _ q => q⟩, hB⟩
    have r1 : (c.d.length : Int) + (b.length : Int) = (nz : Int) := by omega
    have r2 : IntKind.i64.wrap (nz : Int) = (nz : Int) := by rw [IntKind.wrap_i64]; have := HDL.out; have := HBL.out; omega
    have q1 : ¬ (nz : Int) < c.n := e1
    have q2 : ¬ (65535 : Int) < (nz : Int) := by omega
    have r3 : (nz : Int) + (b2.length : Int) = (nw : Int) := by omega
    have r4 : IntKind.i64.wrap (nw : Int) = (nw : Int) := by rw [IntKind.wrap_i64]; have := HDL.out; have := HBL.out; have := HVL.out; omega
    have q3 : (65535 : Int) < (nw : Int) := by omega
    clear hm hnz hnw hdd hbb e1 hcl hl e2 e3
    go_upto_region 8 with fail
    go_upto_region 9 with (first | (go_at_call 19; refine (twin_is _ _ c M2.out.cw HSM.out).mono ?_; rintro e w3 ⟨v3, rfl, hD, hB⟩; (have NA : Hid (CtM bx w w3 [.slice ta c.ts.length tc, .slice ca c.cs.length cc, .slice sa c.ss.length sc, .slice da c.d.length dc, .int .i64 c.n] c ∧ CW (fun _ => True) w3 v3 c) := ⟨M2.out.past hB, (hD.cw HSM.out).mono fun _ _ _ => trivial⟩); (clear hD hB)) | (go_at_call 32; refine (own_is _ _ b (HUB.out _ NA.out.1.bel) HBL.out).mono ?_; rintro e w4 ⟨v4, rfl, hO, hB⟩; (have NB : Hid (CtM bx w w4 [.slice ta c.ts.length tc, .slice ca c.cs.length cc, .slice sa c.ss.length sc, .slice da c.d.length dc, .int .i64 c.n] c ∧ CW (fun _ => True) w4 v3 c ∧ BL (fun _ => True) w4 v4 b) := ⟨NA.out.1.past hB, NA.out.2.past hB, SL.own hO (by have := HBL.out; omega) fun _ _ => trivial⟩); (clear hO hB)) | (go_at_call 27; refine (LA.out _ _ _ _ _ NB.out.2.1 NB.out.2.2).mono ?_; rintro e w5 ⟨⟨ta8, tc8, ca8, cc8, sa8, sc8, da8, dc8, rfl, hC⟩, hB⟩; (have NC : Hid (CtM bx w w5 [.slice ta c.ts.length tc, .slice ca c.cs.length cc, .slice sa c.ss.length sc, .slice da c.d.length dc, .int .i64 c.n] c ∧ CW (fun g => g < w5.heap.size) w5 (.agg #[.slice ta8 cl.ts.length tc8, .slice ca8 cl.cs.length cc8, .slice sa8 cl.ss.length sc8, .slice da8 cl.d.length dc8, .int .i64 cl.n]) cl) := ⟨NB.out.1.past hB, hC⟩); (clear hC hB)))
    clear a0 a1 a2 a3 a4 M2 NA NB LA r1 r2
    have b9 := below_alloc w5 (.cells #[.slice ta8 cl.ts.length tc8, .slice ca8 cl.cs.length cc8, .slice sa8 cl.ss.length sc8, .slice da8 cl.d.length dc8, .int .i64 cl.n] 28)
    have M8 : Hid (CtM bx w (w5.alloc (.cells #[.slice ta8 cl.ts.length tc8, .slice ca8 cl.cs.length cc8, .slice sa8 cl.ss.length sc8, .slice da8 cl.d.length dc8, .int .i64 cl.n] 28)) [.slice ta c.ts.length tc, .slice ca c.cs.length cc, .slice sa c.ss.length sc, .slice da c.d.length dc, .int .i64 c.n] c ∧ CBox (w5.alloc (.cells #[.slice ta8 cl.ts.length tc8, .slice ca8 cl.cs.length cc8, .slice sa8 cl.ss.length sc8, .slice da8 cl.d.length dc8, .int .i64 cl.n] 28)) w5.heap.size 28 [.slice ta8 cl.ts.length tc8, .slice ca8 cl.cs.length cc8, .slice sa8 cl.ss.length sc8, .slice da8 cl.d.length dc8, .int .i64 cl.n] ∧ CW (fun g => g < w5.heap.size) (w5.alloc (.cells #[.slice ta8 cl.ts.length tc8, .slice ca8 cl.cs.length cc8, .slice sa8 cl.ss.length sc8, .slice da8 cl.d.length dc8, .int .i64 cl.n] 28)) (.agg #[.slice ta8 cl.ts.length tc8, .slice ca8 cl.cs.length cc8, .slice sa8 cl.ss.length sc8, .slice da8 cl.d.length dc8, .int .i64 cl.n]) cl) := ⟨NC.out.1.past b9, CBox.new w5 _ [_, _, _, _, _], NC.out.2.past b9⟩
    clear b9 NC
    generalize w5.heap.size = b8 at M8 ⊢
    generalize w5.alloc _ = W8 at M8 ⊢
    have a0 : W8.cell? ⟨bx, 0, none⟩ = some (.slice ta c.ts.length tc) := M8.out.1.cb.cell 0
    have a1 : W8.cell? ⟨bx, 1, none⟩ = some (.slice ca c.cs.length cc) := M8.out.1.cb.cell 1
    have a2 : W8.cell? ⟨bx, 2, none⟩ = some (.slice sa c.ss.length sc) := M8.out.1.cb.cell 2
    have a3 : W8.cell? ⟨bx, 3, none⟩ = some (.slice da c.d.length dc) := M8.out.1.cb.cell 3
    have a4 : W8.cell? ⟨bx, 4, none⟩ = some (.int .i64 c.n) := M8.out.1.cb.cell 4
    go_upto_region 13 with fail
    clear q1 q2
    go_upto_region 14 with (go_at_call 19; refine (twin_is _ _ c M8.out.1.cw HSM.out).mono ?_; rintro e w9 ⟨v9, rfl, hD, hB⟩; (obtain ⟨ta9, tc9, ca9, cc9, sa9, sc9, da9, dc9, e9, hQ⟩ := do_one hD); (subst e9); (have ND : Hid (CtM bx w w9 [.slice ta c.ts.length tc, .slice ca c.cs.length cc, .slice sa c.ss.length sc, .slice da c.d.length dc, .int .i64 c.n] c ∧ (CBox w9 b8 28 [.slice ta8 cl.ts.length tc8, .slice ca8 cl.cs.length cc8, .slice sa8 cl.ss.length sc8, .slice da8 cl.d.length dc8, .int .i64 cl.n] ∧ CW (fun g => g < b8) w9 (.agg #[.slice ta8 cl.ts.length tc8, .slice ca8 cl.cs.length cc8, .slice sa8 cl.ss.length sc8, .slice da8 cl.d.length dc8, .int .i64 cl.n]) cl) ∧ CW (fun g => g < w9.heap.size) w9 (.agg #[.slice ta9 c.ts.length tc9, .slice ca9 c.cs.length cc9, .slice sa9 c.ss.length sc9, .slice da9 c.d.length dc9, .int .i64 c.n]) c) := ⟨M8.out.1.past hB, ⟨M8.out.2.1.past hB, M8.out.2.2.past hB⟩, (hD.cw HSM.out).mono fun _ _ q => q⟩); (clear hD hB hQ))
    clear a0 a1 a2 a3 a4 M8
    have b9 := below_alloc w9 (.cells #[.slice ta9 c.ts.length tc9, .slice ca9 c.cs.length cc9, .slice sa9 c.ss.length sc9, .slice da9 c.d.length dc9, .int .i64 c.n] 28)
    have HBX : Hid (bx < w9.heap.size ∧ b8 < w9.heap.size ∧ w.heap.size ≤ w9.heap.size) := ⟨ND.out.1.cb.lt, ND.out.2.1.1.lt, ND.out.1.bel.size⟩
    have M10 : Hid (CtM bx w (w9.alloc (.cells #[.slice ta9 c.ts.length tc9, .slice ca9 c.cs.length cc9, .slice sa9 c.ss.length sc9, .slice da9 c.d.length dc9, .int .i64 c.n] 28)) [.slice ta c.ts.length tc, .slice ca c.cs.length cc, .slice sa c.ss.length sc, .slice da c.d.length dc, .int .i64 c.n] c ∧ (CBox (w9.alloc (.cells #[.slice ta9 c.ts.length tc9, .slice ca9 c.cs.length cc9, .slice sa9 c.ss.length sc9, .slice da9 c.d.length dc9, .int .i64 c.n] 28)) b8 28 [.slice ta8 cl.ts.length tc8, .slice ca8 cl.cs.length cc8, .slice sa8 cl.ss.length sc8, .slice da8 cl.d.length dc8, .int .i64 cl.n] ∧ CW (fun g => g < b8) (w9.alloc (.cells #[.slice ta9 c.ts.length tc9, .slice ca9 c.cs.length cc9, .slice sa9 c.ss.length sc9, .slice da9 c.d.length dc9, .int .i64 c.n] 28)) (.agg #[.slice ta8 cl.ts.length tc8, .slice ca8 cl.cs.length cc8, .slice sa8 cl.ss.length sc8, .slice da8 cl.d.length dc8, .int .i64 cl.n]) cl) ∧ CW (fun g => g < w9.heap.size) (w9.alloc (.cells #[.slice ta9 c.ts.length tc9, .slice ca9 c.cs.length cc9, .slice sa9 c.ss.length sc9, .slice da9 c.d.length dc9, .int .i64 c.n] 28)) (.agg #[.slice ta9 c.ts.length tc9, .slice ca9 c.cs.length cc9, .slice sa9 c.ss.length sc9, .slice da9 c.d.length dc9, .int .i64 c.n]) c ∧ CBox (w9.alloc (.cells #[.slice ta9 c.ts.length tc9, .slice ca9 c.cs.length cc9, .slice sa9 c.ss.length sc9, .slice da9 c.d.length dc9, .int .i64 c.n] 28)) w9.heap.size 28 [.slice ta9 c.ts.length tc9, .slice ca9 c.cs.length cc9, .slice sa9 c.ss.length sc9, .slice da9 c.d.length dc9, .int .i64 c.n]) := ⟨ND.out.1.past b9, ⟨ND.out.2.1.1.past b9, ND.out.2.1.2.past b9⟩, ND.out.2.2.past b9, CBox.new w9 _ [_, _, _, _, _]⟩
    clear b9 ND
    generalize w9.heap.size = b10 at M10 HBX ⊢
    generalize w9.alloc _ = W10 at M10 ⊢
    have HB0 : Hid (b10 < W10.heap.size) := M10.out.2.2.2.lt
    have a0 : W10.cell? ⟨bx, 0, none⟩ = some (.slice ta c.ts.length tc) := M10.out.1.cb.cell 0
    have a1 : W10.cell? ⟨bx, 1, none⟩ = some (.slice ca c.cs.length cc) := M10.out.1.cb.cell 1
    have a2 : W10.cell? ⟨bx, 2, none⟩ = some (.slice sa c.ss.length sc) := M10.out.1.cb.cell 2
    have a3 : W10.cell? ⟨bx, 3, none⟩ = some (.slice da c.d.length dc) := M10.out.1.cb.cell 3
    have a4 : W10.cell? ⟨bx, 4, none⟩ = some (.int .i64 c.n) := M10.out.1.cb.cell 4
    go_upto_region 16 with (first | (go_at_call 32; refine (own_is _ _ c.d (HDA.out _ M10.out.1.bel) (by have := HDL.out; omega)).mono ?_; rintro e w11 ⟨v11, rfl, hO, hB⟩; (have NE : Hid (CtM bx w w11 [.slice ta c.ts.length tc, .slice ca c.cs.length cc, .slice sa c.ss.length sc, .slice da c.d.length dc, .int .i64 c.n] c ∧ (CBox w11 b8 28 [.slice ta8 cl.ts.length tc8, .slice ca8 cl.cs.length cc8, .slice sa8 cl.ss.length sc8, .slice da8 cl.d.length dc8, .int .i64 cl.n] ∧ CW (fun g => g < b8) w11 (.agg #[.slice ta8 cl.ts.length tc8, .slice ca8 cl.cs.length cc8, .slice sa8 cl.ss.length sc8, .slice da8 cl.d.length dc8, .int .i64 cl.n]) cl) ∧ CW (fun g => g < b10) w11 (.agg #[.slice ta9 c.ts.length tc9, .slice ca9 c.cs.length cc9, .slice sa9 c.ss.length sc9, .slice da9 c.d.length dc9, .int .i64 c.n]) c ∧ CBox w11 b10 28 [.slice ta9 c.ts.length tc9, .slice ca9 c.cs.length cc9, .slice sa9 c.ss.length sc9, .slice da9 c.d.length dc9, .int .i64 c.n] ∧ w11.ownsRow W10.heap.size 5 1 v11 c.d.length (bV c.d) ∧ W10.heap.size ≤ w11.heap.size) := ⟨M10.out.1.past hB, ⟨M10.out.2.1.1.past hB, M10.out.2.1.2.past hB⟩, M10.out.2.2.1.past hB, M10.out.2.2.2.past hB, hO, hB.size⟩); (clear hO hB)) | (at_builtin; refine wpList_appB rfl _ _ rfl W10.heap.size NE.out.2.2.2.2.2 v11 c.d rfl NE.out.2.2.2.2.1 (.slice ua b.length uc) b rfl (HUB.out _ NE.out.1.bel) (by have := HDL.out; have := HBL.out; omega) ?_; intro v12 w12 hA; rw [HDD.out] at hA; (obtain ⟨xa, xc, exx⟩ := owns_sl hA.row); (subst exx); (have kb : But (fun g => W10.heap.size ≤ g) w11 w12 := hA.but.mono fun g hg => (World.ownsRow.lt NE.out.2.2.2.2.1 g hg).1); (have bl9 : Below w.heap.size w w12 := NE.out.1.bel.trans (kb.below (fun g (e : W10.heap.size ≤ g) => by have := HBX.out; have := HB0.out; omega) NE.out.1.bel.size)); (have NF : Hid (CtM bx w w12 [.slice ta c.ts.length tc, .slice ca c.cs.length cc, .slice sa c.ss.length sc, .slice da c.d.length dc, .int .i64 c.n] c ∧ (CBox w12 b8 28 [.slice ta8 cl.ts.length tc8, .slice ca8 cl.cs.length cc8, .slice sa8 cl.ss.length sc8, .slice da8 cl.d.length dc8, .int .i64 cl.n] ∧ CW (fun g => g < b8) w12 (.agg #[.slice ta8 cl.ts.length tc8, .slice ca8 cl.cs.length cc8, .slice sa8 cl.ss.length sc8, .slice da8 cl.d.length dc8, .int .i64 cl.n]) cl) ∧ CW (fun g => g < b10) w12 (.agg #[.slice ta9 c.ts.length tc9, .slice ca9 c.cs.length cc9, .slice sa9 c.ss.length sc9, .slice da9 c.d.length dc9, .int .i64 c.n]) c ∧ CBox w12 b10 28 [.slice ta9 c.ts.length tc9, .slice ca9 c.cs.length cc9, .slice sa9 c.ss.length sc9, .slice da9 c.d.length dc9, .int .i64 c.n] ∧ BL (fun g => b10 < g) w12 (.slice xa dd.length xc) dd) := ⟨⟨NE.out.1.cb.but kb (fun (e : W10.heap.size ≤ bx) => by have := HBX.out; have := HB0.out; omega), HCA.out _ bl9, bl9⟩, ⟨NE.out.2.1.1.but kb (fun (e : W10.heap.size ≤ b8) => by have := HBX.out; have := HB0.out; omega), NE.out.2.1.2.but kb (fun g (h1 : g < b8) (h2 : W10.heap.size ≤ g) => by have := HBX.out; have := HB0.out; omega)⟩, NE.out.2.2.1.but kb (fun g (h1 : g < b10) (h2 : W10.heap.size ≤ g) => by have := HBX.out; have := HB0.out; omega), NE.out.2.2.2.1.but kb (fun (e : W10.heap.size ≤ b10) => by have := HBX.out; have := HB0.out; omega), SL.own hA.row (by have := HDDL.out; omega) (fun g hg => by have := (World.ownsRow.lt hA.row g hg).1; have := HB0.out; omega)⟩); (clear kb bl9 hA); (have k3 : w12.cell? ⟨b10, 3, none⟩ = some (.slice da9 c.d.length dc9) := NF.out.2.2.2.1.cell 3); (have f3 := CBox.frozen NF.out.2.2.2.1 3); (have k4 : w12.cell? ⟨b10, 4, none⟩ = some (.int .i64 c.n) := NF.out.2.2.2.1.cell 4); (have f4 := CBox.frozen NF.out.2.2.2.1 4)))
    clear a0 a1 a2 a3 a4 M10 NE k3 f3 k4 f4
    have hs : But (fun y => y = b10) w12 ((w12.setCell ⟨b10, 3, none⟩ (.slice xa dd.length xc)).setCell ⟨b10, 4, none⟩ (.int .i64 (nz : Int))) := ((But.refl (fun y => y = b10) w12).setCell ⟨b10, 3, none⟩ _ (Or.inl rfl)).setCell ⟨b10, 4, none⟩ _ (Or.inl rfl)
    have bl9 : Below w.heap.size w ((w12.setCell ⟨b10, 3, none⟩ (.slice xa dd.length xc)).setCell ⟨b10, 4, none⟩ (.int .i64 (nz : Int))) := NF.out.1.bel.trans (hs.below (fun g (e : g = b10) => by have := HBX.out; omega) NF.out.1.bel.size)
    have M13 : Hid (CtM bx w ((w12.setCell ⟨b10, 3, none⟩ (.slice xa dd.length xc)).setCell ⟨b10, 4, none⟩ (.int .i64 (nz : Int))) [.slice ta c.ts.length tc, .slice ca c.cs.length cc, .slice sa c.ss.length sc, .slice da c.d.length dc, .int .i64 c.n] c ∧ (CBox ((w12.setCell ⟨b10, 3, none⟩ (.slice xa dd.length xc)).setCell ⟨b10, 4, none⟩ (.int .i64 (nz : Int))) b8 28 [.slice ta8 cl.ts.length tc8, .slice ca8 cl.cs.length cc8, .slice sa8 cl.ss.length sc8, .slice da8 cl.d.length dc8, .int .i64 cl.n] ∧ CW (fun g => g < b8) ((w12.setCell ⟨b10, 3, none⟩ (.slice xa dd.length xc)).setCell ⟨b10, 4, none⟩ (.int .i64 (nz : Int))) (.agg #[.slice ta8 cl.ts.length tc8, .slice ca8 cl.cs.length cc8, .slice sa8 cl.ss.length sc8, .slice da8 cl.d.length dc8, .int .i64 cl.n]) cl) ∧ CBox ((w12.setCell ⟨b10, 3, none⟩ (.slice xa dd.length xc)).setCell ⟨b10, 4, none⟩ (.int .i64 (nz : Int))) b10 28 [.slice ta9 c.ts.length tc9, .slice ca9 c.cs.length cc9, .slice sa9 c.ss.length sc9, .slice xa dd.length xc, .int .i64 (nz : Int)] ∧ CW (fun _ => True) ((w12.setCell ⟨b10, 3, none⟩ (.slice xa dd.length xc)).setCell ⟨b10, 4, none⟩ (.int .i64 (nz : Int))) (.agg #[.slice ta9 c.ts.length tc9, .slice ca9 c.cs.length cc9, .slice sa9 c.ss.length sc9, .slice xa dd.length xc, .int .i64 (nz : Int)]) cl) := ⟨⟨NF.out.1.cb.but hs (fun (e : bx = b10) => by have := HBX.out; omega), HCA.out _ bl9, bl9⟩, ⟨NF.out.2.1.1.but hs (fun (e : b8 = b10) => by have := HBX.out; omega), NF.out.2.1.2.but hs (fun g (h1 : g < b8) (h2 : g = b10) => by have := HBX.out; omega)⟩, (NF.out.2.2.2.1.set 3 _).set 4 _, by rw [HCL.out]; exact cw_swap (NF.out.2.2.1.but hs (fun g (h1 : g < b10) (h2 : g = b10) => by omega)) (NF.out.2.2.2.2.but hs (fun g (h1 : b10 < g) (h2 : g = b10) => by omega))⟩
    clear hs bl9 NF
    generalize ((w12.setCell ⟨b10, 3, none⟩ (.slice xa dd.length xc)).setCell ⟨b10, 4, none⟩ (.int .i64 (nz : Int))) = W13 at M13 ⊢
    refine wp_region_lit ?_
    refine lst_val (v := .int .i64 0) (by kernel_rfl) ?_ ?_
    · go_simp
    simp only [Act.put, List.setIfInBounds_toArray, List.set_cons_zero, List.set_cons_succ]
    refine lst_val (v := .bool false) (by kernel_rfl) ?_ ?_
    · go_simp
    simp only [Act.put, List.setIfInBounds_toArray, List.set_cons_zero, List.set_cons_succ]
    refine lst_val (v := .bool false) (by kernel_rfl) ?_ ?_
    · go_simp
    simp only [Act.put, List.setIfInBounds_toArray, List.set_cons_zero, List.set_cons_succ]
    refine lst_val (v := .agg #[.slice ta8 cl.ts.length tc8, .slice ca8 cl.cs.length cc8, .slice sa8 cl.ss.length sc8, .slice da8 cl.d.length dc8, .int .i64 cl.n]) (by kernel_rfl) ?_ ?_
    · have a0 := M13.out.2.1.1.cell 0; have a1 := M13.out.2.1.1.cell 1; have a2 := M13.out.2.1.1.cell 2; have a3 := M13.out.2.1.1.cell 3; have a4 := M13.out.2.1.1.cell 4
      go_simp
    simp only [Act.put, List.setIfInBounds_toArray, List.set_cons_zero, List.set_cons_succ]
    refine lst_val (v := .agg #[.slice ta9 c.ts.length tc9, .slice ca9 c.cs.length cc9, .slice sa9 c.ss.length sc9, .slice xa dd.length xc, .int .i64 (nz : Int)]) (by kernel_rfl) ?_ ?_
    · have a0 := M13.out.2.2.1.cell 0; have a1 := M13.out.2.2.1.cell 1; have a2 := M13.out.2.2.1.cell 2; have a3 := M13.out.2.2.1.cell 3; have a4 := M13.out.2.2.1.cell 4
      go_simp
    simp only [Act.put, List.setIfInBounds_toArray, List.set_cons_zero, List.set_cons_succ]
    refine lst_call (by kernel_rfl) (by first | (go_simp; done) | (go_simp; first | exact rfl | exact ⟨rfl, rfl⟩ | exact ⟨rfl, rfl, rfl⟩)) (same_is _ _ _ cl M13.out.2.1.2 M13.out.2.2.2) ?_
    rintro e y1 ⟨rfl, hB⟩
    refine ⟨_, rfl, ?_⟩
    have M14 : Hid (CtM bx w y1 [.slice ta c.ts.length tc, .slice ca c.cs.length cc, .slice sa c.ss.length sc, .slice da c.d.length dc, .int .i64 c.n] c ∧ CBox y1 b8 28 [.slice ta8 cl.ts.length tc8, .slice ca8 cl.cs.length cc8, .slice sa8 cl.ss.length sc8, .slice da8 cl.d.length dc8, .int .i64 cl.n] ∧ CW (fun g => g < b8) y1 (.agg #[.slice ta8 cl.ts.length tc8, .slice ca8 cl.cs.length cc8, .slice sa8 cl.ss.length sc8, .slice da8 cl.d.length dc8, .int .i64 cl.n]) cl) := ⟨M13.out.1.past hB, M13.out.2.1.1.past hB, M13.out.2.1.2.past hB⟩
    clear hB M13 HBX HB0
    simp only [Act.put, List.setIfInBounds_toArray, List.set_cons_zero, List.set_cons_succ]
    refine lst_val (v := .bool false) (by kernel_rfl) ?_ ?_
    · go_simp
    simp only [Act.put, List.setIfInBounds_toArray, List.set_cons_zero, List.set_cons_succ]
    refine lst_val (v := .bool false) (by kernel_rfl) ?_ ?_
    · go_simp
    simp only [Act.put, List.setIfInBounds_toArray, List.set_cons_zero, List.set_cons_succ]
    refine wpList_nil ?_
    go_upto_region 18 with fail
    have a0 : y1.cell? ⟨b8, 0, none⟩ = some (.slice ta8 cl.ts.length tc8) := M14.out.2.1.cell 0
    have a1 : y1.cell? ⟨b8, 1, none⟩ = some (.slice ca8 cl.cs.length cc8) := M14.out.2.1.cell 1
    have a2 : y1.cell? ⟨b8, 2, none⟩ = some (.slice sa8 cl.ss.length sc8) := M14.out.2.1.cell 2
    have a3 : y1.cell? ⟨b8, 3, none⟩ = some (.slice da8 cl.d.length dc8) := M14.out.2.1.cell 3
    have a4 : y1.cell? ⟨b8, 4, none⟩ = some (.int .i64 cl.n) := M14.out.2.1.cell 4
    go_upto_region 19 with (first | (go_at_call 19; refine (twin_is _ _ cl M14.out.2.2 HSL.out).mono ?_; rintro e w15 ⟨v15, rfl, hD, hB⟩; (have NG : Hid (CtM bx w w15 [.slice ta c.ts.length tc, .slice ca c.cs.length cc, .slice sa c.ss.length sc, .slice da c.d.length dc, .int .i64 c.n] c ∧ CW (fun _ => True) w15 v15 cl) := ⟨M14.out.1.past hB, (hD.cw HSL.out).mono fun _ _ _ => trivial⟩); (clear hD hB)) | (go_at_call 32; refine (own_is _ _ b2 (HVB.out _ NG.out.1.bel) HVL.out).mono ?_; rintro e w16 ⟨v16, rfl, hO, hB⟩; (have NH : Hid (CtM bx w w16 [.slice ta c.ts.length tc, .slice ca c.cs.length cc, .slice sa c.ss.length sc, .slice da c.d.length dc, .int .i64 c.n] c ∧ CW (fun _ => True) w16 v15 cl ∧ BL (fun _ => True) w16 v16 b2) := ⟨NG.out.1.past hB, NG.out.2.past hB, SL.own hO (by have := HVL.out; omega) fun _ _ => trivial⟩); (clear hO hB)) | (go_at_call 27; refine (LB.out _ _ _ _ _ NH.out.2.1 NH.out.2.2).mono ?_; rintro e w17 ⟨⟨tax, tcx, cax, ccx, sax, scx, dax, dcx, rfl, hC⟩, hB⟩; (have NI : Hid (CtM bx w w17 [.slice ta c.ts.length tc, .slice ca c.cs.length cc, .slice sa c.ss.length sc, .slice da c.d.length dc, .int .i64 c.n] c ∧ CW (fun g => g < w17.heap.size) w17 (.agg #[.slice tax cx.ts.length tcx, .slice cax cx.cs.length ccx, .slice sax cx.ss.length scx, .slice dax cx.d.length dcx, .int .i64 cx.n]) cx) := ⟨NH.out.1.past hB, hC⟩); (clear hC hB)))
    clear a0 a1 a2 a3 a4 M14 NG NH LB
    have b9 := below_alloc w17 (.cells #[.slice tax cx.ts.length tcx, .slice cax cx.cs.length ccx, .slice sax cx.ss.length scx, .slice dax cx.d.length dcx, .int .i64 cx.n] 28)
    have M17 : Hid (CtM bx w (w17.alloc (.cells #[.slice tax cx.ts.length tcx, .slice cax cx.cs.length ccx, .slice sax cx.ss.length scx, .slice dax cx.d.length dcx, .int .i64 cx.n] 28)) [.slice ta c.ts.length tc, .slice ca c.cs.length cc, .slice sa c.ss.length sc, .slice da c.d.length dc, .int .i64 c.n] c ∧ CBox (w17.alloc (.cells #[.slice tax cx.ts.length tcx, .slice cax cx.cs.length ccx, .slice sax cx.ss.length scx, .slice dax cx.d.length dcx, .int .i64 cx.n] 28)) w17.heap.size 28 [.slice tax cx.ts.length tcx, .slice cax cx.cs.length ccx, .slice sax cx.ss.length scx, .slice dax cx.d.length dcx, .int .i64 cx.n] ∧ CW (fun g => g < w17.heap.size) (w17.alloc (.cells #[.slice tax cx.ts.length tcx, .slice cax cx.cs.length ccx, .slice sax cx.ss.length scx, .slice dax cx.d.length dcx, .int .i64 cx.n] 28)) (.agg #[.slice tax cx.ts.length tcx, .slice cax cx.cs.length ccx, .slice sax cx.ss.length scx, .slice dax cx.d.length dcx, .int .i64 cx.n]) cx) := ⟨NI.out.1.past b9, CBox.new w17 _ [_, _, _, _, _], NI.out.2.past b9⟩
    clear b9 NI
    generalize w17.heap.size = b11 at M17 ⊢
    generalize w17.alloc _ = W17 at M17 ⊢
    have a0 : W17.cell? ⟨bx, 0, none⟩ = some (.slice ta c.ts.length tc) := M17.out.1.cb.cell 0
    have a1 : W17.cell? ⟨bx, 1, none⟩ = some (.slice ca c.cs.length cc) := M17.out.1.cb.cell 1
    have a2 : W17.cell? ⟨bx, 2, none⟩ = some (.slice sa c.ss.length sc) := M17.out.1.cb.cell 2
    have a3 : W17.cell? ⟨bx, 3, none⟩ = some (.slice da c.d.length dc) := M17.out.1.cb.cell 3
    have a4 : W17.cell? ⟨bx, 4, none⟩ = some (.int .i64 c.n) := M17.out.1.cb.cell 4
    go_upto_region 20 with (first | (go_at_call 19; refine (twin_is _ _ c M17.out.1.cw HSM.out).mono ?_; rintro e w19 ⟨v19, rfl, hD, hB⟩; (have NJ : Hid (CtM bx w w19 [.slice ta c.ts.length tc, .slice ca c.cs.length cc, .slice sa c.ss.length sc, .slice da c.d.length dc, .int .i64 c.n] c ∧ (CBox w19 b11 28 [.slice tax cx.ts.length tcx, .slice cax cx.cs.length ccx, .slice sax cx.ss.length scx, .slice dax cx.d.length dcx, .int .i64 cx.n] ∧ CW (fun g => g < b11) w19 (.agg #[.slice tax cx.ts.length tcx, .slice cax cx.cs.length ccx, .slice sax cx.ss.length scx, .slice dax cx.d.length dcx, .int .i64 cx.n]) cx) ∧ CW (fun g => g < w19.heap.size) w19 v19 c) := ⟨M17.out.1.past hB, ⟨M17.out.2.1.past hB, M17.out.2.2.past hB⟩, (hD.cw HSM.out).mono fun _ _ q => q⟩); (clear hD hB)) | (go_at_call 32; refine (own_is _ _ b (HUB.out _ NJ.out.1.bel) HBL.out).mono ?_; rintro e w20 ⟨v20, rfl, hO, hB⟩; (have NK : Hid (CtM bx w w20 [.slice ta c.ts.length tc, .slice ca c.cs.length cc, .slice sa c.ss.length sc, .slice da c.d.length dc, .int .i64 c.n] c ∧ (CBox w20 b11 28 [.slice tax cx.ts.length tcx, .slice cax cx.cs.length ccx, .slice sax cx.ss.length scx, .slice dax cx.d.length dcx, .int .i64 cx.n] ∧ CW (fun g => g < b11) w20 (.agg #[.slice tax cx.ts.length tcx, .slice cax cx.cs.length ccx, .slice sax cx.ss.length scx, .slice dax cx.d.length dcx, .int .i64 cx.n]) cx) ∧ CW (fun g => g < w19.heap.size) w20 v19 c ∧ w20.ownsRow w19.heap.size 5 1 v20 b.length (bV b) ∧ w19.heap.size ≤ w20.heap.size ∧ b11 < w19.heap.size ∧ w.heap.size ≤ w19.heap.size) := ⟨NJ.out.1.past hB, ⟨NJ.out.2.1.1.past hB, NJ.out.2.1.2.past hB⟩, NJ.out.2.2.past hB, hO, hB.size, NJ.out.2.1.1.lt, NJ.out.1.bel.size⟩); (clear hO hB)) | (at_builtin; refine wpList_appB rfl _ _ rfl w19.heap.size NK.out.2.2.2.2.1 v20 b rfl NK.out.2.2.2.1 (.slice va b2.length vc) b2 rfl (HVB.out _ NK.out.1.bel) (by have := HVL.out; have := HBL.out; omega) ?_; intro v21 w21 hA; rw [HBB.out] at hA; (have kb : But (fun g => w19.heap.size ≤ g) w20 w21 := hA.but.mono fun g hg => (World.ownsRow.lt NK.out.2.2.2.1 g hg).1); (have bl9 : Below w.heap.size w w21 := NK.out.1.bel.trans (kb.below (fun g (e : w19.heap.size ≤ g) => by have := NK.out.2.2.2.2; omega) NK.out.1.bel.size)); (have NL : Hid (Below w.heap.size w w21 ∧ (CBox w21 b11 28 [.slice tax cx.ts.length tcx, .slice cax cx.cs.length ccx, .slice sax cx.ss.length scx, .slice dax cx.d.length dcx, .int .i64 cx.n] ∧ CW (fun g => g < b11) w21 (.agg #[.slice tax cx.ts.length tcx, .slice cax cx.cs.length ccx, .slice sax cx.ss.length scx, .slice dax cx.d.length dcx, .int .i64 cx.n]) cx) ∧ CW (fun g => g < w19.heap.size) w21 v19 c ∧ BL (fun _ => True) w21 v21 bb) := ⟨bl9, ⟨NK.out.2.1.1.but kb (fun (e : w19.heap.size ≤ b11) => by have := NK.out.2.2.2.2; omega), NK.out.2.1.2.but kb (fun g (h1 : g < b11) (h2 : w19.heap.size ≤ g) => by have := NK.out.2.2.2.2; omega)⟩, NK.out.2.2.1.but kb (fun g (h1 : g < w19.heap.size) (h2 : w19.heap.size ≤ g) => by omega), SL.own hA.row (by have := HBBL.out; omega) (fun _ _ => trivial)⟩); (clear kb bl9 hA)) | (go_at_call 27; refine (LD.out _ _ _ _ _ NL.out.2.2.1 NL.out.2.2.2).mono ?_; rintro e w22 ⟨⟨tay, tcy, cay, ccy, say, scy, day, dcy, rfl, hC⟩, hB⟩; (have NM : Hid (Below w.heap.size w w22 ∧ (CBox w22 b11 28 [.slice tax cx.ts.length tcx, .slice cax cx.cs.length ccx, .slice sax cx.ss.length scx, .slice dax cx.d.length dcx, .int .i64 cx.n] ∧ CW (fun g => g < b11) w22 (.agg #[.slice tax cx.ts.length tcx, .slice cax cx.cs.length ccx, .slice sax cx.ss.length scx, .slice dax cx.d.length dcx, .int .i64 cx.n]) cx) ∧ CW (fun g => g < w22.heap.size) w22 (.agg #[.slice tay cx.ts.length tcy, .slice cay cx.cs.length ccy, .slice say cx.ss.length scy, .slice day cx.d.length dcy, .int .i64 cx.n]) cx) := ⟨NL.out.1.trans (hB.mono NL.out.1.size), ⟨NL.out.2.1.1.past hB, NL.out.2.1.2.past hB⟩, hC⟩); (clear hC hB)))
    clear a0 a1 a2 a3 a4 M17 NJ NK NL LD
    have b9 := below_alloc w22 (.cells #[.slice tay cx.ts.length tcy, .slice cay cx.cs.length ccy, .slice say cx.ss.length scy, .slice day cx.d.length dcy, .int .i64 cx.n] 28)
    have M22 : Hid (Below w.heap.size w (w22.alloc (.cells #[.slice tay cx.ts.length tcy, .slice cay cx.cs.length ccy, .slice say cx.ss.length scy, .slice day cx.d.length dcy, .int .i64 cx.n] 28)) ∧ (CBox (w22.alloc (.cells #[.slice tay cx.ts.length tcy, .slice cay cx.cs.length ccy, .slice say cx.ss.length scy, .slice day cx.d.length dcy, .int .i64 cx.n] 28)) b11 28 [.slice tax cx.ts.length tcx, .slice cax cx.cs.length ccx, .slice sax cx.ss.length scx, .slice dax cx.d.length dcx, .int .i64 cx.n] ∧ CW (fun g => g < b11) (w22.alloc (.cells #[.slice tay cx.ts.length tcy, .slice cay cx.cs.length ccy, .slice say cx.ss.length scy, .slice day cx.d.length dcy, .int .i64 cx.n] 28)) (.agg #[.slice tax cx.ts.length tcx, .slice cax cx.cs.length ccx, .slice sax cx.ss.length scx, .slice dax cx.d.length dcx, .int .i64 cx.n]) cx) ∧ CBox (w22.alloc (.cells #[.slice tay cx.ts.length tcy, .slice cay cx.cs.length ccy, .slice say cx.ss.length scy, .slice day cx.d.length dcy, .int .i64 cx.n] 28)) w22.heap.size 28 [.slice tay cx.ts.length tcy, .slice cay cx.cs.length ccy, .slice say cx.ss.length scy, .slice day cx.d.length dcy, .int .i64 cx.n] ∧ CW (fun g => g < w22.heap.size) (w22.alloc (.cells #[.slice tay cx.ts.length tcy, .slice cay cx.cs.length ccy, .slice say cx.ss.length scy, .slice day cx.d.length dcy, .int .i64 cx.n] 28)) (.agg #[.slice tay cx.ts.length tcy, .slice cay cx.cs.length ccy, .slice say cx.ss.length scy, .slice day cx.d.length dcy, .int .i64 cx.n]) cx) := ⟨NM.out.1.trans (b9.mono NM.out.1.size), ⟨NM.out.2.1.1.past b9, NM.out.2.1.2.past b9⟩, CBox.new w22 _ [_, _, _, _, _], NM.out.2.2.past b9⟩
    clear b9 NM
    generalize w22.heap.size = b13 at M22 ⊢
    generalize w22.alloc _ = W22 at M22 ⊢
    go_wp2
    go_ret
    exact ⟨rfl, M22.out.1⟩
  obtain ⟨cl, hcl⟩ : ∃ cl : Con, cl = ⟨c.ts, c.cs, c.ss, dd, (nz : Int)⟩ := ⟨_, rfl⟩
  have hl : layC c b = (0, cl) := by rw [hcl, ← hdd]; exact lay_0 hm hnz e1 e2
  have HCL : Hid (cl = ⟨c.ts, c.cs, c.ss, dd, (nz : Int)⟩) := hcl
  have HSL : Hid (Small cl) := by rw [hcl, ← hdd]; exact small_laid HTO.out hnz e2
  have hmc : May cl := by rw [hcl, ← hdd]; exact may_laid hm hnz e2
  have hn2 : nw = cl.d.length + b2.length := by rw [hcl, ← hdd]; show nw = (c.d ++ b).length + b2.length; rw [List.length_append]; omega
  have hn3 : nw = c.d.length + bb.length := by rw [← hbb, List.length_append]; omega
  have e4 : ¬ (nw : Int) < cl.n := by rw [hcl]; show ¬ (nw : Int) < (nz : Int); omega
  have e5 : ¬ (nw : Int) < c.n := by omega
  obtain ⟨cx, hcx⟩ : ∃ cx : Con, cx = ⟨c.ts, c.cs, c.ss, c.d ++ bb, (nw : Int)⟩ := ⟨_, rfl⟩
  have h3 : layC c bb = (0, cx) := by rw [hcx]; exact lay_0 hm hn3 e5 e3
  have h2 : layC cl b2 = (0, cx) := by
    rw [lay_0 hmc hn2 e4 e3, hcx, hcl, ← hbb, ← hdd]
    simp only [List.append_assoc]
  have HSX : Hid (Small cx) := by rw [hcx]; exact small_laid HTO.out hn3 e3
  have HMX : Hid (May cx) := by rw [hcx]; exact may_laid hm hn3 e3
  obtain ⟨bs, hbs⟩ : ∃ bs, bs = ser cx := ⟨_, rfl⟩
  have hsr : serR cx = bs := by rw [hbs]; unfold serR; rw [if_pos (may_chk HMX.out)]
  have hbl : bs.length ≤ 67108864 := by rw [hbs]; exact ser_small HMX.out HSX.out
  have SE : Hid (∀ (W : World) (R : Nat → Prop) (u : Value), CW R W u cx → Calls Try.prog 35 #[u] W fun e w' => (∃ oa oc, e = .returned (.tuple #[.slice oa bs.length oc, .int .i64 0]) ∧ BL (fun _ => True) w' (.slice oa bs.length oc) bs) ∧ Below W.heap.size W w') := fun W R u q => (serialize_is W u cx q HSX.out).mono fun e w' q9 => by
    obtain ⟨v', rfl, hO, hB⟩ := q9
    rw [hsr] at hO
    obtain ⟨oa, oc, rfl⟩ := owns_sl hO
    exact ⟨⟨oa, oc, by rw [may_chk HMX.out], SL.own hO (by omega) fun _ _ => trivial⟩, hB⟩
  have BY : Hid (∀ (W : World) (R : Nat → Prop) (u : Value), CW R W u cx → Calls Try.prog 41 #[u] W fun e w' => (∃ oa oc, e = .returned (.slice oa bs.length oc) ∧ BL (fun _ => True) w' (.slice oa bs.length oc) bs) ∧ Below W.heap.size W w') := fun W R u q => (bytes_is W u cx q HSX.out HMX.out).mono fun e w' q9 => by
    obtain ⟨v', rfl, hO, hB⟩ := q9
    rw [← hbs] at hO
    obtain ⟨oa, oc, rfl⟩ := owns_sl hO
    exact ⟨⟨oa, oc, rfl, SL.own hO (by omega) fun _ _ => trivial⟩, hB⟩
  clear hbs hsr hbl
  have LB : Hid (∀ (W : World) (R R2 : Nat → Prop) (u1 u2 : Value), CW R W u1 cl → BL R2 W u2 b2 → Calls Try.prog 27 #[u1, u2] W fun e w' => (∃ ta tc ca cc sa sc da dc, e = .returned (.tuple #[.agg #[.slice ta cx.ts.length tc, .slice ca cx.cs.length cc, .slice sa cx.ss.length sc, .slice da cx.d.length dc, .int .i64 cx.n], .int .i64 0]) ∧ CW (fun g => g < w'.heap.size) w' (.agg #[.slice ta cx.ts.length tc, .slice ca cx.cs.length cc, .slice sa cx.ss.length sc, .slice da cx.d.length dc, .int .i64 cx.n]) cx) ∧ Below W.heap.size W w') := fun W R R2 u1 u2 q1 q2 => (lay_is W u1 u2 cl b2 q1 q2 HSL.out HVL.out).mono fun e w' q9 => by
    have q8 : LayQ W.heap.size cx 0 e w' ∧ Below W.heap.size W w' := by rw [h2] at q9; exact q9
    obtain ⟨⟨v', rfl, hD⟩, hB⟩ := q8
    obtain ⟨ta, tc, ca, cc, sa, sc, da, dc, rfl, _⟩ := do_one hD
    exact ⟨⟨ta, tc, ca, cc, sa, sc, da, dc, rfl, (hD.cw HSX.out).mono fun _ _ q => q⟩, hB⟩
  have LD : Hid (∀ (W : World) (R R2 : Nat → Prop) (u1 u2 : Value), CW R W u1 c → BL R2 W u2 bb → Calls Try.prog 27 #[u1, u2] W fun e w' => (∃ ta tc ca cc sa sc da dc, e = .returned (.tuple #[.agg #[.slice ta cx.ts.length tc, .slice ca cx.cs.length cc, .slice sa cx.ss.length sc, .slice da cx.d.length dc, .int .i64 cx.n], .int .i64 0]) ∧ CW (fun g => g < w'.heap.size) w' (.agg #[.slice ta cx.ts.length tc, .slice ca cx.cs.length cc, .slice sa cx.ss.length sc, .slice da cx.d.length dc, .int .i64 cx.n]) cx) ∧ Below W.heap.size W w') := fun W R R2 u1 u2 q1 q2 => (lay_is W u1 u2 c bb q1 q2 HSM.out HBBL.out).mono fun e w' q9 => by
    have q8 : LayQ W.heap.size cx 0 e w' ∧ Below W.heap.size W w' := by rw [h3] at q9; exact q9
    obtain ⟨⟨v', rfl, hD⟩, hB⟩ := q8
    obtain ⟨ta, tc, ca, cc, sa, sc, da, dc, rfl, _⟩ := do_one hD
    exact ⟨⟨ta, tc, ca, cc, sa, sc, da, dc, rfl, (hD.cw HSX.out).mono fun _ _ q => q⟩, hB⟩
  clear hmc hn2 hn3 e4 e5 hcx h2 h3
  have LA : Hid (∀ (W : World) (R R2 : Nat → Prop) (u1 u2 : Value), CW R W u1 c → BL R2 W u2 b → Calls Try.prog 27 #[u1, u2] W fun e w' => (∃ ta tc ca cc sa sc da dc, e = .returned (.tuple #[.agg #[.slice ta cl.ts.length tc, .slice ca cl.cs.length cc, .slice sa cl.ss.length sc, .slice da cl.d.length dc, .int .i64 cl.n], .int .i64 0]) ∧ CW (fun g => g < w'.heap.size) w' (.agg #[.slice ta cl.ts.length tc, .slice ca cl.cs.length cc, .slice sa cl.ss.length sc, .slice da cl.d.length dc, .int .i64 cl.n]) cl) ∧ Below W.heap.size W w') := fun W R R2 u1 u2 q1 q2 => (lay_is W u1 u2 c b q1 q2 HSM.out HBL.out).mono fun e w' q9 => by
    have q8 : LayQ W.heap.size cl 0 e w' ∧ Below W.heap.size W w' := by rw [hl] at q9; exact q9
    obtain ⟨⟨v', rfl, hD⟩, hB⟩ := q8
    obtain ⟨ta, tc, ca, cc, sa, sc, da, dc, rfl, _⟩ := do_one hD
    exact ⟨⟨ta, tc, ca, cc, sa, sc, da, dc, rfl, (hD.cw HSL.out).mono fun _ _ q => q⟩, hB⟩
  have r1 : (c.d.length : Int) + (b.length : Int) = (nz : Int) := by omega
  have r2 : IntKind.i64.wrap (nz : Int) = (nz : Int) := by rw [IntKind.wrap_i64]; have := HDL.out; have := HBL.out; omega
  have q1 : ¬ (nz : Int) < c.n := e1
  have q2 : ¬ (65535 : Int) < (nz : Int) := by omega
  have r3 : (nz : Int) + (b2.length : Int) = (nw : Int) := by omega
  have r4 : IntKind.i64.wrap (nw : Int) = (nw : Int) := by rw [IntKind.wrap_i64]; have := HDL.out; have := HBL.out; have := HVL.out; omega
  have q3 : ¬ (65535 : Int) < (nw : Int) := by omega
  clear hm hnz hnw hdd hbb e1 hcl hl e2 e3
  go_upto_region 8 with fail
  go_upto_region 9 with (first | (go_at_call 19; refine (twin_is _ _ c M2.out.cw HSM.out).mono ?_; rintro e w3 ⟨v3, rfl, hD, hB⟩; (have NA : Hid (CtM bx w w3 [.slice ta c.ts.length tc, .slice ca c.cs.length cc, .slice sa c.ss.length sc, .slice da c.d.length dc, .int .i64 c.n] c ∧ CW (fun _ => True) w3 v3 c) := ⟨M2.out.past hB, (hD.cw HSM.out).mono fun _ _ _ => trivial⟩); (clear hD hB)) | (go_at_call 32; refine (own_is _ _ b (HUB.out _ NA.out.1.bel) HBL.out).mono ?_; rintro e w4 ⟨v4, rfl, hO, hB⟩; (have NB : Hid (CtM bx w w4 [.slice ta c.ts.length tc, .slice ca c.cs.length cc, .slice sa c.ss.length sc, .slice da c.d.length dc, .int .i64 c.n] c ∧ CW (fun _ => True) w4 v3 c ∧ BL (fun _ => True) w4 v4 b) := ⟨NA.out.1.past hB, NA.out.2.past hB, SL.own hO (by have := HBL.out; omega) fun _ _ => trivial⟩); (clear hO hB)) | (go_at_call 27; refine (LA.out _ _ _ _ _ NB.out.2.1 NB.out.2.2).mono ?_; rintro e w5 ⟨⟨ta8, tc8, ca8, cc8, sa8, sc8, da8, dc8, rfl, hC⟩, hB⟩; (have NC : Hid (CtM bx w w5 [.slice ta c.ts.length tc, .slice ca c.cs.length cc, .slice sa c.ss.length sc, .slice da c.d.length dc, .int .i64 c.n] c ∧ CW (fun g => g < w5.heap.size) w5 (.agg #[.slice ta8 cl.ts.length tc8, .slice ca8 cl.cs.length cc8, .slice sa8 cl.ss.length sc8, .slice da8 cl.d.length dc8, .int .i64 cl.n]) cl) := ⟨NB.out.1.past hB, hC⟩); (clear hC hB)))
  clear a0 a1 a2 a3 a4 M2 NA NB LA r1 r2
  have b9 := below_alloc w5 (.cells #[.slice ta8 cl.ts.length tc8, .slice ca8 cl.cs.length cc8, .slice sa8 cl.ss.length sc8, .slice da8 cl.d.length dc8, .int .i64 cl.n] 28)
  have M8 : Hid (CtM bx w (w5.alloc (.cells #[.slice ta8 cl.ts.length tc8, .slice ca8 cl.cs.length cc8, .slice sa8 cl.ss.length sc8, .slice da8 cl.d.length dc8, .int .i64 cl.n] 28)) [.slice ta c.ts.length tc, .slice ca c.cs.length cc, .slice sa c.ss.length sc, .slice da c.d.length dc, .int .i64 c.n] c ∧ CBox (w5.alloc (.cells #[.slice ta8 cl.ts.length tc8, .slice ca8 cl.cs.length cc8, .slice sa8 cl.ss.length sc8, .slice da8 cl.d.length dc8, .int .i64 cl.n] 28)) w5.heap.size 28 [.slice ta8 cl.ts.length tc8, .slice ca8 cl.cs.length cc8, .slice sa8 cl.ss.length sc8, .slice da8 cl.d.length dc8, .int .i64 cl.n] ∧ CW (fun g => g < w5.heap.size) (w5.alloc (.cells #[.slice ta8 cl.ts.length tc8, .slice ca8 cl.cs.length cc8, .slice sa8 cl.ss.length sc8, .slice da8 cl.d.length dc8, .int .i64 cl.n] 28)) (.agg #[.slice ta8 cl.ts.length tc8, .slice ca8 cl.cs.length cc8, .slice sa8 cl.ss.length sc8, .slice da8 cl.d.length dc8, .int .i64 cl.n]) cl) := ⟨NC.out.1.past b9, CBox.new w5 _ [_, _, _, _, _], NC.out.2.past b9⟩
  clear b9 NC
  generalize w5.heap.size = b8 at M8 ⊢
  generalize w5.alloc _ = W8 at M8 ⊢
  have a0 : W8.cell? ⟨bx, 0, none⟩ = some (.slice ta c.ts.length tc) := M8.out.1.cb.cell 0
  have a1 : W8.cell? ⟨bx, 1, none⟩ = some (.slice ca c.cs.length cc) := M8.out.1.cb.cell 1
  have a2 : W8.cell? ⟨bx, 2, none⟩ = some (.slice sa c.ss.length sc) := M8.out.1.cb.cell 2
  have a3 : W8.cell? ⟨bx, 3, none⟩ = some (.slice da c.d.length dc) := M8.out.1.cb.cell 3
  have a4 : W8.cell? ⟨bx, 4, none⟩ = some (.int .i64 c.n) := M8.out.1.cb.cell 4
  go_upto_region 13 with fail
  clear q1 q2
  go_upto_region 14 with (go_at_call 19; refine (twin_is _ _ c M8.out.1.cw HSM.out).mono ?_; rintro e w9 ⟨v9, rfl, hD, hB⟩; (obtain ⟨ta9, tc9, ca9, cc9, sa9, sc9, da9, dc9, e9, hQ⟩ := do_one hD); (subst e9); (have ND : Hid (CtM bx w w9 [.slice ta c.ts.length tc, .slice ca c.cs.length cc, .slice sa c.ss.length sc, .slice da c.d.length dc, .int .i64 c.n] c ∧ (CBox w9 b8 28 [.slice ta8 cl.ts.length tc8, .slice ca8 cl.cs.length cc8, .slice sa8 cl.ss.length sc8, .slice da8 cl.d.length dc8, .int .i64 cl.n] ∧ CW (fun g => g < b8) w9 (.agg #[.slice ta8 cl.ts.length tc8, .slice ca8 cl.cs.length cc8, .slice sa8 cl.ss.length sc8, .slice da8 cl.d.length dc8, .int .i64 cl.n]) cl) ∧ CW (fun g => g < w9.heap.size) w9 (.agg #[.slice ta9 c.ts.length tc9, .slice ca9 c.cs.length cc9, .slice sa9 c.ss.length sc9, .slice da9 c.d.length dc9, .int .i64 c.n]) c) := ⟨M8.out.1.past hB, ⟨M8.out.2.1.past hB, M8.out.2.2.past hB⟩, (hD.cw HSM.out).mono fun _ _ q => q⟩); (clear hD hB hQ))
  clear a0 a1 a2 a3 a4 M8
  have b9 := below_alloc w9 (.cells #[.slice ta9 c.ts.length tc9, .slice ca9 c.cs.length cc9, .slice sa9 c.ss.length sc9, .slice da9 c.d.length dc9, .int .i64 c.n] 28)
  have HBX : Hid (bx < w9.heap.size ∧ b8 < w9.heap.size ∧ w.heap.size ≤ w9.heap.size) := ⟨ND.out.1.cb.lt, ND.out.2.1.1.lt, ND.out.1.bel.size⟩
  have M10 : Hid (CtM bx w (w9.alloc (.cells #[.slice ta9 c.ts.length tc9, .slice ca9 c.cs.length cc9, .slice sa9 c.ss.length sc9, .slice da9 c.d.length dc9, .int .i64 c.n] 28)) [.slice ta c.ts.length tc, .slice ca c.cs.length cc, .slice sa c.ss.length sc, .slice da c.d.length dc, .int .i64 c.n] c ∧ (CBox (w9.alloc (.cells #[.slice ta9 c.ts.length tc9, .slice ca9 c.cs.length cc9, .slice sa9 c.ss.length sc9, .slice da9 c.d.length dc9, .int .i64 c.n] 28)) b8 28 [.slice ta8 cl.ts.length tc8, .slice ca8 cl.cs.length cc8, .slice sa8 cl.ss.length sc8, .slice da8 cl.d.length dc8, .int .i64 cl.n] ∧ CW (fun g => g < b8) (w9.alloc (.cells #[.slice ta9 c.ts.length tc9, .slice ca9 c.cs.length cc9, .slice sa9 c.ss.length sc9, .slice da9 c.d.length dc9, .int .i64 c.n] 28)) (.agg #[.slice ta8 cl.ts.length tc8, .slice ca8 cl.cs.length cc8, .slice sa8 cl.ss.length sc8, .slice da8 cl.d.length dc8, .int .i64 cl.n]) cl) ∧ CW (fun g => g < w9.heap.size) (w9.alloc (.cells #[.slice ta9 c.ts.length tc9, .slice ca9 c.cs.length cc9, .slice sa9 c.ss.length sc9, .slice da9 c.d.length dc9, .int .i64 c.n] 28)) (.agg #[.slice ta9 c.ts.length tc9, .slice ca9 c.cs.length cc9, .slice sa9 c.ss.length sc9, .slice da9 c.d.length dc9, .int .i64 c.n]) c ∧ CBox (w9.alloc (.cells #[.slice ta9 c.ts.length tc9, .slice ca9 c.cs.length cc9, .slice sa9 c.ss.length sc9, .slice da9 c.d.length dc9, .int .i64 c.n] 28)) w9.heap.size 28 [.slice ta9 c.ts.length tc9, .slice ca9 c.cs.length cc9, .slice sa9 c.ss.length sc9, .slice da9 c.d.length dc9, .int .i64 c.n]) := ⟨ND.out.1.past b9, ⟨ND.out.2.1.1.past b9, ND.out.2.1.2.past b9⟩, ND.out.2.2.past b9, CBox.new w9 _ [_, _, _, _, _]⟩
  clear b9 ND
  generalize w9.heap.size = b10 at M10 HBX ⊢
  generalize w9.alloc _ = W10 at M10 ⊢
  have HB0 : Hid (b10 < W10.heap.size) := M10.out.2.2.2.lt
  have a0 : W10.cell? ⟨bx, 0, none⟩ = some (.slice ta c.ts.length tc) := M10.out.1.cb.cell 0
  have a1 : W10.cell? ⟨bx, 1, none⟩ = some (.slice ca c.cs.length cc) := M10.out.1.cb.cell 1
  have a2 : W10.cell? ⟨bx, 2, none⟩ = some (.slice sa c.ss.length sc) := M10.out.1.cb.cell 2
  have a3 : W10.cell? ⟨bx, 3, none⟩ = some (.slice da c.d.length dc) := M10.out.1.cb.cell 3
  have a4 : W10.cell? ⟨bx, 4, none⟩ = some (.int .i64 c.n) := M10.out.1.cb.cell 4
  go_upto_region 16 with (first | (go_at_call 32; refine (own_is _ _ c.d (HDA.out _ M10.out.1.bel) (by have := HDL.out; omega)).mono ?_; rintro e w11 ⟨v11, rfl, hO, hB⟩; (have NE : Hid (CtM bx w w11 [.slice ta c.ts.length tc, .slice ca c.cs.length cc, .slice sa c.ss.length sc, .slice da c.d.length dc, .int .i64 c.n] c ∧ (CBox w11 b8 28 [.slice ta8 cl.ts.length tc8, .slice ca8 cl.cs.length cc8, .slice sa8 cl.ss.length sc8, .slice da8 cl.d.length dc8, .int .i64 cl.n] ∧ CW (fun g => g < b8) w11 (.agg #[.slice ta8 cl.ts.length tc8, .slice ca8 cl.cs.length cc8, .slice sa8 cl.ss.length sc8, .slice da8 cl.d.length dc8, .int .i64 cl.n]) cl) ∧ CW (fun g => g < b10) w11 (.agg #[.slice ta9 c.ts.length tc9, .slice ca9 c.cs.length cc9, .slice sa9 c.ss.length sc9, .slice da9 c.d.length dc9, .int .i64 c.n]) c ∧ CBox w11 b10 28 [.slice ta9 c.ts.length tc9, .slice ca9 c.cs.length cc9, .slice sa9 c.ss.length sc9, .slice da9 c.d.length dc9, .int .i64 c.n] ∧ w11.ownsRow W10.heap.size 5 1 v11 c.d.length (bV c.d) ∧ W10.heap.size ≤ w11.heap.size) := ⟨M10.out.1.past hB, ⟨M10.out.2.1.1.past hB, M10.out.2.1.2.past hB⟩, M10.out.2.2.1.past hB, M10.out.2.2.2.past hB, hO, hB.size⟩); (clear hO hB)) | (at_builtin; refine wpList_appB rfl _ _ rfl W10.heap.size NE.out.2.2.2.2.2 v11 c.d rfl NE.out.2.2.2.2.1 (.slice ua b.length uc) b rfl (HUB.out _ NE.out.1.bel) (by have := HDL.out; have := HBL.out; omega) ?_; intro v12 w12 hA; rw [HDD.out] at hA; (obtain ⟨xa, xc, exx⟩ := owns_sl hA.row); (subst exx); (have kb : But (fun g => W10.heap.size ≤ g) w11 w12 := hA.but.mono fun g hg => (World.ownsRow.lt NE.out.2.2.2.2.1 g hg).1); (have bl9 : Below w.heap.size w w12 := NE.out.1.bel.trans (kb.below (fun g (e : W10.heap.size ≤ g) => by have := HBX.out; have := HB0.out; omega) NE.out.1.bel.size)); (have NF : Hid (CtM bx w w12 [.slice ta c.ts.length tc, .slice ca c.cs.length cc, .slice sa c.ss.length sc, .slice da c.d.length dc, .int .i64 c.n] c ∧ (CBox w12 b8 28 [.slice ta8 cl.ts.length tc8, .slice ca8 cl.cs.length cc8, .slice sa8 cl.ss.length sc8, .slice da8 cl.d.length dc8, .int .i64 cl.n] ∧ CW (fun g => g < b8) w12 (.agg #[.slice ta8 cl.ts.length tc8, .slice ca8 cl.cs.length cc8, .slice sa8 cl.ss.length sc8, .slice da8 cl.d.length dc8, .int .i64 cl.n]) cl) ∧ CW (fun g => g < b10) w12 (.agg #[.slice ta9 c.ts.length tc9, .slice ca9 c.cs.length cc9, .slice sa9 c.ss.length sc9, .slice da9 c.d.length dc9, .int .i64 c.n]) c ∧ CBox w12 b10 28 [.slice ta9 c.ts.length tc9, .slice ca9 c.cs.length cc9, .slice sa9 c.ss.length sc9, .slice da9 c.d.length dc9, .int .i64 c.n] ∧ BL (fun g => b10 < g) w12 (.slice xa dd.length xc) dd) := ⟨⟨NE.out.1.cb.but kb (fun (e : W10.heap.size ≤ bx) => by have := HBX.out; have := HB0.out; omega), HCA.out _ bl9, bl9⟩, ⟨NE.out.2.1.1.but kb (fun (e : W10.heap.size ≤ b8) => by have := HBX.out; have := HB0.out; omega), NE.out.2.1.2.but kb (fun g (h1 : g < b8) (h2 : W10.heap.size ≤ g) => by have := HBX.out; have := HB0.out; omega)⟩, NE.out.2.2.1.but kb (fun g (h1 : g < b10) (h2 : W10.heap.size ≤ g) => by have := HBX.out; have := HB0.out; omega), NE.out.2.2.2.1.but kb (fun (e : W10.heap.size ≤ b10) => by have := HBX.out; have := HB0.out; omega), SL.own hA.row (by have := HDDL.out; omega) (fun g hg => by have := (World.ownsRow.lt hA.row g hg).1; have := HB0.out; omega)⟩); (clear kb bl9 hA); (have k3 : w12.cell? ⟨b10, 3, none⟩ = some (.slice da9 c.d.length dc9) := NF.out.2.2.2.1.cell 3); (have f3 := CBox.frozen NF.out.2.2.2.1 3); (have k4 : w12.cell? ⟨b10, 4, none⟩ = some (.int .i64 c.n) := NF.out.2.2.2.1.cell 4); (have f4 := CBox.frozen NF.out.2.2.2.1 4)))
  clear a0 a1 a2 a3 a4 M10 NE k3 f3 k4 f4
  have hs : But (fun y => y = b10) w12 ((w12.setCell ⟨b10, 3, none⟩ (.slice xa dd.length xc)).setCell ⟨b10, 4, none⟩ (.int .i64 (nz : Int))) := ((But.refl (fun y => y = b10) w12).setCell ⟨b10, 3, none⟩ _ (Or.inl rfl)).setCell ⟨b10, 4, none⟩ _ (Or.inl rfl)
  have bl9 : Below w.heap.size w ((w12.setCell ⟨b10, 3, none⟩ (.slice xa dd.length xc)).setCell ⟨b10, 4, none⟩ (.int .i64 (nz : Int))) := NF.out.1.bel.trans (hs.below (fun g (e : g = b10) => by have := HBX.out; omega) NF.out.1.bel.size)
  have M13 : Hid (CtM bx w ((w12.setCell ⟨b10, 3, none⟩ (.slice xa dd.length xc)).setCell ⟨b10, 4, none⟩ (.int .i64 (nz : Int))) [.slice ta c.ts.length tc, .slice ca c.cs.length cc, .slice sa c.ss.length sc, .slice da c.d.length dc, .int .i64 c.n] c ∧ (CBox ((w12.setCell ⟨b10, 3, none⟩ (.slice xa dd.length xc)).setCell ⟨b10, 4, none⟩ (.int .i64 (nz : Int))) b8 28 [.slice ta8 cl.ts.length tc8, .slice ca8 cl.cs.length cc8, .slice sa8 cl.ss.length sc8, .slice da8 cl.d.length dc8, .int .i64 cl.n] ∧ CW (fun g => g < b8) ((w12.setCell ⟨b10, 3, none⟩ (.slice xa dd.length xc)).setCell ⟨b10, 4, none⟩ (.int .i64 (nz : Int))) (.agg #[.slice ta8 cl.ts.length tc8, .slice ca8 cl.cs.length cc8, .slice sa8 cl.ss.length sc8, .slice da8 cl.d.length dc8, .int .i64 cl.n]) cl) ∧ CBox ((w12.setCell ⟨b10, 3, none⟩ (.slice xa dd.length xc)).setCell ⟨b10, 4, none⟩ (.int .i64 (nz : Int))) b10 28 [.slice ta9 c.ts.length tc9, .slice ca9 c.cs.length cc9, .slice sa9 c.ss.length sc9, .slice xa dd.length xc, .int .i64 (nz : Int)] ∧ CW (fun _ => True) ((w12.setCell ⟨b10, 3, none⟩ (.slice xa dd.length xc)).setCell ⟨b10, 4, none⟩ (.int .i64 (nz : Int))) (.agg #[.slice ta9 c.ts.length tc9, .slice ca9 c.cs.length cc9, .slice sa9 c.ss.length sc9, .slice xa dd.length xc, .int .i64 (nz : Int)]) cl) := ⟨⟨NF.out.1.cb.but hs (fun (e : bx = b10) => by have := HBX.out; omega), HCA.out _ bl9, bl9⟩, ⟨NF.out.2.1.1.but hs (fun (e : b8 = b10) => by have := HBX.out; omega), NF.out.2.1.2.but hs (fun g (h1 : g < b8) (h2 : g = b10) => by have := HBX.out; omega)⟩, (NF.out.2.2.2.1.set 3 _).set 4 _, by rw [HCL.out]; exact cw_swap (NF.out.2.2.1.but hs (fun g (h1 : g < b10) (h2 : g = b10) => by omega)) (NF.out.2.2.2.2.but hs (fun g (h1 : b10 < g) (h2 : g = b10) => by omega))⟩
  clear hs bl9 NF
  generalize ((w12.setCell ⟨b10, 3, none⟩ (.slice xa dd.length xc)).setCell ⟨b10, 4, none⟩ (.int .i64 (nz : Int))) = W13 at M13 ⊢
  refine wp_region_lit ?_
  refine lst_val (v := .int .i64 0) (by kernel_rfl) ?_ ?_
  · go_simp
  simp only [Act.put, List.setIfInBounds_toArray, List.set_cons_zero, List.set_cons_succ]
  refine lst_val (v := .bool false) (by kernel_rfl) ?_ ?_
  · go_simp
  simp only [Act.put, List.setIfInBounds_toArray, List.set_cons_zero, List.set_cons_succ]
  refine lst_val (v := .bool false) (by kernel_rfl) ?_ ?_
  · go_simp
  simp only [Act.put, List.setIfInBounds_toArray, List.set_cons_zero, List.set_cons_succ]
  refine lst_val (v := .agg #[.slice ta8 cl.ts.length tc8, .slice ca8 cl.cs.length cc8, .slice sa8 cl.ss.length sc8, .slice da8 cl.d.length dc8, .int .i64 cl.n]) (by kernel_rfl) ?_ ?_
  · have a0 := M13.out.2.1.1.cell 0; have a1 := M13.out.2.1.1.cell 1; have a2 := M13.out.2.1.1.cell 2; have a3 := M13.out.2.1.1.cell 3; have a4 := M13.out.2.1.1.cell 4
    go_simp
  simp only [Act.put, List.setIfInBounds_toArray, List.set_cons_zero, List.set_cons_succ]
  refine lst_val (v := .agg #[.slice ta9 c.ts.length tc9, .slice ca9 c.cs.length cc9, .slice sa9 c.ss.length sc9, .slice xa dd.length xc, .int .i64 (nz : Int)]) (by kernel_rfl) ?_ ?_
  · have a0 := M13.out.2.2.1.cell 0; have a1 := M13.out.2.2.1.cell 1; have a2 := M13.out.2.2.1.cell 2; have a3 := M13.out.2.2.1.cell 3; have a4 := M13.out.2.2.1.cell 4
    go_simp
  simp only [Act.put, List.setIfInBounds_toArray, List.set_cons_zero, List.set_cons_succ]
  refine lst_call (by kernel_rfl) (by first | (go_simp; done) | (go_simp; first | exact rfl | exact ⟨rfl, rfl⟩ | exact ⟨rfl, rfl, rfl⟩)) (same_is _ _ _ cl M13.out.2.1.2 M13.out.2.2.2) ?_
  rintro e y1 ⟨rfl, hB⟩
  refine ⟨_, rfl, ?_⟩
  have M14 : Hid (CtM bx w y1 [.slice ta c.ts.length tc, .slice ca c.cs.length cc, .slice sa c.ss.length sc, .slice da c.d.length dc, .int .i64 c.n] c ∧ CBox y1 b8 28 [.slice ta8 cl.ts.length tc8, .slice ca8 cl.cs.length cc8, .slice sa8 cl.ss.length sc8, .slice da8 cl.d.length dc8, .int .i64 cl.n] ∧ CW (fun g => g < b8) y1 (.agg #[.slice ta8 cl.ts.length tc8, .slice ca8 cl.cs.length cc8, .slice sa8 cl.ss.length sc8, .slice da8 cl.d.length dc8, .int .i64 cl.n]) cl) := ⟨M13.out.1.past hB, M13.out.2.1.1.past hB, M13.out.2.1.2.past hB⟩
  clear hB M13 HBX HB0
  simp only [Act.put, List.setIfInBounds_toArray, List.set_cons_zero, List.set_cons_succ]
  refine lst_val (v := .bool false) (by kernel_rfl) ?_ ?_
  · go_simp
  simp only [Act.put, List.setIfInBounds_toArray, List.set_cons_zero, List.set_cons_succ]
  refine lst_val (v := .bool false) (by kernel_rfl) ?_ ?_
  · go_simp
  simp only [Act.put, List.setIfInBounds_toArray, List.set_cons_zero, List.set_cons_succ]
  refine wpList_nil ?_
  go_upto_region 18 with fail
  have a0 : y1.cell? ⟨b8, 0, none⟩ = some (.slice ta8 cl.ts.length tc8) := M14.out.2.1.cell 0
  have a1 : y1.cell? ⟨b8, 1, none⟩ = some (.slice ca8 cl.cs.length cc8) := M14.out.2.1.cell 1
  have a2 : y1.cell? ⟨b8, 2, none⟩ = some (.slice sa8 cl.ss.length sc8) := M14.out.2.1.cell 2
  have a3 : y1.cell? ⟨b8, 3, none⟩ = some (.slice da8 cl.d.length dc8) := M14.out.2.1.cell 3
  have a4 : y1.cell? ⟨b8, 4, none⟩ = some (.int .i64 cl.n) := M14.out.2.1.cell 4
  go_upto_region 19 with (first | (go_at_call 19; refine (twin_is _ _ cl M14.out.2.2 HSL.out).mono ?_; rintro e w15 ⟨v15, rfl, hD, hB⟩; (have NG : Hid (CtM bx w w15 [.slice ta c.ts.length tc, .slice ca c.cs.length cc, .slice sa c.ss.length sc, .slice da c.d.length dc, .int .i64 c.n] c ∧ CW (fun _ => True) w15 v15 cl) := ⟨M14.out.1.past hB, (hD.cw HSL.out).mono fun _ _ _ => trivial⟩); (clear hD hB)) | (go_at_call 32; refine (own_is _ _ b2 (HVB.out _ NG.out.1.bel) HVL.out).mono ?_; rintro e w16 ⟨v16, rfl, hO, hB⟩; (have NH : Hid (CtM bx w w16 [.slice ta c.ts.length tc, .slice ca c.cs.length cc, .slice sa c.ss.length sc, .slice da c.d.length dc, .int .i64 c.n] c ∧ CW (fun _ => True) w16 v15 cl ∧ BL (fun _ => True) w16 v16 b2) := ⟨NG.out.1.past hB, NG.out.2.past hB, SL.own hO (by have := HVL.out; omega) fun _ _ => trivial⟩); (clear hO hB)) | (go_at_call 27; refine (LB.out _ _ _ _ _ NH.out.2.1 NH.out.2.2).mono ?_; rintro e w17 ⟨⟨tax, tcx, cax, ccx, sax, scx, dax, dcx, rfl, hC⟩, hB⟩; (have NI : Hid (CtM bx w w17 [.slice ta c.ts.length tc, .slice ca c.cs.length cc, .slice sa c.ss.length sc, .slice da c.d.length dc, .int .i64 c.n] c ∧ CW (fun g => g < w17.heap.size) w17 (.agg #[.slice tax cx.ts.length tcx, .slice cax cx.cs.length ccx, .slice sax cx.ss.length scx, .slice dax cx.d.length dcx, .int .i64 cx.n]) cx) := ⟨NH.out.1.past hB, hC⟩); (clear hC hB)))
  clear a0 a1 a2 a3 a4 M14 NG NH LB
  have b9 := below_alloc w17 (.cells #[.slice tax cx.ts.length tcx, .slice cax cx.cs.length ccx, .slice sax cx.ss.length scx, .slice dax cx.d.length dcx, .int .i64 cx.n] 28)
  have M17 : Hid (CtM bx w (w17.alloc (.cells #[.slice tax cx.ts.length tcx, .slice cax cx.cs.length ccx, .slice sax cx.ss.length scx, .slice dax cx.d.length dcx, .int .i64 cx.n] 28)) [.slice ta c.ts.length tc, .slice ca c.cs.length cc, .slice sa c.ss.length sc, .slice da c.d.length dc, .int .i64 c.n] c ∧ CBox (w17.alloc (.cells #[.slice tax cx.ts.length tcx, .slice cax cx.cs.length ccx, .slice sax cx.ss.length scx, .slice dax cx.d.length dcx, .int .i64 cx.n] 28)) w17.heap.size 28 [.slice tax cx.ts.length tcx, .slice cax cx.cs.length ccx, .slice sax cx.ss.length scx, .slice dax cx.d.length dcx, .int .i64 cx.n] ∧ CW (fun g => g < w17.heap.size) (w17.alloc (.cells #[.slice tax cx.ts.length tcx, .slice cax cx.cs.length ccx, .slice sax cx.ss.length scx, .slice dax cx.d.length dcx, .int .i64 cx.n] 28)) (.agg #[.slice tax cx.ts.length tcx, .slice cax cx.cs.length ccx, .slice sax cx.ss.length scx, .slice dax cx.d.length dcx, .int .i64 cx.n]) cx) := ⟨NI.out.1.past b9, CBox.new w17 _ [_, _, _, _, _], NI.out.2.past b9⟩
  clear b9 NI
  generalize w17.heap.size = b11 at M17 ⊢
  generalize w17.alloc _ = W17 at M17 ⊢
  have a0 : W17.cell? ⟨bx, 0, none⟩ = some (.slice ta c.ts.length tc) := M17.out.1.cb.cell 0
  have a1 : W17.cell? ⟨bx, 1, none⟩ = some (.slice ca c.cs.length cc) := M17.out.1.cb.cell 1
  have a2 : W17.cell? ⟨bx, 2, none⟩ = some (.slice sa c.ss.length sc) := M17.out.1.cb.cell 2
  have a3 : W17.cell? ⟨bx, 3, none⟩ = some (.slice da c.d.length dc) := M17.out.1.cb.cell 3
  have a4 : W17.cell? ⟨bx, 4, none⟩ = some (.int .i64 c.n) := M17.out.1.cb.cell 4
  go_upto_region 20 with (first | (go_at_call 19; refine (twin_is _ _ c M17.out.1.cw HSM.out).mono ?_; rintro e w19 ⟨v19, rfl, hD, hB⟩; (have NJ : Hid (CtM bx w w19 [.slice ta c.ts.length tc, .slice ca c.cs.length cc, .slice sa c.ss.length sc, .slice da c.d.length dc, .int .i64 c.n] c ∧ (CBox w19 b11 28 [.slice tax cx.ts.length tcx, .slice cax cx.cs.length ccx, .slice sax cx.ss.length scx, .slice dax cx.d.length dcx, .int .i64 cx.n] ∧ CW (fun g => g < b11) w19 (.agg #[.slice tax cx.ts.length tcx, .slice cax cx.cs.length ccx, .slice sax cx.ss.length scx, .slice dax cx.d.length dcx, .int .i64 cx.n]) cx) ∧ CW (fun g => g < w19.heap.size) w19 v19 c) := ⟨M17.out.1.past hB, ⟨M17.out.2.1.past hB, M17.out.2.2.past hB⟩, (hD.cw HSM.out).mono fun _ _ q => q⟩); (clear hD hB)) | (go_at_call 32; refine (own_is _ _ b (HUB.out _ NJ.out.1.bel) HBL.out).mono ?_; rintro e w20 ⟨v20, rfl, hO, hB⟩; (have NK : Hid (CtM bx w w20 [.slice ta c.ts.length tc, .slice ca c.cs.length cc, .slice sa c.ss.length sc, .slice da c.d.length dc, .int .i64 c.n] c ∧ (CBox w20 b11 28 [.slice tax cx.ts.length tcx, .slice cax cx.cs.length ccx, .slice sax cx.ss.length scx, .slice dax cx.d.length dcx, .int .i64 cx.n] ∧ CW (fun g => g < b11) w20 (.agg #[.slice tax cx.ts.length tcx, .slice cax cx.cs.length ccx, .slice sax cx.ss.length scx, .slice dax cx.d.length dcx, .int .i64 cx.n]) cx) ∧ CW (fun g => g < w19.heap.size) w20 v19 c ∧ w20.ownsRow w19.heap.size 5 1 v20 b.length (bV b) ∧ w19.heap.size ≤ w20.heap.size ∧ b11 < w19.heap.size ∧ w.heap.size ≤ w19.heap.size) := ⟨NJ.out.1.past hB, ⟨NJ.out.2.1.1.past hB, NJ.out.2.1.2.past hB⟩, NJ.out.2.2.past hB, hO, hB.size, NJ.out.2.1.1.lt, NJ.out.1.bel.size⟩); (clear hO hB)) | (at_builtin; refine wpList_appB rfl _ _ rfl w19.heap.size NK.out.2.2.2.2.1 v20 b rfl NK.out.2.2.2.1 (.slice va b2.length vc) b2 rfl (HVB.out _ NK.out.1.bel) (by have := HVL.out; have := HBL.out; omega) ?_; intro v21 w21 hA; rw [HBB.out] at hA; (have kb : But (fun g => w19.heap.size ≤ g) w20 w21 := hA.but.mono fun g hg => (World.ownsRow.lt NK.out.2.2.2.1 g hg).1); (have bl9 : Below w.heap.size w w21 := NK.out.1.bel.trans (kb.below (fun g (e : w19.heap.size ≤ g) => by have := NK.out.2.2.2.2; omega) NK.out.1.bel.size)); (have NL : Hid (Below w.heap.size w w21 ∧ (CBox w21 b11 28 [.slice tax cx.ts.length tcx, .slice cax cx.cs.length ccx, .slice sax cx.ss.length scx, .slice dax cx.d.length dcx, .int .i64 cx.n] ∧ CW (fun g => g < b11) w21 (.agg #[.slice tax cx.ts.length tcx, .slice cax cx.cs.length ccx, .slice sax cx.ss.length scx, .slice dax cx.d.length dcx, .int .i64 cx.n]) cx) ∧ CW (fun g => g < w19.heap.size) w21 v19 c ∧ BL (fun _ => True) w21 v21 bb) := ⟨bl9, ⟨NK.out.2.1.1.but kb (fun (e : w19.heap.size ≤ b11) => by have := NK.out.2.2.2.2; omega), NK.out.2.1.2.but kb (fun g (h1 : g < b11) (h2 : w19.heap.size ≤ g) => by have := NK.out.2.2.2.2; omega)⟩, NK.out.2.2.1.but kb (fun g (h1 : g < w19.heap.size) (h2 : w19.heap.size ≤ g) => by omega), SL.own hA.row (by have := HBBL.out; omega) (fun _ _ => trivial)⟩); (clear kb bl9 hA)) | (go_at_call 27; refine (LD.out _ _ _ _ _ NL.out.2.2.1 NL.out.2.2.2).mono ?_; rintro e w22 ⟨⟨tay, tcy, cay, ccy, say, scy, day, dcy, rfl, hC⟩, hB⟩; (have NM : Hid (Below w.heap.size w w22 ∧ (CBox w22 b11 28 [.slice tax cx.ts.length tcx, .slice cax cx.cs.length ccx, .slice sax cx.ss.length scx, .slice dax cx.d.length dcx, .int .i64 cx.n] ∧ CW (fun g => g < b11) w22 (.agg #[.slice tax cx.ts.length tcx, .slice cax cx.cs.length ccx, .slice sax cx.ss.length scx, .slice dax cx.d.length dcx, .int .i64 cx.n]) cx) ∧ CW (fun g => g < w22.heap.size) w22 (.agg #[.slice tay cx.ts.length tcy, .slice cay cx.cs.length ccy, .slice say cx.ss.length scy, .slice day cx.d.length dcy, .int .i64 cx.n]) cx) := ⟨NL.out.1.trans (hB.mono NL.out.1.size), ⟨NL.out.2.1.1.past hB, NL.out.2.1.2.past hB⟩, hC⟩); (clear hC hB)))
  clear a0 a1 a2 a3 a4 M17 NJ NK NL LD
  have b9 := below_alloc w22 (.cells #[.slice tay cx.ts.length tcy, .slice cay cx.cs.length ccy, .slice say cx.ss.length scy, .slice day cx.d.length dcy, .int .i64 cx.n] 28)
  have M22 : Hid (Below w.heap.size w (w22.alloc (.cells #[.slice tay cx.ts.length tcy, .slice cay cx.cs.length ccy, .slice say cx.ss.length scy, .slice day cx.d.length dcy, .int .i64 cx.n] 28)) ∧ (CBox (w22.alloc (.cells #[.slice tay cx.ts.length tcy, .slice cay cx.cs.length ccy, .slice say cx.ss.length scy, .slice day cx.d.length dcy, .int .i64 cx.n] 28)) b11 28 [.slice tax cx.ts.length tcx, .slice cax cx.cs.length ccx, .slice sax cx.ss.length scx, .slice dax cx.d.length dcx, .int .i64 cx.n] ∧ CW (fun g => g < b11) (w22.alloc (.cells #[.slice tay cx.ts.length tcy, .slice cay cx.cs.length ccy, .slice say cx.ss.length scy, .slice day cx.d.length dcy, .int .i64 cx.n] 28)) (.agg #[.slice tax cx.ts.length tcx, .slice cax cx.cs.length ccx, .slice sax cx.ss.length scx, .slice dax cx.d.length dcx, .int .i64 cx.n]) cx) ∧ CBox (w22.alloc (.cells #[.slice tay cx.ts.length tcy, .slice cay cx.cs.length ccy, .slice say cx.ss.length scy, .slice day cx.d.length dcy, .int .i64 cx.n] 28)) w22.heap.size 28 [.slice tay cx.ts.length tcy, .slice cay cx.cs.length ccy, .slice say cx.ss.length scy, .slice day cx.d.length dcy, .int .i64 cx.n] ∧ CW (fun g => g < w22.heap.size) (w22.alloc (.cells #[.slice tay cx.ts.length tcy, .slice cay cx.cs.length ccy, .slice say cx.ss.length scy, .slice day cx.d.length dcy, .int .i64 cx.n] 28)) (.agg #[.slice tay cx.ts.length tcy, .slice cay cx.cs.length ccy, .slice say cx.ss.length scy, .slice day cx.d.length dcy, .int .i64 cx.n]) cx) := ⟨NM.out.1.trans (b9.mono NM.out.1.size), ⟨NM.out.2.1.1.past b9, NM.out.2.1.2.past b9⟩, CBox.new w22 _ [_, _, _, _, _], NM.out.2.2.past b9⟩
  clear b9 NM
  generalize w22.heap.size = b13 at M22 ⊢
  generalize w22.alloc _ = W22 at M22 ⊢
  go_upto_region 22 with fail
  clear q3 r3 r4
  refine wp_region_lit ?_
  refine lst_val (v := .int .i64 0) (by kernel_rfl) ?_ ?_
  · go_simp
  simp only [Act.put, List.setIfInBounds_toArray, List.set_cons_zero, List.set_cons_succ]
  refine lst_val (v := .bool false) (by kernel_rfl) ?_ ?_
  · go_simp
  simp only [Act.put, List.setIfInBounds_toArray, List.set_cons_zero, List.set_cons_succ]
  refine lst_val (v := .bool false) (by kernel_rfl) ?_ ?_
  · go_simp
  simp only [Act.put, List.setIfInBounds_toArray, List.set_cons_zero, List.set_cons_succ]
  refine lst_val (v := .int .i64 0) (by kernel_rfl) ?_ ?_
  · go_simp
  simp only [Act.put, List.setIfInBounds_toArray, List.set_cons_zero, List.set_cons_succ]
  refine lst_val (v := .bool false) (by kernel_rfl) ?_ ?_
  · go_simp
  simp only [Act.put, List.setIfInBounds_toArray, List.set_cons_zero, List.set_cons_succ]
  refine lst_val (v := .bool false) (by kernel_rfl) ?_ ?_
  · go_simp
  simp only [Act.put, List.setIfInBounds_toArray, List.set_cons_zero, List.set_cons_succ]
  refine lst_val (v := .bool false) (by kernel_rfl) ?_ ?_
  · go_simp
  simp only [Act.put, List.setIfInBounds_toArray, List.set_cons_zero, List.set_cons_succ]
  refine lst_val (v := .agg #[.slice tax cx.ts.length tcx, .slice cax cx.cs.length ccx, .slice sax cx.ss.length scx, .slice dax cx.d.length dcx, .int .i64 cx.n]) (by kernel_rfl) ?_ ?_
  · have a0 := M22.out.2.1.1.cell 0; have a1 := M22.out.2.1.1.cell 1; have a2 := M22.out.2.1.1.cell 2; have a3 := M22.out.2.1.1.cell 3; have a4 := M22.out.2.1.1.cell 4
    go_simp
  simp only [Act.put, List.setIfInBounds_toArray, List.set_cons_zero, List.set_cons_succ]
  refine lst_val (v := .agg #[.slice tay cx.ts.length tcy, .slice cay cx.cs.length ccy, .slice say cx.ss.length scy, .slice day cx.d.length dcy, .int .i64 cx.n]) (by kernel_rfl) ?_ ?_
  · have a0 := M22.out.2.2.1.cell 0; have a1 := M22.out.2.2.1.cell 1; have a2 := M22.out.2.2.1.cell 2; have a3 := M22.out.2.2.1.cell 3; have a4 := M22.out.2.2.1.cell 4
    go_simp
  simp only [Act.put, List.setIfInBounds_toArray, List.set_cons_zero, List.set_cons_succ]
  refine lst_call (by kernel_rfl) (by first | (go_simp; done) | (go_simp; first | exact rfl | exact ⟨rfl, rfl⟩ | exact ⟨rfl, rfl, rfl⟩)) (same_is _ _ _ cx M22.out.2.1.2 M22.out.2.2.2) ?_
  rintro e y2 ⟨rfl, hB⟩
  refine ⟨_, rfl, ?_⟩
  have M23 : Hid (Below w.heap.size w y2 ∧ CBox y2 b13 28 [.slice tay cx.ts.length tcy, .slice cay cx.cs.length ccy, .slice say cx.ss.length scy, .slice day cx.d.length dcy, .int .i64 cx.n] ∧ CW (fun g => g < b13) y2 (.agg #[.slice tay cx.ts.length tcy, .slice cay cx.cs.length ccy, .slice say cx.ss.length scy, .slice day cx.d.length dcy, .int .i64 cx.n]) cx) := ⟨M22.out.1.trans (hB.mono M22.out.1.size), M22.out.2.2.1.past hB, M22.out.2.2.2.past hB⟩
  clear hB M22
  simp only [Act.put, List.setIfInBounds_toArray, List.set_cons_zero, List.set_cons_succ]
  refine lst_val (v := .bool false) (by kernel_rfl) ?_ ?_
  · go_simp
  simp only [Act.put, List.setIfInBounds_toArray, List.set_cons_zero, List.set_cons_succ]
  refine lst_val (v := .bool false) (by kernel_rfl) ?_ ?_
  · go_simp
  simp only [Act.put, List.setIfInBounds_toArray, List.set_cons_zero, List.set_cons_succ]
  refine wpList_nil ?_
  go_upto_region 24 with fail
  have a0 : y2.cell? ⟨b13, 0, none⟩ = some (.slice tay cx.ts.length tcy) := M23.out.2.1.cell 0
  have a1 : y2.cell? ⟨b13, 1, none⟩ = some (.slice cay cx.cs.length ccy) := M23.out.2.1.cell 1
  have a2 : y2.cell? ⟨b13, 2, none⟩ = some (.slice say cx.ss.length scy) := M23.out.2.1.cell 2
  have a3 : y2.cell? ⟨b13, 3, none⟩ = some (.slice day cx.d.length dcy) := M23.out.2.1.cell 3
  have a4 : y2.cell? ⟨b13, 4, none⟩ = some (.int .i64 cx.n) := M23.out.2.1.cell 4
  go_upto_region 25 with (first | (go_at_call 19; refine (twin_is _ _ cx M23.out.2.2 HSX.out).mono ?_; rintro e w24 ⟨v24, rfl, hD, hB⟩; (have NN : Hid (Below w.heap.size w w24 ∧ CBox w24 b13 28 [.slice tay cx.ts.length tcy, .slice cay cx.cs.length ccy, .slice say cx.ss.length scy, .slice day cx.d.length dcy, .int .i64 cx.n] ∧ CW (fun g => g < b13) w24 (.agg #[.slice tay cx.ts.length tcy, .slice cay cx.cs.length ccy, .slice say cx.ss.length scy, .slice day cx.d.length dcy, .int .i64 cx.n]) cx ∧ CW (fun _ => True) w24 v24 cx) := ⟨M23.out.1.trans (hB.mono M23.out.1.size), M23.out.2.1.past hB, M23.out.2.2.past hB, (hD.cw HSX.out).mono fun _ _ _ => trivial⟩); (clear hD hB)) | (go_at_call 35; refine (SE.out _ _ _ NN.out.2.2.2).mono ?_; rintro e w25 ⟨⟨oa, oc, rfl, hO⟩, hB⟩; (have NO : Hid (Below w.heap.size w w25 ∧ CBox w25 b13 28 [.slice tay cx.ts.length tcy, .slice cay cx.cs.length ccy, .slice say cx.ss.length scy, .slice day cx.d.length dcy, .int .i64 cx.n] ∧ CW (fun g => g < b13) w25 (.agg #[.slice tay cx.ts.length tcy, .slice cay cx.cs.length ccy, .slice say cx.ss.length scy, .slice day cx.d.length dcy, .int .i64 cx.n]) cx ∧ BL (fun _ => True) w25 (.slice oa bs.length oc) bs) := ⟨NN.out.1.trans (hB.mono NN.out.1.size), NN.out.2.1.past hB, NN.out.2.2.1.past hB, hO⟩); (clear hO hB)))
  clear a0 a1 a2 a3 a4 M23 NN SE
  refine wp_region_lit ?_
  refine lst_val (v := .int .i64 0) (by kernel_rfl) ?_ ?_
  · go_simp
  simp only [Act.put, List.setIfInBounds_toArray, List.set_cons_zero, List.set_cons_succ]
  refine lst_val (v := .bool true) (by kernel_rfl) ?_ ?_
  · go_simp
  simp only [Act.put, List.setIfInBounds_toArray, List.set_cons_zero, List.set_cons_succ]
  refine lst_val (v := .bool true) (by kernel_rfl) ?_ ?_
  · go_simp
  simp only [Act.put, List.setIfInBounds_toArray, List.set_cons_zero, List.set_cons_succ]
  refine lst_val (v := .slice oa bs.length oc) (by kernel_rfl) ?_ ?_
  · go_simp
  simp only [Act.put, List.setIfInBounds_toArray, List.set_cons_zero, List.set_cons_succ]
  refine lst_val (v := .agg #[.slice tay cx.ts.length tcy, .slice cay cx.cs.length ccy, .slice say cx.ss.length scy, .slice day cx.d.length dcy, .int .i64 cx.n]) (by kernel_rfl) ?_ ?_
  · have a0 := NO.out.2.1.cell 0; have a1 := NO.out.2.1.cell 1; have a2 := NO.out.2.1.cell 2; have a3 := NO.out.2.1.cell 3; have a4 := NO.out.2.1.cell 4
    go_simp
  simp only [Act.put, List.setIfInBounds_toArray, List.set_cons_zero, List.set_cons_succ]
  refine lst_call (by kernel_rfl) (by first | (go_simp; done) | (go_simp; first | exact rfl | exact ⟨rfl, rfl⟩ | exact ⟨rfl, rfl, rfl⟩)) (BY.out _ _ _ NO.out.2.2.1) ?_
  rintro e y3 ⟨⟨ob, od, rfl, hO⟩, hB⟩
  refine ⟨_, rfl, ?_⟩
  have NP : Hid (Below w.heap.size w y3 ∧ BL (fun _ => True) y3 (.slice oa bs.length oc) bs ∧ BL (fun _ => True) y3 (.slice ob bs.length od) bs) := ⟨NO.out.1.trans (hB.mono NO.out.1.size), NO.out.2.2.2.past hB, hO⟩
  clear hO hB
  simp only [Act.put, List.setIfInBounds_toArray, List.set_cons_zero, List.set_cons_succ]
  refine lst_call (by kernel_rfl) (by first | (go_simp; done) | (go_simp; first | exact rfl | exact ⟨rfl, rfl⟩ | exact ⟨rfl, rfl, rfl⟩)) (sameB_is _ _ _ bs NP.out.2.1 NP.out.2.2) ?_
  rintro e y4 ⟨rfl, hB⟩
  refine ⟨_, rfl, ?_⟩
  have BF : Hid (Below w.heap.size w y4) := NP.out.1.trans (hB.mono NP.out.1.size)
  clear hB
  simp only [Act.put, List.setIfInBounds_toArray, List.set_cons_zero, List.set_cons_succ]
  refine lst_val (v := .bool true) (by kernel_rfl) ?_ ?_
  · go_simp
  simp only [Act.put, List.setIfInBounds_toArray, List.set_cons_zero, List.set_cons_succ]
  refine lst_val (v := .bool true) (by kernel_rfl) ?_ ?_
  · go_simp
  simp only [Act.put, List.setIfInBounds_toArray, List.set_cons_zero, List.set_cons_succ]
  refine wpList_nil ?_
  go_wp2
  go_ret
  exact ⟨rfl, BF.out⟩
end Go.Proofs.Ytndhabhlajldeaa
