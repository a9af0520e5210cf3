/- ContainerLays: the walk. -/
import Derived.Test.YtndhabhlajldeaaBtcM
import Derived.Test.YtndhabhlajldeaaFccM
import Derived.Test.YtndhabhlajldeaaBlc
namespace Go.Proofs.Ytndhabhlajldeaa
open Go.RowKit
/-- a law's container in its box, a twin of it in another -/
structure LkM (b1 b3 B : Nat) (w W : World) (L L3 : List Value) (c : Con) : Prop where
  c1 : CBox W b1 28 L
  c3 : CBox W b3 28 L3
  dq : DO B W (.agg L3.toArray) c
  bel : Below w.heap.size w W
  cw : CW (fun _ => True) W (.agg L.toArray) c
  ge : B ≤ W.heap.size
theorem LkM.past {b1 b3 B : Nat} {w W W' : World} {L L3 : List Value} {c : Con} (h : LkM b1 b3 B w W L L3 c) (k : Below W.heap.size W W') : LkM b1 b3 B w W' L L3 c := ⟨h.c1.past k, h.c3.past k, h.dq.past k, h.bel.trans (k.mono h.bel.size), h.cw.past k, Nat.le_trans h.ge k.size⟩
theorem do_ex {B : Nat} {W : World} {v : Value} {c : Con} (h : DO B W v c) : ∃ ta tc ca cc sa sc da dc, v = .agg #[.slice ta c.ts.length tc, .slice ca c.cs.length cc, .slice sa c.ss.length sc, .slice da c.d.length dc, .int .i64 c.n] ∧ True := by
  obtain ⟨ta, tc, ca, cc, sa, sc, da, dc, e, _⟩ := h
  exact ⟨ta, tc, ca, cc, sa, sc, da, dc, e, trivial⟩
theorem lay_small {c : Con} {b : List Nat} (hc : total c ≤ 2097152) (hb : b.length ≤ 2097152) : Small (layC c b).2 := by
  unfold layC
  unfold total fourOf at hc
  split
  · unfold Small con0; simp
  · split
    · unfold Small con0; simp
    · split
      · unfold Small con0; simp
      · unfold Small; simp only [List.length_append]; omega
theorem DO.base0 {B : Nat} {W : World} {v : Value} {c : Con} (h : DO B W v c) : DO 0 W v c := by
  obtain ⟨ta, tc, ca, cc, sa, sc, da, dc, e, k1, k2, k3, k4, k5⟩ := h
  exact ⟨ta, tc, ca, cc, sa, sc, da, dc, e, owns_base k1 (Nat.zero_le _), k2.base (Nat.zero_le _), k3.base (Nat.zero_le _), owns_base k4 (Nat.zero_le _), k5⟩
theorem DO.alien {B q : Nat} {W W' : World} {v : Value} {c : Con} {l : List Value} (h : DO B W v c) (k : But (fun y => y = q) W W') (hb : CBox W q 28 l) : DO B W' v c := by
  have a : Alien W q := ⟨_, _, hb, by decide, by decide, by decide⟩
  obtain ⟨ta, tc, ca, cc, sa, sc, da, dc, e, k1, k2, k3, k4, k5⟩ := h
  exact ⟨ta, tc, ca, cc, sa, sc, da, dc, e, row_alienT k1 k a, PO.alien k2 k a, PO.alien k3 k a, row_alien k4 k a, k5⟩
theorem cbox_ne {W : World} {a b : Nat} {t u : TypeId} {l m : List Value} (h : CBox W a t l) (k : CBox W b u m) (ht : t ≠ u) : a ≠ b := fun e => by
  subst e
  unfold CBox at h k
  rw [h] at k
  injection k with k
  injection k with _ k2
  exact ht k2
theorem head_is {W : World} {g mm : Nat} {b : List Nat} (h : CBox W g 5 (bV (marked b 90 90))) (hm : mm = b.length + 90) (hl : b.length ≤ 16777216) : BL (fun _ => True) W (.slice (some ⟨g, 0, none⟩) b.length mm) b :=
  (BL.head h (fun i c hc => by obtain ⟨x, hx, rfl⟩ := bV_inv hc; exact marked_lo hx) (by omega) (by omega)).mono fun _ _ _ => trivial
set_option maxHeartbeats 8000000 in
set_option maxRecDepth 100000 in
theorem containerLays_walk (w : World) (v : Value) (c : Con) (u : Value) (b : List Nat) (h : CW (fun _ => True) w v c) (_ : BytC c) (hu : BL (fun _ => True) w u b) (_ : Byt b) (hul : b.length ≤ 140737488355328) : Calls Try.prog 6 #[v, u] w fun e w' => e = .returned (.bool true) ∧ Below w.heap.size w w' := by
  obtain ⟨ta, tc, ca, cc, sa, sc, da, dc, rfl⟩ := cw_form h
  obtain ⟨ua, uc, rfl, _, _⟩ := hu.len
  have b1 := below_alloc w (.cells #[.slice ta c.ts.length tc, .slice ca c.cs.length cc, .slice sa c.ss.length sc, .slice da c.d.length dc, .int .i64 c.n] 28)
  have M0 : Hid (CtM w.heap.size w (w.alloc (.cells #[.slice ta c.ts.length tc, .slice ca c.cs.length cc, .slice sa c.ss.length sc, .slice da c.d.length dc, .int .i64 c.n] 28)) [.slice ta c.ts.length tc, .slice ca c.cs.length cc, .slice sa c.ss.length sc, .slice da c.d.length dc, .int .i64 c.n] c) := ⟨CBox.new w _ [_, _, _, _, _], h.past b1, b1⟩
  have HCA : Hid (∀ W, Below w.heap.size w W → CW (fun _ => True) W (.agg #[.slice ta c.ts.length tc, .slice ca c.cs.length cc, .slice sa c.ss.length sc, .slice da c.d.length dc, .int .i64 c.n]) c) := fun W hW => h.past hW
  have HUB : Hid (∀ W, Below w.heap.size w W → BL (fun _ => True) W (.slice ua b.length uc) b) := fun W hW => hu.past hW
  have nI : (b.length : Int) ≤ 140737488355328 := by omega
  clear h hu hul b1
  go_enter Try.func6, Try.ntmps6
  go_upto_region 1 with fail
  generalize w.heap.size = bx at M0 ⊢
  generalize w.alloc _ = W0 at M0 ⊢
  refine wp_region_lit ?_
  refine lst_val (v := .agg #[.slice ta c.ts.length tc, .slice ca c.cs.length cc, .slice sa c.ss.length sc, .slice da c.d.length dc, .int .i64 c.n]) (by kernel_rfl) ?_ ?_
  · have a0 := M0.out.cb.cell 0; have a1 := M0.out.cb.cell 1; have a2 := M0.out.cb.cell 2; have a3 := M0.out.cb.cell 3; have a4 := M0.out.cb.cell 4
    go_simp
  simp only [Act.put, List.setIfInBounds_toArray, List.set_cons_zero, List.set_cons_succ]
  refine lst_call (by kernel_rfl) (by first | (go_simp; done) | (go_simp; first | exact rfl | exact ⟨rfl, rfl⟩ | exact ⟨rfl, rfl, rfl⟩)) (weight_is _ _ c M0.out.cw) ?_
  rintro e w1 ⟨⟨n, rfl, hn⟩, hB⟩
  refine ⟨_, rfl, ?_⟩
  have M1 : Hid (CtM bx w w1 [.slice ta c.ts.length tc, .slice ca c.cs.length cc, .slice sa c.ss.length sc, .slice da c.d.length dc, .int .i64 c.n] c) := M0.out.past hB
  have HWT : Hid (n ≤ 2097152 → total c = n) := hn
  clear hn hB M0
  simp only [Act.put, List.setIfInBounds_toArray, List.set_cons_zero, List.set_cons_succ]
  by_cases en : n ≤ 2097152
  rotate_left
  · have q1 : (2097152 : Int) < (n : Int) := by omega
    clear en HWT
    go_wp2
    go_ret
    exact ⟨rfl, M1.out.bel⟩
  have q1 : ¬ (2097152 : Int) < (n : Int) := by omega
  by_cases et : b.length ≤ 2097152
  rotate_left
  · have q2 : (2097152 : Int) < (b.length : Int) := by omega
    clear en et HWT
    go_wp2
    go_ret
    exact ⟨rfl, M1.out.bel⟩
  have q2 : ¬ (2097152 : Int) < (b.length : Int) := by omega
  have HTO : Hid (total c ≤ 2097152) := by have := HWT.out en; unfold Hid; omega
  have HSM : Hid (Small c) := total_small HTO.out
  have HBL : Hid (b.length ≤ 16777216) := by unfold Hid; omega
  obtain ⟨cl, hcl⟩ : ∃ cl, cl = (layC c b).2 := ⟨_, rfl⟩
  obtain ⟨xl, hxl⟩ : ∃ xl, xl = (layC c b).1 := ⟨_, rfl⟩
  have HSL2 : Hid (Small cl) := by rw [hcl]; exact lay_small HTO.out et
  have LA : Hid (∀ (W : World) (R R2 : Nat → Prop) (u1 u2 : Value), CW R W u1 c → BL R2 W u2 b → Calls Try.prog 27 #[u1, u2] W fun e w' => (∃ ta tc ca cc sa sc da dc, e = .returned (.tuple #[.agg #[.slice ta cl.ts.length tc, .slice ca cl.cs.length cc, .slice sa cl.ss.length sc, .slice da cl.d.length dc, .int .i64 cl.n], .int .i64 xl]) ∧ DO 0 w' (.agg #[.slice ta cl.ts.length tc, .slice ca cl.cs.length cc, .slice sa cl.ss.length sc, .slice da cl.d.length dc, .int .i64 cl.n]) cl) ∧ Below W.heap.size W w') := fun W R R2 u1 u2 q1 q2 => (lay_is W u1 u2 c b q1 q2 HSM.out HBL.out).mono fun e w' q9 => by
    rw [← hcl, ← hxl] at q9
    obtain ⟨⟨v', rfl, hD⟩, hB⟩ := q9
    obtain ⟨ta, tc, ca, cc, sa, sc, da, dc, rfl, _⟩ := do_ex hD
    exact ⟨⟨ta, tc, ca, cc, sa, sc, da, dc, rfl, hD.base0⟩, hB⟩
  have LR : Hid (∀ (W : World) (R R2 : Nat → Prop) (u1 u2 : Value), CW R W u1 c → BL R2 W u2 b → Calls Try.prog 28 #[u1, u2] W fun e w' => (∃ ta tc ca cc sa sc da dc, e = .returned (.tuple #[.agg #[.slice ta cl.ts.length tc, .slice ca cl.cs.length cc, .slice sa cl.ss.length sc, .slice da cl.d.length dc, .int .i64 cl.n], .int .i64 xl]) ∧ DO 0 w' (.agg #[.slice ta cl.ts.length tc, .slice ca cl.cs.length cc, .slice sa cl.ss.length sc, .slice da cl.d.length dc, .int .i64 cl.n]) cl) ∧ Below W.heap.size W w') := fun W R R2 u1 u2 q1 q2 => (rlay_is W u1 u2 c b q1 q2 HSM.out HBL.out).mono fun e w' q9 => by
    rw [← hcl, ← hxl] at q9
    obtain ⟨⟨v', rfl, hD⟩, hB⟩ := q9
    obtain ⟨ta, tc, ca, cc, sa, sc, da, dc, rfl, _⟩ := do_ex hD
    exact ⟨⟨ta, tc, ca, cc, sa, sc, da, dc, rfl, hD.base0⟩, hB⟩
  obtain ⟨mm, hmm⟩ : ∃ mm, mm = b.length + 90 := ⟨_, rfl⟩
  have HMM : Hid (mm = b.length + 90) := hmm
  have LT : Hid (∀ W, Below w.heap.size w W → Calls Try.prog 26 #[.slice ua b.length uc, .int .i64 90] W fun e w' => (∃ g, e = .returned (.slice (some ⟨g, 0, none⟩) mm mm) ∧ CBox w' g 5 (bV (marked b 90 90))) ∧ Below W.heap.size W w') := fun W hW => (lent_is W _ b 90 (HUB.out W hW) HBL.out (by omega)).mono fun e w' q9 => by
    obtain ⟨⟨g, rfl, hc, _⟩, hB⟩ := q9
    exact ⟨⟨g, by rw [hmm], hc⟩, hB⟩
  have KE0 : ∀ (g : Nat) (W : World), BL (fun _ => True) W (.slice ua b.length uc) b → CBox W g 5 (bV (marked b 90 90)) → Calls Try.prog 29 #[.slice (some ⟨g, 0, none⟩) mm mm, .slice ua b.length uc] W fun e w' => e = .returned (.bool true) ∧ Below W.heap.size W w' := fun g W q1 q2 => by rw [hmm]; exact kept_is W _ b 90 g q1 q2 HBL.out (by omega)
  have HKE : Hid (∀ (g : Nat) (W : World), BL (fun _ => True) W (.slice ua b.length uc) b → CBox W g 5 (bV (marked b 90 90)) → Calls Try.prog 29 #[.slice (some ⟨g, 0, none⟩) mm mm, .slice ua b.length uc] W fun e w' => e = .returned (.bool true) ∧ Below W.heap.size W w') := KE0
  clear en et HWT hcl hxl hmm KE0
  go_upto_region 3 with fail
  clear q1 q2
  have a0 : w1.cell? ⟨bx, 0, none⟩ = some (.slice ta c.ts.length tc) := M1.out.cb.cell 0
  have a1 : w1.cell? ⟨bx, 1, none⟩ = some (.slice ca c.cs.length cc) := M1.out.cb.cell 1
  have a2 : w1.cell? ⟨bx, 2, none⟩ = some (.slice sa c.ss.length sc) := M1.out.cb.cell 2
  have a3 : w1.cell? ⟨bx, 3, none⟩ = some (.slice da c.d.length dc) := M1.out.cb.cell 3
  have a4 : w1.cell? ⟨bx, 4, none⟩ = some (.int .i64 c.n) := M1.out.cb.cell 4
  go_upto_region 4 with (go_at_call 19; refine (twin_is _ _ c M1.out.cw HSM.out).mono ?_; rintro e w2 ⟨v2, rfl, hD, hB⟩; (obtain ⟨ta3, tc3, ca3, cc3, sa3, sc3, da3, dc3, e9, hQ⟩ := do_ex hD); (subst e9); (have N2 : Hid (CtM bx w w2 [.slice ta c.ts.length tc, .slice ca c.cs.length cc, .slice sa c.ss.length sc, .slice da c.d.length dc, .int .i64 c.n] c ∧ DO w1.heap.size w2 (.agg #[.slice ta3 c.ts.length tc3, .slice ca3 c.cs.length cc3, .slice sa3 c.ss.length sc3, .slice da3 c.d.length dc3, .int .i64 c.n]) c) := ⟨M1.out.past hB, hD⟩); (have HB2 : Hid (w1.heap.size ≤ w2.heap.size) := hB.size); (clear hD hB hQ))
  have b9 := below_alloc w2 (.cells #[.slice ta3 c.ts.length tc3, .slice ca3 c.cs.length cc3, .slice sa3 c.ss.length sc3, .slice da3 c.d.length dc3, .int .i64 c.n] 28)
  have M3 : Hid (LkM bx w2.heap.size w1.heap.size w (w2.alloc (.cells #[.slice ta3 c.ts.length tc3, .slice ca3 c.cs.length cc3, .slice sa3 c.ss.length sc3, .slice da3 c.d.length dc3, .int .i64 c.n] 28)) [.slice ta c.ts.length tc, .slice ca c.cs.length cc, .slice sa c.ss.length sc, .slice da c.d.length dc, .int .i64 c.n] [.slice ta3 c.ts.length tc3, .slice ca3 c.cs.length cc3, .slice sa3 c.ss.length sc3, .slice da3 c.d.length dc3, .int .i64 c.n] c) := ⟨N2.out.1.cb.past b9, CBox.new w2 _ [_, _, _, _, _], N2.out.2.past b9, N2.out.1.bel.trans (b9.mono N2.out.1.bel.size), N2.out.1.cw.past b9, Nat.le_trans HB2.out b9.size⟩
  clear b9 N2 HB2 M1 a0 a1 a2 a3 a4
  generalize w1.heap.size = B at M3
  generalize w2.heap.size = b3 at M3 ⊢
  generalize w2.alloc _ = W3 at M3 ⊢
  go_upto_region 5 with (go_at_call 26; refine (LT.out _ M3.out.bel).mono ?_; rintro e w4 ⟨⟨g, rfl, hc⟩, hB⟩; (have N : Hid (LkM bx b3 B w w4 [.slice ta c.ts.length tc, .slice ca c.cs.length cc, .slice sa c.ss.length sc, .slice da c.d.length dc, .int .i64 c.n] [.slice ta3 c.ts.length tc3, .slice ca3 c.cs.length cc3, .slice sa3 c.ss.length sc3, .slice da3 c.d.length dc3, .int .i64 c.n] c ∧ CBox w4 g 5 (bV (marked b 90 90))) := ⟨M3.out.past hB, hc⟩); (clear hc hB))
  clear M3 LT
  have HSL : Hid (∀ W, Sem.run Try.prog (Instr.slice 22 (.slice (some ⟨g, 0, none⟩) mm mm) none (some (.int .i64 (b.length : Int))) none) W = .ok (.slice (some ⟨g, 0, none⟩) b.length mm) W) := fun W => slice_j g mm mm b.length (by have := HMM.out; omega) W
  have KE : Hid (∀ (W : World), BL (fun _ => True) W (.slice ua b.length uc) b → CBox W g 5 (bV (marked b 90 90)) → Calls Try.prog 29 #[.slice (some ⟨g, 0, none⟩) mm mm, .slice ua b.length uc] W fun e w' => e = .returned (.bool true) ∧ Below W.heap.size W w') := HKE.out g
  clear HKE
  refine wp_region_held_drew (S := fun V' => CBox V' b3 28 [.slice ta3 c.ts.length tc3, .slice ca3 c.cs.length cc3, .slice sa3 c.ss.length sc3, .slice da3 c.d.length dc3, .int .i64 c.n]) (by kernel_rfl) (N.out.1.c3.past below_drew) (fun HH => ?_)
  have N9 : Hid (LkM bx b3 B w w4.drew [.slice ta c.ts.length tc, .slice ca c.cs.length cc, .slice sa c.ss.length sc, .slice da c.d.length dc, .int .i64 c.n] [.slice ta3 c.ts.length tc3, .slice ca3 c.cs.length cc3, .slice sa3 c.ss.length sc3, .slice da3 c.d.length dc3, .int .i64 c.n] c ∧ CBox w4.drew g 5 (bV (marked b 90 90))) := ⟨N.out.1.past below_drew, N.out.2.past below_drew⟩
  clear N
  have N := N9
  clear N9
  generalize w4.drew = z1 at HH N ⊢
  refine wpAnyH_take (i := 0) (v := .agg #[.slice ta3 c.ts.length tc3, .slice ca3 c.cs.length cc3, .slice sa3 c.ss.length sc3, .slice da3 c.d.length dc3, .int .i64 c.n]) ov0 (by kernel_rfl) (by kernel_rfl) (by kernel_rfl) (fun _ _ _ h => h) (Or.inl ⟨by rfl, fun V' hS => ?_⟩) HH ?_
  · have a0 := hS.cell 0; have a1 := hS.cell 1; have a2 := hS.cell 2; have a3 := hS.cell 3; have a4 := hS.cell 4
    go_simp
  simp only [Act.put, List.setIfInBounds_toArray, List.set_cons_zero, List.set_cons_succ]
  refine wpAnyH_take (i := 1) (v := .slice (some ⟨g, 0, none⟩) mm mm) ov1 (by kernel_rfl) (by kernel_rfl) (by kernel_rfl) (fun _ _ _ h => h) (Or.inl ⟨by rfl, fun V' hS => ?_⟩) HH ?_
  · go_simp
  simp only [Act.put, List.setIfInBounds_toArray, List.set_cons_zero, List.set_cons_succ]
  refine wpAnyH_take (i := 2) (v := .slice ua b.length uc) ov2 (by kernel_rfl) (by kernel_rfl) (by kernel_rfl) (fun _ _ _ h => h) (Or.inl ⟨by rfl, fun V' hS => ?_⟩) HH ?_
  · go_simp
  simp only [Act.put, List.setIfInBounds_toArray, List.set_cons_zero, List.set_cons_succ]
  refine wpAnyH_take (i := 3) (v := .int .i64 (b.length : Int)) ov3 (by kernel_rfl) (by kernel_rfl) (by kernel_rfl) (fun _ _ _ h => h) (Or.inl ⟨by rfl, fun V' hS => ?_⟩) HH ?_
  · go_simp
  simp only [Act.put, List.setIfInBounds_toArray, List.set_cons_zero, List.set_cons_succ]
  refine wpAnyH_take (i := 4) (v := .slice (some ⟨g, 0, none⟩) b.length mm) ov4 (by kernel_rfl) (by kernel_rfl) (by kernel_rfl) (fun _ _ _ h => h) (Or.inl ⟨by rfl, fun V' hS => ?_⟩) HH ?_
  · have c0 := HSL.out
    go_simp
  simp only [Act.put, List.setIfInBounds_toArray, List.set_cons_zero, List.set_cons_succ]
  refine wpAnyH_ready (rs := [5, 9]) (by kernel_rfl) (by simp) ?_
  refine AllReadyH.cons ov5 (fun K hK => ?_) (AllReadyH.cons ov9 (fun K hK => ?_) AllReadyH.nil)
  · rw [if_pos (by rfl)]
    go_simp
    refine (LA.out _ _ _ _ _ (N.out.1.dq.cw HSM.out) (head_is N.out.2 HMM.out HBL.out)).mono ?_
    rintro e z1 ⟨⟨ta7, tc7, ca7, cc7, sa7, sc7, da7, dc7, rfl, hC⟩, hB⟩
    have N9 : Hid (LkM bx b3 B w z1 [.slice ta c.ts.length tc, .slice ca c.cs.length cc, .slice sa c.ss.length sc, .slice da c.d.length dc, .int .i64 c.n] [.slice ta3 c.ts.length tc3, .slice ca3 c.cs.length cc3, .slice sa3 c.ss.length sc3, .slice da3 c.d.length dc3, .int .i64 c.n] c ∧ CBox z1 g 5 (bV (marked b 90 90))) := ⟨N.out.1.past hB, N.out.2.past hB⟩
    have CL : Hid (DO 0 z1 (.agg #[.slice ta7 cl.ts.length tc7, .slice ca7 cl.cs.length cc7, .slice sa7 cl.ss.length sc7, .slice da7 cl.d.length dc7, .int .i64 cl.n]) cl) := hC
    (try (have q9 := F7.out; clear F7; have F7 : Hid (CBox z1 b7 28 [.slice none 0 0, .slice none 0 0, .slice none 0 0, .slice none 0 0, .int .i64 0]) := q9.past hB; clear q9))
    clear N hC hB
    have N := N9
    clear N9
    (try go_wp2_with fail)
    refine hK.out _ _ N.out.1.c3 (fun _ => ?_)
    clear hK K
    (try simp only [Act.put, List.setIfInBounds_toArray, List.set_cons_zero, List.set_cons_succ])
    refine wpAnyH_take (i := 6) (v := .tuple #[.agg #[.slice ta7 cl.ts.length tc7, .slice ca7 cl.cs.length cc7, .slice sa7 cl.ss.length sc7, .slice da7 cl.d.length dc7, .int .i64 cl.n], .int .i64 xl]) ov6 (by kernel_rfl) (by kernel_rfl) (by kernel_rfl) (fun _ _ _ h => h) (Or.inl ⟨by rfl, fun V' hS => ?_⟩) N.out.1.c3 ?_
    · go_simp
    simp only [Act.put, List.setIfInBounds_toArray, List.set_cons_zero, List.set_cons_succ]
    refine wpAnyH_take (i := 7) (v := .agg #[.slice ta7 cl.ts.length tc7, .slice ca7 cl.cs.length cc7, .slice sa7 cl.ss.length sc7, .slice da7 cl.d.length dc7, .int .i64 cl.n]) ov7 (by kernel_rfl) (by kernel_rfl) (by kernel_rfl) (fun _ _ _ h => h) (Or.inl ⟨by rfl, fun V' hS => ?_⟩) N.out.1.c3 ?_
    · go_simp
    simp only [Act.put, List.setIfInBounds_toArray, List.set_cons_zero, List.set_cons_succ]
    refine wpAnyH_take (i := 8) (v := .int .i64 xl) ov8 (by kernel_rfl) (by kernel_rfl) (by kernel_rfl) (fun _ _ _ h => h) (Or.inl ⟨by rfl, fun V' hS => ?_⟩) N.out.1.c3 ?_
    · go_simp
    simp only [Act.put, List.setIfInBounds_toArray, List.set_cons_zero, List.set_cons_succ]
    refine wpAnyH_ready (rs := [9]) (by kernel_rfl) (by simp) ?_
    refine AllReadyH.cons ov9 (fun K hK => ?_) AllReadyH.nil
    rw [if_pos (by rfl)]
    go_simp
    have hB : Below z1.heap.size z1 (z1.alloc (.cells #[.slice none 0 0, .slice none 0 0, .slice none 0 0, .slice none 0 0, .int .i64 0] 28)) := below_alloc _ _
    have F9 := CBox.new z1 28 [.slice none 0 0, .slice none 0 0, .slice none 0 0, .slice none 0 0, .int .i64 0]
    have G7 : Hid (w.heap.size ≤ z1.heap.size ∧ bx ≠ z1.heap.size ∧ b3 ≠ z1.heap.size) := ⟨N.out.1.bel.size, by have := N.out.1.c1.lt; omega, by have := N.out.1.c3.lt; omega⟩
    have N9 : Hid (LkM bx b3 B w (z1.alloc (.cells #[.slice none 0 0, .slice none 0 0, .slice none 0 0, .slice none 0 0, .int .i64 0] 28)) [.slice ta c.ts.length tc, .slice ca c.cs.length cc, .slice sa c.ss.length sc, .slice da c.d.length dc, .int .i64 c.n] [.slice ta3 c.ts.length tc3, .slice ca3 c.cs.length cc3, .slice sa3 c.ss.length sc3, .slice da3 c.d.length dc3, .int .i64 c.n] c ∧ CBox (z1.alloc (.cells #[.slice none 0 0, .slice none 0 0, .slice none 0 0, .slice none 0 0, .int .i64 0] 28)) g 5 (bV (marked b 90 90))) := ⟨N.out.1.past hB, N.out.2.past hB⟩
    (try (have q9 := CL.out; clear CL; have CL : Hid (DO 0 (z1.alloc (.cells #[.slice none 0 0, .slice none 0 0, .slice none 0 0, .slice none 0 0, .int .i64 0] 28)) (.agg #[.slice ta7 cl.ts.length tc7, .slice ca7 cl.cs.length cc7, .slice sa7 cl.ss.length sc7, .slice da7 cl.d.length dc7, .int .i64 cl.n]) cl) := q9.past hB; clear q9))
    have F7 : Hid (CBox (z1.alloc (.cells #[.slice none 0 0, .slice none 0 0, .slice none 0 0, .slice none 0 0, .int .i64 0] 28)) z1.heap.size 28 [.slice none 0 0, .slice none 0 0, .slice none 0 0, .slice none 0 0, .int .i64 0]) := F9
    clear N F9 hB
    have N := N9
    clear N9
    refine hK.out _ (z1.alloc (.cells #[.slice none 0 0, .slice none 0 0, .slice none 0 0, .slice none 0 0, .int .i64 0] 28)) N.out.1.c3 (fun _ => ?_)
    clear hK K
    (try simp only [Act.put, List.setIfInBounds_toArray, List.set_cons_zero, List.set_cons_succ])
    generalize z1.heap.size = b7 at F7 G7 ⊢
    (first | generalize (z1.alloc (.cells #[.slice none 0 0, .slice none 0 0, .slice none 0 0, .slice none 0 0, .int .i64 0] 28)) = z1 at N F7 CL ⊢ | generalize (z1.alloc (.cells #[.slice none 0 0, .slice none 0 0, .slice none 0 0, .slice none 0 0, .int .i64 0] 28)) = z1 at N F7 ⊢)
    refine wpAnyH_ready (rs := [10]) (by kernel_rfl) (by simp) ?_
    refine AllReadyH.cons ov10 (fun K hK => ?_) AllReadyH.nil
    rw [if_pos (by rfl)]
    have k0 : z1.cell? ⟨b7, 0, none⟩ = some (.slice none 0 0) := F7.out.cell 0
    have k1 : z1.cell? ⟨b7, 1, none⟩ = some (.slice none 0 0) := F7.out.cell 1
    have k2 : z1.cell? ⟨b7, 2, none⟩ = some (.slice none 0 0) := F7.out.cell 2
    have k3 : z1.cell? ⟨b7, 3, none⟩ = some (.slice none 0 0) := F7.out.cell 3
    have k4 : z1.cell? ⟨b7, 4, none⟩ = some (.int .i64 0) := F7.out.cell 4
    have f0 := CBox.frozen F7.out 0
    have f1 := CBox.frozen F7.out 1
    have f2 := CBox.frozen F7.out 2
    have f3 := CBox.frozen F7.out 3
    have f4 := CBox.frozen F7.out 4
    go_simp
    clear k0 k1 k2 k3 k4 f0 f1 f2 f3 f4
    have hs : But (fun y => y = b7) z1 (((((z1.setCell ⟨b7, 0, none⟩ (.slice ta7 cl.ts.length tc7)).setCell ⟨b7, 1, none⟩ (.slice ca7 cl.cs.length cc7)).setCell ⟨b7, 2, none⟩ (.slice sa7 cl.ss.length sc7)).setCell ⟨b7, 3, none⟩ (.slice da7 cl.d.length dc7)).setCell ⟨b7, 4, none⟩ (.int .i64 cl.n)) := ((((((But.refl (fun y => y = b7) z1).setCell ⟨b7, 0, none⟩ _ (Or.inl rfl)).setCell ⟨b7, 1, none⟩ _ (Or.inl rfl)).setCell ⟨b7, 2, none⟩ _ (Or.inl rfl)).setCell ⟨b7, 3, none⟩ _ (Or.inl rfl)).setCell ⟨b7, 4, none⟩ _ (Or.inl rfl))
    have bl9 : Below w.heap.size w (((((z1.setCell ⟨b7, 0, none⟩ (.slice ta7 cl.ts.length tc7)).setCell ⟨b7, 1, none⟩ (.slice ca7 cl.cs.length cc7)).setCell ⟨b7, 2, none⟩ (.slice sa7 cl.ss.length sc7)).setCell ⟨b7, 3, none⟩ (.slice da7 cl.d.length dc7)).setCell ⟨b7, 4, none⟩ (.int .i64 cl.n)) := N.out.1.bel.trans (hs.below (fun k e => by have := G7.out.1; omega) N.out.1.bel.size)
    have N7 : Hid (LkM bx b3 B w (((((z1.setCell ⟨b7, 0, none⟩ (.slice ta7 cl.ts.length tc7)).setCell ⟨b7, 1, none⟩ (.slice ca7 cl.cs.length cc7)).setCell ⟨b7, 2, none⟩ (.slice sa7 cl.ss.length sc7)).setCell ⟨b7, 3, none⟩ (.slice da7 cl.d.length dc7)).setCell ⟨b7, 4, none⟩ (.int .i64 cl.n)) [.slice ta c.ts.length tc, .slice ca c.cs.length cc, .slice sa c.ss.length sc, .slice da c.d.length dc, .int .i64 c.n] [.slice ta3 c.ts.length tc3, .slice ca3 c.cs.length cc3, .slice sa3 c.ss.length sc3, .slice da3 c.d.length dc3, .int .i64 c.n] c ∧ CBox (((((z1.setCell ⟨b7, 0, none⟩ (.slice ta7 cl.ts.length tc7)).setCell ⟨b7, 1, none⟩ (.slice ca7 cl.cs.length cc7)).setCell ⟨b7, 2, none⟩ (.slice sa7 cl.ss.length sc7)).setCell ⟨b7, 3, none⟩ (.slice da7 cl.d.length dc7)).setCell ⟨b7, 4, none⟩ (.int .i64 cl.n)) g 5 (bV (marked b 90 90)) ∧ CBox (((((z1.setCell ⟨b7, 0, none⟩ (.slice ta7 cl.ts.length tc7)).setCell ⟨b7, 1, none⟩ (.slice ca7 cl.cs.length cc7)).setCell ⟨b7, 2, none⟩ (.slice sa7 cl.ss.length sc7)).setCell ⟨b7, 3, none⟩ (.slice da7 cl.d.length dc7)).setCell ⟨b7, 4, none⟩ (.int .i64 cl.n)) b7 28 [.slice ta7 cl.ts.length tc7, .slice ca7 cl.cs.length cc7, .slice sa7 cl.ss.length sc7, .slice da7 cl.d.length dc7, .int .i64 cl.n] ∧ DO 0 (((((z1.setCell ⟨b7, 0, none⟩ (.slice ta7 cl.ts.length tc7)).setCell ⟨b7, 1, none⟩ (.slice ca7 cl.cs.length cc7)).setCell ⟨b7, 2, none⟩ (.slice sa7 cl.ss.length sc7)).setCell ⟨b7, 3, none⟩ (.slice da7 cl.d.length dc7)).setCell ⟨b7, 4, none⟩ (.int .i64 cl.n)) (.agg #[.slice ta7 cl.ts.length tc7, .slice ca7 cl.cs.length cc7, .slice sa7 cl.ss.length sc7, .slice da7 cl.d.length dc7, .int .i64 cl.n]) cl) := ⟨⟨N.out.1.c1.but hs G7.out.2.1, N.out.1.c3.but hs G7.out.2.2, N.out.1.dq.alien hs F7.out, bl9, HCA.out _ bl9, Nat.le_trans N.out.1.ge hs.size⟩, N.out.2.but hs (cbox_ne N.out.2 F7.out (by decide)), (((((F7.out.set 0 _).set 1 _).set 2 _).set 3 _).set 4 _), CL.out.alien hs F7.out⟩
    refine hK.out _ (((((z1.setCell ⟨b7, 0, none⟩ (.slice ta7 cl.ts.length tc7)).setCell ⟨b7, 1, none⟩ (.slice ca7 cl.cs.length cc7)).setCell ⟨b7, 2, none⟩ (.slice sa7 cl.ss.length sc7)).setCell ⟨b7, 3, none⟩ (.slice da7 cl.d.length dc7)).setCell ⟨b7, 4, none⟩ (.int .i64 cl.n)) N7.out.1.c3 (fun _ => ?_)
    clear hK K
    (try simp only [Act.put, List.setIfInBounds_toArray, List.set_cons_zero, List.set_cons_succ])
    clear hs bl9
    generalize (((((z1.setCell ⟨b7, 0, none⟩ (.slice ta7 cl.ts.length tc7)).setCell ⟨b7, 1, none⟩ (.slice ca7 cl.cs.length cc7)).setCell ⟨b7, 2, none⟩ (.slice sa7 cl.ss.length sc7)).setCell ⟨b7, 3, none⟩ (.slice da7 cl.d.length dc7)).setCell ⟨b7, 4, none⟩ (.int .i64 cl.n)) = w5 at N7 ⊢
    clear N F7 CL G7
    refine wpAnyH_take (i := 11) (v := .int .i64 xl) ov11 (by kernel_rfl) (by kernel_rfl) (by kernel_rfl) (fun _ _ _ h => h) (Or.inl ⟨by rfl, fun V' hS => ?_⟩) N7.out.1.c3 ?_
    · go_simp
    simp only [Act.put, List.setIfInBounds_toArray, List.set_cons_zero, List.set_cons_succ]
    refine wpAnyH_done (by kernel_rfl) ?_ _
    (try clear HH)
    go_upto_region 6 with fail
    have a0 : w5.cell? ⟨bx, 0, none⟩ = some (.slice ta c.ts.length tc) := N7.out.1.c1.cell 0
    have a1 : w5.cell? ⟨bx, 1, none⟩ = some (.slice ca c.cs.length cc) := N7.out.1.c1.cell 1
    have a2 : w5.cell? ⟨bx, 2, none⟩ = some (.slice sa c.ss.length sc) := N7.out.1.c1.cell 2
    have a3 : w5.cell? ⟨bx, 3, none⟩ = some (.slice da c.d.length dc) := N7.out.1.c1.cell 3
    have a4 : w5.cell? ⟨bx, 4, none⟩ = some (.int .i64 c.n) := N7.out.1.c1.cell 4
    go_upto_region 7 with (go_at_call 28; refine (LR.out _ _ _ _ _ N7.out.1.cw (HUB.out _ N7.out.1.bel)).mono ?_; rintro e w6 ⟨⟨ta9, tc9, ca9, cc9, sa9, sc9, da9, dc9, rfl, hC⟩, hB⟩; (have N9 : Hid ((LkM bx b3 B w w6 [.slice ta c.ts.length tc, .slice ca c.cs.length cc, .slice sa c.ss.length sc, .slice da c.d.length dc, .int .i64 c.n] [.slice ta3 c.ts.length tc3, .slice ca3 c.cs.length cc3, .slice sa3 c.ss.length sc3, .slice da3 c.d.length dc3, .int .i64 c.n] c ∧ CBox w6 g 5 (bV (marked b 90 90)) ∧ CBox w6 b7 28 [.slice ta7 cl.ts.length tc7, .slice ca7 cl.cs.length cc7, .slice sa7 cl.ss.length sc7, .slice da7 cl.d.length dc7, .int .i64 cl.n] ∧ DO 0 w6 (.agg #[.slice ta7 cl.ts.length tc7, .slice ca7 cl.cs.length cc7, .slice sa7 cl.ss.length sc7, .slice da7 cl.d.length dc7, .int .i64 cl.n]) cl) ∧ DO 0 w6 (.agg #[.slice ta9 cl.ts.length tc9, .slice ca9 cl.cs.length cc9, .slice sa9 cl.ss.length sc9, .slice da9 cl.d.length dc9, .int .i64 cl.n]) cl) := ⟨⟨N7.out.1.past hB, N7.out.2.1.past hB, N7.out.2.2.1.past hB, N7.out.2.2.2.past hB⟩, hC⟩); (clear hC hB))
    clear a0 a1 a2 a3 a4 N7
    have b9' := below_alloc w6 (.cells #[.slice ta9 cl.ts.length tc9, .slice ca9 cl.cs.length cc9, .slice sa9 cl.ss.length sc9, .slice da9 cl.d.length dc9, .int .i64 cl.n] 28)
    have N8 : Hid (LkM bx b3 B w (w6.alloc (.cells #[.slice ta9 cl.ts.length tc9, .slice ca9 cl.cs.length cc9, .slice sa9 cl.ss.length sc9, .slice da9 cl.d.length dc9, .int .i64 cl.n] 28)) [.slice ta c.ts.length tc, .slice ca c.cs.length cc, .slice sa c.ss.length sc, .slice da c.d.length dc, .int .i64 c.n] [.slice ta3 c.ts.length tc3, .slice ca3 c.cs.length cc3, .slice sa3 c.ss.length sc3, .slice da3 c.d.length dc3, .int .i64 c.n] c ∧ CBox (w6.alloc (.cells #[.slice ta9 cl.ts.length tc9, .slice ca9 cl.cs.length cc9, .slice sa9 cl.ss.length sc9, .slice da9 cl.d.length dc9, .int .i64 cl.n] 28)) g 5 (bV (marked b 90 90)) ∧ CBox (w6.alloc (.cells #[.slice ta9 cl.ts.length tc9, .slice ca9 cl.cs.length cc9, .slice sa9 cl.ss.length sc9, .slice da9 cl.d.length dc9, .int .i64 cl.n] 28)) b7 28 [.slice ta7 cl.ts.length tc7, .slice ca7 cl.cs.length cc7, .slice sa7 cl.ss.length sc7, .slice da7 cl.d.length dc7, .int .i64 cl.n] ∧ DO 0 (w6.alloc (.cells #[.slice ta9 cl.ts.length tc9, .slice ca9 cl.cs.length cc9, .slice sa9 cl.ss.length sc9, .slice da9 cl.d.length dc9, .int .i64 cl.n] 28)) (.agg #[.slice ta7 cl.ts.length tc7, .slice ca7 cl.cs.length cc7, .slice sa7 cl.ss.length sc7, .slice da7 cl.d.length dc7, .int .i64 cl.n]) cl ∧ CBox (w6.alloc (.cells #[.slice ta9 cl.ts.length tc9, .slice ca9 cl.cs.length cc9, .slice sa9 cl.ss.length sc9, .slice da9 cl.d.length dc9, .int .i64 cl.n] 28)) w6.heap.size 28 [.slice ta9 cl.ts.length tc9, .slice ca9 cl.cs.length cc9, .slice sa9 cl.ss.length sc9, .slice da9 cl.d.length dc9, .int .i64 cl.n] ∧ DO 0 (w6.alloc (.cells #[.slice ta9 cl.ts.length tc9, .slice ca9 cl.cs.length cc9, .slice sa9 cl.ss.length sc9, .slice da9 cl.d.length dc9, .int .i64 cl.n] 28)) (.agg #[.slice ta9 cl.ts.length tc9, .slice ca9 cl.cs.length cc9, .slice sa9 cl.ss.length sc9, .slice da9 cl.d.length dc9, .int .i64 cl.n]) cl) := ⟨N9.out.1.1.past b9', N9.out.1.2.1.past b9', N9.out.1.2.2.1.past b9', N9.out.1.2.2.2.past b9', CBox.new w6 _ [_, _, _, _, _], N9.out.2.past b9'⟩
    clear b9' N9
    generalize w6.heap.size = b9 at N8 ⊢
    generalize w6.alloc _ = W8 at N8 ⊢
    refine wp_region_lit ?_
    refine lst_call (by kernel_rfl) (by first | (go_simp; done) | (go_simp; first | exact rfl | exact ⟨rfl, rfl⟩ | exact ⟨rfl, rfl, rfl⟩)) (able_is _) ?_
    rintro e y1 ⟨rfl, hB⟩
    refine ⟨_, rfl, ?_⟩
    have MA : Hid (LkM bx b3 B w y1 [.slice ta c.ts.length tc, .slice ca c.cs.length cc, .slice sa c.ss.length sc, .slice da c.d.length dc, .int .i64 c.n] [.slice ta3 c.ts.length tc3, .slice ca3 c.cs.length cc3, .slice sa3 c.ss.length sc3, .slice da3 c.d.length dc3, .int .i64 c.n] c ∧ CBox y1 g 5 (bV (marked b 90 90)) ∧ CBox y1 b7 28 [.slice ta7 cl.ts.length tc7, .slice ca7 cl.cs.length cc7, .slice sa7 cl.ss.length sc7, .slice da7 cl.d.length dc7, .int .i64 cl.n] ∧ DO 0 y1 (.agg #[.slice ta7 cl.ts.length tc7, .slice ca7 cl.cs.length cc7, .slice sa7 cl.ss.length sc7, .slice da7 cl.d.length dc7, .int .i64 cl.n]) cl ∧ CBox y1 b9 28 [.slice ta9 cl.ts.length tc9, .slice ca9 cl.cs.length cc9, .slice sa9 cl.ss.length sc9, .slice da9 cl.d.length dc9, .int .i64 cl.n] ∧ DO 0 y1 (.agg #[.slice ta9 cl.ts.length tc9, .slice ca9 cl.cs.length cc9, .slice sa9 cl.ss.length sc9, .slice da9 cl.d.length dc9, .int .i64 cl.n]) cl) := ⟨N8.out.1.past hB, N8.out.2.1.past hB, N8.out.2.2.1.past hB, N8.out.2.2.2.1.past hB, N8.out.2.2.2.2.1.past hB, N8.out.2.2.2.2.2.past hB⟩
    clear hB
    simp only [Act.put, List.setIfInBounds_toArray, List.set_cons_zero, List.set_cons_succ]
    refine lst_val (v := .bool true) (by kernel_rfl) ?_ ?_
    · go_simp
    simp only [Act.put, List.setIfInBounds_toArray, List.set_cons_zero, List.set_cons_succ]
    refine lst_val (v := .int .i64 xl) (by kernel_rfl) ?_ ?_
    · go_simp
    simp only [Act.put, List.setIfInBounds_toArray, List.set_cons_zero, List.set_cons_succ]
    refine lst_val (v := .int .i64 xl) (by kernel_rfl) ?_ ?_
    · go_simp
    simp only [Act.put, List.setIfInBounds_toArray, List.set_cons_zero, List.set_cons_succ]
    refine lst_val (v := .bool true) (by kernel_rfl) ?_ ?_
    · go_simp
    simp only [Act.put, List.setIfInBounds_toArray, List.set_cons_zero, List.set_cons_succ]
    refine lst_val (v := .bool true) (by kernel_rfl) ?_ ?_
    · go_simp
    simp only [Act.put, List.setIfInBounds_toArray, List.set_cons_zero, List.set_cons_succ]
    refine lst_val (v := .bool true) (by kernel_rfl) ?_ ?_
    · go_simp
    simp only [Act.put, List.setIfInBounds_toArray, List.set_cons_zero, List.set_cons_succ]
    refine lst_val (v := .agg #[.slice ta7 cl.ts.length tc7, .slice ca7 cl.cs.length cc7, .slice sa7 cl.ss.length sc7, .slice da7 cl.d.length dc7, .int .i64 cl.n]) (by kernel_rfl) ?_ ?_
    · (first | (have a9 := MC.out.2.2.1) | (have a9 := MB.out.2.2.1) | (have a9 := MA.out.2.2.1) | (have a9 := N8.out.2.2.1)); have a0 := a9.cell 0; have a1 := a9.cell 1; have a2 := a9.cell 2; have a3 := a9.cell 3; have a4 := a9.cell 4
      go_simp
    simp only [Act.put, List.setIfInBounds_toArray, List.set_cons_zero, List.set_cons_succ]
    refine lst_val (v := .agg #[.slice ta9 cl.ts.length tc9, .slice ca9 cl.cs.length cc9, .slice sa9 cl.ss.length sc9, .slice da9 cl.d.length dc9, .int .i64 cl.n]) (by kernel_rfl) ?_ ?_
    · (first | (have a9 := MC.out.2.2.2.2.1) | (have a9 := MB.out.2.2.2.2.1) | (have a9 := MA.out.2.2.2.2.1) | (have a9 := N8.out.2.2.2.2.1)); have a0 := a9.cell 0; have a1 := a9.cell 1; have a2 := a9.cell 2; have a3 := a9.cell 3; have a4 := a9.cell 4
      go_simp
    simp only [Act.put, List.setIfInBounds_toArray, List.set_cons_zero, List.set_cons_succ]
    refine lst_call (by kernel_rfl) (by first | (go_simp; done) | (go_simp; first | exact rfl | exact ⟨rfl, rfl⟩ | exact ⟨rfl, rfl, rfl⟩)) (same_is _ _ _ cl (MA.out.2.2.2.1.cw HSL2.out) (MA.out.2.2.2.2.2.cw HSL2.out)) ?_
    rintro e y2 ⟨rfl, hB⟩
    refine ⟨_, rfl, ?_⟩
    have MB : Hid (LkM bx b3 B w y2 [.slice ta c.ts.length tc, .slice ca c.cs.length cc, .slice sa c.ss.length sc, .slice da c.d.length dc, .int .i64 c.n] [.slice ta3 c.ts.length tc3, .slice ca3 c.cs.length cc3, .slice sa3 c.ss.length sc3, .slice da3 c.d.length dc3, .int .i64 c.n] c ∧ CBox y2 g 5 (bV (marked b 90 90)) ∧ CBox y2 b7 28 [.slice ta7 cl.ts.length tc7, .slice ca7 cl.cs.length cc7, .slice sa7 cl.ss.length sc7, .slice da7 cl.d.length dc7, .int .i64 cl.n] ∧ DO 0 y2 (.agg #[.slice ta7 cl.ts.length tc7, .slice ca7 cl.cs.length cc7, .slice sa7 cl.ss.length sc7, .slice da7 cl.d.length dc7, .int .i64 cl.n]) cl ∧ CBox y2 b9 28 [.slice ta9 cl.ts.length tc9, .slice ca9 cl.cs.length cc9, .slice sa9 cl.ss.length sc9, .slice da9 cl.d.length dc9, .int .i64 cl.n] ∧ DO 0 y2 (.agg #[.slice ta9 cl.ts.length tc9, .slice ca9 cl.cs.length cc9, .slice sa9 cl.ss.length sc9, .slice da9 cl.d.length dc9, .int .i64 cl.n]) cl) := ⟨MA.out.1.past hB, MA.out.2.1.past hB, MA.out.2.2.1.past hB, MA.out.2.2.2.1.past hB, MA.out.2.2.2.2.1.past hB, MA.out.2.2.2.2.2.past hB⟩
    clear hB
    simp only [Act.put, List.setIfInBounds_toArray, List.set_cons_zero, List.set_cons_succ]
    refine lst_val (v := .bool true) (by kernel_rfl) ?_ ?_
    · go_simp
    simp only [Act.put, List.setIfInBounds_toArray, List.set_cons_zero, List.set_cons_succ]
    refine lst_val (v := .bool true) (by kernel_rfl) ?_ ?_
    · go_simp
    simp only [Act.put, List.setIfInBounds_toArray, List.set_cons_zero, List.set_cons_succ]
    refine lst_val (v := .agg #[.slice ta3 c.ts.length tc3, .slice ca3 c.cs.length cc3, .slice sa3 c.ss.length sc3, .slice da3 c.d.length dc3, .int .i64 c.n]) (by kernel_rfl) ?_ ?_
    · (first | (have a9 := MC.out.1.c3) | (have a9 := MB.out.1.c3) | (have a9 := MA.out.1.c3) | (have a9 := N8.out.1.c3)); have a0 := a9.cell 0; have a1 := a9.cell 1; have a2 := a9.cell 2; have a3 := a9.cell 3; have a4 := a9.cell 4
      go_simp
    simp only [Act.put, List.setIfInBounds_toArray, List.set_cons_zero, List.set_cons_succ]
    refine lst_val (v := .agg #[.slice ta c.ts.length tc, .slice ca c.cs.length cc, .slice sa c.ss.length sc, .slice da c.d.length dc, .int .i64 c.n]) (by kernel_rfl) ?_ ?_
    · (first | (have a9 := MC.out.1.c1) | (have a9 := MB.out.1.c1) | (have a9 := MA.out.1.c1) | (have a9 := N8.out.1.c1)); have a0 := a9.cell 0; have a1 := a9.cell 1; have a2 := a9.cell 2; have a3 := a9.cell 3; have a4 := a9.cell 4
      go_simp
    simp only [Act.put, List.setIfInBounds_toArray, List.set_cons_zero, List.set_cons_succ]
    refine lst_call (by kernel_rfl) (by first | (go_simp; done) | (go_simp; first | exact rfl | exact ⟨rfl, rfl⟩ | exact ⟨rfl, rfl, rfl⟩)) (same_is _ _ _ c (MB.out.1.dq.cw HSM.out) MB.out.1.cw) ?_
    rintro e y3 ⟨rfl, hB⟩
    refine ⟨_, rfl, ?_⟩
    have MC : Hid (LkM bx b3 B w y3 [.slice ta c.ts.length tc, .slice ca c.cs.length cc, .slice sa c.ss.length sc, .slice da c.d.length dc, .int .i64 c.n] [.slice ta3 c.ts.length tc3, .slice ca3 c.cs.length cc3, .slice sa3 c.ss.length sc3, .slice da3 c.d.length dc3, .int .i64 c.n] c ∧ CBox y3 g 5 (bV (marked b 90 90)) ∧ CBox y3 b7 28 [.slice ta7 cl.ts.length tc7, .slice ca7 cl.cs.length cc7, .slice sa7 cl.ss.length sc7, .slice da7 cl.d.length dc7, .int .i64 cl.n] ∧ DO 0 y3 (.agg #[.slice ta7 cl.ts.length tc7, .slice ca7 cl.cs.length cc7, .slice sa7 cl.ss.length sc7, .slice da7 cl.d.length dc7, .int .i64 cl.n]) cl ∧ CBox y3 b9 28 [.slice ta9 cl.ts.length tc9, .slice ca9 cl.cs.length cc9, .slice sa9 cl.ss.length sc9, .slice da9 cl.d.length dc9, .int .i64 cl.n] ∧ DO 0 y3 (.agg #[.slice ta9 cl.ts.length tc9, .slice ca9 cl.cs.length cc9, .slice sa9 cl.ss.length sc9, .slice da9 cl.d.length dc9, .int .i64 cl.n]) cl) := ⟨MB.out.1.past hB, MB.out.2.1.past hB, MB.out.2.2.1.past hB, MB.out.2.2.2.1.past hB, MB.out.2.2.2.2.1.past hB, MB.out.2.2.2.2.2.past hB⟩
    clear hB
    simp only [Act.put, List.setIfInBounds_toArray, List.set_cons_zero, List.set_cons_succ]
    refine lst_val (v := .bool true) (by kernel_rfl) ?_ ?_
    · go_simp
    simp only [Act.put, List.setIfInBounds_toArray, List.set_cons_zero, List.set_cons_succ]
    refine lst_val (v := .bool true) (by kernel_rfl) ?_ ?_
    · go_simp
    simp only [Act.put, List.setIfInBounds_toArray, List.set_cons_zero, List.set_cons_succ]
    refine lst_val (v := .slice (some ⟨g, 0, none⟩) mm mm) (by kernel_rfl) ?_ ?_
    · go_simp
    simp only [Act.put, List.setIfInBounds_toArray, List.set_cons_zero, List.set_cons_succ]
    refine lst_val (v := .slice ua b.length uc) (by kernel_rfl) ?_ ?_
    · go_simp
    simp only [Act.put, List.setIfInBounds_toArray, List.set_cons_zero, List.set_cons_succ]
    refine lst_call (by kernel_rfl) (by first | (go_simp; done) | (go_simp; first | exact rfl | exact ⟨rfl, rfl⟩ | exact ⟨rfl, rfl, rfl⟩)) (KE.out _ (HUB.out _ MC.out.1.bel) MC.out.2.1) ?_
    rintro e y4 ⟨rfl, hB⟩
    refine ⟨_, rfl, ?_⟩
    have BF : Hid (Below w.heap.size w y4) := MC.out.1.bel.trans (hB.mono MC.out.1.bel.size)
    clear hB
    simp only [Act.put, List.setIfInBounds_toArray, List.set_cons_zero, List.set_cons_succ]
    refine lst_val (v := .bool true) (by kernel_rfl) ?_ ?_
    · go_simp
    simp only [Act.put, List.setIfInBounds_toArray, List.set_cons_zero, List.set_cons_succ]
    refine lst_val (v := .bool true) (by kernel_rfl) ?_ ?_
    · go_simp
    simp only [Act.put, List.setIfInBounds_toArray, List.set_cons_zero, List.set_cons_succ]
    refine wpList_nil ?_
    go_wp2
    go_ret
    exact ⟨rfl, BF.out⟩
  · rw [if_pos (by rfl)]
    go_simp
    have hB : Below z1.heap.size z1 (z1.alloc (.cells #[.slice none 0 0, .slice none 0 0, .slice none 0 0, .slice none 0 0, .int .i64 0] 28)) := below_alloc _ _
    have F9 := CBox.new z1 28 [.slice none 0 0, .slice none 0 0, .slice none 0 0, .slice none 0 0, .int .i64 0]
    have G7 : Hid (w.heap.size ≤ z1.heap.size ∧ bx ≠ z1.heap.size ∧ b3 ≠ z1.heap.size) := ⟨N.out.1.bel.size, by have := N.out.1.c1.lt; omega, by have := N.out.1.c3.lt; omega⟩
    have N9 : Hid (LkM bx b3 B w (z1.alloc (.cells #[.slice none 0 0, .slice none 0 0, .slice none 0 0, .slice none 0 0, .int .i64 0] 28)) [.slice ta c.ts.length tc, .slice ca c.cs.length cc, .slice sa c.ss.length sc, .slice da c.d.length dc, .int .i64 c.n] [.slice ta3 c.ts.length tc3, .slice ca3 c.cs.length cc3, .slice sa3 c.ss.length sc3, .slice da3 c.d.length dc3, .int .i64 c.n] c ∧ CBox (z1.alloc (.cells #[.slice none 0 0, .slice none 0 0, .slice none 0 0, .slice none 0 0, .int .i64 0] 28)) g 5 (bV (marked b 90 90))) := ⟨N.out.1.past hB, N.out.2.past hB⟩
    (try (have q9 := CL.out; clear CL; have CL : Hid (DO 0 (z1.alloc (.cells #[.slice none 0 0, .slice none 0 0, .slice none 0 0, .slice none 0 0, .int .i64 0] 28)) (.agg #[.slice ta7 cl.ts.length tc7, .slice ca7 cl.cs.length cc7, .slice sa7 cl.ss.length sc7, .slice da7 cl.d.length dc7, .int .i64 cl.n]) cl) := q9.past hB; clear q9))
    have F7 : Hid (CBox (z1.alloc (.cells #[.slice none 0 0, .slice none 0 0, .slice none 0 0, .slice none 0 0, .int .i64 0] 28)) z1.heap.size 28 [.slice none 0 0, .slice none 0 0, .slice none 0 0, .slice none 0 0, .int .i64 0]) := F9
    clear N F9 hB
    have N := N9
    clear N9
    refine hK.out _ (z1.alloc (.cells #[.slice none 0 0, .slice none 0 0, .slice none 0 0, .slice none 0 0, .int .i64 0] 28)) N.out.1.c3 (fun _ => ?_)
    clear hK K
    (try simp only [Act.put, List.setIfInBounds_toArray, List.set_cons_zero, List.set_cons_succ])
    generalize z1.heap.size = b7 at F7 G7 ⊢
    (first | generalize (z1.alloc (.cells #[.slice none 0 0, .slice none 0 0, .slice none 0 0, .slice none 0 0, .int .i64 0] 28)) = z1 at N F7 CL ⊢ | generalize (z1.alloc (.cells #[.slice none 0 0, .slice none 0 0, .slice none 0 0, .slice none 0 0, .int .i64 0] 28)) = z1 at N F7 ⊢)
    refine wpAnyH_ready (rs := [5]) (by kernel_rfl) (by simp) ?_
    refine AllReadyH.cons ov5 (fun K hK => ?_) AllReadyH.nil
    rw [if_pos (by rfl)]
    go_simp
    refine (LA.out _ _ _ _ _ (N.out.1.dq.cw HSM.out) (head_is N.out.2 HMM.out HBL.out)).mono ?_
    rintro e z1 ⟨⟨ta7, tc7, ca7, cc7, sa7, sc7, da7, dc7, rfl, hC⟩, hB⟩
    have N9 : Hid (LkM bx b3 B w z1 [.slice ta c.ts.length tc, .slice ca c.cs.length cc, .slice sa c.ss.length sc, .slice da c.d.length dc, .int .i64 c.n] [.slice ta3 c.ts.length tc3, .slice ca3 c.cs.length cc3, .slice sa3 c.ss.length sc3, .slice da3 c.d.length dc3, .int .i64 c.n] c ∧ CBox z1 g 5 (bV (marked b 90 90))) := ⟨N.out.1.past hB, N.out.2.past hB⟩
    have CL : Hid (DO 0 z1 (.agg #[.slice ta7 cl.ts.length tc7, .slice ca7 cl.cs.length cc7, .slice sa7 cl.ss.length sc7, .slice da7 cl.d.length dc7, .int .i64 cl.n]) cl) := hC
    (try (have q9 := F7.out; clear F7; have F7 : Hid (CBox z1 b7 28 [.slice none 0 0, .slice none 0 0, .slice none 0 0, .slice none 0 0, .int .i64 0]) := q9.past hB; clear q9))
    clear N hC hB
    have N := N9
    clear N9
    (try go_wp2_with fail)
    refine hK.out _ _ N.out.1.c3 (fun _ => ?_)
    clear hK K
    (try simp only [Act.put, List.setIfInBounds_toArray, List.set_cons_zero, List.set_cons_succ])
    refine wpAnyH_take (i := 6) (v := .tuple #[.agg #[.slice ta7 cl.ts.length tc7, .slice ca7 cl.cs.length cc7, .slice sa7 cl.ss.length sc7, .slice da7 cl.d.length dc7, .int .i64 cl.n], .int .i64 xl]) ov6 (by kernel_rfl) (by kernel_rfl) (by kernel_rfl) (fun _ _ _ h => h) (Or.inl ⟨by rfl, fun V' hS => ?_⟩) N.out.1.c3 ?_
    · go_simp
    simp only [Act.put, List.setIfInBounds_toArray, List.set_cons_zero, List.set_cons_succ]
    refine wpAnyH_take (i := 7) (v := .agg #[.slice ta7 cl.ts.length tc7, .slice ca7 cl.cs.length cc7, .slice sa7 cl.ss.length sc7, .slice da7 cl.d.length dc7, .int .i64 cl.n]) ov7 (by kernel_rfl) (by kernel_rfl) (by kernel_rfl) (fun _ _ _ h => h) (Or.inl ⟨by rfl, fun V' hS => ?_⟩) N.out.1.c3 ?_
    · go_simp
    simp only [Act.put, List.setIfInBounds_toArray, List.set_cons_zero, List.set_cons_succ]
    refine wpAnyH_take (i := 8) (v := .int .i64 xl) ov8 (by kernel_rfl) (by kernel_rfl) (by kernel_rfl) (fun _ _ _ h => h) (Or.inl ⟨by rfl, fun V' hS => ?_⟩) N.out.1.c3 ?_
    · go_simp
    simp only [Act.put, List.setIfInBounds_toArray, List.set_cons_zero, List.set_cons_succ]
    refine wpAnyH_ready (rs := [10]) (by kernel_rfl) (by simp) ?_
    refine AllReadyH.cons ov10 (fun K hK => ?_) AllReadyH.nil
    rw [if_pos (by rfl)]
    have k0 : z1.cell? ⟨b7, 0, none⟩ = some (.slice none 0 0) := F7.out.cell 0
    have k1 : z1.cell? ⟨b7, 1, none⟩ = some (.slice none 0 0) := F7.out.cell 1
    have k2 : z1.cell? ⟨b7, 2, none⟩ = some (.slice none 0 0) := F7.out.cell 2
    have k3 : z1.cell? ⟨b7, 3, none⟩ = some (.slice none 0 0) := F7.out.cell 3
    have k4 : z1.cell? ⟨b7, 4, none⟩ = some (.int .i64 0) := F7.out.cell 4
    have f0 := CBox.frozen F7.out 0
    have f1 := CBox.frozen F7.out 1
    have f2 := CBox.frozen F7.out 2
    have f3 := CBox.frozen F7.out 3
    have f4 := CBox.frozen F7.out 4
    go_simp
    clear k0 k1 k2 k3 k4 f0 f1 f2 f3 f4
    have hs : But (fun y => y = b7) z1 (((((z1.setCell ⟨b7, 0, none⟩ (.slice ta7 cl.ts.length tc7)).setCell ⟨b7, 1, none⟩ (.slice ca7 cl.cs.length cc7)).setCell ⟨b7, 2, none⟩ (.slice sa7 cl.ss.length sc7)).setCell ⟨b7, 3, none⟩ (.slice da7 cl.d.length dc7)).setCell ⟨b7, 4, none⟩ (.int .i64 cl.n)) := ((((((But.refl (fun y => y = b7) z1).setCell ⟨b7, 0, none⟩ _ (Or.inl rfl)).setCell ⟨b7, 1, none⟩ _ (Or.inl rfl)).setCell ⟨b7, 2, none⟩ _ (Or.inl rfl)).setCell ⟨b7, 3, none⟩ _ (Or.inl rfl)).setCell ⟨b7, 4, none⟩ _ (Or.inl rfl))
    have bl9 : Below w.heap.size w (((((z1.setCell ⟨b7, 0, none⟩ (.slice ta7 cl.ts.length tc7)).setCell ⟨b7, 1, none⟩ (.slice ca7 cl.cs.length cc7)).setCell ⟨b7, 2, none⟩ (.slice sa7 cl.ss.length sc7)).setCell ⟨b7, 3, none⟩ (.slice da7 cl.d.length dc7)).setCell ⟨b7, 4, none⟩ (.int .i64 cl.n)) := N.out.1.bel.trans (hs.below (fun k e => by have := G7.out.1; omega) N.out.1.bel.size)
    have N7 : Hid (LkM bx b3 B w (((((z1.setCell ⟨b7, 0, none⟩ (.slice ta7 cl.ts.length tc7)).setCell ⟨b7, 1, none⟩ (.slice ca7 cl.cs.length cc7)).setCell ⟨b7, 2, none⟩ (.slice sa7 cl.ss.length sc7)).setCell ⟨b7, 3, none⟩ (.slice da7 cl.d.length dc7)).setCell ⟨b7, 4, none⟩ (.int .i64 cl.n)) [.slice ta c.ts.length tc, .slice ca c.cs.length cc, .slice sa c.ss.length sc, .slice da c.d.length dc, .int .i64 c.n] [.slice ta3 c.ts.length tc3, .slice ca3 c.cs.length cc3, .slice sa3 c.ss.length sc3, .slice da3 c.d.length dc3, .int .i64 c.n] c ∧ CBox (((((z1.setCell ⟨b7, 0, none⟩ (.slice ta7 cl.ts.length tc7)).setCell ⟨b7, 1, none⟩ (.slice ca7 cl.cs.length cc7)).setCell ⟨b7, 2, none⟩ (.slice sa7 cl.ss.length sc7)).setCell ⟨b7, 3, none⟩ (.slice da7 cl.d.length dc7)).setCell ⟨b7, 4, none⟩ (.int .i64 cl.n)) g 5 (bV (marked b 90 90)) ∧ CBox (((((z1.setCell ⟨b7, 0, none⟩ (.slice ta7 cl.ts.length tc7)).setCell ⟨b7, 1, none⟩ (.slice ca7 cl.cs.length cc7)).setCell ⟨b7, 2, none⟩ (.slice sa7 cl.ss.length sc7)).setCell ⟨b7, 3, none⟩ (.slice da7 cl.d.length dc7)).setCell ⟨b7, 4, none⟩ (.int .i64 cl.n)) b7 28 [.slice ta7 cl.ts.length tc7, .slice ca7 cl.cs.length cc7, .slice sa7 cl.ss.length sc7, .slice da7 cl.d.length dc7, .int .i64 cl.n] ∧ DO 0 (((((z1.setCell ⟨b7, 0, none⟩ (.slice ta7 cl.ts.length tc7)).setCell ⟨b7, 1, none⟩ (.slice ca7 cl.cs.length cc7)).setCell ⟨b7, 2, none⟩ (.slice sa7 cl.ss.length sc7)).setCell ⟨b7, 3, none⟩ (.slice da7 cl.d.length dc7)).setCell ⟨b7, 4, none⟩ (.int .i64 cl.n)) (.agg #[.slice ta7 cl.ts.length tc7, .slice ca7 cl.cs.length cc7, .slice sa7 cl.ss.length sc7, .slice da7 cl.d.length dc7, .int .i64 cl.n]) cl) := ⟨⟨N.out.1.c1.but hs G7.out.2.1, N.out.1.c3.but hs G7.out.2.2, N.out.1.dq.alien hs F7.out, bl9, HCA.out _ bl9, Nat.le_trans N.out.1.ge hs.size⟩, N.out.2.but hs (cbox_ne N.out.2 F7.out (by decide)), (((((F7.out.set 0 _).set 1 _).set 2 _).set 3 _).set 4 _), CL.out.alien hs F7.out⟩
    refine hK.out _ (((((z1.setCell ⟨b7, 0, none⟩ (.slice ta7 cl.ts.length tc7)).setCell ⟨b7, 1, none⟩ (.slice ca7 cl.cs.length cc7)).setCell ⟨b7, 2, none⟩ (.slice sa7 cl.ss.length sc7)).setCell ⟨b7, 3, none⟩ (.slice da7 cl.d.length dc7)).setCell ⟨b7, 4, none⟩ (.int .i64 cl.n)) N7.out.1.c3 (fun _ => ?_)
    clear hK K
    (try simp only [Act.put, List.setIfInBounds_toArray, List.set_cons_zero, List.set_cons_succ])
    clear hs bl9
    generalize (((((z1.setCell ⟨b7, 0, none⟩ (.slice ta7 cl.ts.length tc7)).setCell ⟨b7, 1, none⟩ (.slice ca7 cl.cs.length cc7)).setCell ⟨b7, 2, none⟩ (.slice sa7 cl.ss.length sc7)).setCell ⟨b7, 3, none⟩ (.slice da7 cl.d.length dc7)).setCell ⟨b7, 4, none⟩ (.int .i64 cl.n)) = w5 at N7 ⊢
    clear N F7 CL G7
    refine wpAnyH_take (i := 11) (v := .int .i64 xl) ov11 (by kernel_rfl) (by kernel_rfl) (by kernel_rfl) (fun _ _ _ h => h) (Or.inl ⟨by rfl, fun V' hS => ?_⟩) N7.out.1.c3 ?_
    · go_simp
    simp only [Act.put, List.setIfInBounds_toArray, List.set_cons_zero, List.set_cons_succ]
    refine wpAnyH_done (by kernel_rfl) ?_ _
    (try clear HH)
    go_upto_region 6 with fail
    have a0 : w5.cell? ⟨bx, 0, none⟩ = some (.slice ta c.ts.length tc) := N7.out.1.c1.cell 0
    have a1 : w5.cell? ⟨bx, 1, none⟩ = some (.slice ca c.cs.length cc) := N7.out.1.c1.cell 1
    have a2 : w5.cell? ⟨bx, 2, none⟩ = some (.slice sa c.ss.length sc) := N7.out.1.c1.cell 2
    have a3 : w5.cell? ⟨bx, 3, none⟩ = some (.slice da c.d.length dc) := N7.out.1.c1.cell 3
    have a4 : w5.cell? ⟨bx, 4, none⟩ = some (.int .i64 c.n) := N7.out.1.c1.cell 4
    go_upto_region 7 with (go_at_call 28; refine (LR.out _ _ _ _ _ N7.out.1.cw (HUB.out _ N7.out.1.bel)).mono ?_; rintro e w6 ⟨⟨ta9, tc9, ca9, cc9, sa9, sc9, da9, dc9, rfl, hC⟩, hB⟩; (have N9 : Hid ((LkM bx b3 B w w6 [.slice ta c.ts.length tc, .slice ca c.cs.length cc, .slice sa c.ss.length sc, .slice da c.d.length dc, .int .i64 c.n] [.slice ta3 c.ts.length tc3, .slice ca3 c.cs.length cc3, .slice sa3 c.ss.length sc3, .slice da3 c.d.length dc3, .int .i64 c.n] c ∧ CBox w6 g 5 (bV (marked b 90 90)) ∧ CBox w6 b7 28 [.slice ta7 cl.ts.length tc7, .slice ca7 cl.cs.length cc7, .slice sa7 cl.ss.length sc7, .slice da7 cl.d.length dc7, .int .i64 cl.n] ∧ DO 0 w6 (.agg #[.slice ta7 cl.ts.length tc7, .slice ca7 cl.cs.length cc7, .slice sa7 cl.ss.length sc7, .slice da7 cl.d.length dc7, .int .i64 cl.n]) cl) ∧ DO 0 w6 (.agg #[.slice ta9 cl.ts.length tc9, .slice ca9 cl.cs.length cc9, .slice sa9 cl.ss.length sc9, .slice da9 cl.d.length dc9, .int .i64 cl.n]) cl) := ⟨⟨N7.out.1.past hB, N7.out.2.1.past hB, N7.out.2.2.1.past hB, N7.out.2.2.2.past hB⟩, hC⟩); (clear hC hB))
    clear a0 a1 a2 a3 a4 N7
    have b9' := below_alloc w6 (.cells #[.slice ta9 cl.ts.length tc9, .slice ca9 cl.cs.length cc9, .slice sa9 cl.ss.length sc9, .slice da9 cl.d.length dc9, .int .i64 cl.n] 28)
    have N8 : Hid (LkM bx b3 B w (w6.alloc (.cells #[.slice ta9 cl.ts.length tc9, .slice ca9 cl.cs.length cc9, .slice sa9 cl.ss.length sc9, .slice da9 cl.d.length dc9, .int .i64 cl.n] 28)) [.slice ta c.ts.length tc, .slice ca c.cs.length cc, .slice sa c.ss.length sc, .slice da c.d.length dc, .int .i64 c.n] [.slice ta3 c.ts.length tc3, .slice ca3 c.cs.length cc3, .slice sa3 c.ss.length sc3, .slice da3 c.d.length dc3, .int .i64 c.n] c ∧ CBox (w6.alloc (.cells #[.slice ta9 cl.ts.length tc9, .slice ca9 cl.cs.length cc9, .slice sa9 cl.ss.length sc9, .slice da9 cl.d.length dc9, .int .i64 cl.n] 28)) g 5 (bV (marked b 90 90)) ∧ CBox (w6.alloc (.cells #[.slice ta9 cl.ts.length tc9, .slice ca9 cl.cs.length cc9, .slice sa9 cl.ss.length sc9, .slice da9 cl.d.length dc9, .int .i64 cl.n] 28)) b7 28 [.slice ta7 cl.ts.length tc7, .slice ca7 cl.cs.length cc7, .slice sa7 cl.ss.length sc7, .slice da7 cl.d.length dc7, .int .i64 cl.n] ∧ DO 0 (w6.alloc (.cells #[.slice ta9 cl.ts.length tc9, .slice ca9 cl.cs.length cc9, .slice sa9 cl.ss.length sc9, .slice da9 cl.d.length dc9, .int .i64 cl.n] 28)) (.agg #[.slice ta7 cl.ts.length tc7, .slice ca7 cl.cs.length cc7, .slice sa7 cl.ss.length sc7, .slice da7 cl.d.length dc7, .int .i64 cl.n]) cl ∧ CBox (w6.alloc (.cells #[.slice ta9 cl.ts.length tc9, .slice ca9 cl.cs.length cc9, .slice sa9 cl.ss.length sc9, .slice da9 cl.d.length dc9, .int .i64 cl.n] 28)) w6.heap.size 28 [.slice ta9 cl.ts.length tc9, .slice ca9 cl.cs.length cc9, .slice sa9 cl.ss.length sc9, .slice da9 cl.d.length dc9, .int .i64 cl.n] ∧ DO 0 (w6.alloc (.cells #[.slice ta9 cl.ts.length tc9, .slice ca9 cl.cs.length cc9, .slice sa9 cl.ss.length sc9, .slice da9 cl.d.length dc9, .int .i64 cl.n] 28)) (.agg #[.slice ta9 cl.ts.length tc9, .slice ca9 cl.cs.length cc9, .slice sa9 cl.ss.length sc9, .slice da9 cl.d.length dc9, .int .i64 cl.n]) cl) := ⟨N9.out.1.1.past b9', N9.out.1.2.1.past b9', N9.out.1.2.2.1.past b9', N9.out.1.2.2.2.past b9', CBox.new w6 _ [_, _, _, _, _], N9.out.2.past b9'⟩
    clear b9' N9
    generalize w6.heap.size = b9 at N8 ⊢
    generalize w6.alloc _ = W8 at N8 ⊢
    refine wp_region_lit ?_
    refine lst_call (by kernel_rfl) (by first | (go_simp; done) | (go_simp; first | exact rfl | exact ⟨rfl, rfl⟩ | exact ⟨rfl, rfl, rfl⟩)) (able_is _) ?_
    rintro e y1 ⟨rfl, hB⟩
    refine ⟨_, rfl, ?_⟩
    have MA : Hid (LkM bx b3 B w y1 [.slice ta c.ts.length tc, .slice ca c.cs.length cc, .slice sa c.ss.length sc, .slice da c.d.length dc, .int .i64 c.n] [.slice ta3 c.ts.length tc3, .slice ca3 c.cs.length cc3, .slice sa3 c.ss.length sc3, .slice da3 c.d.length dc3, .int .i64 c.n] c ∧ CBox y1 g 5 (bV (marked b 90 90)) ∧ CBox y1 b7 28 [.slice ta7 cl.ts.length tc7, .slice ca7 cl.cs.length cc7, .slice sa7 cl.ss.length sc7, .slice da7 cl.d.length dc7, .int .i64 cl.n] ∧ DO 0 y1 (.agg #[.slice ta7 cl.ts.length tc7, .slice ca7 cl.cs.length cc7, .slice sa7 cl.ss.length sc7, .slice da7 cl.d.length dc7, .int .i64 cl.n]) cl ∧ CBox y1 b9 28 [.slice ta9 cl.ts.length tc9, .slice ca9 cl.cs.length cc9, .slice sa9 cl.ss.length sc9, .slice da9 cl.d.length dc9, .int .i64 cl.n] ∧ DO 0 y1 (.agg #[.slice ta9 cl.ts.length tc9, .slice ca9 cl.cs.length cc9, .slice sa9 cl.ss.length sc9, .slice da9 cl.d.length dc9, .int .i64 cl.n]) cl) := ⟨N8.out.1.past hB, N8.out.2.1.past hB, N8.out.2.2.1.past hB, N8.out.2.2.2.1.past hB, N8.out.2.2.2.2.1.past hB, N8.out.2.2.2.2.2.past hB⟩
    clear hB
    simp only [Act.put, List.setIfInBounds_toArray, List.set_cons_zero, List.set_cons_succ]
    refine lst_val (v := .bool true) (by kernel_rfl) ?_ ?_
    · go_simp
    simp only [Act.put, List.setIfInBounds_toArray, List.set_cons_zero, List.set_cons_succ]
    refine lst_val (v := .int .i64 xl) (by kernel_rfl) ?_ ?_
    · go_simp
    simp only [Act.put, List.setIfInBounds_toArray, List.set_cons_zero, List.set_cons_succ]
    refine lst_val (v := .int .i64 xl) (by kernel_rfl) ?_ ?_
    · go_simp
    simp only [Act.put, List.setIfInBounds_toArray, List.set_cons_zero, List.set_cons_succ]
    refine lst_val (v := .bool true) (by kernel_rfl) ?_ ?_
    · go_simp
    simp only [Act.put, List.setIfInBounds_toArray, List.set_cons_zero, List.set_cons_succ]
    refine lst_val (v := .bool true) (by kernel_rfl) ?_ ?_
    · go_simp
    simp only [Act.put, List.setIfInBounds_toArray, List.set_cons_zero, List.set_cons_succ]
    refine lst_val (v := .bool true) (by kernel_rfl) ?_ ?_
    · go_simp
    simp only [Act.put, List.setIfInBounds_toArray, List.set_cons_zero, List.set_cons_succ]
    refine lst_val (v := .agg #[.slice ta7 cl.ts.length tc7, .slice ca7 cl.cs.length cc7, .slice sa7 cl.ss.length sc7, .slice da7 cl.d.length dc7, .int .i64 cl.n]) (by kernel_rfl) ?_ ?_
    · (first | (have a9 := MC.out.2.2.1) | (have a9 := MB.out.2.2.1) | (have a9 := MA.out.2.2.1) | (have a9 := N8.out.2.2.1)); have a0 := a9.cell 0; have a1 := a9.cell 1; have a2 := a9.cell 2; have a3 := a9.cell 3; have a4 := a9.cell 4
      go_simp
    simp only [Act.put, List.setIfInBounds_toArray, List.set_cons_zero, List.set_cons_succ]
    refine lst_val (v := .agg #[.slice ta9 cl.ts.length tc9, .slice ca9 cl.cs.length cc9, .slice sa9 cl.ss.length sc9, .slice da9 cl.d.length dc9, .int .i64 cl.n]) (by kernel_rfl) ?_ ?_
    · (first | (have a9 := MC.out.2.2.2.2.1) | (have a9 := MB.out.2.2.2.2.1) | (have a9 := MA.out.2.2.2.2.1) | (have a9 := N8.out.2.2.2.2.1)); have a0 := a9.cell 0; have a1 := a9.cell 1; have a2 := a9.cell 2; have a3 := a9.cell 3; have a4 := a9.cell 4
      go_simp
    simp only [Act.put, List.setIfInBounds_toArray, List.set_cons_zero, List.set_cons_succ]
    refine lst_call (by kernel_rfl) (by first | (go_simp; done) | (go_simp; first | exact rfl | exact ⟨rfl, rfl⟩ | exact ⟨rfl, rfl, rfl⟩)) (same_is _ _ _ cl (MA.out.2.2.2.1.cw HSL2.out) (MA.out.2.2.2.2.2.cw HSL2.out)) ?_
    rintro e y2 ⟨rfl, hB⟩
    refine ⟨_, rfl, ?_⟩
    have MB : Hid (LkM bx b3 B w y2 [.slice ta c.ts.length tc, .slice ca c.cs.length cc, .slice sa c.ss.length sc, .slice da c.d.length dc, .int .i64 c.n] [.slice ta3 c.ts.length tc3, .slice ca3 c.cs.length cc3, .slice sa3 c.ss.length sc3, .slice da3 c.d.length dc3, .int .i64 c.n] c ∧ CBox y2 g 5 (bV (marked b 90 90)) ∧ CBox y2 b7 28 [.slice ta7 cl.ts.length tc7, .slice ca7 cl.cs.length cc7, .slice sa7 cl.ss.length sc7, .slice da7 cl.d.length dc7, .int .i64 cl.n] ∧ DO 0 y2 (.agg #[.slice ta7 cl.ts.length tc7, .slice ca7 cl.cs.length cc7, .slice sa7 cl.ss.length sc7, .slice da7 cl.d.length dc7, .int .i64 cl.n]) cl ∧ CBox y2 b9 28 [.slice ta9 cl.ts.length tc9, .slice ca9 cl.cs.length cc9, .slice sa9 cl.ss.length sc9, .slice da9 cl.d.length dc9, .int .i64 cl.n] ∧ DO 0 y2 (.agg #[.slice ta9 cl.ts.length tc9, .slice ca9 cl.cs.length cc9, .slice sa9 cl.ss.length sc9, .slice da9 cl.d.length dc9, .int .i64 cl.n]) cl) := ⟨MA.out.1.past hB, MA.out.2.1.past hB, MA.out.2.2.1.past hB, MA.out.2.2.2.1.past hB, MA.out.2.2.2.2.1.past hB, MA.out.2.2.2.2.2.past hB⟩
    clear hB
    simp only [Act.put, List.setIfInBounds_toArray, List.set_cons_zero, List.set_cons_succ]
    refine lst_val (v := .bool true) (by kernel_rfl) ?_ ?_
    · go_simp
    simp only [Act.put, List.setIfInBounds_toArray, List.set_cons_zero, List.set_cons_succ]
    refine lst_val (v := .bool true) (by kernel_rfl) ?_ ?_
    · go_simp
    simp only [Act.put, List.setIfInBounds_toArray, List.set_cons_zero, List.set_cons_succ]
    refine lst_val (v := .agg #[.slice ta3 c.ts.length tc3, .slice ca3 c.cs.length cc3, .slice sa3 c.ss.length sc3, .slice da3 c.d.length dc3, .int .i64 c.n]) (by kernel_rfl) ?_ ?_
    · (first | (have a9 := MC.out.1.c3) | (have a9 := MB.out.1.c3) | (have a9 := MA.out.1.c3) | (have a9 := N8.out.1.c3)); have a0 := a9.cell 0; have a1 := a9.cell 1; have a2 := a9.cell 2; have a3 := a9.cell 3; have a4 := a9.cell 4
      go_simp
    simp only [Act.put, List.setIfInBounds_toArray, List.set_cons_zero, List.set_cons_succ]
    refine lst_val (v := .agg #[.slice ta c.ts.length tc, .slice ca c.cs.length cc, .slice sa c.ss.length sc, .slice da c.d.length dc, .int .i64 c.n]) (by kernel_rfl) ?_ ?_
    · (first | (have a9 := MC.out.1.c1) | (have a9 := MB.out.1.c1) | (have a9 := MA.out.1.c1) | (have a9 := N8.out.1.c1)); have a0 := a9.cell 0; have a1 := a9.cell 1; have a2 := a9.cell 2; have a3 := a9.cell 3; have a4 := a9.cell 4
      go_simp
    simp only [Act.put, List.setIfInBounds_toArray, List.set_cons_zero, List.set_cons_succ]
    refine lst_call (by kernel_rfl) (by first | (go_simp; done) | (go_simp; first | exact rfl | exact ⟨rfl, rfl⟩ | exact ⟨rfl, rfl, rfl⟩)) (same_is _ _ _ c (MB.out.1.dq.cw HSM.out) MB.out.1.cw) ?_
    rintro e y3 ⟨rfl, hB⟩
    refine ⟨_, rfl, ?_⟩
    have MC : Hid (LkM bx b3 B w y3 [.slice ta c.ts.length tc, .slice ca c.cs.length cc, .slice sa c.ss.length sc, .slice da c.d.length dc, .int .i64 c.n] [.slice ta3 c.ts.length tc3, .slice ca3 c.cs.length cc3, .slice sa3 c.ss.length sc3, .slice da3 c.d.length dc3, .int .i64 c.n] c ∧ CBox y3 g 5 (bV (marked b 90 90)) ∧ CBox y3 b7 28 [.slice ta7 cl.ts.length tc7, .slice ca7 cl.cs.length cc7, .slice sa7 cl.ss.length sc7, .slice da7 cl.d.length dc7, .int .i64 cl.n] ∧ DO 0 y3 (.agg #[.slice ta7 cl.ts.length tc7, .slice ca7 cl.cs.length cc7, .slice sa7 cl.ss.length sc7, .slice da7 cl.d.length dc7, .int .i64 cl.n]) cl ∧ CBox y3 b9 28 [.slice ta9 cl.ts.length tc9, .slice ca9 cl.cs.length cc9, .slice sa9 cl.ss.length sc9, .slice da9 cl.d.length dc9, .int .i64 cl.n] ∧ DO 0 y3 (.agg #[.slice ta9 cl.ts.length tc9, .slice ca9 cl.cs.length cc9, .slice sa9 cl.ss.length sc9, .slice da9 cl.d.length dc9, .int .i64 cl.n]) cl) := ⟨MB.out.1.past hB, MB.out.2.1.past hB, MB.out.2.2.1.past hB, MB.out.2.2.2.1.past hB, MB.out.2.2.2.2.1.past hB, MB.out.2.2.2.2.2.past hB⟩
    clear hB
    simp only [Act.put, List.setIfInBounds_toArray, List.set_cons_zero, List.set_cons_succ]
    refine lst_val (v := .bool true) (by kernel_rfl) ?_ ?_
    · go_simp
    simp only [Act.put, List.setIfInBounds_toArray, List.set_cons_zero, List.set_cons_succ]
    refine lst_val (v := .bool true) (by kernel_rfl) ?_ ?_
    · go_simp
    simp only [Act.put, List.setIfInBounds_toArray, List.set_cons_zero, List.set_cons_succ]
    refine lst_val (v := .slice (some ⟨g, 0, none⟩) mm mm) (by kernel_rfl) ?_ ?_
    · go_simp
    simp only [Act.put, List.setIfInBounds_toArray, List.set_cons_zero, List.set_cons_succ]
    refine lst_val (v := .slice ua b.length uc) (by kernel_rfl) ?_ ?_
    · go_simp
    simp only [Act.put, List.setIfInBounds_toArray, List.set_cons_zero, List.set_cons_succ]
    refine lst_call (by kernel_rfl) (by first | (go_simp; done) | (go_simp; first | exact rfl | exact ⟨rfl, rfl⟩ | exact ⟨rfl, rfl, rfl⟩)) (KE.out _ (HUB.out _ MC.out.1.bel) MC.out.2.1) ?_
    rintro e y4 ⟨rfl, hB⟩
    refine ⟨_, rfl, ?_⟩
    have BF : Hid (Below w.heap.size w y4) := MC.out.1.bel.trans (hB.mono MC.out.1.bel.size)
    clear hB
    simp only [Act.put, List.setIfInBounds_toArray, List.set_cons_zero, List.set_cons_succ]
    refine lst_val (v := .bool true) (by kernel_rfl) ?_ ?_
    · go_simp
    simp only [Act.put, List.setIfInBounds_toArray, List.set_cons_zero, List.set_cons_succ]
    refine lst_val (v := .bool true) (by kernel_rfl) ?_ ?_
    · go_simp
    simp only [Act.put, List.setIfInBounds_toArray, List.set_cons_zero, List.set_cons_succ]
    refine wpList_nil ?_
    go_wp2
    go_ret
    exact ⟨rfl, BF.out⟩
end Go.Proofs.Ytndhabhlajldeaa
