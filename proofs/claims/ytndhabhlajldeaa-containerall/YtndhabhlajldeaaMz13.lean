/- ContainerAll: the walk. -/
import Derived.Test.YtndhabhlajldeaaMz12
namespace Go.Proofs.Ytndhabhlajldeaa
open Go.RowKit
theorem all_boxes (W : World) (L4 L5 : List Value) : CBox ((W.alloc (.cells L4.toArray 28)).alloc (.cells L5.toArray 47)) W.heap.size 28 L4 ∧ CBox ((W.alloc (.cells L4.toArray 28)).alloc (.cells L5.toArray 47)) (W.heap.size + 1) 47 L5 ∧ Below W.heap.size W ((W.alloc (.cells L4.toArray 28)).alloc (.cells L5.toArray 47)) := by
  have b1 := below_alloc W (.cells L4.toArray 28)
  have b2 := below_alloc (W.alloc (.cells L4.toArray 28)) (.cells L5.toArray 47)
  have s1 : (W.alloc (.cells L4.toArray 28)).heap.size = W.heap.size + 1 := by simp
  have c2 := CBox.new (W.alloc (.cells L4.toArray 28)) 47 L5
  rw [s1] at c2
  exact ⟨(CBox.new W _ L4).past b2, c2, b1.trans (b2.mono (by omega))⟩
theorem box_ne {W : World} {a b : Nat} {t u : TypeId} {l m : List Value} (h : CBox W a t l) (k : CBox W b u m) (ht : t ≠ u) : a ≠ b := fun e => by
  subst e
  unfold CBox at h k
  rw [h] at k
  injection k with k
  injection k with _ k2
  exact ht k2
theorem gcn_least : Gcn leastC := by unfold Gcn; decide
set_option maxHeartbeats 8000000 in
set_option maxRecDepth 100000 in
theorem containerAll_walk (w : World) (v : Value) (l : List (Int × List Nat × Bool)) (h : AcL w v l) : Calls Try.prog 7 #[v] w fun e w' => e = .returned (.bool true) ∧ Below w.heap.size w w' := by
  obtain ⟨hl, ad, cap, rfl, hA⟩ := h
  have HA : Hid (∀ (i : Nat) a, l[i]? = some a → ∃ g o u, ad = some ⟨g, o, none⟩ ∧ w.cell? ⟨g, o + i * 3, none⟩ = some (.int .i64 a.1) ∧ w.cell? ⟨g, o + i * 3 + 1, none⟩ = some u ∧ w.cell? ⟨g, o + i * 3 + 2, none⟩ = some (.bool a.2.2) ∧ BL (fun _ => True) w u a.2.1 ∧ Byt a.2.1 ∧ a.2.1.length ≤ 140737488355328) := hA
  obtain ⟨n, hn⟩ : ∃ n, l.length = n := ⟨_, rfl⟩
  have HN : Hid (l.length = n) := hn
  rw [hn]
  have nI : (n : Int) ≤ 140737488355328 := by omega
  obtain ⟨x0, hx0⟩ : ∃ x0, leastC = x0 := ⟨_, rfl⟩
  have HG0 : Hid (Gcn x0) := by rw [← hx0]; exact gcn_least
  have LE : Hid (∀ W : World, Calls Try.prog 30 #[] W fun e w' => (∃ ta tc ca cc sa sc da dc, e = .returned (.agg #[.slice ta x0.ts.length tc, .slice ca x0.cs.length cc, .slice sa x0.ss.length sc, .slice da x0.d.length dc, .int .i64 x0.n]) ∧ CW (fun g => W.heap.size ≤ g) w' (.agg #[.slice ta x0.ts.length tc, .slice ca x0.cs.length cc, .slice sa x0.ss.length sc, .slice da x0.d.length dc, .int .i64 x0.n]) x0) ∧ Below W.heap.size W w') := fun W => (least_is W).mono fun e w' q9 => by
    rw [hx0] at q9
    obtain ⟨v9, rfl, hC, hB⟩ := q9
    obtain ⟨ta, tc, ca, cc, sa, sc, da, dc, rfl⟩ := cw_form hC
    exact ⟨⟨ta, tc, ca, cc, sa, sc, da, dc, rfl, hC⟩, hB⟩
  clear hA hl hn hx0
  go_enter Try.func7, Try.ntmps7
  go_upto_region 3 with (go_at_call 16; refine (able_is _).mono ?_; rintro e w0 ⟨rfl, hB⟩; (have B0 : Hid (Below w.heap.size w w0) := hB); (clear hB))
  go_upto_region 4 with (first | (go_at_call 30; refine (LE.out _).mono ?_; rintro e w1 ⟨⟨ta3, tc3, ca3, cc3, sa3, sc3, da3, dc3, rfl, hC⟩, hB⟩; (have N1 : Hid (Below w.heap.size w w1 ∧ CW (fun g => w.heap.size ≤ g) w1 (.agg #[.slice ta3 x0.ts.length tc3, .slice ca3 x0.cs.length cc3, .slice sa3 x0.ss.length sc3, .slice da3 x0.d.length dc3, .int .i64 x0.n]) x0) := ⟨B0.out.trans (hB.mono B0.out.size), hC.mono fun g hg _ => Nat.le_trans B0.out.size hg⟩); (clear hC hB)) | (go_at_call 30; refine (LE.out _).mono ?_; rintro e w2 ⟨⟨ta4, tc4, ca4, cc4, sa4, sc4, da4, dc4, rfl, hC⟩, hB⟩; (have N2 : Hid (Below w.heap.size w w2 ∧ CW (fun g => w.heap.size ≤ g) w2 (.agg #[.slice ta3 x0.ts.length tc3, .slice ca3 x0.cs.length cc3, .slice sa3 x0.ss.length sc3, .slice da3 x0.d.length dc3, .int .i64 x0.n]) x0 ∧ CW (fun g => w.heap.size ≤ g) w2 (.agg #[.slice ta4 x0.ts.length tc4, .slice ca4 x0.cs.length cc4, .slice sa4 x0.ss.length sc4, .slice da4 x0.d.length dc4, .int .i64 x0.n]) x0) := ⟨N1.out.1.trans (hB.mono N1.out.1.size), N1.out.2.past hB, hC.mono fun g hg _ => Nat.le_trans N1.out.1.size hg⟩); (clear hC hB)))
  have b1 := below_alloc w2 (.cells #[.slice ta3 x0.ts.length tc3, .slice ca3 x0.cs.length cc3, .slice sa3 x0.ss.length sc3, .slice da3 x0.d.length dc3, .int .i64 x0.n] 28)
  have b2 := below_alloc (w2.alloc (.cells #[.slice ta3 x0.ts.length tc3, .slice ca3 x0.cs.length cc3, .slice sa3 x0.ss.length sc3, .slice da3 x0.d.length dc3, .int .i64 x0.n] 28)) (.cells #[.slice ta4 x0.ts.length tc4, .slice ca4 x0.cs.length cc4, .slice sa4 x0.ss.length sc4, .slice da4 x0.d.length dc4, .int .i64 x0.n] 28)
  have s1 : (w2.alloc (.cells #[.slice ta3 x0.ts.length tc3, .slice ca3 x0.cs.length cc3, .slice sa3 x0.ss.length sc3, .slice da3 x0.d.length dc3, .int .i64 x0.n] 28)).heap.size = w2.heap.size + 1 := by simp
  have s2 : ((w2.alloc (.cells #[.slice ta3 x0.ts.length tc3, .slice ca3 x0.cs.length cc3, .slice sa3 x0.ss.length sc3, .slice da3 x0.d.length dc3, .int .i64 x0.n] 28)).alloc (.cells #[.slice ta4 x0.ts.length tc4, .slice ca4 x0.cs.length cc4, .slice sa4 x0.ss.length sc4, .slice da4 x0.d.length dc4, .int .i64 x0.n] 28)).heap.size = w2.heap.size + 1 + 1 := by simp
  have bb : Below w2.heap.size w2 ((w2.alloc (.cells #[.slice ta3 x0.ts.length tc3, .slice ca3 x0.cs.length cc3, .slice sa3 x0.ss.length sc3, .slice da3 x0.d.length dc3, .int .i64 x0.n] 28)).alloc (.cells #[.slice ta4 x0.ts.length tc4, .slice ca4 x0.cs.length cc4, .slice sa4 x0.ss.length sc4, .slice da4 x0.d.length dc4, .int .i64 x0.n] 28)) := b1.trans (b2.mono (by omega))
  have c2 := CBox.new (w2.alloc (.cells #[.slice ta3 x0.ts.length tc3, .slice ca3 x0.cs.length cc3, .slice sa3 x0.ss.length sc3, .slice da3 x0.d.length dc3, .int .i64 x0.n] 28)) 28 [.slice ta4 x0.ts.length tc4, .slice ca4 x0.cs.length cc4, .slice sa4 x0.ss.length sc4, .slice da4 x0.d.length dc4, .int .i64 x0.n]
  rw [s1] at c2
  have MI : Hid (AM w2.heap.size (w2.heap.size + 1) (w2.heap.size + 1 + 1) (fun g => w.heap.size ≤ g ∧ g < w2.heap.size) w ((w2.alloc (.cells #[.slice ta3 x0.ts.length tc3, .slice ca3 x0.cs.length cc3, .slice sa3 x0.ss.length sc3, .slice da3 x0.d.length dc3, .int .i64 x0.n] 28)).alloc (.cells #[.slice ta4 x0.ts.length tc4, .slice ca4 x0.cs.length cc4, .slice sa4 x0.ss.length sc4, .slice da4 x0.d.length dc4, .int .i64 x0.n] 28)) [.slice ta3 x0.ts.length tc3, .slice ca3 x0.cs.length cc3, .slice sa3 x0.ss.length sc3, .slice da3 x0.d.length dc3, .int .i64 x0.n] [.slice ta4 x0.ts.length tc4, .slice ca4 x0.cs.length cc4, .slice sa4 x0.ss.length sc4, .slice da4 x0.d.length dc4, .int .i64 x0.n] x0 (.slice none 0 0) (.slice none 0 0) [] []) :=
    ⟨(CBox.new w2 28 [.slice ta3 x0.ts.length tc3, .slice ca3 x0.cs.length cc3, .slice sa3 x0.ss.length sc3, .slice da3 x0.d.length dc3, .int .i64 x0.n]).past b2, c2, (N2.out.2.1.mono fun g hg hl => ⟨hg, hl⟩).past bb, (N2.out.2.2.mono fun g hg hl => ⟨hg, hl⟩).past bb, KL.nil _ _ _, KL.nil _ _ _, (fun g hg => by cases hg), (fun e => by omega), (fun e => by omega), by omega, (fun g hg => by cases hg), (fun g hg => by cases hg), (fun g hg => by omega), by omega, (fun g hg => by cases hg), (fun g hg => by cases hg), by omega, by have := N2.out.1.size; omega, by have := N2.out.1.size; omega, N2.out.1.trans (bb.mono N2.out.1.size), HG0.out⟩
  clear b1 b2 s1 s2 bb c2 N2 N1 B0 LE
  generalize w2.heap.size + 1 + 1 = N0 at MI
  generalize w2.heap.size + 1 = b4 at MI ⊢
  generalize w2.heap.size = b3 at MI ⊢
  generalize (w2.alloc _).alloc _ = W0 at MI ⊢
  go_wp2
  go_loopw [5, 6, 7, 8] (fun s5 s6 s7 s8 wr => ∃ (k r N : Nat) (S : Nat → Prop) (M3 M4 : List Value) (x : Con) (ks : List Con), s7 = .int .i64 (r : Int) ∧ s8 = .int .i64 (k : Int) ∧ k ≤ n ∧ r ≤ 2097152 ∧ ks.length ≤ 50 ∧ AM b3 b4 N S w wr M3 M4 x s5 s6 ks ks) (fun _ _ _ s8 _ => n - (intOf s8).toNat)
  case atStart => exact ⟨0, 2097152, N0, _, _, _, x0, [], rfl, rfl, by omega, by omega, by simp, MI.out⟩
  case round =>
    obtain ⟨k, r, N, S, M3, M4, x, ks, rfl, rfl, hk, hr, hks, hM⟩ := hrel
    clear MI
    have HKS : Hid (ks.length ≤ 50) := hks
    clear hks
    obtain ⟨ta3, tc3, ca3, cc3, sa3, sc3, da3, dc3, rfl⟩ := cw_cells hM.k3
    obtain ⟨ta4, tc4, ca4, cc4, sa4, sc4, da4, dc4, rfl⟩ := cw_cells hM.k4
    obtain ⟨ka, kc, rfl⟩ := hM.kk.sl
    obtain ⟨va, vc, rfl⟩ := hM.kw.sl
    have M : Hid (AM b3 b4 N S w wr [.slice ta3 x.ts.length tc3, .slice ca3 x.cs.length cc3, .slice sa3 x.ss.length sc3, .slice da3 x.d.length dc3, .int .i64 x.n] [.slice ta4 x.ts.length tc4, .slice ca4 x.cs.length cc4, .slice sa4 x.ss.length sc4, .slice da4 x.d.length dc4, .int .i64 x.n] x (.slice ka ks.length kc) (.slice va ks.length vc) ks ks) := hM
    clear hM
    by_cases e : k = n
    · have q1 : ¬ (k : Int) < (n : Int) := by omega
      clear e hk hr
      go_wp2
      go_loopw [26] (fun s26 wr => ∃ j : Nat, s26 = .int .i64 (j : Int) ∧ j ≤ ks.length ∧ AM b3 b4 N S w wr [.slice ta3 x.ts.length tc3, .slice ca3 x.cs.length cc3, .slice sa3 x.ss.length sc3, .slice da3 x.d.length dc3, .int .i64 x.n] [.slice ta4 x.ts.length tc4, .slice ca4 x.cs.length cc4, .slice sa4 x.ss.length sc4, .slice da4 x.d.length dc4, .int .i64 x.n] x (.slice ka ks.length kc) (.slice va ks.length vc) ks ks) (fun s26 _ => ks.length - (intOf s26).toNat)
      case atStart => exact ⟨0, rfl, by omega, M.out⟩
      case round =>
        obtain ⟨j, rfl, hj, hM⟩ := hrel
        clear M
        have M : Hid (AM b3 b4 N S w wr [.slice ta3 x.ts.length tc3, .slice ca3 x.cs.length cc3, .slice sa3 x.ss.length sc3, .slice da3 x.d.length dc3, .int .i64 x.n] [.slice ta4 x.ts.length tc4, .slice ca4 x.cs.length cc4, .slice sa4 x.ss.length sc4, .slice da4 x.d.length dc4, .int .i64 x.n] x (.slice ka ks.length kc) (.slice va ks.length vc) ks ks) := hM
        clear hM
        by_cases e : j = ks.length
        · have q2 : ¬ (j : Int) < (ks.length : Int) := by omega
          go_wp2
          go_ret
          exact ⟨rfl, M.out.bel⟩
        · have q2 : (j : Int) < (ks.length : Int) := by omega
          have HJ : Hid (j < ks.length) := by unfold Hid; omega
          obtain ⟨z, hz⟩ : ∃ z, ks[j]? = some z := ⟨ks[j]'(by omega), List.getElem?_eq_getElem _⟩
          obtain ⟨gk, kc', ta1, tc1, ca1, cc1, sa1, sc1, da1, dc1, ek, g0, g1, g2, g3, g4, kz1⟩ := M.out.kk.get hz
          obtain ⟨gv, vc', ta2, tc2, ca2, cc2, sa2, sc2, da2, dc2, ev, g5, g6, g7, g8, g9, kz2⟩ := M.out.kw.get hz
          injection ek with ek1 ek2 ek3
          injection ev with ev1 ev2 ev3
          subst ek1 ek3 ev1 ev3
          have KZ0 : Hid (CW S wr (.agg #[.slice ta1 z.ts.length tc1, .slice ca1 z.cs.length cc1, .slice sa1 z.ss.length sc1, .slice da1 z.d.length dc1, .int .i64 z.n]) z ∧ CW S wr (.agg #[.slice ta2 z.ts.length tc2, .slice ca2 z.cs.length cc2, .slice sa2 z.ss.length sc2, .slice da2 z.d.length dc2, .int .i64 z.n]) z) := ⟨kz1, kz2⟩
          have kB : (j : Int) < 1152921504606846976 := by have := HKS.out; have := HJ.out; omega
          clear hz e hj kz1 kz2 ek2 ev2
          go_upto_region 50 with fail
          refine wp_region_held_drew (S := fun V' => V'.cell? ⟨gk, j * 5, none⟩ = some (.slice ta1 z.ts.length tc1) ∧ V'.cell? ⟨gk, j * 5 + 1, none⟩ = some (.slice ca1 z.cs.length cc1) ∧ V'.cell? ⟨gk, j * 5 + 2, none⟩ = some (.slice sa1 z.ss.length sc1) ∧ V'.cell? ⟨gk, j * 5 + 3, none⟩ = some (.slice da1 z.d.length dc1) ∧ V'.cell? ⟨gk, j * 5 + 4, none⟩ = some (.int .i64 z.n) ∧ V'.cell? ⟨gv, j * 5, none⟩ = some (.slice ta2 z.ts.length tc2) ∧ V'.cell? ⟨gv, j * 5 + 1, none⟩ = some (.slice ca2 z.cs.length cc2) ∧ V'.cell? ⟨gv, j * 5 + 2, none⟩ = some (.slice sa2 z.ss.length sc2) ∧ V'.cell? ⟨gv, j * 5 + 3, none⟩ = some (.slice da2 z.d.length dc2) ∧ V'.cell? ⟨gv, j * 5 + 4, none⟩ = some (.int .i64 z.n)) (by kernel_rfl) ⟨g0, g1, g2, g3, g4, g5, g6, g7, g8, g9⟩ (fun HH => ?_)
          have A : Hid (AM b3 b4 N S w wr.drew [.slice ta3 x.ts.length tc3, .slice ca3 x.cs.length cc3, .slice sa3 x.ss.length sc3, .slice da3 x.d.length dc3, .int .i64 x.n] [.slice ta4 x.ts.length tc4, .slice ca4 x.cs.length cc4, .slice sa4 x.ss.length sc4, .slice da4 x.d.length dc4, .int .i64 x.n] x (.slice (some ⟨gk, 0, none⟩) ks.length kc) (.slice (some ⟨gv, 0, none⟩) ks.length vc) ks ks) := M.out.past below_drew
          have KZ : Hid (CW S wr.drew (.agg #[.slice ta1 z.ts.length tc1, .slice ca1 z.cs.length cc1, .slice sa1 z.ss.length sc1, .slice da1 z.d.length dc1, .int .i64 z.n]) z ∧ CW S wr.drew (.agg #[.slice ta2 z.ts.length tc2, .slice ca2 z.cs.length cc2, .slice sa2 z.ss.length sc2, .slice da2 z.d.length dc2, .int .i64 z.n]) z) := ⟨KZ0.out.1.past below_drew, KZ0.out.2.past below_drew⟩
          clear M KZ0 g0 g1 g2 g3 g4 g5 g6 g7 g8 g9
          generalize wr.drew = z1 at HH A KZ ⊢
          refine wpAnyH_take (i := 0) (v := .slice (some ⟨gk, 0, none⟩) ks.length kc) ov0 (by kernel_rfl) (by kernel_rfl) (by kernel_rfl) (fun _ _ _ h => h) (Or.inl ⟨by rfl, fun V' hS => ?_⟩) HH ?_
          · go_simp
          simp only [Act.put, List.setIfInBounds_toArray, List.set_cons_zero, List.set_cons_succ]
          refine wpAnyH_take (i := 1) (v := .int .i64 (j : Int)) ov1 (by kernel_rfl) (by kernel_rfl) (by kernel_rfl) (fun _ _ _ h => h) (Or.inl ⟨by rfl, fun V' hS => ?_⟩) HH ?_
          · go_simp
          simp only [Act.put, List.setIfInBounds_toArray, List.set_cons_zero, List.set_cons_succ]
          refine wpAnyH_take (i := 2) (v := .pointer (some ⟨gk, j * 5, none⟩)) ov2 (by kernel_rfl) (by kernel_rfl) (by kernel_rfl) (fun _ _ _ h => h) (Or.inl ⟨by rfl, fun V' hS => ?_⟩) HH ?_
          · go_simp
          simp only [Act.put, List.setIfInBounds_toArray, List.set_cons_zero, List.set_cons_succ]
          refine wpAnyH_take (i := 3) (v := .agg #[.slice ta1 z.ts.length tc1, .slice ca1 z.cs.length cc1, .slice sa1 z.ss.length sc1, .slice da1 z.d.length dc1, .int .i64 z.n]) ov3 (by kernel_rfl) (by kernel_rfl) (by kernel_rfl) (fun _ _ _ h => h) (Or.inl ⟨by rfl, fun V' hS => ?_⟩) HH ?_
          · have p0 := hS.1; have p1 := hS.2.1; have p2 := hS.2.2.1; have p3 := hS.2.2.2.1; have p4 := hS.2.2.2.2.1
            go_simp
          simp only [Act.put, List.setIfInBounds_toArray, List.set_cons_zero, List.set_cons_succ]
          refine wpAnyH_take (i := 4) (v := .slice (some ⟨gv, 0, none⟩) ks.length vc) ov4 (by kernel_rfl) (by kernel_rfl) (by kernel_rfl) (fun _ _ _ h => h) (Or.inl ⟨by rfl, fun V' hS => ?_⟩) HH ?_
          · go_simp
          simp only [Act.put, List.setIfInBounds_toArray, List.set_cons_zero, List.set_cons_succ]
          refine wpAnyH_take (i := 5) (v := .int .i64 (j : Int)) ov5 (by kernel_rfl) (by kernel_rfl) (by kernel_rfl) (fun _ _ _ h => h) (Or.inl ⟨by rfl, fun V' hS => ?_⟩) HH ?_
          · go_simp
          simp only [Act.put, List.setIfInBounds_toArray, List.set_cons_zero, List.set_cons_succ]
          refine wpAnyH_take (i := 6) (v := .pointer (some ⟨gv, j * 5, none⟩)) ov6 (by kernel_rfl) (by kernel_rfl) (by kernel_rfl) (fun _ _ _ h => h) (Or.inl ⟨by rfl, fun V' hS => ?_⟩) HH ?_
          · go_simp
          simp only [Act.put, List.setIfInBounds_toArray, List.set_cons_zero, List.set_cons_succ]
          refine wpAnyH_take (i := 7) (v := .agg #[.slice ta2 z.ts.length tc2, .slice ca2 z.cs.length cc2, .slice sa2 z.ss.length sc2, .slice da2 z.d.length dc2, .int .i64 z.n]) ov7 (by kernel_rfl) (by kernel_rfl) (by kernel_rfl) (fun _ _ _ h => h) (Or.inl ⟨by rfl, fun V' hS => ?_⟩) HH ?_
          · have p0 := hS.2.2.2.2.2.1; have p1 := hS.2.2.2.2.2.2.1; have p2 := hS.2.2.2.2.2.2.2.1; have p3 := hS.2.2.2.2.2.2.2.2.1; have p4 := hS.2.2.2.2.2.2.2.2.2
            go_simp
          simp only [Act.put, List.setIfInBounds_toArray, List.set_cons_zero, List.set_cons_succ]
          refine wpAnyH_ready (rs := [8]) (by kernel_rfl) (by simp) ?_
          refine AllReadyH.cons ov8 (fun K hK => ?_) AllReadyH.nil
          rw [if_pos (by rfl)]
          go_simp
          refine (same_is _ _ _ z KZ.out.1 KZ.out.2).mono ?_
          rintro e z9 ⟨rfl, hB⟩
          have q9 := A.out.past hB
          clear A
          have A : Hid (AM b3 b4 N S w z9 [.slice ta3 x.ts.length tc3, .slice ca3 x.cs.length cc3, .slice sa3 x.ss.length sc3, .slice da3 x.d.length dc3, .int .i64 x.n] [.slice ta4 x.ts.length tc4, .slice ca4 x.cs.length cc4, .slice sa4 x.ss.length sc4, .slice da4 x.d.length dc4, .int .i64 x.n] x (.slice (some ⟨gk, 0, none⟩) ks.length kc) (.slice (some ⟨gv, 0, none⟩) ks.length vc) ks ks) := q9
          clear q9
          have H9 : z9.cell? ⟨gk, j * 5, none⟩ = some (.slice ta1 z.ts.length tc1) ∧ z9.cell? ⟨gk, j * 5 + 1, none⟩ = some (.slice ca1 z.cs.length cc1) ∧ z9.cell? ⟨gk, j * 5 + 2, none⟩ = some (.slice sa1 z.ss.length sc1) ∧ z9.cell? ⟨gk, j * 5 + 3, none⟩ = some (.slice da1 z.d.length dc1) ∧ z9.cell? ⟨gk, j * 5 + 4, none⟩ = some (.int .i64 z.n) ∧ z9.cell? ⟨gv, j * 5, none⟩ = some (.slice ta2 z.ts.length tc2) ∧ z9.cell? ⟨gv, j * 5 + 1, none⟩ = some (.slice ca2 z.cs.length cc2) ∧ z9.cell? ⟨gv, j * 5 + 2, none⟩ = some (.slice sa2 z.ss.length sc2) ∧ z9.cell? ⟨gv, j * 5 + 3, none⟩ = some (.slice da2 z.d.length dc2) ∧ z9.cell? ⟨gv, j * 5 + 4, none⟩ = some (.int .i64 z.n) := ⟨(hB.cell (World.block_lt_of_cell? _ _ HH.1)).trans HH.1, (hB.cell (World.block_lt_of_cell? _ _ HH.2.1)).trans HH.2.1, (hB.cell (World.block_lt_of_cell? _ _ HH.2.2.1)).trans HH.2.2.1, (hB.cell (World.block_lt_of_cell? _ _ HH.2.2.2.1)).trans HH.2.2.2.1, (hB.cell (World.block_lt_of_cell? _ _ HH.2.2.2.2.1)).trans HH.2.2.2.2.1, (hB.cell (World.block_lt_of_cell? _ _ HH.2.2.2.2.2.1)).trans HH.2.2.2.2.2.1, (hB.cell (World.block_lt_of_cell? _ _ HH.2.2.2.2.2.2.1)).trans HH.2.2.2.2.2.2.1, (hB.cell (World.block_lt_of_cell? _ _ HH.2.2.2.2.2.2.2.1)).trans HH.2.2.2.2.2.2.2.1, (hB.cell (World.block_lt_of_cell? _ _ HH.2.2.2.2.2.2.2.2.1)).trans HH.2.2.2.2.2.2.2.2.1, (hB.cell (World.block_lt_of_cell? _ _ HH.2.2.2.2.2.2.2.2.2)).trans HH.2.2.2.2.2.2.2.2.2⟩
          clear hB HH
          (try go_wp2_with fail)
          refine hK.out _ _ H9 (fun _ => ?_)
          clear hK K
          (try simp only [Act.put, List.setIfInBounds_toArray, List.set_cons_zero, List.set_cons_succ])
          generalize z9 = z1 at A H9 ⊢
          clear KZ
          refine wpAnyH_take (i := 9) (v := .bool false) ov9 (by kernel_rfl) (by kernel_rfl) (by kernel_rfl) (fun _ _ _ h => h) (Or.inl ⟨by rfl, fun V' hS => ?_⟩) H9 ?_
          · go_simp
          simp only [Act.put, List.setIfInBounds_toArray, List.set_cons_zero, List.set_cons_succ]
          refine wpAnyH_done (by kernel_rfl) ?_ _
          clear H9
          go_wp2
          go_roundw
          case rel => exact ⟨j + 1, by first | rfl | go_num, by have := HJ.out; omega, A.out⟩
          case measure => (simp [intOf]; have := HJ.out; omega)
    · have kn : (k : Int) < (n : Int) := by omega
      have NT : Hid (k < n) := by unfold Hid; omega
      have kB : (k : Int) < 1152921504606846976 := by omega
      obtain ⟨⟨kd, b, op⟩, hx⟩ : ∃ a, l[k]? = some a := ⟨l[k]'(by have := HN.out; omega), List.getElem?_eq_getElem _⟩
      obtain ⟨g, a, u, eg, f0, f1, f2, hb, hby, hbl⟩ := HA.out k (kd, b, op) hx
      subst eg
      obtain ⟨ua, uc, rfl, _, _⟩ := hb.len
      have f0' : wr.cell? ⟨g, a + k * 3, none⟩ = some (.int .i64 kd) := (M.out.bel.cell (World.block_lt_of_cell? _ _ f0)).trans f0
      have f1' : wr.cell? ⟨g, a + k * 3 + 1, none⟩ = some (.slice ua b.length uc) := (M.out.bel.cell (World.block_lt_of_cell? _ _ f1)).trans f1
      have f2' : wr.cell? ⟨g, a + k * 3 + 2, none⟩ = some (.bool op) := (M.out.bel.cell (World.block_lt_of_cell? _ _ f2)).trans f2
      have hby : Byt b := hby
      have hbl : b.length ≤ 140737488355328 := hbl
      have HBY : Hid (Byt b) := hby
      have HUB : Hid (∀ W, Below w.heap.size w W → BL (fun _ => True) W (.slice ua b.length uc) b) := fun W hW => hb.past hW
      have b9' := below_alloc wr (.cells #[.int .i64 kd, .slice ua b.length uc, .bool op] 44)
      have M9 : Hid (AM b3 b4 N S w (wr.alloc (.cells #[.int .i64 kd, .slice ua b.length uc, .bool op] 44)) [.slice ta3 x.ts.length tc3, .slice ca3 x.cs.length cc3, .slice sa3 x.ss.length sc3, .slice da3 x.d.length dc3, .int .i64 x.n] [.slice ta4 x.ts.length tc4, .slice ca4 x.cs.length cc4, .slice sa4 x.ss.length sc4, .slice da4 x.d.length dc4, .int .i64 x.n] x (.slice ka ks.length kc) (.slice va ks.length vc) ks ks ∧ CBox (wr.alloc (.cells #[.int .i64 kd, .slice ua b.length uc, .bool op] 44)) wr.heap.size 44 [.int .i64 kd, .slice ua b.length uc, .bool op]) := ⟨M.out.past b9', CBox.new wr 44 [.int .i64 kd, .slice ua b.length uc, .bool op]⟩
      clear hx f0 f1 f2 hb hby b9' M e
      go_upto_region 10 with fail
      clear f0' f1' f2'
      generalize wr.heap.size = b9 at M9 ⊢
      generalize wr.alloc _ = W9 at M9 ⊢
      have a1 : W9.cell? ⟨b9, 1, none⟩ = some (.slice ua b.length uc) := M9.out.2.cell 1
      by_cases er : b.length + 1 ≤ r
      rotate_left
      · obtain ⟨z0, hz0⟩ : ∃ z : Int, z = (r : Int) - 1 := ⟨_, rfl⟩
        obtain ⟨z1, hz1⟩ : ∃ z : Int, z = z0 - (b.length : Int) := ⟨_, rfl⟩
        have r1 : (r : Int) - 1 = z0 := hz0.symm
        have w1 : IntKind.i64.wrap z0 = z0 := by rw [IntKind.wrap_i64]; omega
        have r2 : z0 - (b.length : Int) = z1 := hz1.symm
        have w2 : IntKind.i64.wrap z1 = z1 := by rw [IntKind.wrap_i64]; omega
        have q1 : z1 < 0 := by omega
        clear hz0 hz1 er hr
        go_wp2
        go_ret
        exact ⟨rfl, M9.out.1.bel⟩
      obtain ⟨r0, hr0⟩ : ∃ r0, r = r0 + 1 := ⟨r - 1, by omega⟩
      obtain ⟨r2, hr2⟩ : ∃ r2, r0 = r2 + b.length := ⟨r0 - b.length, by omega⟩
      have r1 : (r : Int) - 1 = (r0 : Int) := by omega
      have w1 : IntKind.i64.wrap (r0 : Int) = (r0 : Int) := by rw [IntKind.wrap_i64]; omega
      have r2' : (r0 : Int) - (b.length : Int) = (r2 : Int) := by omega
      have w2 : IntKind.i64.wrap (r2 : Int) = (r2 : Int) := by rw [IntKind.wrap_i64]; omega
      have q1 : ¬ (r2 : Int) < 0 := by omega
      have HR2 : Hid (r2 ≤ 2097152) := by unfold Hid; omega
      have HB2 : Hid (b.length ≤ 2097152) := by unfold Hid; omega
      have HBL : Hid (b.length ≤ 16777216) := by unfold Hid; omega
      clear hr0 hr2 er hr hbl
      have a0 : W9.cell? ⟨b9, 0, none⟩ = some (.int .i64 kd) := M9.out.2.cell 0
      go_upto_block 2 with fail
      clear a0 a1 r1 w1 r2' w2 q1 kn kB
      go_cut [5, 6] (fun s5 s6 wx => ∃ (N' : Nat) (S' : Nat → Prop) (M3' M4' : List Value) (x' : Con) (ks' : List Con), ks'.length ≤ 50 ∧ AM b3 b4 N' S' w wx M3' M4' x' s5 s6 ks' ks')
      case first =>
        by_cases e1 : kd = 1
        · as_aux_lemma =>
            subst e1
            have M9' : Hid (AM b3 b4 N S w W9 [.slice ta3 x.ts.length tc3, .slice ca3 x.cs.length cc3, .slice sa3 x.ss.length sc3, .slice da3 x.d.length dc3, .int .i64 x.n] [.slice ta4 x.ts.length tc4, .slice ca4 x.cs.length cc4, .slice sa4 x.ss.length sc4, .slice da4 x.d.length dc4, .int .i64 x.n] x (.slice ka ks.length kc) (.slice va ks.length vc) ks ks ∧ CBox W9 b9 44 [.int .i64 1, .slice ua b.length uc, .bool op]) := M9.out
            clear M9
            have M9 := M9'
            clear M9'
            skip
            go_upto_region 15 with fail
            obtain ⟨y, hy⟩ : ∃ y, conOf (prs b op) = y := ⟨_, rfl⟩
            obtain ⟨x1, hx1⟩ : ∃ z, (rjOf (prs b op)).1 = z := ⟨_, rfl⟩
            obtain ⟨y1, hy1⟩ : ∃ z, (rjOf (prs b op)).2 = z := ⟨_, rfl⟩
            have HGY : Hid (Gcn y) := by rw [← hy]; exact gcn_prs HBY.out HB2.out op
            have HSY : Hid (Small y) := HGY.out.small
            have PA : Hid (∀ (W : World) (R : Nat → Prop) (u : Value), BL R W u b → Calls Try.prog 31 #[u, .bool op] W fun e w' => (∃ ta tc ca cc sa sc da dc, e = .returned (.tuple #[.agg #[.slice ta y.ts.length tc, .slice ca y.cs.length cc, .slice sa y.ss.length sc, .slice da y.d.length dc, .int .i64 y.n], .agg #[.int .i64 x1, .slice none 0 0, .int .i64 0, .int .i64 y1]]) ∧ DW W.heap.size w' (.agg #[.slice ta y.ts.length tc, .slice ca y.cs.length cc, .slice sa y.ss.length sc, .slice da y.d.length dc, .int .i64 y.n]) y) ∧ Below W.heap.size W w') := fun W R u q => (parse_dw W u b op q HBY.out HBL.out).mono fun e w' q9 => by
              rw [hy, hx1, hy1] at q9
              obtain ⟨⟨v', e9, hD⟩, hB⟩ := q9
              obtain ⟨ta, tc, ca, cc, sa, sc, da, dc, rfl⟩ := hD.form
              exact ⟨⟨ta, tc, ca, cc, sa, sc, da, dc, e9, hD⟩, hB⟩
            have PD : Hid (∀ (W : World) (R : Nat → Prop) (u : Value), BL R W u b → Calls Try.prog 33 #[u, .bool op] W fun e w' => (∃ ta tc ca cc sa sc da dc, e = .returned (.tuple #[.agg #[.slice ta y.ts.length tc, .slice ca y.cs.length cc, .slice sa y.ss.length sc, .slice da y.d.length dc, .int .i64 y.n], .agg #[.int .i64 x1, .slice none 0 0, .int .i64 0, .int .i64 y1]]) ∧ CW (fun g => W.heap.size ≤ g) w' (.agg #[.slice ta y.ts.length tc, .slice ca y.cs.length cc, .slice sa y.ss.length sc, .slice da y.d.length dc, .int .i64 y.n]) y) ∧ Below W.heap.size W w') := fun W R u q => (rparse_ans W u b op q HBY.out HBL.out).mono fun e w' q9 => by
              rw [hy, hx1, hy1] at q9
              exact q9
            clear hy hx1 hy1
            go_cut [10, 11] (fun s10 s11 wx => ∃ (b10 b11 : Nat) (ta5 : Option Addr) (tc5 : Nat) (ca5 : Option Addr) (cc5 : Nat) (sa5 : Option Addr) (sc5 : Nat) (da5 : Option Addr) (dc5 : Nat), s10 = .pointer (some ⟨b10, 0, none⟩) ∧ s11 = .pointer (some ⟨b11, 0, none⟩) ∧ AM b3 b4 N S w wx [.slice ta3 x.ts.length tc3, .slice ca3 x.cs.length cc3, .slice sa3 x.ss.length sc3, .slice da3 x.d.length dc3, .int .i64 x.n] [.slice ta4 x.ts.length tc4, .slice ca4 x.cs.length cc4, .slice sa4 x.ss.length sc4, .slice da4 x.d.length dc4, .int .i64 x.n] x (.slice ka ks.length kc) (.slice va ks.length vc) ks ks ∧ CBox wx b9 44 [.int .i64 1, .slice ua b.length uc, .bool op] ∧ CBox wx b10 28 [.slice ta5 y.ts.length tc5, .slice ca5 y.cs.length cc5, .slice sa5 y.ss.length sc5, .slice da5 y.d.length dc5, .int .i64 y.n] ∧ CBox wx b11 47 [.int .i64 x1, .slice none 0 0, .int .i64 0, .int .i64 y1] ∧ DW N wx (.agg #[.slice ta5 y.ts.length tc5, .slice ca5 y.cs.length cc5, .slice sa5 y.ss.length sc5, .slice da5 y.d.length dc5, .int .i64 y.n]) y ∧ N ≤ b10 ∧ N ≤ b11)
            case first =>
              refine wp_region_held_drew (S := fun V' => CBox V' b9 44 [.int .i64 1, .slice ua b.length uc, .bool op]) (by kernel_rfl) (M9.out.2.past below_drew) (fun HH => ?_)
              have A : Hid (AM b3 b4 N S w W9.drew [.slice ta3 x.ts.length tc3, .slice ca3 x.cs.length cc3, .slice sa3 x.ss.length sc3, .slice da3 x.d.length dc3, .int .i64 x.n] [.slice ta4 x.ts.length tc4, .slice ca4 x.cs.length cc4, .slice sa4 x.ss.length sc4, .slice da4 x.d.length dc4, .int .i64 x.n] x (.slice ka ks.length kc) (.slice va ks.length vc) ks ks) := M9.out.1.past below_drew
              clear M9
              generalize W9.drew = z1 at HH A ⊢
              refine wpAnyH_take (i := 0) (v := .pointer (some ⟨b9, 1, none⟩)) ov0 (by kernel_rfl) (by kernel_rfl) (by kernel_rfl) (fun _ _ _ h => h) (Or.inl ⟨by rfl, fun V' hS => ?_⟩) HH ?_
              · go_simp
              simp only [Act.put, List.setIfInBounds_toArray, List.set_cons_zero, List.set_cons_succ]
              refine wpAnyH_take (i := 1) (v := .slice ua b.length uc) ov1 (by kernel_rfl) (by kernel_rfl) (by kernel_rfl) (fun _ _ _ h => h) (Or.inl ⟨by rfl, fun V' hS => ?_⟩) HH ?_
              · have c0 := hS.cell 1
                go_simp
              simp only [Act.put, List.setIfInBounds_toArray, List.set_cons_zero, List.set_cons_succ]
              refine wpAnyH_take (i := 3) (v := .pointer (some ⟨b9, 2, none⟩)) ov3 (by kernel_rfl) (by kernel_rfl) (by kernel_rfl) (fun _ _ _ h => h) (Or.inl ⟨by rfl, fun V' hS => ?_⟩) HH ?_
              · go_simp
              simp only [Act.put, List.setIfInBounds_toArray, List.set_cons_zero, List.set_cons_succ]
              refine wpAnyH_take (i := 4) (v := .bool op) ov4 (by kernel_rfl) (by kernel_rfl) (by kernel_rfl) (fun _ _ _ h => h) (Or.inl ⟨by rfl, fun V' hS => ?_⟩) HH ?_
              · have c0 := hS.cell 2
                go_simp
              simp only [Act.put, List.setIfInBounds_toArray, List.set_cons_zero, List.set_cons_succ]
              refine wpAnyH_ready (rs := [2, 9, 10]) (by kernel_rfl) (by simp) ?_
              refine AllReadyH.cons ov2 (fun K hK => ?_) (AllReadyH.cons ov9 (fun K hK => ?_) (AllReadyH.cons ov10 (fun K hK => ?_) AllReadyH.nil))
              · rw [if_pos (by rfl)]
                go_simp
                refine (own_is _ _ b (HUB.out _ A.out.bel) HBL.out).mono ?_
                rintro e z9 ⟨v9, rfl, hO, hB⟩
                have F9 : Hid (BL (fun _ => True) z9 v9 b) := SL.own hO (by have := HBL.out; omega) fun _ _ => trivial
                have H9 := HH.past hB
                clear HH
                have HH := H9
                clear H9
                have q9 := A.out.past hB
                clear A
                have A : Hid _ := q9
                clear q9
                (try (have q9 := F0.out; clear F0; have F0 : Hid (CBox z9 b10 28 [.slice none 0 0, .slice none 0 0, .slice none 0 0, .slice none 0 0, .int .i64 0]) := CBox.past q9 hB; clear q9))
                (try (have q9 := F1.out; clear F1; have F1 : Hid (CBox z9 b11 47 [.int .i64 0, .slice none 0 0, .int .i64 0, .int .i64 0]) := CBox.past q9 hB; clear q9))
                have FO := F9
                clear F9 hO hB
                (try go_wp2_with fail)
                refine hK.out _ _ HH (fun _ => ?_)
                clear hK K
                (try simp only [Act.put, List.setIfInBounds_toArray, List.set_cons_zero, List.set_cons_succ])
                generalize z9 = z1 at *
                refine wpAnyH_ready (rs := [5, 9, 10]) (by kernel_rfl) (by simp) ?_
                refine AllReadyH.cons ov5 (fun K hK => ?_) (AllReadyH.cons ov9 (fun K hK => ?_) (AllReadyH.cons ov10 (fun K hK => ?_) AllReadyH.nil))
                · rw [if_pos (by rfl)]
                  go_simp
                  refine (PA.out _ _ _ FO.out).mono ?_
                  rintro e z9 ⟨⟨ta5, tc5, ca5, cc5, sa5, sc5, da5, dc5, rfl, hD⟩, hB⟩
                  have F9 : Hid (DW N z9 (.agg #[.slice ta5 y.ts.length tc5, .slice ca5 y.cs.length cc5, .slice sa5 y.ss.length sc5, .slice da5 y.d.length dc5, .int .i64 y.n]) y) := hD.base A.out.NW
                  clear FO
                  have H9 := HH.past hB
                  clear HH
                  have HH := H9
                  clear H9
                  have q9 := A.out.past hB
                  clear A
                  have A : Hid _ := q9
                  clear q9
                  (try (have q9 := F0.out; clear F0; have F0 : Hid (CBox z9 b10 28 [.slice none 0 0, .slice none 0 0, .slice none 0 0, .slice none 0 0, .int .i64 0]) := CBox.past q9 hB; clear q9))
                  (try (have q9 := F1.out; clear F1; have F1 : Hid (CBox z9 b11 47 [.int .i64 0, .slice none 0 0, .int .i64 0, .int .i64 0]) := CBox.past q9 hB; clear q9))
                  have FP := F9
                  clear F9 hD hB
                  (try go_wp2_with fail)
                  refine hK.out _ _ HH (fun _ => ?_)
                  clear hK K
                  (try simp only [Act.put, List.setIfInBounds_toArray, List.set_cons_zero, List.set_cons_succ])
                  generalize z9 = z1 at *
                  refine wpAnyH_take (i := 6) (v := .tuple #[.agg #[.slice ta5 y.ts.length tc5, .slice ca5 y.cs.length cc5, .slice sa5 y.ss.length sc5, .slice da5 y.d.length dc5, .int .i64 y.n], .agg #[.int .i64 x1, .slice none 0 0, .int .i64 0, .int .i64 y1]]) ov6 (by kernel_rfl) (by kernel_rfl) (by kernel_rfl) (fun _ _ _ h => h) (Or.inl ⟨by rfl, fun V' hS => ?_⟩) HH ?_
                  · go_simp
                  simp only [Act.put, List.setIfInBounds_toArray, List.set_cons_zero, List.set_cons_succ]
                  refine wpAnyH_take (i := 7) (v := .agg #[.slice ta5 y.ts.length tc5, .slice ca5 y.cs.length cc5, .slice sa5 y.ss.length sc5, .slice da5 y.d.length dc5, .int .i64 y.n]) ov7 (by kernel_rfl) (by kernel_rfl) (by kernel_rfl) (fun _ _ _ h => h) (Or.inl ⟨by rfl, fun V' hS => ?_⟩) HH ?_
                  · go_simp
                  simp only [Act.put, List.setIfInBounds_toArray, List.set_cons_zero, List.set_cons_succ]
                  refine wpAnyH_take (i := 8) (v := .agg #[.int .i64 x1, .slice none 0 0, .int .i64 0, .int .i64 y1]) ov8 (by kernel_rfl) (by kernel_rfl) (by kernel_rfl) (fun _ _ _ h => h) (Or.inl ⟨by rfl, fun V' hS => ?_⟩) HH ?_
                  · go_simp
                  simp only [Act.put, List.setIfInBounds_toArray, List.set_cons_zero, List.set_cons_succ]
                  refine wpAnyH_ready (rs := [9, 10]) (by kernel_rfl) (by simp) ?_
                  refine AllReadyH.cons ov9 (fun K hK => ?_) (AllReadyH.cons ov10 (fun K hK => ?_) AllReadyH.nil)
                  · rw [if_pos (by rfl)]
                    refine wp_newC rfl ?_
                    intro zl hB F9
                    have HX0 : Hid (N ≤ z1.heap.size) := A.out.NW
                    have H9 := HH.past hB
                    clear HH
                    have HH := H9
                    clear H9
                    have q9 := A.out.past hB
                    clear A
                    have A : Hid _ := q9
                    clear q9
                    (try (have q9 := FO.out; clear FO; have FO : Hid (BL (fun _ => True) zl v9 b) := BL.past q9 hB; clear q9))
                    (try (have q9 := FP.out; clear FP; have FP : Hid (DW N zl (.agg #[.slice ta5 y.ts.length tc5, .slice ca5 y.cs.length cc5, .slice sa5 y.ss.length sc5, .slice da5 y.d.length dc5, .int .i64 y.n]) y) := DW.past q9 hB; clear q9))
                    (try (have q9 := F1.out; clear F1; have F1 : Hid (CBox zl b11 47 [.int .i64 0, .slice none 0 0, .int .i64 0, .int .i64 0]) := CBox.past q9 hB; clear q9))
                    have F0 : Hid (CBox zl z1.heap.size 28 [.slice none 0 0, .slice none 0 0, .slice none 0 0, .slice none 0 0, .int .i64 0]) := F9
                    clear F9 hB
                    refine hK.out _ zl HH (fun _ => ?_)
                    clear hK K
                    (try simp only [Act.put, List.setIfInBounds_toArray, List.set_cons_zero, List.set_cons_succ])
                    generalize z1.heap.size = b10 at F0 HX0 ⊢
                    generalize zl = z1 at *
                    refine wpAnyH_ready (rs := [10]) (by kernel_rfl) (by simp) ?_
                    refine AllReadyH.cons ov10 (fun K hK => ?_) AllReadyH.nil
                    rw [if_pos (by rfl)]
                    refine wp_newR rfl ?_
                    intro zl hB F9
                    have HX1 : Hid (N ≤ z1.heap.size) := A.out.NW
                    have H9 := HH.past hB
                    clear HH
                    have HH := H9
                    clear H9
                    have q9 := A.out.past hB
                    clear A
                    have A : Hid _ := q9
                    clear q9
                    (try (have q9 := FO.out; clear FO; have FO : Hid (BL (fun _ => True) zl v9 b) := BL.past q9 hB; clear q9))
                    (try (have q9 := FP.out; clear FP; have FP : Hid (DW N zl (.agg #[.slice ta5 y.ts.length tc5, .slice ca5 y.cs.length cc5, .slice sa5 y.ss.length sc5, .slice da5 y.d.length dc5, .int .i64 y.n]) y) := DW.past q9 hB; clear q9))
                    (try (have q9 := F0.out; clear F0; have F0 : Hid (CBox zl b10 28 [.slice none 0 0, .slice none 0 0, .slice none 0 0, .slice none 0 0, .int .i64 0]) := CBox.past q9 hB; clear q9))
                    have F1 : Hid (CBox zl z1.heap.size 47 [.int .i64 0, .slice none 0 0, .int .i64 0, .int .i64 0]) := F9
                    clear F9 hB
                    refine hK.out _ zl HH (fun _ => ?_)
                    clear hK K
                    (try simp only [Act.put, List.setIfInBounds_toArray, List.set_cons_zero, List.set_cons_succ])
                    generalize z1.heap.size = b11 at F1 HX1 ⊢
                    generalize zl = z1 at *
                    refine wpAnyH_ready (rs := [11]) (by kernel_rfl) (by simp) ?_
                    refine AllReadyH.cons ov11 (fun K hK => ?_) AllReadyH.nil
                    rw [if_pos (by rfl)]
                    refine wp_store5 _ _ rfl b10 (t0 := ta5) (n0 := y.ts.length) (m0 := tc5) (t1 := ca5) (n1 := y.cs.length) (m1 := cc5) (t2 := sa5) (n2 := y.ss.length) (m2 := sc5) (t3 := da5) (n3 := y.d.length) (m3 := dc5) (z := y.n) F0.out (by kernel_rfl) (by kernel_rfl) ?_
                    intro z2 hs hc
                    have A9 : Hid _ := A.out.but (hs.mono fun g (e : g = b10) => by have := HX0.out; omega)
                    have H9 := HH.but hs (fun (e : b9 = b10) => box_ne HH F0.out (by decide) e)
                    have P9 : Hid (DW N z2 (.agg #[.slice ta5 y.ts.length tc5, .slice ca5 y.cs.length cc5, .slice sa5 y.ss.length sc5, .slice da5 y.d.length dc5, .int .i64 y.n]) y) := FP.out.alien hs F0.out (by decide) (by decide) (by decide)
                    have G9 : Hid (CBox z2 b10 28 [.slice ta5 y.ts.length tc5, .slice ca5 y.cs.length cc5, .slice sa5 y.ss.length sc5, .slice da5 y.d.length dc5, .int .i64 y.n]) := hc
                    have R9 : Hid (CBox z2 b11 47 [.int .i64 0, .slice none 0 0, .int .i64 0, .int .i64 0]) := F1.out.but hs (fun (e : b11 = b10) => box_ne F1.out F0.out (by decide) e)
                    clear hs hc A HH FP F0 F1
                    refine hK.out _ z2 H9 (fun _ => ?_)
                    clear hK K
                    (try simp only [Act.put])
                    refine wpAnyH_ready (rs := [12]) (by kernel_rfl) (by simp) ?_
                    refine AllReadyH.cons ov12 (fun K hK => ?_) AllReadyH.nil
                    rw [if_pos (by rfl)]
                    refine wp_store4 _ _ rfl b11 (z0 := x1) (t1 := none) (n1 := 0) (m1 := 0) (z2 := 0) (z3 := y1) R9.out (by kernel_rfl) (by kernel_rfl) ?_
                    intro z3 hs hc
                    have MZ : Hid (AM b3 b4 N S w z3 [.slice ta3 x.ts.length tc3, .slice ca3 x.cs.length cc3, .slice sa3 x.ss.length sc3, .slice da3 x.d.length dc3, .int .i64 x.n] [.slice ta4 x.ts.length tc4, .slice ca4 x.cs.length cc4, .slice sa4 x.ss.length sc4, .slice da4 x.d.length dc4, .int .i64 x.n] x (.slice ka ks.length kc) (.slice va ks.length vc) ks ks ∧ CBox z3 b9 44 [.int .i64 1, .slice ua b.length uc, .bool op] ∧ CBox z3 b10 28 [.slice ta5 y.ts.length tc5, .slice ca5 y.cs.length cc5, .slice sa5 y.ss.length sc5, .slice da5 y.d.length dc5, .int .i64 y.n] ∧ CBox z3 b11 47 [.int .i64 x1, .slice none 0 0, .int .i64 0, .int .i64 y1] ∧ DW N z3 (.agg #[.slice ta5 y.ts.length tc5, .slice ca5 y.cs.length cc5, .slice sa5 y.ss.length sc5, .slice da5 y.d.length dc5, .int .i64 y.n]) y ∧ N ≤ b10 ∧ N ≤ b11) := ⟨A9.out.but (hs.mono fun g (e : g = b11) => by have := HX1.out; omega), H9.but hs (fun (e : b9 = b11) => box_ne H9 R9.out (by decide) e), G9.out.but hs (fun (e : b10 = b11) => box_ne G9.out R9.out (by decide) e), hc, P9.out.alien hs R9.out (by decide) (by decide) (by decide), HX0.out, HX1.out⟩
                    have HHN := MZ.out.2.1
                    clear hs hc A9 H9 P9 G9 R9 HX0 HX1
                    refine hK.out _ z3 HHN (fun _ => ?_)
                    clear hK K
                    (try simp only [Act.put])
                    refine wpAnyH_done (by kernel_rfl) ?_ _
                    clear HHN
                    go_wp2
                    go_meet
                    case rel => exact ⟨b10, b11, ta5, tc5, ca5, cc5, sa5, sc5, da5, dc5, rfl, rfl, MZ.out⟩
                  · rw [if_pos (by rfl)]
                    refine wp_newR rfl ?_
                    intro zl hB F9
                    have HX1 : Hid (N ≤ z1.heap.size) := A.out.NW
                    have H9 := HH.past hB
                    clear HH
                    have HH := H9
                    clear H9
                    have q9 := A.out.past hB
                    clear A
                    have A : Hid _ := q9
                    clear q9
                    (try (have q9 := FO.out; clear FO; have FO : Hid (BL (fun _ => True) zl v9 b) := BL.past q9 hB; clear q9))
                    (try (have q9 := FP.out; clear FP; have FP : Hid (DW N zl (.agg #[.slice ta5 y.ts.length tc5, .slice ca5 y.cs.length cc5, .slice sa5 y.ss.length sc5, .slice da5 y.d.length dc5, .int .i64 y.n]) y) := DW.past q9 hB; clear q9))
                    (try (have q9 := F0.out; clear F0; have F0 : Hid (CBox zl b10 28 [.slice none 0 0, .slice none 0 0, .slice none 0 0, .slice none 0 0, .int .i64 0]) := CBox.past q9 hB; clear q9))
                    have F1 : Hid (CBox zl z1.heap.size 47 [.int .i64 0, .slice none 0 0, .int .i64 0, .int .i64 0]) := F9
                    clear F9 hB
                    refine hK.out _ zl HH (fun _ => ?_)
                    clear hK K
                    (try simp only [Act.put, List.setIfInBounds_toArray, List.set_cons_zero, List.set_cons_succ])
                    generalize z1.heap.size = b11 at F1 HX1 ⊢
                    generalize zl = z1 at *
                    refine wpAnyH_ready (rs := [9]) (by kernel_rfl) (by simp) ?_
                    refine AllReadyH.cons ov9 (fun K hK => ?_) AllReadyH.nil
                    rw [if_pos (by rfl)]
                    refine wp_newC rfl ?_
                    intro zl hB F9
                    have HX0 : Hid (N ≤ z1.heap.size) := A.out.NW
                    have H9 := HH.past hB
                    clear HH
                    have HH := H9
                    clear H9
                    have q9 := A.out.past hB
                    clear A
                    have A : Hid _ := q9
                    clear q9
                    (try (have q9 := FO.out; clear FO; have FO : Hid (BL (fun _ => True) zl v9 b) := BL.past q9 hB; clear q9))
                    (try (have q9 := FP.out; clear FP; have FP : Hid (DW N zl (.agg #[.slice ta5 y.ts.length tc5, .slice ca5 y.cs.length cc5, .slice sa5 y.ss.length sc5, .slice da5 y.d.length dc5, .int .i64 y.n]) y) := DW.past q9 hB; clear q9))
                    (try (have q9 := F1.out; clear F1; have F1 : Hid (CBox zl b11 47 [.int .i64 0, .slice none 0 0, .int .i64 0, .int .i64 0]) := CBox.past q9 hB; clear q9))
                    have F0 : Hid (CBox zl z1.heap.size 28 [.slice none 0 0, .slice none 0 0, .slice none 0 0, .slice none 0 0, .int .i64 0]) := F9
                    clear F9 hB
                    refine hK.out _ zl HH (fun _ => ?_)
                    clear hK K
                    (try simp only [Act.put, List.setIfInBounds_toArray, List.set_cons_zero, List.set_cons_succ])
                    generalize z1.heap.size = b10 at F0 HX0 ⊢
                    generalize zl = z1 at *
                    refine wpAnyH_ready (rs := [11]) (by kernel_rfl) (by simp) ?_
                    refine AllReadyH.cons ov11 (fun K hK => ?_) AllReadyH.nil
                    rw [if_pos (by rfl)]
                    refine wp_store5 _ _ rfl b10 (t0 := ta5) (n0 := y.ts.length) (m0 := tc5) (t1 := ca5) (n1 := y.cs.length) (m1 := cc5) (t2 := sa5) (n2 := y.ss.length) (m2 := sc5) (t3 := da5) (n3 := y.d.length) (m3 := dc5) (z := y.n) F0.out (by kernel_rfl) (by kernel_rfl) ?_
                    intro z2 hs hc
                    have A9 : Hid _ := A.out.but (hs.mono fun g (e : g = b10) => by have := HX0.out; omega)
                    have H9 := HH.but hs (fun (e : b9 = b10) => box_ne HH F0.out (by decide) e)
                    have P9 : Hid (DW N z2 (.agg #[.slice ta5 y.ts.length tc5, .slice ca5 y.cs.length cc5, .slice sa5 y.ss.length sc5, .slice da5 y.d.length dc5, .int .i64 y.n]) y) := FP.out.alien hs F0.out (by decide) (by decide) (by decide)
                    have G9 : Hid (CBox z2 b10 28 [.slice ta5 y.ts.length tc5, .slice ca5 y.cs.length cc5, .slice sa5 y.ss.length sc5, .slice da5 y.d.length dc5, .int .i64 y.n]) := hc
                    have R9 : Hid (CBox z2 b11 47 [.int .i64 0, .slice none 0 0, .int .i64 0, .int .i64 0]) := F1.out.but hs (fun (e : b11 = b10) => box_ne F1.out F0.out (by decide) e)
                    clear hs hc A HH FP F0 F1
                    refine hK.out _ z2 H9 (fun _ => ?_)
                    clear hK K
                    (try simp only [Act.put])
                    refine wpAnyH_ready (rs := [12]) (by kernel_rfl) (by simp) ?_
                    refine AllReadyH.cons ov12 (fun K hK => ?_) AllReadyH.nil
                    rw [if_pos (by rfl)]
                    refine wp_store4 _ _ rfl b11 (z0 := x1) (t1 := none) (n1 := 0) (m1 := 0) (z2 := 0) (z3 := y1) R9.out (by kernel_rfl) (by kernel_rfl) ?_
                    intro z3 hs hc
                    have MZ : Hid (AM b3 b4 N S w z3 [.slice ta3 x.ts.length tc3, .slice ca3 x.cs.length cc3, .slice sa3 x.ss.length sc3, .slice da3 x.d.length dc3, .int .i64 x.n] [.slice ta4 x.ts.length tc4, .slice ca4 x.cs.length cc4, .slice sa4 x.ss.length sc4, .slice da4 x.d.length dc4, .int .i64 x.n] x (.slice ka ks.length kc) (.slice va ks.length vc) ks ks ∧ CBox z3 b9 44 [.int .i64 1, .slice ua b.length uc, .bool op] ∧ CBox z3 b10 28 [.slice ta5 y.ts.length tc5, .slice ca5 y.cs.length cc5, .slice sa5 y.ss.length sc5, .slice da5 y.d.length dc5, .int .i64 y.n] ∧ CBox z3 b11 47 [.int .i64 x1, .slice none 0 0, .int .i64 0, .int .i64 y1] ∧ DW N z3 (.agg #[.slice ta5 y.ts.length tc5, .slice ca5 y.cs.length cc5, .slice sa5 y.ss.length sc5, .slice da5 y.d.length dc5, .int .i64 y.n]) y ∧ N ≤ b10 ∧ N ≤ b11) := ⟨A9.out.but (hs.mono fun g (e : g = b11) => by have := HX1.out; omega), H9.but hs (fun (e : b9 = b11) => box_ne H9 R9.out (by decide) e), G9.out.but hs (fun (e : b10 = b11) => box_ne G9.out R9.out (by decide) e), hc, P9.out.alien hs R9.out (by decide) (by decide) (by decide), HX0.out, HX1.out⟩
                    have HHN := MZ.out.2.1
                    clear hs hc A9 H9 P9 G9 R9 HX0 HX1
                    refine hK.out _ z3 HHN (fun _ => ?_)
                    clear hK K
                    (try simp only [Act.put])
                    refine wpAnyH_done (by kernel_rfl) ?_ _
                    clear HHN
                    go_wp2
                    go_meet
                    case rel => exact ⟨b10, b11, ta5, tc5, ca5, cc5, sa5, sc5, da5, dc5, rfl, rfl, MZ.out⟩
                · rw [if_pos (by rfl)]
                  refine wp_newC rfl ?_
                  intro zl hB F9
                  have HX0 : Hid (N ≤ z1.heap.size) := A.out.NW
                  have H9 := HH.past hB
                  clear HH
                  have HH := H9
                  clear H9
                  have q9 := A.out.past hB
                  clear A
                  have A : Hid _ := q9
                  clear q9
                  (try (have q9 := FO.out; clear FO; have FO : Hid (BL (fun _ => True) zl v9 b) := BL.past q9 hB; clear q9))
                  (try (have q9 := FP.out; clear FP; have FP : Hid (DW N zl (.agg #[.slice ta5 y.ts.length tc5, .slice ca5 y.cs.length cc5, .slice sa5 y.ss.length sc5, .slice da5 y.d.length dc5, .int .i64 y.n]) y) := DW.past q9 hB; clear q9))
                  (try (have q9 := F1.out; clear F1; have F1 : Hid (CBox zl b11 47 [.int .i64 0, .slice none 0 0, .int .i64 0, .int .i64 0]) := CBox.past q9 hB; clear q9))
                  have F0 : Hid (CBox zl z1.heap.size 28 [.slice none 0 0, .slice none 0 0, .slice none 0 0, .slice none 0 0, .int .i64 0]) := F9
                  clear F9 hB
                  refine hK.out _ zl HH (fun _ => ?_)
                  clear hK K
                  (try simp only [Act.put, List.setIfInBounds_toArray, List.set_cons_zero, List.set_cons_succ])
                  generalize z1.heap.size = b10 at F0 HX0 ⊢
                  generalize zl = z1 at *
                  refine wpAnyH_ready (rs := [5, 10]) (by kernel_rfl) (by simp) ?_
                  refine AllReadyH.cons ov5 (fun K hK => ?_) (AllReadyH.cons ov10 (fun K hK => ?_) AllReadyH.nil)
                  · rw [if_pos (by rfl)]
                    go_simp
                    refine (PA.out _ _ _ FO.out).mono ?_
                    rintro e z9 ⟨⟨ta5, tc5, ca5, cc5, sa5, sc5, da5, dc5, rfl, hD⟩, hB⟩
                    have F9 : Hid (DW N z9 (.agg #[.slice ta5 y.ts.length tc5, .slice ca5 y.cs.length cc5, .slice sa5 y.ss.length sc5, .slice da5 y.d.length dc5, .int .i64 y.n]) y) := hD.base A.out.NW
                    clear FO
                    have H9 := HH.past hB
                    clear HH
                    have HH := H9
                    clear H9
                    have q9 := A.out.past hB
                    clear A
                    have A : Hid _ := q9
                    clear q9
                    (try (have q9 := F0.out; clear F0; have F0 : Hid (CBox z9 b10 28 [.slice none 0 0, .slice none 0 0, .slice none 0 0, .slice none 0 0, .int .i64 0]) := CBox.past q9 hB; clear q9))
                    (try (have q9 := F1.out; clear F1; have F1 : Hid (CBox z9 b11 47 [.int .i64 0, .slice none 0 0, .int .i64 0, .int .i64 0]) := CBox.past q9 hB; clear q9))
                    have FP := F9
                    clear F9 hD hB
                    (try go_wp2_with fail)
                    refine hK.out _ _ HH (fun _ => ?_)
                    clear hK K
                    (try simp only [Act.put, List.setIfInBounds_toArray, List.set_cons_zero, List.set_cons_succ])
                    generalize z9 = z1 at *
                    refine wpAnyH_take (i := 6) (v := .tuple #[.agg #[.slice ta5 y.ts.length tc5, .slice ca5 y.cs.length cc5, .slice sa5 y.ss.length sc5, .slice da5 y.d.length dc5, .int .i64 y.n], .agg #[.int .i64 x1, .slice none 0 0, .int .i64 0, .int .i64 y1]]) ov6 (by kernel_rfl) (by kernel_rfl) (by kernel_rfl) (fun _ _ _ h => h) (Or.inl ⟨by rfl, fun V' hS => ?_⟩) HH ?_
                    · go_simp
                    simp only [Act.put, List.setIfInBounds_toArray, List.set_cons_zero, List.set_cons_succ]
                    refine wpAnyH_take (i := 7) (v := .agg #[.slice ta5 y.ts.length tc5, .slice ca5 y.cs.length cc5, .slice sa5 y.ss.length sc5, .slice da5 y.d.length dc5, .int .i64 y.n]) ov7 (by kernel_rfl) (by kernel_rfl) (by kernel_rfl) (fun _ _ _ h => h) (Or.inl ⟨by rfl, fun V' hS => ?_⟩) HH ?_
                    · go_simp
                    simp only [Act.put, List.setIfInBounds_toArray, List.set_cons_zero, List.set_cons_succ]
                    refine wpAnyH_take (i := 8) (v := .agg #[.int .i64 x1, .slice none 0 0, .int .i64 0, .int .i64 y1]) ov8 (by kernel_rfl) (by kernel_rfl) (by kernel_rfl) (fun _ _ _ h => h) (Or.inl ⟨by rfl, fun V' hS => ?_⟩) HH ?_
                    · go_simp
                    simp only [Act.put, List.setIfInBounds_toArray, List.set_cons_zero, List.set_cons_succ]
                    refine wpAnyH_ready (rs := [10]) (by kernel_rfl) (by simp) ?_
                    refine AllReadyH.cons ov10 (fun K hK => ?_) AllReadyH.nil
                    rw [if_pos (by rfl)]
                    refine wp_newR rfl ?_
                    intro zl hB F9
                    have HX1 : Hid (N ≤ z1.heap.size) := A.out.NW
                    have H9 := HH.past hB
                    clear HH
                    have HH := H9
                    clear H9
                    have q9 := A.out.past hB
                    clear A
                    have A : Hid _ := q9
                    clear q9
                    (try (have q9 := FO.out; clear FO; have FO : Hid (BL (fun _ => True) zl v9 b) := BL.past q9 hB; clear q9))
                    (try (have q9 := FP.out; clear FP; have FP : Hid (DW N zl (.agg #[.slice ta5 y.ts.length tc5, .slice ca5 y.cs.length cc5, .slice sa5 y.ss.length sc5, .slice da5 y.d.length dc5, .int .i64 y.n]) y) := DW.past q9 hB; clear q9))
                    (try (have q9 := F0.out; clear F0; have F0 : Hid (CBox zl b10 28 [.slice none 0 0, .slice none 0 0, .slice none 0 0, .slice none 0 0, .int .i64 0]) := CBox.past q9 hB; clear q9))
                    have F1 : Hid (CBox zl z1.heap.size 47 [.int .i64 0, .slice none 0 0, .int .i64 0, .int .i64 0]) := F9
                    clear F9 hB
                    refine hK.out _ zl HH (fun _ => ?_)
                    clear hK K
                    (try simp only [Act.put, List.setIfInBounds_toArray, List.set_cons_zero, List.set_cons_succ])
                    generalize z1.heap.size = b11 at F1 HX1 ⊢
                    generalize zl = z1 at *
                    refine wpAnyH_ready (rs := [11]) (by kernel_rfl) (by simp) ?_
                    refine AllReadyH.cons ov11 (fun K hK => ?_) AllReadyH.nil
                    rw [if_pos (by rfl)]
                    refine wp_store5 _ _ rfl b10 (t0 := ta5) (n0 := y.ts.length) (m0 := tc5) (t1 := ca5) (n1 := y.cs.length) (m1 := cc5) (t2 := sa5) (n2 := y.ss.length) (m2 := sc5) (t3 := da5) (n3 := y.d.length) (m3 := dc5) (z := y.n) F0.out (by kernel_rfl) (by kernel_rfl) ?_
                    intro z2 hs hc
                    have A9 : Hid _ := A.out.but (hs.mono fun g (e : g = b10) => by have := HX0.out; omega)
                    have H9 := HH.but hs (fun (e : b9 = b10) => box_ne HH F0.out (by decide) e)
                    have P9 : Hid (DW N z2 (.agg #[.slice ta5 y.ts.length tc5, .slice ca5 y.cs.length cc5, .slice sa5 y.ss.length sc5, .slice da5 y.d.length dc5, .int .i64 y.n]) y) := FP.out.alien hs F0.out (by decide) (by decide) (by decide)
                    have G9 : Hid (CBox z2 b10 28 [.slice ta5 y.ts.length tc5, .slice ca5 y.cs.length cc5, .slice sa5 y.ss.length sc5, .slice da5 y.d.length dc5, .int .i64 y.n]) := hc
                    have R9 : Hid (CBox z2 b11 47 [.int .i64 0, .slice none 0 0, .int .i64 0, .int .i64 0]) := F1.out.but hs (fun (e : b11 = b10) => box_ne F1.out F0.out (by decide) e)
                    clear hs hc A HH FP F0 F1
                    refine hK.out _ z2 H9 (fun _ => ?_)
                    clear hK K
                    (try simp only [Act.put])
                    refine wpAnyH_ready (rs := [12]) (by kernel_rfl) (by simp) ?_
                    refine AllReadyH.cons ov12 (fun K hK => ?_) AllReadyH.nil
                    rw [if_pos (by rfl)]
                    refine wp_store4 _ _ rfl b11 (z0 := x1) (t1 := none) (n1 := 0) (m1 := 0) (z2 := 0) (z3 := y1) R9.out (by kernel_rfl) (by kernel_rfl) ?_
                    intro z3 hs hc
                    have MZ : Hid (AM b3 b4 N S w z3 [.slice ta3 x.ts.length tc3, .slice ca3 x.cs.length cc3, .slice sa3 x.ss.length sc3, .slice da3 x.d.length dc3, .int .i64 x.n] [.slice ta4 x.ts.length tc4, .slice ca4 x.cs.length cc4, .slice sa4 x.ss.length sc4, .slice da4 x.d.length dc4, .int .i64 x.n] x (.slice ka ks.length kc) (.slice va ks.length vc) ks ks ∧ CBox z3 b9 44 [.int .i64 1, .slice ua b.length uc, .bool op] ∧ CBox z3 b10 28 [.slice ta5 y.ts.length tc5, .slice ca5 y.cs.length cc5, .slice sa5 y.ss.length sc5, .slice da5 y.d.length dc5, .int .i64 y.n] ∧ CBox z3 b11 47 [.int .i64 x1, .slice none 0 0, .int .i64 0, .int .i64 y1] ∧ DW N z3 (.agg #[.slice ta5 y.ts.length tc5, .slice ca5 y.cs.length cc5, .slice sa5 y.ss.length sc5, .slice da5 y.d.length dc5, .int .i64 y.n]) y ∧ N ≤ b10 ∧ N ≤ b11) := ⟨A9.out.but (hs.mono fun g (e : g = b11) => by have := HX1.out; omega), H9.but hs (fun (e : b9 = b11) => box_ne H9 R9.out (by decide) e), G9.out.but hs (fun (e : b10 = b11) => box_ne G9.out R9.out (by decide) e), hc, P9.out.alien hs R9.out (by decide) (by decide) (by decide), HX0.out, HX1.out⟩
                    have HHN := MZ.out.2.1
                    clear hs hc A9 H9 P9 G9 R9 HX0 HX1
                    refine hK.out _ z3 HHN (fun _ => ?_)
                    clear hK K
                    (try simp only [Act.put])
                    refine wpAnyH_done (by kernel_rfl) ?_ _
                    clear HHN
                    go_wp2
                    go_meet
                    case rel => exact ⟨b10, b11, ta5, tc5, ca5, cc5, sa5, sc5, da5, dc5, rfl, rfl, MZ.out⟩
                  · rw [if_pos (by rfl)]
                    refine wp_newR rfl ?_
                    intro zl hB F9
                    have HX1 : Hid (N ≤ z1.heap.size) := A.out.NW
                    have H9 := HH.past hB
                    clear HH
                    have HH := H9
                    clear H9
                    have q9 := A.out.past hB
                    clear A
                    have A : Hid _ := q9
                    clear q9
                    (try (have q9 := FO.out; clear FO; have FO : Hid (BL (fun _ => True) zl v9 b) := BL.past q9 hB; clear q9))
                    (try (have q9 := FP.out; clear FP; have FP : Hid (DW N zl (.agg #[.slice ta5 y.ts.length tc5, .slice ca5 y.cs.length cc5, .slice sa5 y.ss.length sc5, .slice da5 y.d.length dc5, .int .i64 y.n]) y) := DW.past q9 hB; clear q9))
                    (try (have q9 := F0.out; clear F0; have F0 : Hid (CBox zl b10 28 [.slice none 0 0, .slice none 0 0, .slice none 0 0, .slice none 0 0, .int .i64 0]) := CBox.past q9 hB; clear q9))
                    have F1 : Hid (CBox zl z1.heap.size 47 [.int .i64 0, .slice none 0 0, .int .i64 0, .int .i64 0]) := F9
                    clear F9 hB
                    refine hK.out _ zl HH (fun _ => ?_)
                    clear hK K
                    (try simp only [Act.put, List.setIfInBounds_toArray, List.set_cons_zero, List.set_cons_succ])
                    generalize z1.heap.size = b11 at F1 HX1 ⊢
                    generalize zl = z1 at *
                    refine wpAnyH_ready (rs := [5]) (by kernel_rfl) (by simp) ?_
                    refine AllReadyH.cons ov5 (fun K hK => ?_) AllReadyH.nil
                    rw [if_pos (by rfl)]
                    go_simp
                    refine (PA.out _ _ _ FO.out).mono ?_
                    rintro e z9 ⟨⟨ta5, tc5, ca5, cc5, sa5, sc5, da5, dc5, rfl, hD⟩, hB⟩
                    have F9 : Hid (DW N z9 (.agg #[.slice ta5 y.ts.length tc5, .slice ca5 y.cs.length cc5, .slice sa5 y.ss.length sc5, .slice da5 y.d.length dc5, .int .i64 y.n]) y) := hD.base A.out.NW
                    clear FO
                    have H9 := HH.past hB
                    clear HH
                    have HH := H9
                    clear H9
                    have q9 := A.out.past hB
                    clear A
                    have A : Hid _ := q9
                    clear q9
                    (try (have q9 := F0.out; clear F0; have F0 : Hid (CBox z9 b10 28 [.slice none 0 0, .slice none 0 0, .slice none 0 0, .slice none 0 0, .int .i64 0]) := CBox.past q9 hB; clear q9))
                    (try (have q9 := F1.out; clear F1; have F1 : Hid (CBox z9 b11 47 [.int .i64 0, .slice none 0 0, .int .i64 0, .int .i64 0]) := CBox.past q9 hB; clear q9))
                    have FP := F9
                    clear F9 hD hB
                    (try go_wp2_with fail)
                    refine hK.out _ _ HH (fun _ => ?_)
                    clear hK K
                    (try simp only [Act.put, List.setIfInBounds_toArray, List.set_cons_zero, List.set_cons_succ])
                    generalize z9 = z1 at *
                    refine wpAnyH_take (i := 6) (v := .tuple #[.agg #[.slice ta5 y.ts.length tc5, .slice ca5 y.cs.length cc5, .slice sa5 y.ss.length sc5, .slice da5 y.d.length dc5, .int .i64 y.n], .agg #[.int .i64 x1, .slice none 0 0, .int .i64 0, .int .i64 y1]]) ov6 (by kernel_rfl) (by kernel_rfl) (by kernel_rfl) (fun _ _ _ h => h) (Or.inl ⟨by rfl, fun V' hS => ?_⟩) HH ?_
                    · go_simp
                    simp only [Act.put, List.setIfInBounds_toArray, List.set_cons_zero, List.set_cons_succ]
                    refine wpAnyH_take (i := 7) (v := .agg #[.slice ta5 y.ts.length tc5, .slice ca5 y.cs.length cc5, .slice sa5 y.ss.length sc5, .slice da5 y.d.length dc5, .int .i64 y.n]) ov7 (by kernel_rfl) (by kernel_rfl) (by kernel_rfl) (fun _ _ _ h => h) (Or.inl ⟨by rfl, fun V' hS => ?_⟩) HH ?_
                    · go_simp
                    simp only [Act.put, List.setIfInBounds_toArray, List.set_cons_zero, List.set_cons_succ]
                    refine wpAnyH_take (i := 8) (v := .agg #[.int .i64 x1, .slice none 0 0, .int .i64 0, .int .i64 y1]) ov8 (by kernel_rfl) (by kernel_rfl) (by kernel_rfl) (fun _ _ _ h => h) (Or.inl ⟨by rfl, fun V' hS => ?_⟩) HH ?_
                    · go_simp
                    simp only [Act.put, List.setIfInBounds_toArray, List.set_cons_zero, List.set_cons_succ]
                    refine wpAnyH_ready (rs := [11]) (by kernel_rfl) (by simp) ?_
                    refine AllReadyH.cons ov11 (fun K hK => ?_) AllReadyH.nil
                    rw [if_pos (by rfl)]
                    refine wp_store5 _ _ rfl b10 (t0 := ta5) (n0 := y.ts.length) (m0 := tc5) (t1 := ca5) (n1 := y.cs.length) (m1 := cc5) (t2 := sa5) (n2 := y.ss.length) (m2 := sc5) (t3 := da5) (n3 := y.d.length) (m3 := dc5) (z := y.n) F0.out (by kernel_rfl) (by kernel_rfl) ?_
                    intro z2 hs hc
                    have A9 : Hid _ := A.out.but (hs.mono fun g (e : g = b10) => by have := HX0.out; omega)
                    have H9 := HH.but hs (fun (e : b9 = b10) => box_ne HH F0.out (by decide) e)
                    have P9 : Hid (DW N z2 (.agg #[.slice ta5 y.ts.length tc5, .slice ca5 y.cs.length cc5, .slice sa5 y.ss.length sc5, .slice da5 y.d.length dc5, .int .i64 y.n]) y) := FP.out.alien hs F0.out (by decide) (by decide) (by decide)
                    have G9 : Hid (CBox z2 b10 28 [.slice ta5 y.ts.length tc5, .slice ca5 y.cs.length cc5, .slice sa5 y.ss.length sc5, .slice da5 y.d.length dc5, .int .i64 y.n]) := hc
                    have R9 : Hid (CBox z2 b11 47 [.int .i64 0, .slice none 0 0, .int .i64 0, .int .i64 0]) := F1.out.but hs (fun (e : b11 = b10) => box_ne F1.out F0.out (by decide) e)
                    clear hs hc A HH FP F0 F1
                    refine hK.out _ z2 H9 (fun _ => ?_)
                    clear hK K
                    (try simp only [Act.put])
                    refine wpAnyH_ready (rs := [12]) (by kernel_rfl) (by simp) ?_
                    refine AllReadyH.cons ov12 (fun K hK => ?_) AllReadyH.nil
                    rw [if_pos (by rfl)]
                    refine wp_store4 _ _ rfl b11 (z0 := x1) (t1 := none) (n1 := 0) (m1 := 0) (z2 := 0) (z3 := y1) R9.out (by kernel_rfl) (by kernel_rfl) ?_
                    intro z3 hs hc
                    have MZ : Hid (AM b3 b4 N S w z3 [.slice ta3 x.ts.length tc3, .slice ca3 x.cs.length cc3, .slice sa3 x.ss.length sc3, .slice da3 x.d.length dc3, .int .i64 x.n] [.slice ta4 x.ts.length tc4, .slice ca4 x.cs.length cc4, .slice sa4 x.ss.length sc4, .slice da4 x.d.length dc4, .int .i64 x.n] x (.slice ka ks.length kc) (.slice va ks.length vc) ks ks ∧ CBox z3 b9 44 [.int .i64 1, .slice ua b.length uc, .bool op] ∧ CBox z3 b10 28 [.slice ta5 y.ts.length tc5, .slice ca5 y.cs.length cc5, .slice sa5 y.ss.length sc5, .slice da5 y.d.length dc5, .int .i64 y.n] ∧ CBox z3 b11 47 [.int .i64 x1, .slice none 0 0, .int .i64 0, .int .i64 y1] ∧ DW N z3 (.agg #[.slice ta5 y.ts.length tc5, .slice ca5 y.cs.length cc5, .slice sa5 y.ss.length sc5, .slice da5 y.d.length dc5, .int .i64 y.n]) y ∧ N ≤ b10 ∧ N ≤ b11) := ⟨A9.out.but (hs.mono fun g (e : g = b11) => by have := HX1.out; omega), H9.but hs (fun (e : b9 = b11) => box_ne H9 R9.out (by decide) e), G9.out.but hs (fun (e : b10 = b11) => box_ne G9.out R9.out (by decide) e), hc, P9.out.alien hs R9.out (by decide) (by decide) (by decide), HX0.out, HX1.out⟩
                    have HHN := MZ.out.2.1
                    clear hs hc A9 H9 P9 G9 R9 HX0 HX1
                    refine hK.out _ z3 HHN (fun _ => ?_)
                    clear hK K
                    (try simp only [Act.put])
                    refine wpAnyH_done (by kernel_rfl) ?_ _
                    clear HHN
                    go_wp2
                    go_meet
                    case rel => exact ⟨b10, b11, ta5, tc5, ca5, cc5, sa5, sc5, da5, dc5, rfl, rfl, MZ.out⟩
                · rw [if_pos (by rfl)]
                  refine wp_newR rfl ?_
                  intro zl hB F9
                  have HX1 : Hid (N ≤ z1.heap.size) := A.out.NW
                  have H9 := HH.past hB
                  clear HH
                  have HH := H9
                  clear H9
                  have q9 := A.out.past hB
                  clear A
                  have A : Hid _ := q9
                  clear q9
                  (try (have q9 := FO.out; clear FO; have FO : Hid (BL (fun _ => True) zl v9 b) := BL.past q9 hB; clear q9))
                  (try (have q9 := FP.out; clear FP; have FP : Hid (DW N zl (.agg #[.slice ta5 y.ts.length tc5, .slice ca5 y.cs.length cc5, .slice sa5 y.ss.length sc5, .slice da5 y.d.length dc5, .int .i64 y.n]) y) := DW.past q9 hB; clear q9))
                  (try (have q9 := F0.out; clear F0; have F0 : Hid (CBox zl b10 28 [.slice none 0 0, .slice none 0 0, .slice none 0 0, .slice none 0 0, .int .i64 0]) := CBox.past q9 hB; clear q9))
                  have F1 : Hid (CBox zl z1.heap.size 47 [.int .i64 0, .slice none 0 0, .int .i64 0, .int .i64 0]) := F9
                  clear F9 hB
                  refine hK.out _ zl HH (fun _ => ?_)
                  clear hK K
                  (try simp only [Act.put, List.setIfInBounds_toArray, List.set_cons_zero, List.set_cons_succ])
                  generalize z1.heap.size = b11 at F1 HX1 ⊢
                  generalize zl = z1 at *
                  refine wpAnyH_ready (rs := [5, 9]) (by kernel_rfl) (by simp) ?_
                  refine AllReadyH.cons ov5 (fun K hK => ?_) (AllReadyH.cons ov9 (fun K hK => ?_) AllReadyH.nil)
                  · rw [if_pos (by rfl)]
                    go_simp
                    refine (PA.out _ _ _ FO.out).mono ?_
                    rintro e z9 ⟨⟨ta5, tc5, ca5, cc5, sa5, sc5, da5, dc5, rfl, hD⟩, hB⟩
                    have F9 : Hid (DW N z9 (.agg #[.slice ta5 y.ts.length tc5, .slice ca5 y.cs.length cc5, .slice sa5 y.ss.length sc5, .slice da5 y.d.length dc5, .int .i64 y.n]) y) := hD.base A.out.NW
                    clear FO
                    have H9 := HH.past hB
                    clear HH
                    have HH := H9
                    clear H9
                    have q9 := A.out.past hB
                    clear A
                    have A : Hid _ := q9
                    clear q9
                    (try (have q9 := F0.out; clear F0; have F0 : Hid (CBox z9 b10 28 [.slice none 0 0, .slice none 0 0, .slice none 0 0, .slice none 0 0, .int .i64 0]) := CBox.past q9 hB; clear q9))
                    (try (have q9 := F1.out; clear F1; have F1 : Hid (CBox z9 b11 47 [.int .i64 0, .slice none 0 0, .int .i64 0, .int .i64 0]) := CBox.past q9 hB; clear q9))
                    have FP := F9
                    clear F9 hD hB
                    (try go_wp2_with fail)
                    refine hK.out _ _ HH (fun _ => ?_)
                    clear hK K
                    (try simp only [Act.put, List.setIfInBounds_toArray, List.set_cons_zero, List.set_cons_succ])
                    generalize z9 = z1 at *
                    refine wpAnyH_take (i := 6) (v := .tuple #[.agg #[.slice ta5 y.ts.length tc5, .slice ca5 y.cs.length cc5, .slice sa5 y.ss.length sc5, .slice da5 y.d.length dc5, .int .i64 y.n], .agg #[.int .i64 x1, .slice none 0 0, .int .i64 0, .int .i64 y1]]) ov6 (by kernel_rfl) (by kernel_rfl) (by kernel_rfl) (fun _ _ _ h => h) (Or.inl ⟨by rfl, fun V' hS => ?_⟩) HH ?_
                    · go_simp
                    simp only [Act.put, List.setIfInBounds_toArray, List.set_cons_zero, List.set_cons_succ]
                    refine wpAnyH_take (i := 7) (v := .agg #[.slice ta5 y.ts.length tc5, .slice ca5 y.cs.length cc5, .slice sa5 y.ss.length sc5, .slice da5 y.d.length dc5, .int .i64 y.n]) ov7 (by kernel_rfl) (by kernel_rfl) (by kernel_rfl) (fun _ _ _ h => h) (Or.inl ⟨by rfl, fun V' hS => ?_⟩) HH ?_
                    · go_simp
                    simp only [Act.put, List.setIfInBounds_toArray, List.set_cons_zero, List.set_cons_succ]
                    refine wpAnyH_take (i := 8) (v := .agg #[.int .i64 x1, .slice none 0 0, .int .i64 0, .int .i64 y1]) ov8 (by kernel_rfl) (by kernel_rfl) (by kernel_rfl) (fun _ _ _ h => h) (Or.inl ⟨by rfl, fun V' hS => ?_⟩) HH ?_
                    · go_simp
                    simp only [Act.put, List.setIfInBounds_toArray, List.set_cons_zero, List.set_cons_succ]
                    refine wpAnyH_ready (rs := [9]) (by kernel_rfl) (by simp) ?_
                    refine AllReadyH.cons ov9 (fun K hK => ?_) AllReadyH.nil
                    rw [if_pos (by rfl)]
                    refine wp_newC rfl ?_
                    intro zl hB F9
                    have HX0 : Hid (N ≤ z1.heap.size) := A.out.NW
                    have H9 := HH.past hB
                    clear HH
                    have HH := H9
                    clear H9
                    have q9 := A.out.past hB
                    clear A
                    have A : Hid _ := q9
                    clear q9
                    (try (have q9 := FO.out; clear FO; have FO : Hid (BL (fun _ => True) zl v9 b) := BL.past q9 hB; clear q9))
                    (try (have q9 := FP.out; clear FP; have FP : Hid (DW N zl (.agg #[.slice ta5 y.ts.length tc5, .slice ca5 y.cs.length cc5, .slice sa5 y.ss.length sc5, .slice da5 y.d.length dc5, .int .i64 y.n]) y) := DW.past q9 hB; clear q9))
                    (try (have q9 := F1.out; clear F1; have F1 : Hid (CBox zl b11 47 [.int .i64 0, .slice none 0 0, .int .i64 0, .int .i64 0]) := CBox.past q9 hB; clear q9))
                    have F0 : Hid (CBox zl z1.heap.size 28 [.slice none 0 0, .slice none 0 0, .slice none 0 0, .slice none 0 0, .int .i64 0]) := F9
                    clear F9 hB
                    refine hK.out _ zl HH (fun _ => ?_)
                    clear hK K
                    (try simp only [Act.put, List.setIfInBounds_toArray, List.set_cons_zero, List.set_cons_succ])
                    generalize z1.heap.size = b10 at F0 HX0 ⊢
                    generalize zl = z1 at *
                    refine wpAnyH_ready (rs := [11]) (by kernel_rfl) (by simp) ?_
                    refine AllReadyH.cons ov11 (fun K hK => ?_) AllReadyH.nil
                    rw [if_pos (by rfl)]
                    refine wp_store5 _ _ rfl b10 (t0 := ta5) (n0 := y.ts.length) (m0 := tc5) (t1 := ca5) (n1 := y.cs.length) (m1 := cc5) (t2 := sa5) (n2 := y.ss.length) (m2 := sc5) (t3 := da5) (n3 := y.d.length) (m3 := dc5) (z := y.n) F0.out (by kernel_rfl) (by kernel_rfl) ?_
                    intro z2 hs hc
                    have A9 : Hid _ := A.out.but (hs.mono fun g (e : g = b10) => by have := HX0.out; omega)
                    have H9 := HH.but hs (fun (e : b9 = b10) => box_ne HH F0.out (by decide) e)
                    have P9 : Hid (DW N z2 (.agg #[.slice ta5 y.ts.length tc5, .slice ca5 y.cs.length cc5, .slice sa5 y.ss.length sc5, .slice da5 y.d.length dc5, .int .i64 y.n]) y) := FP.out.alien hs F0.out (by decide) (by decide) (by decide)
                    have G9 : Hid (CBox z2 b10 28 [.slice ta5 y.ts.length tc5, .slice ca5 y.cs.length cc5, .slice sa5 y.ss.length sc5, .slice da5 y.d.length dc5, .int .i64 y.n]) := hc
                    have R9 : Hid (CBox z2 b11 47 [.int .i64 0, .slice none 0 0, .int .i64 0, .int .i64 0]) := F1.out.but hs (fun (e : b11 = b10) => box_ne F1.out F0.out (by decide) e)
                    clear hs hc A HH FP F0 F1
                    refine hK.out _ z2 H9 (fun _ => ?_)
                    clear hK K
                    (try simp only [Act.put])
                    refine wpAnyH_ready (rs := [12]) (by kernel_rfl) (by simp) ?_
                    refine AllReadyH.cons ov12 (fun K hK => ?_) AllReadyH.nil
                    rw [if_pos (by rfl)]
                    refine wp_store4 _ _ rfl b11 (z0 := x1) (t1 := none) (n1 := 0) (m1 := 0) (z2 := 0) (z3 := y1) R9.out (by kernel_rfl) (by kernel_rfl) ?_
                    intro z3 hs hc
                    have MZ : Hid (AM b3 b4 N S w z3 [.slice ta3 x.ts.length tc3, .slice ca3 x.cs.length cc3, .slice sa3 x.ss.length sc3, .slice da3 x.d.length dc3, .int .i64 x.n] [.slice ta4 x.ts.length tc4, .slice ca4 x.cs.length cc4, .slice sa4 x.ss.length sc4, .slice da4 x.d.length dc4, .int .i64 x.n] x (.slice ka ks.length kc) (.slice va ks.length vc) ks ks ∧ CBox z3 b9 44 [.int .i64 1, .slice ua b.length uc, .bool op] ∧ CBox z3 b10 28 [.slice ta5 y.ts.length tc5, .slice ca5 y.cs.length cc5, .slice sa5 y.ss.length sc5, .slice da5 y.d.length dc5, .int .i64 y.n] ∧ CBox z3 b11 47 [.int .i64 x1, .slice none 0 0, .int .i64 0, .int .i64 y1] ∧ DW N z3 (.agg #[.slice ta5 y.ts.length tc5, .slice ca5 y.cs.length cc5, .slice sa5 y.ss.length sc5, .slice da5 y.d.length dc5, .int .i64 y.n]) y ∧ N ≤ b10 ∧ N ≤ b11) := ⟨A9.out.but (hs.mono fun g (e : g = b11) => by have := HX1.out; omega), H9.but hs (fun (e : b9 = b11) => box_ne H9 R9.out (by decide) e), G9.out.but hs (fun (e : b10 = b11) => box_ne G9.out R9.out (by decide) e), hc, P9.out.alien hs R9.out (by decide) (by decide) (by decide), HX0.out, HX1.out⟩
                    have HHN := MZ.out.2.1
                    clear hs hc A9 H9 P9 G9 R9 HX0 HX1
                    refine hK.out _ z3 HHN (fun _ => ?_)
                    clear hK K
                    (try simp only [Act.put])
                    refine wpAnyH_done (by kernel_rfl) ?_ _
                    clear HHN
                    go_wp2
                    go_meet
                    case rel => exact ⟨b10, b11, ta5, tc5, ca5, cc5, sa5, sc5, da5, dc5, rfl, rfl, MZ.out⟩
                  · rw [if_pos (by rfl)]
                    refine wp_newC rfl ?_
                    intro zl hB F9
                    have HX0 : Hid (N ≤ z1.heap.size) := A.out.NW
                    have H9 := HH.past hB
                    clear HH
                    have HH := H9
                    clear H9
                    have q9 := A.out.past hB
                    clear A
                    have A : Hid _ := q9
                    clear q9
                    (try (have q9 := FO.out; clear FO; have FO : Hid (BL (fun _ => True) zl v9 b) := BL.past q9 hB; clear q9))
                    (try (have q9 := FP.out; clear FP; have FP : Hid (DW N zl (.agg #[.slice ta5 y.ts.length tc5, .slice ca5 y.cs.length cc5, .slice sa5 y.ss.length sc5, .slice da5 y.d.length dc5, .int .i64 y.n]) y) := DW.past q9 hB; clear q9))
                    (try (have q9 := F1.out; clear F1; have F1 : Hid (CBox zl b11 47 [.int .i64 0, .slice none 0 0, .int .i64 0, .int .i64 0]) := CBox.past q9 hB; clear q9))
                    have F0 : Hid (CBox zl z1.heap.size 28 [.slice none 0 0, .slice none 0 0, .slice none 0 0, .slice none 0 0, .int .i64 0]) := F9
                    clear F9 hB
                    refine hK.out _ zl HH (fun _ => ?_)
                    clear hK K
                    (try simp only [Act.put, List.setIfInBounds_toArray, List.set_cons_zero, List.set_cons_succ])
                    generalize z1.heap.size = b10 at F0 HX0 ⊢
                    generalize zl = z1 at *
                    refine wpAnyH_ready (rs := [5]) (by kernel_rfl) (by simp) ?_
                    refine AllReadyH.cons ov5 (fun K hK => ?_) AllReadyH.nil
                    rw [if_pos (by rfl)]
                    go_simp
                    refine (PA.out _ _ _ FO.out).mono ?_
                    rintro e z9 ⟨⟨ta5, tc5, ca5, cc5, sa5, sc5, da5, dc5, rfl, hD⟩, hB⟩
                    have F9 : Hid (DW N z9 (.agg #[.slice ta5 y.ts.length tc5, .slice ca5 y.cs.length cc5, .slice sa5 y.ss.length sc5, .slice da5 y.d.length dc5, .int .i64 y.n]) y) := hD.base A.out.NW
                    clear FO
                    have H9 := HH.past hB
                    clear HH
                    have HH := H9
                    clear H9
                    have q9 := A.out.past hB
                    clear A
                    have A : Hid _ := q9
                    clear q9
                    (try (have q9 := F0.out; clear F0; have F0 : Hid (CBox z9 b10 28 [.slice none 0 0, .slice none 0 0, .slice none 0 0, .slice none 0 0, .int .i64 0]) := CBox.past q9 hB; clear q9))
                    (try (have q9 := F1.out; clear F1; have F1 : Hid (CBox z9 b11 47 [.int .i64 0, .slice none 0 0, .int .i64 0, .int .i64 0]) := CBox.past q9 hB; clear q9))
                    have FP := F9
                    clear F9 hD hB
                    (try go_wp2_with fail)
                    refine hK.out _ _ HH (fun _ => ?_)
                    clear hK K
                    (try simp only [Act.put, List.setIfInBounds_toArray, List.set_cons_zero, List.set_cons_succ])
                    generalize z9 = z1 at *
                    refine wpAnyH_take (i := 6) (v := .tuple #[.agg #[.slice ta5 y.ts.length tc5, .slice ca5 y.cs.length cc5, .slice sa5 y.ss.length sc5, .slice da5 y.d.length dc5, .int .i64 y.n], .agg #[.int .i64 x1, .slice none 0 0, .int .i64 0, .int .i64 y1]]) ov6 (by kernel_rfl) (by kernel_rfl) (by kernel_rfl) (fun _ _ _ h => h) (Or.inl ⟨by rfl, fun V' hS => ?_⟩) HH ?_
                    · go_simp
                    simp only [Act.put, List.setIfInBounds_toArray, List.set_cons_zero, List.set_cons_succ]
                    refine wpAnyH_take (i := 7) (v := .agg #[.slice ta5 y.ts.length tc5, .slice ca5 y.cs.length cc5, .slice sa5 y.ss.length sc5, .slice da5 y.d.length dc5, .int .i64 y.n]) ov7 (by kernel_rfl) (by kernel_rfl) (by kernel_rfl) (fun _ _ _ h => h) (Or.inl ⟨by rfl, fun V' hS => ?_⟩) HH ?_
                    · go_simp
                    simp only [Act.put, List.setIfInBounds_toArray, List.set_cons_zero, List.set_cons_succ]
                    refine wpAnyH_take (i := 8) (v := .agg #[.int .i64 x1, .slice none 0 0, .int .i64 0, .int .i64 y1]) ov8 (by kernel_rfl) (by kernel_rfl) (by kernel_rfl) (fun _ _ _ h => h) (Or.inl ⟨by rfl, fun V' hS => ?_⟩) HH ?_
                    · go_simp
                    simp only [Act.put, List.setIfInBounds_toArray, List.set_cons_zero, List.set_cons_succ]
                    refine wpAnyH_ready (rs := [11]) (by kernel_rfl) (by simp) ?_
                    refine AllReadyH.cons ov11 (fun K hK => ?_) AllReadyH.nil
                    rw [if_pos (by rfl)]
                    refine wp_store5 _ _ rfl b10 (t0 := ta5) (n0 := y.ts.length) (m0 := tc5) (t1 := ca5) (n1 := y.cs.length) (m1 := cc5) (t2 := sa5) (n2 := y.ss.length) (m2 := sc5) (t3 := da5) (n3 := y.d.length) (m3 := dc5) (z := y.n) F0.out (by kernel_rfl) (by kernel_rfl) ?_
                    intro z2 hs hc
                    have A9 : Hid _ := A.out.but (hs.mono fun g (e : g = b10) => by have := HX0.out; omega)
                    have H9 := HH.but hs (fun (e : b9 = b10) => box_ne HH F0.out (by decide) e)
                    have P9 : Hid (DW N z2 (.agg #[.slice ta5 y.ts.length tc5, .slice ca5 y.cs.length cc5, .slice sa5 y.ss.length sc5, .slice da5 y.d.length dc5, .int .i64 y.n]) y) := FP.out.alien hs F0.out (by decide) (by decide) (by decide)
                    have G9 : Hid (CBox z2 b10 28 [.slice ta5 y.ts.length tc5, .slice ca5 y.cs.length cc5, .slice sa5 y.ss.length sc5, .slice da5 y.d.length dc5, .int .i64 y.n]) := hc
                    have R9 : Hid (CBox z2 b11 47 [.int .i64 0, .slice none 0 0, .int .i64 0, .int .i64 0]) := F1.out.but hs (fun (e : b11 = b10) => box_ne F1.out F0.out (by decide) e)
                    clear hs hc A HH FP F0 F1
                    refine hK.out _ z2 H9 (fun _ => ?_)
                    clear hK K
                    (try simp only [Act.put])
                    refine wpAnyH_ready (rs := [12]) (by kernel_rfl) (by simp) ?_
                    refine AllReadyH.cons ov12 (fun K hK => ?_) AllReadyH.nil
                    rw [if_pos (by rfl)]
                    refine wp_store4 _ _ rfl b11 (z0 := x1) (t1 := none) (n1 := 0) (m1 := 0) (z2 := 0) (z3 := y1) R9.out (by kernel_rfl) (by kernel_rfl) ?_
                    intro z3 hs hc
                    have MZ : Hid (AM b3 b4 N S w z3 [.slice ta3 x.ts.length tc3, .slice ca3 x.cs.length cc3, .slice sa3 x.ss.length sc3, .slice da3 x.d.length dc3, .int .i64 x.n] [.slice ta4 x.ts.length tc4, .slice ca4 x.cs.length cc4, .slice sa4 x.ss.length sc4, .slice da4 x.d.length dc4, .int .i64 x.n] x (.slice ka ks.length kc) (.slice va ks.length vc) ks ks ∧ CBox z3 b9 44 [.int .i64 1, .slice ua b.length uc, .bool op] ∧ CBox z3 b10 28 [.slice ta5 y.ts.length tc5, .slice ca5 y.cs.length cc5, .slice sa5 y.ss.length sc5, .slice da5 y.d.length dc5, .int .i64 y.n] ∧ CBox z3 b11 47 [.int .i64 x1, .slice none 0 0, .int .i64 0, .int .i64 y1] ∧ DW N z3 (.agg #[.slice ta5 y.ts.length tc5, .slice ca5 y.cs.length cc5, .slice sa5 y.ss.length sc5, .slice da5 y.d.length dc5, .int .i64 y.n]) y ∧ N ≤ b10 ∧ N ≤ b11) := ⟨A9.out.but (hs.mono fun g (e : g = b11) => by have := HX1.out; omega), H9.but hs (fun (e : b9 = b11) => box_ne H9 R9.out (by decide) e), G9.out.but hs (fun (e : b10 = b11) => box_ne G9.out R9.out (by decide) e), hc, P9.out.alien hs R9.out (by decide) (by decide) (by decide), HX0.out, HX1.out⟩
                    have HHN := MZ.out.2.1
                    clear hs hc A9 H9 P9 G9 R9 HX0 HX1
                    refine hK.out _ z3 HHN (fun _ => ?_)
                    clear hK K
                    (try simp only [Act.put])
                    refine wpAnyH_done (by kernel_rfl) ?_ _
                    clear HHN
                    go_wp2
                    go_meet
                    case rel => exact ⟨b10, b11, ta5, tc5, ca5, cc5, sa5, sc5, da5, dc5, rfl, rfl, MZ.out⟩
              · rw [if_pos (by rfl)]
                refine wp_newC rfl ?_
                intro zl hB F9
                have HX0 : Hid (N ≤ z1.heap.size) := A.out.NW
                have H9 := HH.past hB
                clear HH
                have HH := H9
                clear H9
                have q9 := A.out.past hB
                clear A
                have A : Hid _ := q9
                clear q9
                (try (have q9 := FO.out; clear FO; have FO : Hid (BL (fun _ => True) zl v9 b) := BL.past q9 hB; clear q9))
                (try (have q9 := FP.out; clear FP; have FP : Hid (DW N zl (.agg #[.slice ta5 y.ts.length tc5, .slice ca5 y.cs.length cc5, .slice sa5 y.ss.length sc5, .slice da5 y.d.length dc5, .int .i64 y.n]) y) := DW.past q9 hB; clear q9))
                (try (have q9 := F1.out; clear F1; have F1 : Hid (CBox zl b11 47 [.int .i64 0, .slice none 0 0, .int .i64 0, .int .i64 0]) := CBox.past q9 hB; clear q9))
                have F0 : Hid (CBox zl z1.heap.size 28 [.slice none 0 0, .slice none 0 0, .slice none 0 0, .slice none 0 0, .int .i64 0]) := F9
                clear F9 hB
                refine hK.out _ zl HH (fun _ => ?_)
                clear hK K
                (try simp only [Act.put, List.setIfInBounds_toArray, List.set_cons_zero, List.set_cons_succ])
                generalize z1.heap.size = b10 at F0 HX0 ⊢
                generalize zl = z1 at *
                refine wpAnyH_ready (rs := [2, 10]) (by kernel_rfl) (by simp) ?_
                refine AllReadyH.cons ov2 (fun K hK => ?_) (AllReadyH.cons ov10 (fun K hK => ?_) AllReadyH.nil)
                · rw [if_pos (by rfl)]
                  go_simp
                  refine (own_is _ _ b (HUB.out _ A.out.bel) HBL.out).mono ?_
                  rintro e z9 ⟨v9, rfl, hO, hB⟩
                  have F9 : Hid (BL (fun _ => True) z9 v9 b) := SL.own hO (by have := HBL.out; omega) fun _ _ => trivial
                  have H9 := HH.past hB
                  clear HH
                  have HH := H9
                  clear H9
                  have q9 := A.out.past hB
                  clear A
                  have A : Hid _ := q9
                  clear q9
                  (try (have q9 := F0.out; clear F0; have F0 : Hid (CBox z9 b10 28 [.slice none 0 0, .slice none 0 0, .slice none 0 0, .slice none 0 0, .int .i64 0]) := CBox.past q9 hB; clear q9))
                  (try (have q9 := F1.out; clear F1; have F1 : Hid (CBox z9 b11 47 [.int .i64 0, .slice none 0 0, .int .i64 0, .int .i64 0]) := CBox.past q9 hB; clear q9))
                  have FO := F9
                  clear F9 hO hB
                  (try go_wp2_with fail)
                  refine hK.out _ _ HH (fun _ => ?_)
                  clear hK K
                  (try simp only [Act.put, List.setIfInBounds_toArray, List.set_cons_zero, List.set_cons_succ])
                  generalize z9 = z1 at *
                  refine wpAnyH_ready (rs := [5, 10]) (by kernel_rfl) (by simp) ?_
                  refine AllReadyH.cons ov5 (fun K hK => ?_) (AllReadyH.cons ov10 (fun K hK => ?_) AllReadyH.nil)
                  · rw [if_pos (by rfl)]
                    go_simp
                    refine (PA.out _ _ _ FO.out).mono ?_
                    rintro e z9 ⟨⟨ta5, tc5, ca5, cc5, sa5, sc5, da5, dc5, rfl, hD⟩, hB⟩
                    have F9 : Hid (DW N z9 (.agg #[.slice ta5 y.ts.length tc5, .slice ca5 y.cs.length cc5, .slice sa5 y.ss.length sc5, .slice da5 y.d.length dc5, .int .i64 y.n]) y) := hD.base A.out.NW
                    clear FO
                    have H9 := HH.past hB
                    clear HH
                    have HH := H9
                    clear H9
                    have q9 := A.out.past hB
                    clear A
                    have A : Hid _ := q9
                    clear q9
                    (try (have q9 := F0.out; clear F0; have F0 : Hid (CBox z9 b10 28 [.slice none 0 0, .slice none 0 0, .slice none 0 0, .slice none 0 0, .int .i64 0]) := CBox.past q9 hB; clear q9))
                    (try (have q9 := F1.out; clear F1; have F1 : Hid (CBox z9 b11 47 [.int .i64 0, .slice none 0 0, .int .i64 0, .int .i64 0]) := CBox.past q9 hB; clear q9))
                    have FP := F9
                    clear F9 hD hB
                    (try go_wp2_with fail)
                    refine hK.out _ _ HH (fun _ => ?_)
                    clear hK K
                    (try simp only [Act.put, List.setIfInBounds_toArray, List.set_cons_zero, List.set_cons_succ])
                    generalize z9 = z1 at *
                    refine wpAnyH_take (i := 6) (v := .tuple #[.agg #[.slice ta5 y.ts.length tc5, .slice ca5 y.cs.length cc5, .slice sa5 y.ss.length sc5, .slice da5 y.d.length dc5, .int .i64 y.n], .agg #[.int .i64 x1, .slice none 0 0, .int .i64 0, .int .i64 y1]]) ov6 (by kernel_rfl) (by kernel_rfl) (by kernel_rfl) (fun _ _ _ h => h) (Or.inl ⟨by rfl, fun V' hS => ?_⟩) HH ?_
                    · go_simp
                    simp only [Act.put, List.setIfInBounds_toArray, List.set_cons_zero, List.set_cons_succ]
                    refine wpAnyH_take (i := 7) (v := .agg #[.slice ta5 y.ts.length tc5, .slice ca5 y.cs.length cc5, .slice sa5 y.ss.length sc5, .slice da5 y.d.length dc5, .int .i64 y.n]) ov7 (by kernel_rfl) (by kernel_rfl) (by kernel_rfl) (fun _ _ _ h => h) (Or.inl ⟨by rfl, fun V' hS => ?_⟩) HH ?_
                    · go_simp
                    simp only [Act.put, List.setIfInBounds_toArray, List.set_cons_zero, List.set_cons_succ]
                    refine wpAnyH_take (i := 8) (v := .agg #[.int .i64 x1, .slice none 0 0, .int .i64 0, .int .i64 y1]) ov8 (by kernel_rfl) (by kernel_rfl) (by kernel_rfl) (fun _ _ _ h => h) (Or.inl ⟨by rfl, fun V' hS => ?_⟩) HH ?_
                    · go_simp
                    simp only [Act.put, List.setIfInBounds_toArray, List.set_cons_zero, List.set_cons_succ]
                    refine wpAnyH_ready (rs := [10]) (by kernel_rfl) (by simp) ?_
                    refine AllReadyH.cons ov10 (fun K hK => ?_) AllReadyH.nil
                    rw [if_pos (by rfl)]
                    refine wp_newR rfl ?_
                    intro zl hB F9
                    have HX1 : Hid (N ≤ z1.heap.size) := A.out.NW
                    have H9 := HH.past hB
                    clear HH
                    have HH := H9
                    clear H9
                    have q9 := A.out.past hB
                    clear A
                    have A : Hid _ := q9
                    clear q9
                    (try (have q9 := FO.out; clear FO; have FO : Hid (BL (fun _ => True) zl v9 b) := BL.past q9 hB; clear q9))
                    (try (have q9 := FP.out; clear FP; have FP : Hid (DW N zl (.agg #[.slice ta5 y.ts.length tc5, .slice ca5 y.cs.length cc5, .slice sa5 y.ss.length sc5, .slice da5 y.d.length dc5, .int .i64 y.n]) y) := DW.past q9 hB; clear q9))
                    (try (have q9 := F0.out; clear F0; have F0 : Hid (CBox zl b10 28 [.slice none 0 0, .slice none 0 0, .slice none 0 0, .slice none 0 0, .int .i64 0]) := CBox.past q9 hB; clear q9))
                    have F1 : Hid (CBox zl z1.heap.size 47 [.int .i64 0, .slice none 0 0, .int .i64 0, .int .i64 0]) := F9
                    clear F9 hB
                    refine hK.out _ zl HH (fun _ => ?_)
                    clear hK K
                    (try simp only [Act.put, List.setIfInBounds_toArray, List.set_cons_zero, List.set_cons_succ])
                    generalize z1.heap.size = b11 at F1 HX1 ⊢
                    generalize zl = z1 at *
                    refine wpAnyH_ready (rs := [11]) (by kernel_rfl) (by simp) ?_
                    refine AllReadyH.cons ov11 (fun K hK => ?_) AllReadyH.nil
                    rw [if_pos (by rfl)]
                    refine wp_store5 _ _ rfl b10 (t0 := ta5) (n0 := y.ts.length) (m0 := tc5) (t1 := ca5) (n1 := y.cs.length) (m1 := cc5) (t2 := sa5) (n2 := y.ss.length) (m2 := sc5) (t3 := da5) (n3 := y.d.length) (m3 := dc5) (z := y.n) F0.out (by kernel_rfl) (by kernel_rfl) ?_
                    intro z2 hs hc
                    have A9 : Hid _ := A.out.but (hs.mono fun g (e : g = b10) => by have := HX0.out; omega)
                    have H9 := HH.but hs (fun (e : b9 = b10) => box_ne HH F0.out (by decide) e)
                    have P9 : Hid (DW N z2 (.agg #[.slice ta5 y.ts.length tc5, .slice ca5 y.cs.length cc5, .slice sa5 y.ss.length sc5, .slice da5 y.d.length dc5, .int .i64 y.n]) y) := FP.out.alien hs F0.out (by decide) (by decide) (by decide)
                    have G9 : Hid (CBox z2 b10 28 [.slice ta5 y.ts.length tc5, .slice ca5 y.cs.length cc5, .slice sa5 y.ss.length sc5, .slice da5 y.d.length dc5, .int .i64 y.n]) := hc
                    have R9 : Hid (CBox z2 b11 47 [.int .i64 0, .slice none 0 0, .int .i64 0, .int .i64 0]) := F1.out.but hs (fun (e : b11 = b10) => box_ne F1.out F0.out (by decide) e)
                    clear hs hc A HH FP F0 F1
                    refine hK.out _ z2 H9 (fun _ => ?_)
                    clear hK K
                    (try simp only [Act.put])
                    refine wpAnyH_ready (rs := [12]) (by kernel_rfl) (by simp) ?_
                    refine AllReadyH.cons ov12 (fun K hK => ?_) AllReadyH.nil
                    rw [if_pos (by rfl)]
                    refine wp_store4 _ _ rfl b11 (z0 := x1) (t1 := none) (n1 := 0) (m1 := 0) (z2 := 0) (z3 := y1) R9.out (by kernel_rfl) (by kernel_rfl) ?_
                    intro z3 hs hc
                    have MZ : Hid (AM b3 b4 N S w z3 [.slice ta3 x.ts.length tc3, .slice ca3 x.cs.length cc3, .slice sa3 x.ss.length sc3, .slice da3 x.d.length dc3, .int .i64 x.n] [.slice ta4 x.ts.length tc4, .slice ca4 x.cs.length cc4, .slice sa4 x.ss.length sc4, .slice da4 x.d.length dc4, .int .i64 x.n] x (.slice ka ks.length kc) (.slice va ks.length vc) ks ks ∧ CBox z3 b9 44 [.int .i64 1, .slice ua b.length uc, .bool op] ∧ CBox z3 b10 28 [.slice ta5 y.ts.length tc5, .slice ca5 y.cs.length cc5, .slice sa5 y.ss.length sc5, .slice da5 y.d.length dc5, .int .i64 y.n] ∧ CBox z3 b11 47 [.int .i64 x1, .slice none 0 0, .int .i64 0, .int .i64 y1] ∧ DW N z3 (.agg #[.slice ta5 y.ts.length tc5, .slice ca5 y.cs.length cc5, .slice sa5 y.ss.length sc5, .slice da5 y.d.length dc5, .int .i64 y.n]) y ∧ N ≤ b10 ∧ N ≤ b11) := ⟨A9.out.but (hs.mono fun g (e : g = b11) => by have := HX1.out; omega), H9.but hs (fun (e : b9 = b11) => box_ne H9 R9.out (by decide) e), G9.out.but hs (fun (e : b10 = b11) => box_ne G9.out R9.out (by decide) e), hc, P9.out.alien hs R9.out (by decide) (by decide) (by decide), HX0.out, HX1.out⟩
                    have HHN := MZ.out.2.1
                    clear hs hc A9 H9 P9 G9 R9 HX0 HX1
                    refine hK.out _ z3 HHN (fun _ => ?_)
                    clear hK K
                    (try simp only [Act.put])
                    refine wpAnyH_done (by kernel_rfl) ?_ _
                    clear HHN
                    go_wp2
                    go_meet
                    case rel => exact ⟨b10, b11, ta5, tc5, ca5, cc5, sa5, sc5, da5, dc5, rfl, rfl, MZ.out⟩
                  · rw [if_pos (by rfl)]
                    refine wp_newR rfl ?_
                    intro zl hB F9
                    have HX1 : Hid (N ≤ z1.heap.size) := A.out.NW
                    have H9 := HH.past hB
                    clear HH
                    have HH := H9
                    clear H9
                    have q9 := A.out.past hB
                    clear A
                    have A : Hid _ := q9
                    clear q9
                    (try (have q9 := FO.out; clear FO; have FO : Hid (BL (fun _ => True) zl v9 b) := BL.past q9 hB; clear q9))
                    (try (have q9 := FP.out; clear FP; have FP : Hid (DW N zl (.agg #[.slice ta5 y.ts.length tc5, .slice ca5 y.cs.length cc5, .slice sa5 y.ss.length sc5, .slice da5 y.d.length dc5, .int .i64 y.n]) y) := DW.past q9 hB; clear q9))
                    (try (have q9 := F0.out; clear F0; have F0 : Hid (CBox zl b10 28 [.slice none 0 0, .slice none 0 0, .slice none 0 0, .slice none 0 0, .int .i64 0]) := CBox.past q9 hB; clear q9))
                    have F1 : Hid (CBox zl z1.heap.size 47 [.int .i64 0, .slice none 0 0, .int .i64 0, .int .i64 0]) := F9
                    clear F9 hB
                    refine hK.out _ zl HH (fun _ => ?_)
                    clear hK K
                    (try simp only [Act.put, List.setIfInBounds_toArray, List.set_cons_zero, List.set_cons_succ])
                    generalize z1.heap.size = b11 at F1 HX1 ⊢
                    generalize zl = z1 at *
                    refine wpAnyH_ready (rs := [5]) (by kernel_rfl) (by simp) ?_
                    refine AllReadyH.cons ov5 (fun K hK => ?_) AllReadyH.nil
                    rw [if_pos (by rfl)]
                    go_simp
                    refine (PA.out _ _ _ FO.out).mono ?_
                    rintro e z9 ⟨⟨ta5, tc5, ca5, cc5, sa5, sc5, da5, dc5, rfl, hD⟩, hB⟩
                    have F9 : Hid (DW N z9 (.agg #[.slice ta5 y.ts.length tc5, .slice ca5 y.cs.length cc5, .slice sa5 y.ss.length sc5, .slice da5 y.d.length dc5, .int .i64 y.n]) y) := hD.base A.out.NW
                    clear FO
                    have H9 := HH.past hB
                    clear HH
                    have HH := H9
                    clear H9
                    have q9 := A.out.past hB
                    clear A
                    have A : Hid _ := q9
                    clear q9
                    (try (have q9 := F0.out; clear F0; have F0 : Hid (CBox z9 b10 28 [.slice none 0 0, .slice none 0 0, .slice none 0 0, .slice none 0 0, .int .i64 0]) := CBox.past q9 hB; clear q9))
                    (try (have q9 := F1.out; clear F1; have F1 : Hid (CBox z9 b11 47 [.int .i64 0, .slice none 0 0, .int .i64 0, .int .i64 0]) := CBox.past q9 hB; clear q9))
                    have FP := F9
                    clear F9 hD hB
                    (try go_wp2_with fail)
                    refine hK.out _ _ HH (fun _ => ?_)
                    clear hK K
                    (try simp only [Act.put, List.setIfInBounds_toArray, List.set_cons_zero, List.set_cons_succ])
                    generalize z9 = z1 at *
                    refine wpAnyH_take (i := 6) (v := .tuple #[.agg #[.slice ta5 y.ts.length tc5, .slice ca5 y.cs.length cc5, .slice sa5 y.ss.length sc5, .slice da5 y.d.length dc5, .int .i64 y.n], .agg #[.int .i64 x1, .slice none 0 0, .int .i64 0, .int .i64 y1]]) ov6 (by kernel_rfl) (by kernel_rfl) (by kernel_rfl) (fun _ _ _ h => h) (Or.inl ⟨by rfl, fun V' hS => ?_⟩) HH ?_
                    · go_simp
                    simp only [Act.put, List.setIfInBounds_toArray, List.set_cons_zero, List.set_cons_succ]
                    refine wpAnyH_take (i := 7) (v := .agg #[.slice ta5 y.ts.length tc5, .slice ca5 y.cs.length cc5, .slice sa5 y.ss.length sc5, .slice da5 y.d.length dc5, .int .i64 y.n]) ov7 (by kernel_rfl) (by kernel_rfl) (by kernel_rfl) (fun _ _ _ h => h) (Or.inl ⟨by rfl, fun V' hS => ?_⟩) HH ?_
                    · go_simp
                    simp only [Act.put, List.setIfInBounds_toArray, List.set_cons_zero, List.set_cons_succ]
                    refine wpAnyH_take (i := 8) (v := .agg #[.int .i64 x1, .slice none 0 0, .int .i64 0, .int .i64 y1]) ov8 (by kernel_rfl) (by kernel_rfl) (by kernel_rfl) (fun _ _ _ h => h) (Or.inl ⟨by rfl, fun V' hS => ?_⟩) HH ?_
                    · go_simp
                    simp only [Act.put, List.setIfInBounds_toArray, List.set_cons_zero, List.set_cons_succ]
                    refine wpAnyH_ready (rs := [11]) (by kernel_rfl) (by simp) ?_
                    refine AllReadyH.cons ov11 (fun K hK => ?_) AllReadyH.nil
                    rw [if_pos (by rfl)]
                    refine wp_store5 _ _ rfl b10 (t0 := ta5) (n0 := y.ts.length) (m0 := tc5) (t1 := ca5) (n1 := y.cs.length) (m1 := cc5) (t2 := sa5) (n2 := y.ss.length) (m2 := sc5) (t3 := da5) (n3 := y.d.length) (m3 := dc5) (z := y.n) F0.out (by kernel_rfl) (by kernel_rfl) ?_
                    intro z2 hs hc
                    have A9 : Hid _ := A.out.but (hs.mono fun g (e : g = b10) => by have := HX0.out; omega)
                    have H9 := HH.but hs (fun (e : b9 = b10) => box_ne HH F0.out (by decide) e)
                    have P9 : Hid (DW N z2 (.agg #[.slice ta5 y.ts.length tc5, .slice ca5 y.cs.length cc5, .slice sa5 y.ss.length sc5, .slice da5 y.d.length dc5, .int .i64 y.n]) y) := FP.out.alien hs F0.out (by decide) (by decide) (by decide)
                    have G9 : Hid (CBox z2 b10 28 [.slice ta5 y.ts.length tc5, .slice ca5 y.cs.length cc5, .slice sa5 y.ss.length sc5, .slice da5 y.d.length dc5, .int .i64 y.n]) := hc
                    have R9 : Hid (CBox z2 b11 47 [.int .i64 0, .slice none 0 0, .int .i64 0, .int .i64 0]) := F1.out.but hs (fun (e : b11 = b10) => box_ne F1.out F0.out (by decide) e)
                    clear hs hc A HH FP F0 F1
                    refine hK.out _ z2 H9 (fun _ => ?_)
                    clear hK K
                    (try simp only [Act.put])
                    refine wpAnyH_ready (rs := [12]) (by kernel_rfl) (by simp) ?_
                    refine AllReadyH.cons ov12 (fun K hK => ?_) AllReadyH.nil
                    rw [if_pos (by rfl)]
                    refine wp_store4 _ _ rfl b11 (z0 := x1) (t1 := none) (n1 := 0) (m1 := 0) (z2 := 0) (z3 := y1) R9.out (by kernel_rfl) (by kernel_rfl) ?_
                    intro z3 hs hc
                    have MZ : Hid (AM b3 b4 N S w z3 [.slice ta3 x.ts.length tc3, .slice ca3 x.cs.length cc3, .slice sa3 x.ss.length sc3, .slice da3 x.d.length dc3, .int .i64 x.n] [.slice ta4 x.ts.length tc4, .slice ca4 x.cs.length cc4, .slice sa4 x.ss.length sc4, .slice da4 x.d.length dc4, .int .i64 x.n] x (.slice ka ks.length kc) (.slice va ks.length vc) ks ks ∧ CBox z3 b9 44 [.int .i64 1, .slice ua b.length uc, .bool op] ∧ CBox z3 b10 28 [.slice ta5 y.ts.length tc5, .slice ca5 y.cs.length cc5, .slice sa5 y.ss.length sc5, .slice da5 y.d.length dc5, .int .i64 y.n] ∧ CBox z3 b11 47 [.int .i64 x1, .slice none 0 0, .int .i64 0, .int .i64 y1] ∧ DW N z3 (.agg #[.slice ta5 y.ts.length tc5, .slice ca5 y.cs.length cc5, .slice sa5 y.ss.length sc5, .slice da5 y.d.length dc5, .int .i64 y.n]) y ∧ N ≤ b10 ∧ N ≤ b11) := ⟨A9.out.but (hs.mono fun g (e : g = b11) => by have := HX1.out; omega), H9.but hs (fun (e : b9 = b11) => box_ne H9 R9.out (by decide) e), G9.out.but hs (fun (e : b10 = b11) => box_ne G9.out R9.out (by decide) e), hc, P9.out.alien hs R9.out (by decide) (by decide) (by decide), HX0.out, HX1.out⟩
                    have HHN := MZ.out.2.1
                    clear hs hc A9 H9 P9 G9 R9 HX0 HX1
                    refine hK.out _ z3 HHN (fun _ => ?_)
                    clear hK K
                    (try simp only [Act.put])
                    refine wpAnyH_done (by kernel_rfl) ?_ _
                    clear HHN
                    go_wp2
                    go_meet
                    case rel => exact ⟨b10, b11, ta5, tc5, ca5, cc5, sa5, sc5, da5, dc5, rfl, rfl, MZ.out⟩
                · rw [if_pos (by rfl)]
                  refine wp_newR rfl ?_
                  intro zl hB F9
                  have HX1 : Hid (N ≤ z1.heap.size) := A.out.NW
                  have H9 := HH.past hB
                  clear HH
                  have HH := H9
                  clear H9
                  have q9 := A.out.past hB
                  clear A
                  have A : Hid _ := q9
                  clear q9
                  (try (have q9 := FO.out; clear FO; have FO : Hid (BL (fun _ => True) zl v9 b) := BL.past q9 hB; clear q9))
                  (try (have q9 := FP.out; clear FP; have FP : Hid (DW N zl (.agg #[.slice ta5 y.ts.length tc5, .slice ca5 y.cs.length cc5, .slice sa5 y.ss.length sc5, .slice da5 y.d.length dc5, .int .i64 y.n]) y) := DW.past q9 hB; clear q9))
                  (try (have q9 := F0.out; clear F0; have F0 : Hid (CBox zl b10 28 [.slice none 0 0, .slice none 0 0, .slice none 0 0, .slice none 0 0, .int .i64 0]) := CBox.past q9 hB; clear q9))
                  have F1 : Hid (CBox zl z1.heap.size 47 [.int .i64 0, .slice none 0 0, .int .i64 0, .int .i64 0]) := F9
                  clear F9 hB
                  refine hK.out _ zl HH (fun _ => ?_)
                  clear hK K
                  (try simp only [Act.put, List.setIfInBounds_toArray, List.set_cons_zero, List.set_cons_succ])
                  generalize z1.heap.size = b11 at F1 HX1 ⊢
                  generalize zl = z1 at *
                  refine wpAnyH_ready (rs := [2]) (by kernel_rfl) (by simp) ?_
                  refine AllReadyH.cons ov2 (fun K hK => ?_) AllReadyH.nil
                  rw [if_pos (by rfl)]
                  go_simp
                  refine (own_is _ _ b (HUB.out _ A.out.bel) HBL.out).mono ?_
                  rintro e z9 ⟨v9, rfl, hO, hB⟩
                  have F9 : Hid (BL (fun _ => True) z9 v9 b) := SL.own hO (by have := HBL.out; omega) fun _ _ => trivial
                  have H9 := HH.past hB
                  clear HH
                  have HH := H9
                  clear H9
                  have q9 := A.out.past hB
                  clear A
                  have A : Hid _ := q9
                  clear q9
                  (try (have q9 := F0.out; clear F0; have F0 : Hid (CBox z9 b10 28 [.slice none 0 0, .slice none 0 0, .slice none 0 0, .slice none 0 0, .int .i64 0]) := CBox.past q9 hB; clear q9))
                  (try (have q9 := F1.out; clear F1; have F1 : Hid (CBox z9 b11 47 [.int .i64 0, .slice none 0 0, .int .i64 0, .int .i64 0]) := CBox.past q9 hB; clear q9))
                  have FO := F9
                  clear F9 hO hB
                  (try go_wp2_with fail)
                  refine hK.out _ _ HH (fun _ => ?_)
                  clear hK K
                  (try simp only [Act.put, List.setIfInBounds_toArray, List.set_cons_zero, List.set_cons_succ])
                  generalize z9 = z1 at *
                  refine wpAnyH_ready (rs := [5]) (by kernel_rfl) (by simp) ?_
                  refine AllReadyH.cons ov5 (fun K hK => ?_) AllReadyH.nil
                  rw [if_pos (by rfl)]
                  go_simp
                  refine (PA.out _ _ _ FO.out).mono ?_
                  rintro e z9 ⟨⟨ta5, tc5, ca5, cc5, sa5, sc5, da5, dc5, rfl, hD⟩, hB⟩
                  have F9 : Hid (DW N z9 (.agg #[.slice ta5 y.ts.length tc5, .slice ca5 y.cs.length cc5, .slice sa5 y.ss.length sc5, .slice da5 y.d.length dc5, .int .i64 y.n]) y) := hD.base A.out.NW
                  clear FO
                  have H9 := HH.past hB
                  clear HH
                  have HH := H9
                  clear H9
                  have q9 := A.out.past hB
                  clear A
                  have A : Hid _ := q9
                  clear q9
                  (try (have q9 := F0.out; clear F0; have F0 : Hid (CBox z9 b10 28 [.slice none 0 0, .slice none 0 0, .slice none 0 0, .slice none 0 0, .int .i64 0]) := CBox.past q9 hB; clear q9))
                  (try (have q9 := F1.out; clear F1; have F1 : Hid (CBox z9 b11 47 [.int .i64 0, .slice none 0 0, .int .i64 0, .int .i64 0]) := CBox.past q9 hB; clear q9))
                  have FP := F9
                  clear F9 hD hB
                  (try go_wp2_with fail)
                  refine hK.out _ _ HH (fun _ => ?_)
                  clear hK K
                  (try simp only [Act.put, List.setIfInBounds_toArray, List.set_cons_zero, List.set_cons_succ])
                  generalize z9 = z1 at *
                  refine wpAnyH_take (i := 6) (v := .tuple #[.agg #[.slice ta5 y.ts.length tc5, .slice ca5 y.cs.length cc5, .slice sa5 y.ss.length sc5, .slice da5 y.d.length dc5, .int .i64 y.n], .agg #[.int .i64 x1, .slice none 0 0, .int .i64 0, .int .i64 y1]]) ov6 (by kernel_rfl) (by kernel_rfl) (by kernel_rfl) (fun _ _ _ h => h) (Or.inl ⟨by rfl, fun V' hS => ?_⟩) HH ?_
                  · go_simp
                  simp only [Act.put, List.setIfInBounds_toArray, List.set_cons_zero, List.set_cons_succ]
                  refine wpAnyH_take (i := 7) (v := .agg #[.slice ta5 y.ts.length tc5, .slice ca5 y.cs.length cc5, .slice sa5 y.ss.length sc5, .slice da5 y.d.length dc5, .int .i64 y.n]) ov7 (by kernel_rfl) (by kernel_rfl) (by kernel_rfl) (fun _ _ _ h => h) (Or.inl ⟨by rfl, fun V' hS => ?_⟩) HH ?_
                  · go_simp
                  simp only [Act.put, List.setIfInBounds_toArray, List.set_cons_zero, List.set_cons_succ]
                  refine wpAnyH_take (i := 8) (v := .agg #[.int .i64 x1, .slice none 0 0, .int .i64 0, .int .i64 y1]) ov8 (by kernel_rfl) (by kernel_rfl) (by kernel_rfl) (fun _ _ _ h => h) (Or.inl ⟨by rfl, fun V' hS => ?_⟩) HH ?_
                  · go_simp
                  simp only [Act.put, List.setIfInBounds_toArray, List.set_cons_zero, List.set_cons_succ]
                  refine wpAnyH_ready (rs := [11]) (by kernel_rfl) (by simp) ?_
                  refine AllReadyH.cons ov11 (fun K hK => ?_) AllReadyH.nil
                  rw [if_pos (by rfl)]
                  refine wp_store5 _ _ rfl b10 (t0 := ta5) (n0 := y.ts.length) (m0 := tc5) (t1 := ca5) (n1 := y.cs.length) (m1 := cc5) (t2 := sa5) (n2 := y.ss.length) (m2 := sc5) (t3 := da5) (n3 := y.d.length) (m3 := dc5) (z := y.n) F0.out (by kernel_rfl) (by kernel_rfl) ?_
                  intro z2 hs hc
                  have A9 : Hid _ := A.out.but (hs.mono fun g (e : g = b10) => by have := HX0.out; omega)
                  have H9 := HH.but hs (fun (e : b9 = b10) => box_ne HH F0.out (by decide) e)
                  have P9 : Hid (DW N z2 (.agg #[.slice ta5 y.ts.length tc5, .slice ca5 y.cs.length cc5, .slice sa5 y.ss.length sc5, .slice da5 y.d.length dc5, .int .i64 y.n]) y) := FP.out.alien hs F0.out (by decide) (by decide) (by decide)
                  have G9 : Hid (CBox z2 b10 28 [.slice ta5 y.ts.length tc5, .slice ca5 y.cs.length cc5, .slice sa5 y.ss.length sc5, .slice da5 y.d.length dc5, .int .i64 y.n]) := hc
                  have R9 : Hid (CBox z2 b11 47 [.int .i64 0, .slice none 0 0, .int .i64 0, .int .i64 0]) := F1.out.but hs (fun (e : b11 = b10) => box_ne F1.out F0.out (by decide) e)
                  clear hs hc A HH FP F0 F1
                  refine hK.out _ z2 H9 (fun _ => ?_)
                  clear hK K
                  (try simp only [Act.put])
                  refine wpAnyH_ready (rs := [12]) (by kernel_rfl) (by simp) ?_
                  refine AllReadyH.cons ov12 (fun K hK => ?_) AllReadyH.nil
                  rw [if_pos (by rfl)]
                  refine wp_store4 _ _ rfl b11 (z0 := x1) (t1 := none) (n1 := 0) (m1 := 0) (z2 := 0) (z3 := y1) R9.out (by kernel_rfl) (by kernel_rfl) ?_
                  intro z3 hs hc
                  have MZ : Hid (AM b3 b4 N S w z3 [.slice ta3 x.ts.length tc3, .slice ca3 x.cs.length cc3, .slice sa3 x.ss.length sc3, .slice da3 x.d.length dc3, .int .i64 x.n] [.slice ta4 x.ts.length tc4, .slice ca4 x.cs.length cc4, .slice sa4 x.ss.length sc4, .slice da4 x.d.length dc4, .int .i64 x.n] x (.slice ka ks.length kc) (.slice va ks.length vc) ks ks ∧ CBox z3 b9 44 [.int .i64 1, .slice ua b.length uc, .bool op] ∧ CBox z3 b10 28 [.slice ta5 y.ts.length tc5, .slice ca5 y.cs.length cc5, .slice sa5 y.ss.length sc5, .slice da5 y.d.length dc5, .int .i64 y.n] ∧ CBox z3 b11 47 [.int .i64 x1, .slice none 0 0, .int .i64 0, .int .i64 y1] ∧ DW N z3 (.agg #[.slice ta5 y.ts.length tc5, .slice ca5 y.cs.length cc5, .slice sa5 y.ss.length sc5, .slice da5 y.d.length dc5, .int .i64 y.n]) y ∧ N ≤ b10 ∧ N ≤ b11) := ⟨A9.out.but (hs.mono fun g (e : g = b11) => by have := HX1.out; omega), H9.but hs (fun (e : b9 = b11) => box_ne H9 R9.out (by decide) e), G9.out.but hs (fun (e : b10 = b11) => box_ne G9.out R9.out (by decide) e), hc, P9.out.alien hs R9.out (by decide) (by decide) (by decide), HX0.out, HX1.out⟩
                  have HHN := MZ.out.2.1
                  clear hs hc A9 H9 P9 G9 R9 HX0 HX1
                  refine hK.out _ z3 HHN (fun _ => ?_)
                  clear hK K
                  (try simp only [Act.put])
                  refine wpAnyH_done (by kernel_rfl) ?_ _
                  clear HHN
                  go_wp2
                  go_meet
                  case rel => exact ⟨b10, b11, ta5, tc5, ca5, cc5, sa5, sc5, da5, dc5, rfl, rfl, MZ.out⟩
              · rw [if_pos (by rfl)]
                refine wp_newR rfl ?_
                intro zl hB F9
                have HX1 : Hid (N ≤ z1.heap.size) := A.out.NW
                have H9 := HH.past hB
                clear HH
                have HH := H9
                clear H9
                have q9 := A.out.past hB
                clear A
                have A : Hid _ := q9
                clear q9
                (try (have q9 := FO.out; clear FO; have FO : Hid (BL (fun _ => True) zl v9 b) := BL.past q9 hB; clear q9))
                (try (have q9 := FP.out; clear FP; have FP : Hid (DW N zl (.agg #[.slice ta5 y.ts.length tc5, .slice ca5 y.cs.length cc5, .slice sa5 y.ss.length sc5, .slice da5 y.d.length dc5, .int .i64 y.n]) y) := DW.past q9 hB; clear q9))
                (try (have q9 := F0.out; clear F0; have F0 : Hid (CBox zl b10 28 [.slice none 0 0, .slice none 0 0, .slice none 0 0, .slice none 0 0, .int .i64 0]) := CBox.past q9 hB; clear q9))
                have F1 : Hid (CBox zl z1.heap.size 47 [.int .i64 0, .slice none 0 0, .int .i64 0, .int .i64 0]) := F9
                clear F9 hB
                refine hK.out _ zl HH (fun _ => ?_)
                clear hK K
                (try simp only [Act.put, List.setIfInBounds_toArray, List.set_cons_zero, List.set_cons_succ])
                generalize z1.heap.size = b11 at F1 HX1 ⊢
                generalize zl = z1 at *
                refine wpAnyH_ready (rs := [2, 9]) (by kernel_rfl) (by simp) ?_
                refine AllReadyH.cons ov2 (fun K hK => ?_) (AllReadyH.cons ov9 (fun K hK => ?_) AllReadyH.nil)
                · rw [if_pos (by rfl)]
                  go_simp
                  refine (own_is _ _ b (HUB.out _ A.out.bel) HBL.out).mono ?_
                  rintro e z9 ⟨v9, rfl, hO, hB⟩
                  have F9 : Hid (BL (fun _ => True) z9 v9 b) := SL.own hO (by have := HBL.out; omega) fun _ _ => trivial
                  have H9 := HH.past hB
                  clear HH
                  have HH := H9
                  clear H9
                  have q9 := A.out.past hB
                  clear A
                  have A : Hid _ := q9
                  clear q9
                  (try (have q9 := F0.out; clear F0; have F0 : Hid (CBox z9 b10 28 [.slice none 0 0, .slice none 0 0, .slice none 0 0, .slice none 0 0, .int .i64 0]) := CBox.past q9 hB; clear q9))
                  (try (have q9 := F1.out; clear F1; have F1 : Hid (CBox z9 b11 47 [.int .i64 0, .slice none 0 0, .int .i64 0, .int .i64 0]) := CBox.past q9 hB; clear q9))
                  have FO := F9
                  clear F9 hO hB
                  (try go_wp2_with fail)
                  refine hK.out _ _ HH (fun _ => ?_)
                  clear hK K
                  (try simp only [Act.put, List.setIfInBounds_toArray, List.set_cons_zero, List.set_cons_succ])
                  generalize z9 = z1 at *
                  refine wpAnyH_ready (rs := [5, 9]) (by kernel_rfl) (by simp) ?_
                  refine AllReadyH.cons ov5 (fun K hK => ?_) (AllReadyH.cons ov9 (fun K hK => ?_) AllReadyH.nil)
                  · rw [if_pos (by rfl)]
                    go_simp
                    refine (PA.out _ _ _ FO.out).mono ?_
                    rintro e z9 ⟨⟨ta5, tc5, ca5, cc5, sa5, sc5, da5, dc5, rfl, hD⟩, hB⟩
                    have F9 : Hid (DW N z9 (.agg #[.slice ta5 y.ts.length tc5, .slice ca5 y.cs.length cc5, .slice sa5 y.ss.length sc5, .slice da5 y.d.length dc5, .int .i64 y.n]) y) := hD.base A.out.NW
                    clear FO
                    have H9 := HH.past hB
                    clear HH
                    have HH := H9
                    clear H9
                    have q9 := A.out.past hB
                    clear A
                    have A : Hid _ := q9
                    clear q9
                    (try (have q9 := F0.out; clear F0; have F0 : Hid (CBox z9 b10 28 [.slice none 0 0, .slice none 0 0, .slice none 0 0, .slice none 0 0, .int .i64 0]) := CBox.past q9 hB; clear q9))
                    (try (have q9 := F1.out; clear F1; have F1 : Hid (CBox z9 b11 47 [.int .i64 0, .slice none 0 0, .int .i64 0, .int .i64 0]) := CBox.past q9 hB; clear q9))
                    have FP := F9
                    clear F9 hD hB
                    (try go_wp2_with fail)
                    refine hK.out _ _ HH (fun _ => ?_)
                    clear hK K
                    (try simp only [Act.put, List.setIfInBounds_toArray, List.set_cons_zero, List.set_cons_succ])
                    generalize z9 = z1 at *
                    refine wpAnyH_take (i := 6) (v := .tuple #[.agg #[.slice ta5 y.ts.length tc5, .slice ca5 y.cs.length cc5, .slice sa5 y.ss.length sc5, .slice da5 y.d.length dc5, .int .i64 y.n], .agg #[.int .i64 x1, .slice none 0 0, .int .i64 0, .int .i64 y1]]) ov6 (by kernel_rfl) (by kernel_rfl) (by kernel_rfl) (fun _ _ _ h => h) (Or.inl ⟨by rfl, fun V' hS => ?_⟩) HH ?_
                    · go_simp
                    simp only [Act.put, List.setIfInBounds_toArray, List.set_cons_zero, List.set_cons_succ]
                    refine wpAnyH_take (i := 7) (v := .agg #[.slice ta5 y.ts.length tc5, .slice ca5 y.cs.length cc5, .slice sa5 y.ss.length sc5, .slice da5 y.d.length dc5, .int .i64 y.n]) ov7 (by kernel_rfl) (by kernel_rfl) (by kernel_rfl) (fun _ _ _ h => h) (Or.inl ⟨by rfl, fun V' hS => ?_⟩) HH ?_
                    · go_simp
                    simp only [Act.put, List.setIfInBounds_toArray, List.set_cons_zero, List.set_cons_succ]
                    refine wpAnyH_take (i := 8) (v := .agg #[.int .i64 x1, .slice none 0 0, .int .i64 0, .int .i64 y1]) ov8 (by kernel_rfl) (by kernel_rfl) (by kernel_rfl) (fun _ _ _ h => h) (Or.inl ⟨by rfl, fun V' hS => ?_⟩) HH ?_
                    · go_simp
                    simp only [Act.put, List.setIfInBounds_toArray, List.set_cons_zero, List.set_cons_succ]
                    refine wpAnyH_ready (rs := [9]) (by kernel_rfl) (by simp) ?_
                    refine AllReadyH.cons ov9 (fun K hK => ?_) AllReadyH.nil
                    rw [if_pos (by rfl)]
                    refine wp_newC rfl ?_
                    intro zl hB F9
                    have HX0 : Hid (N ≤ z1.heap.size) := A.out.NW
                    have H9 := HH.past hB
                    clear HH
                    have HH := H9
                    clear H9
                    have q9 := A.out.past hB
                    clear A
                    have A : Hid _ := q9
                    clear q9
                    (try (have q9 := FO.out; clear FO; have FO : Hid (BL (fun _ => True) zl v9 b) := BL.past q9 hB; clear q9))
                    (try (have q9 := FP.out; clear FP; have FP : Hid (DW N zl (.agg #[.slice ta5 y.ts.length tc5, .slice ca5 y.cs.length cc5, .slice sa5 y.ss.length sc5, .slice da5 y.d.length dc5, .int .i64 y.n]) y) := DW.past q9 hB; clear q9))
                    (try (have q9 := F1.out; clear F1; have F1 : Hid (CBox zl b11 47 [.int .i64 0, .slice none 0 0, .int .i64 0, .int .i64 0]) := CBox.past q9 hB; clear q9))
                    have F0 : Hid (CBox zl z1.heap.size 28 [.slice none 0 0, .slice none 0 0, .slice none 0 0, .slice none 0 0, .int .i64 0]) := F9
                    clear F9 hB
                    refine hK.out _ zl HH (fun _ => ?_)
                    clear hK K
                    (try simp only [Act.put, List.setIfInBounds_toArray, List.set_cons_zero, List.set_cons_succ])
                    generalize z1.heap.size = b10 at F0 HX0 ⊢
                    generalize zl = z1 at *
                    refine wpAnyH_ready (rs := [11]) (by kernel_rfl) (by simp) ?_
                    refine AllReadyH.cons ov11 (fun K hK => ?_) AllReadyH.nil
                    rw [if_pos (by rfl)]
                    refine wp_store5 _ _ rfl b10 (t0 := ta5) (n0 := y.ts.length) (m0 := tc5) (t1 := ca5) (n1 := y.cs.length) (m1 := cc5) (t2 := sa5) (n2 := y.ss.length) (m2 := sc5) (t3 := da5) (n3 := y.d.length) (m3 := dc5) (z := y.n) F0.out (by kernel_rfl) (by kernel_rfl) ?_
                    intro z2 hs hc
                    have A9 : Hid _ := A.out.but (hs.mono fun g (e : g = b10) => by have := HX0.out; omega)
                    have H9 := HH.but hs (fun (e : b9 = b10) => box_ne HH F0.out (by decide) e)
                    have P9 : Hid (DW N z2 (.agg #[.slice ta5 y.ts.length tc5, .slice ca5 y.cs.length cc5, .slice sa5 y.ss.length sc5, .slice da5 y.d.length dc5, .int .i64 y.n]) y) := FP.out.alien hs F0.out (by decide) (by decide) (by decide)
                    have G9 : Hid (CBox z2 b10 28 [.slice ta5 y.ts.length tc5, .slice ca5 y.cs.length cc5, .slice sa5 y.ss.length sc5, .slice da5 y.d.length dc5, .int .i64 y.n]) := hc
                    have R9 : Hid (CBox z2 b11 47 [.int .i64 0, .slice none 0 0, .int .i64 0, .int .i64 0]) := F1.out.but hs (fun (e : b11 = b10) => box_ne F1.out F0.out (by decide) e)
                    clear hs hc A HH FP F0 F1
                    refine hK.out _ z2 H9 (fun _ => ?_)
                    clear hK K
                    (try simp only [Act.put])
                    refine wpAnyH_ready (rs := [12]) (by kernel_rfl) (by simp) ?_
                    refine AllReadyH.cons ov12 (fun K hK => ?_) AllReadyH.nil
                    rw [if_pos (by rfl)]
                    refine wp_store4 _ _ rfl b11 (z0 := x1) (t1 := none) (n1 := 0) (m1 := 0) (z2 := 0) (z3 := y1) R9.out (by kernel_rfl) (by kernel_rfl) ?_
                    intro z3 hs hc
                    have MZ : Hid (AM b3 b4 N S w z3 [.slice ta3 x.ts.length tc3, .slice ca3 x.cs.length cc3, .slice sa3 x.ss.length sc3, .slice da3 x.d.length dc3, .int .i64 x.n] [.slice ta4 x.ts.length tc4, .slice ca4 x.cs.length cc4, .slice sa4 x.ss.length sc4, .slice da4 x.d.length dc4, .int .i64 x.n] x (.slice ka ks.length kc) (.slice va ks.length vc) ks ks ∧ CBox z3 b9 44 [.int .i64 1, .slice ua b.length uc, .bool op] ∧ CBox z3 b10 28 [.slice ta5 y.ts.length tc5, .slice ca5 y.cs.length cc5, .slice sa5 y.ss.length sc5, .slice da5 y.d.length dc5, .int .i64 y.n] ∧ CBox z3 b11 47 [.int .i64 x1, .slice none 0 0, .int .i64 0, .int .i64 y1] ∧ DW N z3 (.agg #[.slice ta5 y.ts.length tc5, .slice ca5 y.cs.length cc5, .slice sa5 y.ss.length sc5, .slice da5 y.d.length dc5, .int .i64 y.n]) y ∧ N ≤ b10 ∧ N ≤ b11) := ⟨A9.out.but (hs.mono fun g (e : g = b11) => by have := HX1.out; omega), H9.but hs (fun (e : b9 = b11) => box_ne H9 R9.out (by decide) e), G9.out.but hs (fun (e : b10 = b11) => box_ne G9.out R9.out (by decide) e), hc, P9.out.alien hs R9.out (by decide) (by decide) (by decide), HX0.out, HX1.out⟩
                    have HHN := MZ.out.2.1
                    clear hs hc A9 H9 P9 G9 R9 HX0 HX1
                    refine hK.out _ z3 HHN (fun _ => ?_)
                    clear hK K
                    (try simp only [Act.put])
                    refine wpAnyH_done (by kernel_rfl) ?_ _
                    clear HHN
                    go_wp2
                    go_meet
                    case rel => exact ⟨b10, b11, ta5, tc5, ca5, cc5, sa5, sc5, da5, dc5, rfl, rfl, MZ.out⟩
                  · rw [if_pos (by rfl)]
                    refine wp_newC rfl ?_
                    intro zl hB F9
                    have HX0 : Hid (N ≤ z1.heap.size) := A.out.NW
                    have H9 := HH.past hB
                    clear HH
                    have HH := H9
                    clear H9
                    have q9 := A.out.past hB
                    clear A
                    have A : Hid _ := q9
                    clear q9
                    (try (have q9 := FO.out; clear FO; have FO : Hid (BL (fun _ => True) zl v9 b) := BL.past q9 hB; clear q9))
                    (try (have q9 := FP.out; clear FP; have FP : Hid (DW N zl (.agg #[.slice ta5 y.ts.length tc5, .slice ca5 y.cs.length cc5, .slice sa5 y.ss.length sc5, .slice da5 y.d.length dc5, .int .i64 y.n]) y) := DW.past q9 hB; clear q9))
                    (try (have q9 := F1.out; clear F1; have F1 : Hid (CBox zl b11 47 [.int .i64 0, .slice none 0 0, .int .i64 0, .int .i64 0]) := CBox.past q9 hB; clear q9))
                    have F0 : Hid (CBox zl z1.heap.size 28 [.slice none 0 0, .slice none 0 0, .slice none 0 0, .slice none 0 0, .int .i64 0]) := F9
                    clear F9 hB
                    refine hK.out _ zl HH (fun _ => ?_)
                    clear hK K
                    (try simp only [Act.put, List.setIfInBounds_toArray, List.set_cons_zero, List.set_cons_succ])
                    generalize z1.heap.size = b10 at F0 HX0 ⊢
                    generalize zl = z1 at *
                    refine wpAnyH_ready (rs := [5]) (by kernel_rfl) (by simp) ?_
                    refine AllReadyH.cons ov5 (fun K hK => ?_) AllReadyH.nil
                    rw [if_pos (by rfl)]
                    go_simp
                    refine (PA.out _ _ _ FO.out).mono ?_
                    rintro e z9 ⟨⟨ta5, tc5, ca5, cc5, sa5, sc5, da5, dc5, rfl, hD⟩, hB⟩
                    have F9 : Hid (DW N z9 (.agg #[.slice ta5 y.ts.length tc5, .slice ca5 y.cs.length cc5, .slice sa5 y.ss.length sc5, .slice da5 y.d.length dc5, .int .i64 y.n]) y) := hD.base A.out.NW
                    clear FO
                    have H9 := HH.past hB
                    clear HH
                    have HH := H9
                    clear H9
                    have q9 := A.out.past hB
                    clear A
                    have A : Hid _ := q9
                    clear q9
                    (try (have q9 := F0.out; clear F0; have F0 : Hid (CBox z9 b10 28 [.slice none 0 0, .slice none 0 0, .slice none 0 0, .slice none 0 0, .int .i64 0]) := CBox.past q9 hB; clear q9))
                    (try (have q9 := F1.out; clear F1; have F1 : Hid (CBox z9 b11 47 [.int .i64 0, .slice none 0 0, .int .i64 0, .int .i64 0]) := CBox.past q9 hB; clear q9))
                    have FP := F9
                    clear F9 hD hB
                    (try go_wp2_with fail)
                    refine hK.out _ _ HH (fun _ => ?_)
                    clear hK K
                    (try simp only [Act.put, List.setIfInBounds_toArray, List.set_cons_zero, List.set_cons_succ])
                    generalize z9 = z1 at *
                    refine wpAnyH_take (i := 6) (v := .tuple #[.agg #[.slice ta5 y.ts.length tc5, .slice ca5 y.cs.length cc5, .slice sa5 y.ss.length sc5, .slice da5 y.d.length dc5, .int .i64 y.n], .agg #[.int .i64 x1, .slice none 0 0, .int .i64 0, .int .i64 y1]]) ov6 (by kernel_rfl) (by kernel_rfl) (by kernel_rfl) (fun _ _ _ h => h) (Or.inl ⟨by rfl, fun V' hS => ?_⟩) HH ?_
                    · go_simp
                    simp only [Act.put, List.setIfInBounds_toArray, List.set_cons_zero, List.set_cons_succ]
                    refine wpAnyH_take (i := 7) (v := .agg #[.slice ta5 y.ts.length tc5, .slice ca5 y.cs.length cc5, .slice sa5 y.ss.length sc5, .slice da5 y.d.length dc5, .int .i64 y.n]) ov7 (by kernel_rfl) (by kernel_rfl) (by kernel_rfl) (fun _ _ _ h => h) (Or.inl ⟨by rfl, fun V' hS => ?_⟩) HH ?_
                    · go_simp
                    simp only [Act.put, List.setIfInBounds_toArray, List.set_cons_zero, List.set_cons_succ]
                    refine wpAnyH_take (i := 8) (v := .agg #[.int .i64 x1, .slice none 0 0, .int .i64 0, .int .i64 y1]) ov8 (by kernel_rfl) (by kernel_rfl) (by kernel_rfl) (fun _ _ _ h => h) (Or.inl ⟨by rfl, fun V' hS => ?_⟩) HH ?_
                    · go_simp
                    simp only [Act.put, List.setIfInBounds_toArray, List.set_cons_zero, List.set_cons_succ]
                    refine wpAnyH_ready (rs := [11]) (by kernel_rfl) (by simp) ?_
                    refine AllReadyH.cons ov11 (fun K hK => ?_) AllReadyH.nil
                    rw [if_pos (by rfl)]
                    refine wp_store5 _ _ rfl b10 (t0 := ta5) (n0 := y.ts.length) (m0 := tc5) (t1 := ca5) (n1 := y.cs.length) (m1 := cc5) (t2 := sa5) (n2 := y.ss.length) (m2 := sc5) (t3 := da5) (n3 := y.d.length) (m3 := dc5) (z := y.n) F0.out (by kernel_rfl) (by kernel_rfl) ?_
                    intro z2 hs hc
                    have A9 : Hid _ := A.out.but (hs.mono fun g (e : g = b10) => by have := HX0.out; omega)
                    have H9 := HH.but hs (fun (e : b9 = b10) => box_ne HH F0.out (by decide) e)
                    have P9 : Hid (DW N z2 (.agg #[.slice ta5 y.ts.length tc5, .slice ca5 y.cs.length cc5, .slice sa5 y.ss.length sc5, .slice da5 y.d.length dc5, .int .i64 y.n]) y) := FP.out.alien hs F0.out (by decide) (by decide) (by decide)
                    have G9 : Hid (CBox z2 b10 28 [.slice ta5 y.ts.length tc5, .slice ca5 y.cs.length cc5, .slice sa5 y.ss.length sc5, .slice da5 y.d.length dc5, .int .i64 y.n]) := hc
                    have R9 : Hid (CBox z2 b11 47 [.int .i64 0, .slice none 0 0, .int .i64 0, .int .i64 0]) := F1.out.but hs (fun (e : b11 = b10) => box_ne F1.out F0.out (by decide) e)
                    clear hs hc A HH FP F0 F1
                    refine hK.out _ z2 H9 (fun _ => ?_)
                    clear hK K
                    (try simp only [Act.put])
                    refine wpAnyH_ready (rs := [12]) (by kernel_rfl) (by simp) ?_
                    refine AllReadyH.cons ov12 (fun K hK => ?_) AllReadyH.nil
                    rw [if_pos (by rfl)]
                    refine wp_store4 _ _ rfl b11 (z0 := x1) (t1 := none) (n1 := 0) (m1 := 0) (z2 := 0) (z3 := y1) R9.out (by kernel_rfl) (by kernel_rfl) ?_
                    intro z3 hs hc
                    have MZ : Hid (AM b3 b4 N S w z3 [.slice ta3 x.ts.length tc3, .slice ca3 x.cs.length cc3, .slice sa3 x.ss.length sc3, .slice da3 x.d.length dc3, .int .i64 x.n] [.slice ta4 x.ts.length tc4, .slice ca4 x.cs.length cc4, .slice sa4 x.ss.length sc4, .slice da4 x.d.length dc4, .int .i64 x.n] x (.slice ka ks.length kc) (.slice va ks.length vc) ks ks ∧ CBox z3 b9 44 [.int .i64 1, .slice ua b.length uc, .bool op] ∧ CBox z3 b10 28 [.slice ta5 y.ts.length tc5, .slice ca5 y.cs.length cc5, .slice sa5 y.ss.length sc5, .slice da5 y.d.length dc5, .int .i64 y.n] ∧ CBox z3 b11 47 [.int .i64 x1, .slice none 0 0, .int .i64 0, .int .i64 y1] ∧ DW N z3 (.agg #[.slice ta5 y.ts.length tc5, .slice ca5 y.cs.length cc5, .slice sa5 y.ss.length sc5, .slice da5 y.d.length dc5, .int .i64 y.n]) y ∧ N ≤ b10 ∧ N ≤ b11) := ⟨A9.out.but (hs.mono fun g (e : g = b11) => by have := HX1.out; omega), H9.but hs (fun (e : b9 = b11) => box_ne H9 R9.out (by decide) e), G9.out.but hs (fun (e : b10 = b11) => box_ne G9.out R9.out (by decide) e), hc, P9.out.alien hs R9.out (by decide) (by decide) (by decide), HX0.out, HX1.out⟩
                    have HHN := MZ.out.2.1
                    clear hs hc A9 H9 P9 G9 R9 HX0 HX1
                    refine hK.out _ z3 HHN (fun _ => ?_)
                    clear hK K
                    (try simp only [Act.put])
                    refine wpAnyH_done (by kernel_rfl) ?_ _
                    clear HHN
                    go_wp2
                    go_meet
                    case rel => exact ⟨b10, b11, ta5, tc5, ca5, cc5, sa5, sc5, da5, dc5, rfl, rfl, MZ.out⟩
                · rw [if_pos (by rfl)]
                  refine wp_newC rfl ?_
                  intro zl hB F9
                  have HX0 : Hid (N ≤ z1.heap.size) := A.out.NW
                  have H9 := HH.past hB
                  clear HH
                  have HH := H9
                  clear H9
                  have q9 := A.out.past hB
                  clear A
                  have A : Hid _ := q9
                  clear q9
                  (try (have q9 := FO.out; clear FO; have FO : Hid (BL (fun _ => True) zl v9 b) := BL.past q9 hB; clear q9))
                  (try (have q9 := FP.out; clear FP; have FP : Hid (DW N zl (.agg #[.slice ta5 y.ts.length tc5, .slice ca5 y.cs.length cc5, .slice sa5 y.ss.length sc5, .slice da5 y.d.length dc5, .int .i64 y.n]) y) := DW.past q9 hB; clear q9))
                  (try (have q9 := F1.out; clear F1; have F1 : Hid (CBox zl b11 47 [.int .i64 0, .slice none 0 0, .int .i64 0, .int .i64 0]) := CBox.past q9 hB; clear q9))
                  have F0 : Hid (CBox zl z1.heap.size 28 [.slice none 0 0, .slice none 0 0, .slice none 0 0, .slice none 0 0, .int .i64 0]) := F9
                  clear F9 hB
                  refine hK.out _ zl HH (fun _ => ?_)
                  clear hK K
                  (try simp only [Act.put, List.setIfInBounds_toArray, List.set_cons_zero, List.set_cons_succ])
                  generalize z1.heap.size = b10 at F0 HX0 ⊢
                  generalize zl = z1 at *
                  refine wpAnyH_ready (rs := [2]) (by kernel_rfl) (by simp) ?_
                  refine AllReadyH.cons ov2 (fun K hK => ?_) AllReadyH.nil
                  rw [if_pos (by rfl)]
                  go_simp
                  refine (own_is _ _ b (HUB.out _ A.out.bel) HBL.out).mono ?_
                  rintro e z9 ⟨v9, rfl, hO, hB⟩
                  have F9 : Hid (BL (fun _ => True) z9 v9 b) := SL.own hO (by have := HBL.out; omega) fun _ _ => trivial
                  have H9 := HH.past hB
                  clear HH
                  have HH := H9
                  clear H9
                  have q9 := A.out.past hB
                  clear A
                  have A : Hid _ := q9
                  clear q9
                  (try (have q9 := F0.out; clear F0; have F0 : Hid (CBox z9 b10 28 [.slice none 0 0, .slice none 0 0, .slice none 0 0, .slice none 0 0, .int .i64 0]) := CBox.past q9 hB; clear q9))
                  (try (have q9 := F1.out; clear F1; have F1 : Hid (CBox z9 b11 47 [.int .i64 0, .slice none 0 0, .int .i64 0, .int .i64 0]) := CBox.past q9 hB; clear q9))
                  have FO := F9
                  clear F9 hO hB
                  (try go_wp2_with fail)
                  refine hK.out _ _ HH (fun _ => ?_)
                  clear hK K
                  (try simp only [Act.put, List.setIfInBounds_toArray, List.set_cons_zero, List.set_cons_succ])
                  generalize z9 = z1 at *
                  refine wpAnyH_ready (rs := [5]) (by kernel_rfl) (by simp) ?_
                  refine AllReadyH.cons ov5 (fun K hK => ?_) AllReadyH.nil
                  rw [if_pos (by rfl)]
                  go_simp
                  refine (PA.out _ _ _ FO.out).mono ?_
                  rintro e z9 ⟨⟨ta5, tc5, ca5, cc5, sa5, sc5, da5, dc5, rfl, hD⟩, hB⟩
                  have F9 : Hid (DW N z9 (.agg #[.slice ta5 y.ts.length tc5, .slice ca5 y.cs.length cc5, .slice sa5 y.ss.length sc5, .slice da5 y.d.length dc5, .int .i64 y.n]) y) := hD.base A.out.NW
                  clear FO
                  have H9 := HH.past hB
                  clear HH
                  have HH := H9
                  clear H9
                  have q9 := A.out.past hB
                  clear A
                  have A : Hid _ := q9
                  clear q9
                  (try (have q9 := F0.out; clear F0; have F0 : Hid (CBox z9 b10 28 [.slice none 0 0, .slice none 0 0, .slice none 0 0, .slice none 0 0, .int .i64 0]) := CBox.past q9 hB; clear q9))
                  (try (have q9 := F1.out; clear F1; have F1 : Hid (CBox z9 b11 47 [.int .i64 0, .slice none 0 0, .int .i64 0, .int .i64 0]) := CBox.past q9 hB; clear q9))
                  have FP := F9
                  clear F9 hD hB
                  (try go_wp2_with fail)
                  refine hK.out _ _ HH (fun _ => ?_)
                  clear hK K
                  (try simp only [Act.put, List.setIfInBounds_toArray, List.set_cons_zero, List.set_cons_succ])
                  generalize z9 = z1 at *
                  refine wpAnyH_take (i := 6) (v := .tuple #[.agg #[.slice ta5 y.ts.length tc5, .slice ca5 y.cs.length cc5, .slice sa5 y.ss.length sc5, .slice da5 y.d.length dc5, .int .i64 y.n], .agg #[.int .i64 x1, .slice none 0 0, .int .i64 0, .int .i64 y1]]) ov6 (by kernel_rfl) (by kernel_rfl) (by kernel_rfl) (fun _ _ _ h => h) (Or.inl ⟨by rfl, fun V' hS => ?_⟩) HH ?_
                  · go_simp
                  simp only [Act.put, List.setIfInBounds_toArray, List.set_cons_zero, List.set_cons_succ]
                  refine wpAnyH_take (i := 7) (v := .agg #[.slice ta5 y.ts.length tc5, .slice ca5 y.cs.length cc5, .slice sa5 y.ss.length sc5, .slice da5 y.d.length dc5, .int .i64 y.n]) ov7 (by kernel_rfl) (by kernel_rfl) (by kernel_rfl) (fun _ _ _ h => h) (Or.inl ⟨by rfl, fun V' hS => ?_⟩) HH ?_
                  · go_simp
                  simp only [Act.put, List.setIfInBounds_toArray, List.set_cons_zero, List.set_cons_succ]
                  refine wpAnyH_take (i := 8) (v := .agg #[.int .i64 x1, .slice none 0 0, .int .i64 0, .int .i64 y1]) ov8 (by kernel_rfl) (by kernel_rfl) (by kernel_rfl) (fun _ _ _ h => h) (Or.inl ⟨by rfl, fun V' hS => ?_⟩) HH ?_
                  · go_simp
                  simp only [Act.put, List.setIfInBounds_toArray, List.set_cons_zero, List.set_cons_succ]
                  refine wpAnyH_ready (rs := [11]) (by kernel_rfl) (by simp) ?_
                  refine AllReadyH.cons ov11 (fun K hK => ?_) AllReadyH.nil
                  rw [if_pos (by rfl)]
                  refine wp_store5 _ _ rfl b10 (t0 := ta5) (n0 := y.ts.length) (m0 := tc5) (t1 := ca5) (n1 := y.cs.length) (m1 := cc5) (t2 := sa5) (n2 := y.ss.length) (m2 := sc5) (t3 := da5) (n3 := y.d.length) (m3 := dc5) (z := y.n) F0.out (by kernel_rfl) (by kernel_rfl) ?_
                  intro z2 hs hc
                  have A9 : Hid _ := A.out.but (hs.mono fun g (e : g = b10) => by have := HX0.out; omega)
                  have H9 := HH.but hs (fun (e : b9 = b10) => box_ne HH F0.out (by decide) e)
                  have P9 : Hid (DW N z2 (.agg #[.slice ta5 y.ts.length tc5, .slice ca5 y.cs.length cc5, .slice sa5 y.ss.length sc5, .slice da5 y.d.length dc5, .int .i64 y.n]) y) := FP.out.alien hs F0.out (by decide) (by decide) (by decide)
                  have G9 : Hid (CBox z2 b10 28 [.slice ta5 y.ts.length tc5, .slice ca5 y.cs.length cc5, .slice sa5 y.ss.length sc5, .slice da5 y.d.length dc5, .int .i64 y.n]) := hc
                  have R9 : Hid (CBox z2 b11 47 [.int .i64 0, .slice none 0 0, .int .i64 0, .int .i64 0]) := F1.out.but hs (fun (e : b11 = b10) => box_ne F1.out F0.out (by decide) e)
                  clear hs hc A HH FP F0 F1
                  refine hK.out _ z2 H9 (fun _ => ?_)
                  clear hK K
                  (try simp only [Act.put])
                  refine wpAnyH_ready (rs := [12]) (by kernel_rfl) (by simp) ?_
                  refine AllReadyH.cons ov12 (fun K hK => ?_) AllReadyH.nil
                  rw [if_pos (by rfl)]
                  refine wp_store4 _ _ rfl b11 (z0 := x1) (t1 := none) (n1 := 0) (m1 := 0) (z2 := 0) (z3 := y1) R9.out (by kernel_rfl) (by kernel_rfl) ?_
                  intro z3 hs hc
                  have MZ : Hid (AM b3 b4 N S w z3 [.slice ta3 x.ts.length tc3, .slice ca3 x.cs.length cc3, .slice sa3 x.ss.length sc3, .slice da3 x.d.length dc3, .int .i64 x.n] [.slice ta4 x.ts.length tc4, .slice ca4 x.cs.length cc4, .slice sa4 x.ss.length sc4, .slice da4 x.d.length dc4, .int .i64 x.n] x (.slice ka ks.length kc) (.slice va ks.length vc) ks ks ∧ CBox z3 b9 44 [.int .i64 1, .slice ua b.length uc, .bool op] ∧ CBox z3 b10 28 [.slice ta5 y.ts.length tc5, .slice ca5 y.cs.length cc5, .slice sa5 y.ss.length sc5, .slice da5 y.d.length dc5, .int .i64 y.n] ∧ CBox z3 b11 47 [.int .i64 x1, .slice none 0 0, .int .i64 0, .int .i64 y1] ∧ DW N z3 (.agg #[.slice ta5 y.ts.length tc5, .slice ca5 y.cs.length cc5, .slice sa5 y.ss.length sc5, .slice da5 y.d.length dc5, .int .i64 y.n]) y ∧ N ≤ b10 ∧ N ≤ b11) := ⟨A9.out.but (hs.mono fun g (e : g = b11) => by have := HX1.out; omega), H9.but hs (fun (e : b9 = b11) => box_ne H9 R9.out (by decide) e), G9.out.but hs (fun (e : b10 = b11) => box_ne G9.out R9.out (by decide) e), hc, P9.out.alien hs R9.out (by decide) (by decide) (by decide), HX0.out, HX1.out⟩
                  have HHN := MZ.out.2.1
                  clear hs hc A9 H9 P9 G9 R9 HX0 HX1
                  refine hK.out _ z3 HHN (fun _ => ?_)
                  clear hK K
                  (try simp only [Act.put])
                  refine wpAnyH_done (by kernel_rfl) ?_ _
                  clear HHN
                  go_wp2
                  go_meet
                  case rel => exact ⟨b10, b11, ta5, tc5, ca5, cc5, sa5, sc5, da5, dc5, rfl, rfl, MZ.out⟩
            case rest =>
              obtain ⟨b10, b11, ta5, tc5, ca5, cc5, sa5, sc5, da5, dc5, rfl, rfl, hZ⟩ := hcut
              have MC : Hid (AM b3 b4 N S w wc [.slice ta3 x.ts.length tc3, .slice ca3 x.cs.length cc3, .slice sa3 x.ss.length sc3, .slice da3 x.d.length dc3, .int .i64 x.n] [.slice ta4 x.ts.length tc4, .slice ca4 x.cs.length cc4, .slice sa4 x.ss.length sc4, .slice da4 x.d.length dc4, .int .i64 x.n] x (.slice ka ks.length kc) (.slice va ks.length vc) ks ks ∧ CBox wc b9 44 [.int .i64 1, .slice ua b.length uc, .bool op] ∧ CBox wc b10 28 [.slice ta5 y.ts.length tc5, .slice ca5 y.cs.length cc5, .slice sa5 y.ss.length sc5, .slice da5 y.d.length dc5, .int .i64 y.n] ∧ CBox wc b11 47 [.int .i64 x1, .slice none 0 0, .int .i64 0, .int .i64 y1] ∧ DW N wc (.agg #[.slice ta5 y.ts.length tc5, .slice ca5 y.cs.length cc5, .slice sa5 y.ss.length sc5, .slice da5 y.d.length dc5, .int .i64 y.n]) y ∧ N ≤ b10 ∧ N ≤ b11) := hZ
              clear hZ M9 PA
              have a1 : wc.cell? ⟨b9, 1, none⟩ = some (.slice ua b.length uc) := MC.out.2.1.cell 1
              have a2 : wc.cell? ⟨b9, 2, none⟩ = some (.bool op) := MC.out.2.1.cell 2
              go_upto_region 17 with (go_at_call 33; refine (PD.out _ _ _ (HUB.out _ MC.out.1.bel)).mono ?_; rintro e w16 ⟨⟨ta6, tc6, ca6, cc6, sa6, sc6, da6, dc6, rfl, hC⟩, hB⟩; (have M16 : Hid ((AM b3 b4 N S w w16 [.slice ta3 x.ts.length tc3, .slice ca3 x.cs.length cc3, .slice sa3 x.ss.length sc3, .slice da3 x.d.length dc3, .int .i64 x.n] [.slice ta4 x.ts.length tc4, .slice ca4 x.cs.length cc4, .slice sa4 x.ss.length sc4, .slice da4 x.d.length dc4, .int .i64 x.n] x (.slice ka ks.length kc) (.slice va ks.length vc) ks ks ∧ CBox w16 b9 44 [.int .i64 1, .slice ua b.length uc, .bool op] ∧ CBox w16 b10 28 [.slice ta5 y.ts.length tc5, .slice ca5 y.cs.length cc5, .slice sa5 y.ss.length sc5, .slice da5 y.d.length dc5, .int .i64 y.n] ∧ CW (fun g => N ≤ g) w16 (.agg #[.slice ta5 y.ts.length tc5, .slice ca5 y.cs.length cc5, .slice sa5 y.ss.length sc5, .slice da5 y.d.length dc5, .int .i64 y.n]) y ∧ CW (fun g => N ≤ g) w16 (.agg #[.slice ta6 y.ts.length tc6, .slice ca6 y.cs.length cc6, .slice sa6 y.ss.length sc6, .slice da6 y.d.length dc6, .int .i64 y.n]) y) ∧ CBox w16 b11 47 [.int .i64 x1, .slice none 0 0, .int .i64 0, .int .i64 y1] ∧ N ≤ b10 ∧ N ≤ w16.heap.size) := ⟨⟨MC.out.1.past hB, MC.out.2.1.past hB, MC.out.2.2.1.past hB, (MC.out.2.2.2.2.1.cw HSY.out).past hB, hC.mono fun g hg _ => Nat.le_trans MC.out.1.NW hg⟩, MC.out.2.2.2.1.past hB, MC.out.2.2.2.2.2.1, Nat.le_trans MC.out.1.NW hB.size⟩); (clear hC hB))
              clear a1 a2 MC PD
              have T2 := all_boxes w16 [.slice ta6 y.ts.length tc6, .slice ca6 y.cs.length cc6, .slice sa6 y.ss.length sc6, .slice da6 y.d.length dc6, .int .i64 y.n] [.int .i64 x1, .slice none 0 0, .int .i64 0, .int .i64 y1]
              have M17 : Hid ((AM b3 b4 N S w ((w16.alloc (.cells #[.slice ta6 y.ts.length tc6, .slice ca6 y.cs.length cc6, .slice sa6 y.ss.length sc6, .slice da6 y.d.length dc6, .int .i64 y.n] 28)).alloc (.cells #[.int .i64 x1, .slice none 0 0, .int .i64 0, .int .i64 y1] 47)) [.slice ta3 x.ts.length tc3, .slice ca3 x.cs.length cc3, .slice sa3 x.ss.length sc3, .slice da3 x.d.length dc3, .int .i64 x.n] [.slice ta4 x.ts.length tc4, .slice ca4 x.cs.length cc4, .slice sa4 x.ss.length sc4, .slice da4 x.d.length dc4, .int .i64 x.n] x (.slice ka ks.length kc) (.slice va ks.length vc) ks ks ∧ CBox ((w16.alloc (.cells #[.slice ta6 y.ts.length tc6, .slice ca6 y.cs.length cc6, .slice sa6 y.ss.length sc6, .slice da6 y.d.length dc6, .int .i64 y.n] 28)).alloc (.cells #[.int .i64 x1, .slice none 0 0, .int .i64 0, .int .i64 y1] 47)) b9 44 [.int .i64 1, .slice ua b.length uc, .bool op] ∧ CBox ((w16.alloc (.cells #[.slice ta6 y.ts.length tc6, .slice ca6 y.cs.length cc6, .slice sa6 y.ss.length sc6, .slice da6 y.d.length dc6, .int .i64 y.n] 28)).alloc (.cells #[.int .i64 x1, .slice none 0 0, .int .i64 0, .int .i64 y1] 47)) b10 28 [.slice ta5 y.ts.length tc5, .slice ca5 y.cs.length cc5, .slice sa5 y.ss.length sc5, .slice da5 y.d.length dc5, .int .i64 y.n] ∧ CBox ((w16.alloc (.cells #[.slice ta6 y.ts.length tc6, .slice ca6 y.cs.length cc6, .slice sa6 y.ss.length sc6, .slice da6 y.d.length dc6, .int .i64 y.n] 28)).alloc (.cells #[.int .i64 x1, .slice none 0 0, .int .i64 0, .int .i64 y1] 47)) w16.heap.size 28 [.slice ta6 y.ts.length tc6, .slice ca6 y.cs.length cc6, .slice sa6 y.ss.length sc6, .slice da6 y.d.length dc6, .int .i64 y.n] ∧ CW (fun g => N ≤ g) ((w16.alloc (.cells #[.slice ta6 y.ts.length tc6, .slice ca6 y.cs.length cc6, .slice sa6 y.ss.length sc6, .slice da6 y.d.length dc6, .int .i64 y.n] 28)).alloc (.cells #[.int .i64 x1, .slice none 0 0, .int .i64 0, .int .i64 y1] 47)) (.agg #[.slice ta5 y.ts.length tc5, .slice ca5 y.cs.length cc5, .slice sa5 y.ss.length sc5, .slice da5 y.d.length dc5, .int .i64 y.n]) y ∧ CW (fun g => N ≤ g) ((w16.alloc (.cells #[.slice ta6 y.ts.length tc6, .slice ca6 y.cs.length cc6, .slice sa6 y.ss.length sc6, .slice da6 y.d.length dc6, .int .i64 y.n] 28)).alloc (.cells #[.int .i64 x1, .slice none 0 0, .int .i64 0, .int .i64 y1] 47)) (.agg #[.slice ta6 y.ts.length tc6, .slice ca6 y.cs.length cc6, .slice sa6 y.ss.length sc6, .slice da6 y.d.length dc6, .int .i64 y.n]) y) ∧ CBox ((w16.alloc (.cells #[.slice ta6 y.ts.length tc6, .slice ca6 y.cs.length cc6, .slice sa6 y.ss.length sc6, .slice da6 y.d.length dc6, .int .i64 y.n] 28)).alloc (.cells #[.int .i64 x1, .slice none 0 0, .int .i64 0, .int .i64 y1] 47)) b11 47 [.int .i64 x1, .slice none 0 0, .int .i64 0, .int .i64 y1] ∧ CBox ((w16.alloc (.cells #[.slice ta6 y.ts.length tc6, .slice ca6 y.cs.length cc6, .slice sa6 y.ss.length sc6, .slice da6 y.d.length dc6, .int .i64 y.n] 28)).alloc (.cells #[.int .i64 x1, .slice none 0 0, .int .i64 0, .int .i64 y1] 47)) (w16.heap.size + 1) 47 [.int .i64 x1, .slice none 0 0, .int .i64 0, .int .i64 y1]) := ⟨⟨M16.out.1.1.past T2.2.2, M16.out.1.2.1.past T2.2.2, M16.out.1.2.2.1.past T2.2.2, T2.1, M16.out.1.2.2.2.1.past T2.2.2, M16.out.1.2.2.2.2.past T2.2.2⟩, M16.out.2.1.past T2.2.2, T2.2.1⟩
              have HNB : Hid (N ≤ b10 ∧ N ≤ w16.heap.size) := ⟨M16.out.2.2.1, M16.out.2.2.2⟩
              clear T2 M16
              generalize w16.heap.size + 1 = b13 at M17 ⊢
              generalize w16.heap.size = b12 at M17 HNB ⊢
              generalize (w16.alloc _).alloc _ = W17 at M17 ⊢
              refine wp_region_lit ?_
              refine lst_val (v := .agg #[.slice ta5 y.ts.length tc5, .slice ca5 y.cs.length cc5, .slice sa5 y.ss.length sc5, .slice da5 y.d.length dc5, .int .i64 y.n]) (by kernel_rfl) ?_ ?_
              · have a0 := M17.out.1.2.2.1.cell 0; have a1 := M17.out.1.2.2.1.cell 1; have a2 := M17.out.1.2.2.1.cell 2; have a3 := M17.out.1.2.2.1.cell 3; have a4 := M17.out.1.2.2.1.cell 4
                go_simp
              simp only [Act.put, List.setIfInBounds_toArray, List.set_cons_zero, List.set_cons_succ]
              refine lst_val (v := .agg #[.slice ta6 y.ts.length tc6, .slice ca6 y.cs.length cc6, .slice sa6 y.ss.length sc6, .slice da6 y.d.length dc6, .int .i64 y.n]) (by kernel_rfl) ?_ ?_
              · have a0 := M17.out.1.2.2.2.1.cell 0; have a1 := M17.out.1.2.2.2.1.cell 1; have a2 := M17.out.1.2.2.2.1.cell 2; have a3 := M17.out.1.2.2.2.1.cell 3; have a4 := M17.out.1.2.2.2.1.cell 4
                go_simp
              simp only [Act.put, List.setIfInBounds_toArray, List.set_cons_zero, List.set_cons_succ]
              refine lst_call (by kernel_rfl) (by first | (go_simp; done) | (go_simp; first | exact rfl | exact ⟨rfl, rfl⟩ | exact ⟨rfl, rfl, rfl⟩)) (same_is _ _ _ y M17.out.1.2.2.2.2.1 M17.out.1.2.2.2.2.2) ?_
              rintro e w18 ⟨rfl, hB⟩
              refine ⟨_, rfl, ?_⟩
              have M18 : Hid ((AM b3 b4 N S w w18 [.slice ta3 x.ts.length tc3, .slice ca3 x.cs.length cc3, .slice sa3 x.ss.length sc3, .slice da3 x.d.length dc3, .int .i64 x.n] [.slice ta4 x.ts.length tc4, .slice ca4 x.cs.length cc4, .slice sa4 x.ss.length sc4, .slice da4 x.d.length dc4, .int .i64 x.n] x (.slice ka ks.length kc) (.slice va ks.length vc) ks ks ∧ CBox w18 b9 44 [.int .i64 1, .slice ua b.length uc, .bool op] ∧ CBox w18 b10 28 [.slice ta5 y.ts.length tc5, .slice ca5 y.cs.length cc5, .slice sa5 y.ss.length sc5, .slice da5 y.d.length dc5, .int .i64 y.n] ∧ CBox w18 b12 28 [.slice ta6 y.ts.length tc6, .slice ca6 y.cs.length cc6, .slice sa6 y.ss.length sc6, .slice da6 y.d.length dc6, .int .i64 y.n] ∧ CW (fun g => N ≤ g) w18 (.agg #[.slice ta5 y.ts.length tc5, .slice ca5 y.cs.length cc5, .slice sa5 y.ss.length sc5, .slice da5 y.d.length dc5, .int .i64 y.n]) y ∧ CW (fun g => N ≤ g) w18 (.agg #[.slice ta6 y.ts.length tc6, .slice ca6 y.cs.length cc6, .slice sa6 y.ss.length sc6, .slice da6 y.d.length dc6, .int .i64 y.n]) y) ∧ CBox w18 b11 47 [.int .i64 x1, .slice none 0 0, .int .i64 0, .int .i64 y1] ∧ CBox w18 b13 47 [.int .i64 x1, .slice none 0 0, .int .i64 0, .int .i64 y1]) := ⟨⟨M17.out.1.1.past hB, M17.out.1.2.1.past hB, M17.out.1.2.2.1.past hB, M17.out.1.2.2.2.1.past hB, M17.out.1.2.2.2.2.1.past hB, M17.out.1.2.2.2.2.2.past hB⟩, M17.out.2.1.past hB, M17.out.2.2.past hB⟩
              clear hB
              simp only [Act.put, List.setIfInBounds_toArray, List.set_cons_zero, List.set_cons_succ]
              refine lst_val (v := .bool false) (by kernel_rfl) ?_ ?_
              · go_simp
              simp only [Act.put, List.setIfInBounds_toArray, List.set_cons_zero, List.set_cons_succ]
              refine lst_val (v := .bool false) (by kernel_rfl) ?_ ?_
              · go_simp
              simp only [Act.put, List.setIfInBounds_toArray, List.set_cons_zero, List.set_cons_succ]
              refine lst_val (v := .agg #[.int .i64 x1, .slice none 0 0, .int .i64 0, .int .i64 y1]) (by kernel_rfl) ?_ ?_
              · have a0 := M18.out.2.1.cell 0; have a1 := M18.out.2.1.cell 1; have a2 := M18.out.2.1.cell 2; have a3 := M18.out.2.1.cell 3
                go_simp
              simp only [Act.put, List.setIfInBounds_toArray, List.set_cons_zero, List.set_cons_succ]
              refine lst_val (v := .agg #[.int .i64 x1, .slice none 0 0, .int .i64 0, .int .i64 y1]) (by kernel_rfl) ?_ ?_
              · have a0 := M18.out.2.2.cell 0; have a1 := M18.out.2.2.cell 1; have a2 := M18.out.2.2.cell 2; have a3 := M18.out.2.2.cell 3
                go_simp
              simp only [Act.put, List.setIfInBounds_toArray, List.set_cons_zero, List.set_cons_succ]
              refine lst_call (by kernel_rfl) (by first | (go_simp; done) | (go_simp; first | exact rfl | exact ⟨rfl, rfl⟩ | exact ⟨rfl, rfl, rfl⟩)) (rejects_is _ x1 y1) ?_
              rintro e w19 ⟨rfl, hB⟩
              refine ⟨_, rfl, ?_⟩
              have M19 : Hid ((AM b3 b4 N S w w19 [.slice ta3 x.ts.length tc3, .slice ca3 x.cs.length cc3, .slice sa3 x.ss.length sc3, .slice da3 x.d.length dc3, .int .i64 x.n] [.slice ta4 x.ts.length tc4, .slice ca4 x.cs.length cc4, .slice sa4 x.ss.length sc4, .slice da4 x.d.length dc4, .int .i64 x.n] x (.slice ka ks.length kc) (.slice va ks.length vc) ks ks ∧ CBox w19 b9 44 [.int .i64 1, .slice ua b.length uc, .bool op] ∧ CBox w19 b10 28 [.slice ta5 y.ts.length tc5, .slice ca5 y.cs.length cc5, .slice sa5 y.ss.length sc5, .slice da5 y.d.length dc5, .int .i64 y.n] ∧ CBox w19 b12 28 [.slice ta6 y.ts.length tc6, .slice ca6 y.cs.length cc6, .slice sa6 y.ss.length sc6, .slice da6 y.d.length dc6, .int .i64 y.n] ∧ CW (fun g => N ≤ g) w19 (.agg #[.slice ta5 y.ts.length tc5, .slice ca5 y.cs.length cc5, .slice sa5 y.ss.length sc5, .slice da5 y.d.length dc5, .int .i64 y.n]) y ∧ CW (fun g => N ≤ g) w19 (.agg #[.slice ta6 y.ts.length tc6, .slice ca6 y.cs.length cc6, .slice sa6 y.ss.length sc6, .slice da6 y.d.length dc6, .int .i64 y.n]) y) ∧ CBox w19 b13 47 [.int .i64 x1, .slice none 0 0, .int .i64 0, .int .i64 y1]) := ⟨⟨M18.out.1.1.past hB, M18.out.1.2.1.past hB, M18.out.1.2.2.1.past hB, M18.out.1.2.2.2.1.past hB, M18.out.1.2.2.2.2.1.past hB, M18.out.1.2.2.2.2.2.past hB⟩, M18.out.2.2.past hB⟩
              clear hB M17 M18
              simp only [Act.put, List.setIfInBounds_toArray, List.set_cons_zero, List.set_cons_succ]
              refine lst_val (v := .bool false) (by kernel_rfl) ?_ ?_
              · go_simp
              simp only [Act.put, List.setIfInBounds_toArray, List.set_cons_zero, List.set_cons_succ]
              refine lst_val (v := .bool false) (by kernel_rfl) ?_ ?_
              · go_simp
              simp only [Act.put, List.setIfInBounds_toArray, List.set_cons_zero, List.set_cons_succ]
              refine wpList_nil ?_
              have d0 : w19.cell? ⟨b13, 0, none⟩ = some (.int .i64 x1) := M19.out.2.cell 0
              by_cases ex : x1 = 0
              rotate_left
              · have qx : (x1 == 0) = false := by rw [beq_eq_false_iff_ne]; exact ex
                clear ex
                have MF : Hid (AM b3 b4 N S w w19 [.slice ta3 x.ts.length tc3, .slice ca3 x.cs.length cc3, .slice sa3 x.ss.length sc3, .slice da3 x.d.length dc3, .int .i64 x.n] [.slice ta4 x.ts.length tc4, .slice ca4 x.cs.length cc4, .slice sa4 x.ss.length sc4, .slice da4 x.d.length dc4, .int .i64 x.n] x (.slice ka ks.length kc) (.slice va ks.length vc) ks ks) := M19.out.1.1
                clear M19 HNB
                go_wp2
                go_meet
                case rel => exact ⟨N, S, _, _, x, ks, by have := HKS.out; omega, MF.out⟩
              have qx : (x1 == 0) = true := by rw [ex]; rfl
              clear ex
              go_upto_region 20 with fail
              clear qx d0
              have MK : Hid (AM b3 b4 N S w w19 [.slice ta3 x.ts.length tc3, .slice ca3 x.cs.length cc3, .slice sa3 x.ss.length sc3, .slice da3 x.d.length dc3, .int .i64 x.n] [.slice ta4 x.ts.length tc4, .slice ca4 x.cs.length cc4, .slice sa4 x.ss.length sc4, .slice da4 x.d.length dc4, .int .i64 x.n] x (.slice ka ks.length kc) (.slice va ks.length vc) ks ks ∧ CBox w19 b9 44 [.int .i64 1, .slice ua b.length uc, .bool op] ∧ CBox w19 b10 28 [.slice ta5 y.ts.length tc5, .slice ca5 y.cs.length cc5, .slice sa5 y.ss.length sc5, .slice da5 y.d.length dc5, .int .i64 y.n] ∧ CBox w19 b12 28 [.slice ta6 y.ts.length tc6, .slice ca6 y.cs.length cc6, .slice sa6 y.ss.length sc6, .slice da6 y.d.length dc6, .int .i64 y.n] ∧ CW (fun g => N ≤ g) w19 (.agg #[.slice ta5 y.ts.length tc5, .slice ca5 y.cs.length cc5, .slice sa5 y.ss.length sc5, .slice da5 y.d.length dc5, .int .i64 y.n]) y ∧ CW (fun g => N ≤ g) w19 (.agg #[.slice ta6 y.ts.length tc6, .slice ca6 y.cs.length cc6, .slice sa6 y.ss.length sc6, .slice da6 y.d.length dc6, .int .i64 y.n]) y) := M19.out.1
              clear M19
              as_aux_lemma =>
                have HKW : Hid ((∀ g, OwnV (.slice ka ks.length kc) g → g < N) ∧ ∀ g, OwnV (.slice va ks.length vc) g → g < N) := ⟨MK.out.1.kN, MK.out.1.wN⟩
                have HN3 : Hid (b3 < N ∧ b4 < N) := MK.out.1.bN
                have G0 : Hid (AM b3 b4 w19.heap.size (fun g => S g ∨ (N ≤ g ∧ g < w19.heap.size)) w w19 [.slice ta3 x.ts.length tc3, .slice ca3 x.cs.length cc3, .slice sa3 x.ss.length sc3, .slice da3 x.d.length dc3, .int .i64 x.n] [.slice ta4 x.ts.length tc4, .slice ca4 x.cs.length cc4, .slice sa4 x.ss.length sc4, .slice da4 x.d.length dc4, .int .i64 x.n] x (.slice ka ks.length kc) (.slice va ks.length vc) ks ks) := MK.out.1.grow
                have KA : Hid (CW (fun g => S g ∨ (N ≤ g ∧ g < w19.heap.size)) w19 (.agg #[.slice ta5 y.ts.length tc5, .slice ca5 y.cs.length cc5, .slice sa5 y.ss.length sc5, .slice da5 y.d.length dc5, .int .i64 y.n]) y ∧ CW (fun g => S g ∨ (N ≤ g ∧ g < w19.heap.size)) w19 (.agg #[.slice ta6 y.ts.length tc6, .slice ca6 y.cs.length cc6, .slice sa6 y.ss.length sc6, .slice da6 y.d.length dc6, .int .i64 y.n]) y) := ⟨MK.out.2.2.2.2.1.mono fun g hg hl => Or.inr ⟨hg, hl⟩, MK.out.2.2.2.2.2.mono fun g hg hl => Or.inr ⟨hg, hl⟩⟩
                have QB : Hid (CBox w19 b10 28 [.slice ta5 y.ts.length tc5, .slice ca5 y.cs.length cc5, .slice sa5 y.ss.length sc5, .slice da5 y.d.length dc5, .int .i64 y.n] ∧ CBox w19 b12 28 [.slice ta6 y.ts.length tc6, .slice ca6 y.cs.length cc6, .slice sa6 y.ss.length sc6, .slice da6 y.d.length dc6, .int .i64 y.n]) := ⟨MK.out.2.2.1, MK.out.2.2.2.1⟩
                have HGN : Hid (N ≤ w19.heap.size) := MK.out.1.NW
                clear MK
                obtain ⟨S2, hS2⟩ : ∃ S2 : Nat → Prop, S2 = (fun g => S g ∨ (N ≤ g ∧ g < w19.heap.size)) := ⟨_, rfl⟩
                rw [← hS2] at G0 KA
                clear hS2
                obtain ⟨N2, hN2⟩ : ∃ N2, N2 = w19.heap.size := ⟨_, rfl⟩
                rw [← hN2] at G0
                have HGN2 : Hid (N ≤ N2) := by have h1 := HGN.out; unfold Hid; omega
                clear hN2 HGN
                refine wp_region_held_drew (S := fun V' => CBox V' b10 28 [.slice ta5 y.ts.length tc5, .slice ca5 y.cs.length cc5, .slice sa5 y.ss.length sc5, .slice da5 y.d.length dc5, .int .i64 y.n] ∧ CBox V' b12 28 [.slice ta6 y.ts.length tc6, .slice ca6 y.cs.length cc6, .slice sa6 y.ss.length sc6, .slice da6 y.d.length dc6, .int .i64 y.n]) (by kernel_rfl) ⟨QB.out.1.past below_drew, QB.out.2.past below_drew⟩ (fun HH => ?_)
                have G1 : Hid (AM b3 b4 N2 S2 w w19.drew [.slice ta3 x.ts.length tc3, .slice ca3 x.cs.length cc3, .slice sa3 x.ss.length sc3, .slice da3 x.d.length dc3, .int .i64 x.n] [.slice ta4 x.ts.length tc4, .slice ca4 x.cs.length cc4, .slice sa4 x.ss.length sc4, .slice da4 x.d.length dc4, .int .i64 x.n] x (.slice ka ks.length kc) (.slice va ks.length vc) ks ks) := G0.out.past below_drew
                have KB : Hid (CW S2 w19.drew (.agg #[.slice ta5 y.ts.length tc5, .slice ca5 y.cs.length cc5, .slice sa5 y.ss.length sc5, .slice da5 y.d.length dc5, .int .i64 y.n]) y ∧ CW S2 w19.drew (.agg #[.slice ta6 y.ts.length tc6, .slice ca6 y.cs.length cc6, .slice sa6 y.ss.length sc6, .slice da6 y.d.length dc6, .int .i64 y.n]) y) := ⟨KA.out.1.past below_drew, KA.out.2.past below_drew⟩
                clear G0 KA QB
                generalize w19.drew = z1 at HH G1 KB ⊢
                refine wpAnyH_take (i := 0) (v := .agg #[.slice ta5 y.ts.length tc5, .slice ca5 y.cs.length cc5, .slice sa5 y.ss.length sc5, .slice da5 y.d.length dc5, .int .i64 y.n]) ov0 (by kernel_rfl) (by kernel_rfl) (by kernel_rfl) (fun _ _ _ h => h) (Or.inl ⟨by rfl, fun V' hS => ?_⟩) HH ?_
                · obtain ⟨hS0, _⟩ := hS; have a0 := hS0.cell 0; have a1 := hS0.cell 1; have a2 := hS0.cell 2; have a3 := hS0.cell 3; have a4 := hS0.cell 4
                  go_simp
                simp only [Act.put, List.setIfInBounds_toArray, List.set_cons_zero, List.set_cons_succ]
                refine wpAnyH_take (i := 1) (v := .agg #[.slice ta6 y.ts.length tc6, .slice ca6 y.cs.length cc6, .slice sa6 y.ss.length sc6, .slice da6 y.d.length dc6, .int .i64 y.n]) ov1 (by kernel_rfl) (by kernel_rfl) (by kernel_rfl) (fun _ _ _ h => h) (Or.inl ⟨by rfl, fun V' hS => ?_⟩) HH ?_
                · obtain ⟨_, hS0⟩ := hS; have a0 := hS0.cell 0; have a1 := hS0.cell 1; have a2 := hS0.cell 2; have a3 := hS0.cell 3; have a4 := hS0.cell 4
                  go_simp
                simp only [Act.put, List.setIfInBounds_toArray, List.set_cons_zero, List.set_cons_succ]
                refine wpAnyH_ready (rs := [2]) (by kernel_rfl) (by simp) ?_
                refine AllReadyH.cons ov2 (fun K hK => ?_) AllReadyH.nil
                rw [if_pos (by rfl)]
                refine wp_store5 _ _ rfl b3 (t0 := ta5) (n0 := y.ts.length) (m0 := tc5) (t1 := ca5) (n1 := y.cs.length) (m1 := cc5) (t2 := sa5) (n2 := y.ss.length) (m2 := sc5) (t3 := da5) (n3 := y.d.length) (m3 := dc5) (z := y.n) G1.out.c3 (by kernel_rfl) (by kernel_rfl) ?_
                intro z2 hs hc
                have F1 : Hid (But (fun g => g = b3 ∨ g = b4) z1 z2 ∧ CBox z2 b3 28 [.slice ta5 y.ts.length tc5, .slice ca5 y.cs.length cc5, .slice sa5 y.ss.length sc5, .slice da5 y.d.length dc5, .int .i64 y.n] ∧ CBox z2 b4 28 [.slice ta4 x.ts.length tc4, .slice ca4 x.cs.length cc4, .slice sa4 x.ss.length sc4, .slice da4 x.d.length dc4, .int .i64 x.n]) := ⟨hs.mono fun g e => Or.inl e, hc, G1.out.c4.but hs (fun (e : b4 = b3) => G1.out.ne e.symm)⟩
                have H1 := And.intro (HH.1.but F1.out.1 (fun e => by have h1 := HNB.out; have h2 := HN3.out; omega)) (HH.2.but F1.out.1 (fun e => by have h1 := HNB.out; have h2 := HN3.out; omega))
                clear hs hc
                refine hK.out _ z2 H1 (fun _ => ?_)
                clear hK K
                (try simp only [Act.put])
                clear HH
                refine wpAnyH_ready (rs := [3]) (by kernel_rfl) (by simp) ?_
                refine AllReadyH.cons ov3 (fun K hK => ?_) AllReadyH.nil
                rw [if_pos (by rfl)]
                refine wp_store5 _ _ rfl b4 (t0 := ta6) (n0 := y.ts.length) (m0 := tc6) (t1 := ca6) (n1 := y.cs.length) (m1 := cc6) (t2 := sa6) (n2 := y.ss.length) (m2 := sc6) (t3 := da6) (n3 := y.d.length) (m3 := dc6) (z := y.n) F1.out.2.2 (by kernel_rfl) (by kernel_rfl) ?_
                intro z3 hs hc
                have F2 : Hid (But (fun g => g = b3 ∨ g = b4) z1 z3 ∧ CBox z3 b3 28 [.slice ta5 y.ts.length tc5, .slice ca5 y.cs.length cc5, .slice sa5 y.ss.length sc5, .slice da5 y.d.length dc5, .int .i64 y.n] ∧ CBox z3 b4 28 [.slice ta6 y.ts.length tc6, .slice ca6 y.cs.length cc6, .slice sa6 y.ss.length sc6, .slice da6 y.d.length dc6, .int .i64 y.n]) := ⟨F1.out.1.trans (hs.mono fun g e => Or.inr e), F1.out.2.1.but hs (fun (e : b3 = b4) => G1.out.ne e), hc⟩
                have H2 := And.intro (H1.1.but hs (fun (e : b10 = b4) => by have h1 := HNB.out; have h2 := HN3.out; omega)) (H1.2.but hs (fun (e : b12 = b4) => by have h1 := HNB.out; have h2 := HN3.out; omega))
                clear hs hc
                refine hK.out _ z3 H2 (fun _ => ?_)
                clear hK K
                (try simp only [Act.put])
                clear H1 F1
                refine wpAnyH_done (by kernel_rfl) ?_ _
                have M3 : Hid (AM b3 b4 N2 S2 w z3 [.slice ta5 y.ts.length tc5, .slice ca5 y.cs.length cc5, .slice sa5 y.ss.length sc5, .slice da5 y.d.length dc5, .int .i64 y.n] [.slice ta6 y.ts.length tc6, .slice ca6 y.cs.length cc6, .slice sa6 y.ss.length sc6, .slice da6 y.d.length dc6, .int .i64 y.n] y (.slice ka ks.length kc) (.slice va ks.length vc) ks ks ∧ CBox z3 b10 28 [.slice ta5 y.ts.length tc5, .slice ca5 y.cs.length cc5, .slice sa5 y.ss.length sc5, .slice da5 y.d.length dc5, .int .i64 y.n] ∧ CBox z3 b12 28 [.slice ta6 y.ts.length tc6, .slice ca6 y.cs.length cc6, .slice sa6 y.ss.length sc6, .slice da6 y.d.length dc6, .int .i64 y.n]) := ⟨G1.out.put F2.out.1 F2.out.2.1 F2.out.2.2 KB.out.1 KB.out.2 HGY.out, H2.1, H2.2⟩
                clear G1 KB F2 H2 HN3
                by_cases el : ks.length < 50
                rotate_left
                · have qk : ¬ (ks.length : Int) < 50 := by omega
                  clear el HKW
                  have M3b : Hid (AM b3 b4 N2 S2 w z3 [.slice ta5 y.ts.length tc5, .slice ca5 y.cs.length cc5, .slice sa5 y.ss.length sc5, .slice da5 y.d.length dc5, .int .i64 y.n] [.slice ta6 y.ts.length tc6, .slice ca6 y.cs.length cc6, .slice sa6 y.ss.length sc6, .slice da6 y.d.length dc6, .int .i64 y.n] y (.slice ka ks.length kc) (.slice va ks.length vc) ks ks) := M3.out.1
                  clear M3
                  go_wp2
                  go_meet
                  case rel => exact ⟨N2, S2, _, _, y, ks, by have := HKS.out; omega, M3b.out⟩
                have qk : (ks.length : Int) < 50 := by omega
                have HEL : Hid (ks.length < 50) := el
                clear el
                go_upto_region 22 with fail
                clear qk
                refine wp_region_held_drew (S := fun V' => CBox V' b10 28 [.slice ta5 y.ts.length tc5, .slice ca5 y.cs.length cc5, .slice sa5 y.ss.length sc5, .slice da5 y.d.length dc5, .int .i64 y.n] ∧ CBox V' b12 28 [.slice ta6 y.ts.length tc6, .slice ca6 y.cs.length cc6, .slice sa6 y.ss.length sc6, .slice da6 y.d.length dc6, .int .i64 y.n]) (by kernel_rfl) ⟨M3.out.2.1.past below_drew, M3.out.2.2.past below_drew⟩ (fun HH => ?_)
                have A : Hid (AM b3 b4 N2 S2 w z3.drew [.slice ta5 y.ts.length tc5, .slice ca5 y.cs.length cc5, .slice sa5 y.ss.length sc5, .slice da5 y.d.length dc5, .int .i64 y.n] [.slice ta6 y.ts.length tc6, .slice ca6 y.cs.length cc6, .slice sa6 y.ss.length sc6, .slice da6 y.d.length dc6, .int .i64 y.n] y (.slice ka ks.length kc) (.slice va ks.length vc) ks ks) := M3.out.1.past below_drew
                have HN2N : Hid (N ≤ N2) := HGN2.out
                clear M3
                generalize z3.drew = z1 at HH A ⊢
                refine wpAnyH_take (i := 0) (v := .slice ka ks.length kc) ov0 (by kernel_rfl) (by kernel_rfl) (by kernel_rfl) (fun _ _ _ h => h) (Or.inl ⟨by rfl, fun V' hS => ?_⟩) HH ?_
                · go_simp
                simp only [Act.put, List.setIfInBounds_toArray, List.set_cons_zero, List.set_cons_succ]
                refine wpAnyH_take (i := 1) (v := .agg #[.slice ta5 y.ts.length tc5, .slice ca5 y.cs.length cc5, .slice sa5 y.ss.length sc5, .slice da5 y.d.length dc5, .int .i64 y.n]) ov1 (by kernel_rfl) (by kernel_rfl) (by kernel_rfl) (fun _ _ _ h => h) (Or.inl ⟨by rfl, fun V' hS => ?_⟩) HH ?_
                · obtain ⟨hS0, _⟩ := hS; have a0 := hS0.cell 0; have a1 := hS0.cell 1; have a2 := hS0.cell 2; have a3 := hS0.cell 3; have a4 := hS0.cell 4
                  go_simp
                simp only [Act.put, List.setIfInBounds_toArray, List.set_cons_zero, List.set_cons_succ]
                refine wpAnyH_take (i := 4) (v := .slice va ks.length vc) ov4 (by kernel_rfl) (by kernel_rfl) (by kernel_rfl) (fun _ _ _ h => h) (Or.inl ⟨by rfl, fun V' hS => ?_⟩) HH ?_
                · go_simp
                simp only [Act.put, List.setIfInBounds_toArray, List.set_cons_zero, List.set_cons_succ]
                refine wpAnyH_take (i := 5) (v := .agg #[.slice ta6 y.ts.length tc6, .slice ca6 y.cs.length cc6, .slice sa6 y.ss.length sc6, .slice da6 y.d.length dc6, .int .i64 y.n]) ov5 (by kernel_rfl) (by kernel_rfl) (by kernel_rfl) (fun _ _ _ h => h) (Or.inl ⟨by rfl, fun V' hS => ?_⟩) HH ?_
                · obtain ⟨_, hS0⟩ := hS; have a0 := hS0.cell 0; have a1 := hS0.cell 1; have a2 := hS0.cell 2; have a3 := hS0.cell 3; have a4 := hS0.cell 4
                  go_simp
                simp only [Act.put, List.setIfInBounds_toArray, List.set_cons_zero, List.set_cons_succ]
                refine wpAnyH_ready (rs := [2, 6]) (by kernel_rfl) (by simp) ?_
                refine AllReadyH.cons ov2 (fun K hK => ?_) (AllReadyH.cons ov6 (fun K hK => ?_) AllReadyH.nil)
                · rw [if_pos (by rfl)]
                  refine wp_lit5 89 rfl (t0 := ta5) (n0 := y.ts.length) (m0 := tc5) (t1 := ca5) (n1 := y.cs.length) (m1 := cc5) (t2 := sa5) (n2 := y.ss.length) (m2 := sc5) (t3 := da5) (n3 := y.d.length) (m3 := dc5) (z := y.n) (by kernel_rfl) ?_
                  intro zl hB F9
                  have HW0 : Hid (N ≤ z1.heap.size) := by have h1 := HH.1.lt; have h2 := HNB.out; unfold Hid; omega
                  have H9 := And.intro (HH.1.past hB) (HH.2.past hB)
                  clear HH
                  have HH := H9
                  clear H9
                  have q9 := A.out.past hB
                  clear A
                  have A : Hid _ := q9
                  clear q9
                  (try (have q9 : Hid (CBox zl bb1 28 [.slice ta6 y.ts.length tc6, .slice ca6 y.cs.length cc6, .slice sa6 y.ss.length sc6, .slice da6 y.d.length dc6, .int .i64 y.n]) := F1.out.past hB; clear F1; have F1 := q9; clear q9))
                  have F0 : Hid (CBox zl z1.heap.size 28 [.slice ta5 y.ts.length tc5, .slice ca5 y.cs.length cc5, .slice sa5 y.ss.length sc5, .slice da5 y.d.length dc5, .int .i64 y.n]) := F9
                  clear F9 hB
                  refine hK.out _ zl HH (fun _ => ?_)
                  clear hK K
                  (try simp only [Act.put, List.setIfInBounds_toArray, List.set_cons_zero, List.set_cons_succ])
                  generalize z1.heap.size = bb0 at F0 HW0 ⊢
                  generalize zl = z1 at *
                  refine wpAnyH_ready (rs := [3, 6]) (by kernel_rfl) (by simp) ?_
                  refine AllReadyH.cons ov3 (fun K hK => ?_) (AllReadyH.cons ov6 (fun K hK => ?_) AllReadyH.nil)
                  · rw [if_pos (by rfl)]
                    refine wp_appC _ _ rfl S2 w.heap.size A.out.bel.size (.slice ka ks.length kc) ks rfl A.out.kk (fun g hg => (A.out.ok g hg).1) bb0 [.slice ta5 y.ts.length tc5, .slice ca5 y.cs.length cc5, .slice sa5 y.ss.length sc5, .slice da5 y.d.length dc5, .int .i64 y.n] rfl F0.out y A.out.k3 (by have := HEL.out; omega) ?_
                    intro v9 z9 hP hb hn
                    obtain ⟨ka2, kc2, e9⟩ := hP.sl
                    rw [List.length_append, List.length_singleton] at e9
                    subst e9
                    have A9 : Hid _ := A.out.appK hP hb hn
                    have H9 := And.intro (HH.1.but hb (fun e => by have h1 := HNB.out; have h2 := HKW.out.1 _ e; omega)) (HH.2.but hb (fun e => by have h1 := HNB.out; have h2 := HKW.out.1 _ e; omega))
                    (try (have q9 : Hid (CBox z9 bb1 28 [.slice ta6 y.ts.length tc6, .slice ca6 y.cs.length cc6, .slice sa6 y.ss.length sc6, .slice da6 y.d.length dc6, .int .i64 y.n]) := F1.out.but hb (fun e => by have h1 := HW1.out; have h2 := HKW.out.1 _ e; omega); clear F1; have F1 := q9; clear q9))
                    clear HH A F0 HW0 hP hb hn
                    have HH := H9
                    have A := A9
                    clear H9 A9
                    refine hK.out _ z9 HH (fun _ => ?_)
                    clear hK K
                    (try simp only [Act.put, List.setIfInBounds_toArray, List.set_cons_zero, List.set_cons_succ])
                    generalize z9.heap.size = NA at A ⊢
                    generalize z9 = z1 at *
                    refine wpAnyH_ready (rs := [6]) (by kernel_rfl) (by simp) ?_
                    refine AllReadyH.cons ov6 (fun K hK => ?_) AllReadyH.nil
                    rw [if_pos (by rfl)]
                    refine wp_lit5 93 rfl (t0 := ta6) (n0 := y.ts.length) (m0 := tc6) (t1 := ca6) (n1 := y.cs.length) (m1 := cc6) (t2 := sa6) (n2 := y.ss.length) (m2 := sc6) (t3 := da6) (n3 := y.d.length) (m3 := dc6) (z := y.n) (by kernel_rfl) ?_
                    intro zl hB F9
                    have HW1 : Hid (N ≤ z1.heap.size) := by have h1 := HH.1.lt; have h2 := HNB.out; unfold Hid; omega
                    have H9 := And.intro (HH.1.past hB) (HH.2.past hB)
                    clear HH
                    have HH := H9
                    clear H9
                    have q9 := A.out.past hB
                    clear A
                    have A : Hid _ := q9
                    clear q9
                    (try (have q9 : Hid (CBox zl bb0 28 [.slice ta5 y.ts.length tc5, .slice ca5 y.cs.length cc5, .slice sa5 y.ss.length sc5, .slice da5 y.d.length dc5, .int .i64 y.n]) := F0.out.past hB; clear F0; have F0 := q9; clear q9))
                    have F1 : Hid (CBox zl z1.heap.size 28 [.slice ta6 y.ts.length tc6, .slice ca6 y.cs.length cc6, .slice sa6 y.ss.length sc6, .slice da6 y.d.length dc6, .int .i64 y.n]) := F9
                    clear F9 hB
                    refine hK.out _ zl HH (fun _ => ?_)
                    clear hK K
                    (try simp only [Act.put, List.setIfInBounds_toArray, List.set_cons_zero, List.set_cons_succ])
                    generalize z1.heap.size = bb1 at F1 HW1 ⊢
                    generalize zl = z1 at *
                    refine wpAnyH_ready (rs := [7]) (by kernel_rfl) (by simp) ?_
                    refine AllReadyH.cons ov7 (fun K hK => ?_) AllReadyH.nil
                    rw [if_pos (by rfl)]
                    refine wp_appC _ _ rfl S2 w.heap.size A.out.bel.size (.slice va ks.length vc) ks rfl A.out.kw (fun g hg => (A.out.ow g hg).1) bb1 [.slice ta6 y.ts.length tc6, .slice ca6 y.cs.length cc6, .slice sa6 y.ss.length sc6, .slice da6 y.d.length dc6, .int .i64 y.n] rfl F1.out y A.out.k4 (by have := HEL.out; omega) ?_
                    intro v9 z9 hP hb hn
                    obtain ⟨va2, vc2, e9⟩ := hP.sl
                    rw [List.length_append, List.length_singleton] at e9
                    subst e9
                    have A9 : Hid _ := A.out.appW hP hb hn
                    have H9 := And.intro (HH.1.but hb (fun e => by have h1 := HNB.out; have h2 := HKW.out.2 _ e; omega)) (HH.2.but hb (fun e => by have h1 := HNB.out; have h2 := HKW.out.2 _ e; omega))
                    clear HH A F1 HW1 hP hb hn
                    have HH := H9
                    have A := A9
                    clear H9 A9
                    refine hK.out _ z9 HH (fun _ => ?_)
                    clear hK K
                    (try simp only [Act.put, List.setIfInBounds_toArray, List.set_cons_zero, List.set_cons_succ])
                    generalize z9.heap.size = NB at A ⊢
                    generalize z9 = z1 at HH A ⊢
                    refine wpAnyH_take (i := 8) (v := .slice ka2 (ks.length + 1) kc2) ov8 (by kernel_rfl) (by kernel_rfl) (by kernel_rfl) (fun _ _ _ h => h) (Or.inl ⟨by rfl, fun V' hS => ?_⟩) HH ?_
                    · go_simp
                    simp only [Act.put, List.setIfInBounds_toArray, List.set_cons_zero, List.set_cons_succ]
                    refine wpAnyH_take (i := 9) (v := .slice va2 (ks.length + 1) vc2) ov9 (by kernel_rfl) (by kernel_rfl) (by kernel_rfl) (fun _ _ _ h => h) (Or.inl ⟨by rfl, fun V' hS => ?_⟩) HH ?_
                    · go_simp
                    simp only [Act.put, List.setIfInBounds_toArray, List.set_cons_zero, List.set_cons_succ]
                    refine wpAnyH_done (by kernel_rfl) ?_ _
                    clear HH HKW
                    go_wp2
                    go_meet
                    case rel => exact ⟨NB, S2, _, _, y, (ks ++ [y]), by have := HEL.out; rw [List.length_append, List.length_singleton]; omega, A.out⟩
                  · rw [if_pos (by rfl)]
                    refine wp_lit5 93 rfl (t0 := ta6) (n0 := y.ts.length) (m0 := tc6) (t1 := ca6) (n1 := y.cs.length) (m1 := cc6) (t2 := sa6) (n2 := y.ss.length) (m2 := sc6) (t3 := da6) (n3 := y.d.length) (m3 := dc6) (z := y.n) (by kernel_rfl) ?_
                    intro zl hB F9
                    have HW1 : Hid (N ≤ z1.heap.size) := by have h1 := HH.1.lt; have h2 := HNB.out; unfold Hid; omega
                    have H9 := And.intro (HH.1.past hB) (HH.2.past hB)
                    clear HH
                    have HH := H9
                    clear H9
                    have q9 := A.out.past hB
                    clear A
                    have A : Hid _ := q9
                    clear q9
                    (try (have q9 : Hid (CBox zl bb0 28 [.slice ta5 y.ts.length tc5, .slice ca5 y.cs.length cc5, .slice sa5 y.ss.length sc5, .slice da5 y.d.length dc5, .int .i64 y.n]) := F0.out.past hB; clear F0; have F0 := q9; clear q9))
                    have F1 : Hid (CBox zl z1.heap.size 28 [.slice ta6 y.ts.length tc6, .slice ca6 y.cs.length cc6, .slice sa6 y.ss.length sc6, .slice da6 y.d.length dc6, .int .i64 y.n]) := F9
                    clear F9 hB
                    refine hK.out _ zl HH (fun _ => ?_)
                    clear hK K
                    (try simp only [Act.put, List.setIfInBounds_toArray, List.set_cons_zero, List.set_cons_succ])
                    generalize z1.heap.size = bb1 at F1 HW1 ⊢
                    generalize zl = z1 at *
                    refine wpAnyH_ready (rs := [3]) (by kernel_rfl) (by simp) ?_
                    refine AllReadyH.cons ov3 (fun K hK => ?_) AllReadyH.nil
                    rw [if_pos (by rfl)]
                    refine wp_appC _ _ rfl S2 w.heap.size A.out.bel.size (.slice ka ks.length kc) ks rfl A.out.kk (fun g hg => (A.out.ok g hg).1) bb0 [.slice ta5 y.ts.length tc5, .slice ca5 y.cs.length cc5, .slice sa5 y.ss.length sc5, .slice da5 y.d.length dc5, .int .i64 y.n] rfl F0.out y A.out.k3 (by have := HEL.out; omega) ?_
                    intro v9 z9 hP hb hn
                    obtain ⟨ka2, kc2, e9⟩ := hP.sl
                    rw [List.length_append, List.length_singleton] at e9
                    subst e9
                    have A9 : Hid _ := A.out.appK hP hb hn
                    have H9 := And.intro (HH.1.but hb (fun e => by have h1 := HNB.out; have h2 := HKW.out.1 _ e; omega)) (HH.2.but hb (fun e => by have h1 := HNB.out; have h2 := HKW.out.1 _ e; omega))
                    (try (have q9 : Hid (CBox z9 bb1 28 [.slice ta6 y.ts.length tc6, .slice ca6 y.cs.length cc6, .slice sa6 y.ss.length sc6, .slice da6 y.d.length dc6, .int .i64 y.n]) := F1.out.but hb (fun e => by have h1 := HW1.out; have h2 := HKW.out.1 _ e; omega); clear F1; have F1 := q9; clear q9))
                    clear HH A F0 HW0 hP hb hn
                    have HH := H9
                    have A := A9
                    clear H9 A9
                    refine hK.out _ z9 HH (fun _ => ?_)
                    clear hK K
                    (try simp only [Act.put, List.setIfInBounds_toArray, List.set_cons_zero, List.set_cons_succ])
                    generalize z9.heap.size = NA at A ⊢
                    generalize z9 = z1 at *
                    refine wpAnyH_ready (rs := [7]) (by kernel_rfl) (by simp) ?_
                    refine AllReadyH.cons ov7 (fun K hK => ?_) AllReadyH.nil
                    rw [if_pos (by rfl)]
                    refine wp_appC _ _ rfl S2 w.heap.size A.out.bel.size (.slice va ks.length vc) ks rfl A.out.kw (fun g hg => (A.out.ow g hg).1) bb1 [.slice ta6 y.ts.length tc6, .slice ca6 y.cs.length cc6, .slice sa6 y.ss.length sc6, .slice da6 y.d.length dc6, .int .i64 y.n] rfl F1.out y A.out.k4 (by have := HEL.out; omega) ?_
                    intro v9 z9 hP hb hn
                    obtain ⟨va2, vc2, e9⟩ := hP.sl
                    rw [List.length_append, List.length_singleton] at e9
                    subst e9
                    have A9 : Hid _ := A.out.appW hP hb hn
                    have H9 := And.intro (HH.1.but hb (fun e => by have h1 := HNB.out; have h2 := HKW.out.2 _ e; omega)) (HH.2.but hb (fun e => by have h1 := HNB.out; have h2 := HKW.out.2 _ e; omega))
                    clear HH A F1 HW1 hP hb hn
                    have HH := H9
                    have A := A9
                    clear H9 A9
                    refine hK.out _ z9 HH (fun _ => ?_)
                    clear hK K
                    (try simp only [Act.put, List.setIfInBounds_toArray, List.set_cons_zero, List.set_cons_succ])
                    generalize z9.heap.size = NB at A ⊢
                    generalize z9 = z1 at HH A ⊢
                    refine wpAnyH_take (i := 8) (v := .slice ka2 (ks.length + 1) kc2) ov8 (by kernel_rfl) (by kernel_rfl) (by kernel_rfl) (fun _ _ _ h => h) (Or.inl ⟨by rfl, fun V' hS => ?_⟩) HH ?_
                    · go_simp
                    simp only [Act.put, List.setIfInBounds_toArray, List.set_cons_zero, List.set_cons_succ]
                    refine wpAnyH_take (i := 9) (v := .slice va2 (ks.length + 1) vc2) ov9 (by kernel_rfl) (by kernel_rfl) (by kernel_rfl) (fun _ _ _ h => h) (Or.inl ⟨by rfl, fun V' hS => ?_⟩) HH ?_
                    · go_simp
                    simp only [Act.put, List.setIfInBounds_toArray, List.set_cons_zero, List.set_cons_succ]
                    refine wpAnyH_done (by kernel_rfl) ?_ _
                    clear HH HKW
                    go_wp2
                    go_meet
                    case rel => exact ⟨NB, S2, _, _, y, (ks ++ [y]), by have := HEL.out; rw [List.length_append, List.length_singleton]; omega, A.out⟩
                · rw [if_pos (by rfl)]
                  refine wp_lit5 93 rfl (t0 := ta6) (n0 := y.ts.length) (m0 := tc6) (t1 := ca6) (n1 := y.cs.length) (m1 := cc6) (t2 := sa6) (n2 := y.ss.length) (m2 := sc6) (t3 := da6) (n3 := y.d.length) (m3 := dc6) (z := y.n) (by kernel_rfl) ?_
                  intro zl hB F9
                  have HW1 : Hid (N ≤ z1.heap.size) := by have h1 := HH.1.lt; have h2 := HNB.out; unfold Hid; omega
                  have H9 := And.intro (HH.1.past hB) (HH.2.past hB)
                  clear HH
                  have HH := H9
                  clear H9
                  have q9 := A.out.past hB
                  clear A
                  have A : Hid _ := q9
                  clear q9
                  (try (have q9 : Hid (CBox zl bb0 28 [.slice ta5 y.ts.length tc5, .slice ca5 y.cs.length cc5, .slice sa5 y.ss.length sc5, .slice da5 y.d.length dc5, .int .i64 y.n]) := F0.out.past hB; clear F0; have F0 := q9; clear q9))
                  have F1 : Hid (CBox zl z1.heap.size 28 [.slice ta6 y.ts.length tc6, .slice ca6 y.cs.length cc6, .slice sa6 y.ss.length sc6, .slice da6 y.d.length dc6, .int .i64 y.n]) := F9
                  clear F9 hB
                  refine hK.out _ zl HH (fun _ => ?_)
                  clear hK K
                  (try simp only [Act.put, List.setIfInBounds_toArray, List.set_cons_zero, List.set_cons_succ])
                  generalize z1.heap.size = bb1 at F1 HW1 ⊢
                  generalize zl = z1 at *
                  refine wpAnyH_ready (rs := [2]) (by kernel_rfl) (by simp) ?_
                  refine AllReadyH.cons ov2 (fun K hK => ?_) AllReadyH.nil
                  rw [if_pos (by rfl)]
                  refine wp_lit5 89 rfl (t0 := ta5) (n0 := y.ts.length) (m0 := tc5) (t1 := ca5) (n1 := y.cs.length) (m1 := cc5) (t2 := sa5) (n2 := y.ss.length) (m2 := sc5) (t3 := da5) (n3 := y.d.length) (m3 := dc5) (z := y.n) (by kernel_rfl) ?_
                  intro zl hB F9
                  have HW0 : Hid (N ≤ z1.heap.size) := by have h1 := HH.1.lt; have h2 := HNB.out; unfold Hid; omega
                  have H9 := And.intro (HH.1.past hB) (HH.2.past hB)
                  clear HH
                  have HH := H9
                  clear H9
                  have q9 := A.out.past hB
                  clear A
                  have A : Hid _ := q9
                  clear q9
                  (try (have q9 : Hid (CBox zl bb1 28 [.slice ta6 y.ts.length tc6, .slice ca6 y.cs.length cc6, .slice sa6 y.ss.length sc6, .slice da6 y.d.length dc6, .int .i64 y.n]) := F1.out.past hB; clear F1; have F1 := q9; clear q9))
                  have F0 : Hid (CBox zl z1.heap.size 28 [.slice ta5 y.ts.length tc5, .slice ca5 y.cs.length cc5, .slice sa5 y.ss.length sc5, .slice da5 y.d.length dc5, .int .i64 y.n]) := F9
                  clear F9 hB
                  refine hK.out _ zl HH (fun _ => ?_)
                  clear hK K
                  (try simp only [Act.put, List.setIfInBounds_toArray, List.set_cons_zero, List.set_cons_succ])
                  generalize z1.heap.size = bb0 at F0 HW0 ⊢
                  generalize zl = z1 at *
                  refine wpAnyH_ready (rs := [3]) (by kernel_rfl) (by simp) ?_
                  refine AllReadyH.cons ov3 (fun K hK => ?_) AllReadyH.nil
                  rw [if_pos (by rfl)]
                  refine wp_appC _ _ rfl S2 w.heap.size A.out.bel.size (.slice ka ks.length kc) ks rfl A.out.kk (fun g hg => (A.out.ok g hg).1) bb0 [.slice ta5 y.ts.length tc5, .slice ca5 y.cs.length cc5, .slice sa5 y.ss.length sc5, .slice da5 y.d.length dc5, .int .i64 y.n] rfl F0.out y A.out.k3 (by have := HEL.out; omega) ?_
                  intro v9 z9 hP hb hn
                  obtain ⟨ka2, kc2, e9⟩ := hP.sl
                  rw [List.length_append, List.length_singleton] at e9
                  subst e9
                  have A9 : Hid _ := A.out.appK hP hb hn
                  have H9 := And.intro (HH.1.but hb (fun e => by have h1 := HNB.out; have h2 := HKW.out.1 _ e; omega)) (HH.2.but hb (fun e => by have h1 := HNB.out; have h2 := HKW.out.1 _ e; omega))
                  (try (have q9 : Hid (CBox z9 bb1 28 [.slice ta6 y.ts.length tc6, .slice ca6 y.cs.length cc6, .slice sa6 y.ss.length sc6, .slice da6 y.d.length dc6, .int .i64 y.n]) := F1.out.but hb (fun e => by have h1 := HW1.out; have h2 := HKW.out.1 _ e; omega); clear F1; have F1 := q9; clear q9))
                  clear HH A F0 HW0 hP hb hn
                  have HH := H9
                  have A := A9
                  clear H9 A9
                  refine hK.out _ z9 HH (fun _ => ?_)
                  clear hK K
                  (try simp only [Act.put, List.setIfInBounds_toArray, List.set_cons_zero, List.set_cons_succ])
                  generalize z9.heap.size = NA at A ⊢
                  generalize z9 = z1 at *
                  refine wpAnyH_ready (rs := [7]) (by kernel_rfl) (by simp) ?_
                  refine AllReadyH.cons ov7 (fun K hK => ?_) AllReadyH.nil
                  rw [if_pos (by rfl)]
                  refine wp_appC _ _ rfl S2 w.heap.size A.out.bel.size (.slice va ks.length vc) ks rfl A.out.kw (fun g hg => (A.out.ow g hg).1) bb1 [.slice ta6 y.ts.length tc6, .slice ca6 y.cs.length cc6, .slice sa6 y.ss.length sc6, .slice da6 y.d.length dc6, .int .i64 y.n] rfl F1.out y A.out.k4 (by have := HEL.out; omega) ?_
                  intro v9 z9 hP hb hn
                  obtain ⟨va2, vc2, e9⟩ := hP.sl
                  rw [List.length_append, List.length_singleton] at e9
                  subst e9
                  have A9 : Hid _ := A.out.appW hP hb hn
                  have H9 := And.intro (HH.1.but hb (fun e => by have h1 := HNB.out; have h2 := HKW.out.2 _ e; omega)) (HH.2.but hb (fun e => by have h1 := HNB.out; have h2 := HKW.out.2 _ e; omega))
                  clear HH A F1 HW1 hP hb hn
                  have HH := H9
                  have A := A9
                  clear H9 A9
                  refine hK.out _ z9 HH (fun _ => ?_)
                  clear hK K
                  (try simp only [Act.put, List.setIfInBounds_toArray, List.set_cons_zero, List.set_cons_succ])
                  generalize z9.heap.size = NB at A ⊢
                  generalize z9 = z1 at HH A ⊢
                  refine wpAnyH_take (i := 8) (v := .slice ka2 (ks.length + 1) kc2) ov8 (by kernel_rfl) (by kernel_rfl) (by kernel_rfl) (fun _ _ _ h => h) (Or.inl ⟨by rfl, fun V' hS => ?_⟩) HH ?_
                  · go_simp
                  simp only [Act.put, List.setIfInBounds_toArray, List.set_cons_zero, List.set_cons_succ]
                  refine wpAnyH_take (i := 9) (v := .slice va2 (ks.length + 1) vc2) ov9 (by kernel_rfl) (by kernel_rfl) (by kernel_rfl) (fun _ _ _ h => h) (Or.inl ⟨by rfl, fun V' hS => ?_⟩) HH ?_
                  · go_simp
                  simp only [Act.put, List.setIfInBounds_toArray, List.set_cons_zero, List.set_cons_succ]
                  refine wpAnyH_done (by kernel_rfl) ?_ _
                  clear HH HKW
                  go_wp2
                  go_meet
                  case rel => exact ⟨NB, S2, _, _, y, (ks ++ [y]), by have := HEL.out; rw [List.length_append, List.length_singleton]; omega, A.out⟩
        by_cases e2 : kd = 2
        · as_aux_lemma =>
            subst e2
            have M9' : Hid (AM b3 b4 N S w W9 [.slice ta3 x.ts.length tc3, .slice ca3 x.cs.length cc3, .slice sa3 x.ss.length sc3, .slice da3 x.d.length dc3, .int .i64 x.n] [.slice ta4 x.ts.length tc4, .slice ca4 x.cs.length cc4, .slice sa4 x.ss.length sc4, .slice da4 x.d.length dc4, .int .i64 x.n] x (.slice ka ks.length kc) (.slice va ks.length vc) ks ks ∧ CBox W9 b9 44 [.int .i64 2, .slice ua b.length uc, .bool op]) := M9.out
            clear M9
            have M9 := M9'
            clear M9'
            skip
            obtain ⟨ec, hec⟩ : ∃ ec, chk x = ec := ⟨_, rfl⟩
            have CC : Hid (∀ (W : World) (R : Nat → Prop) (u : Value), CW R W u x → Calls Try.prog 20 #[u] W fun e w' => e = .returned (.int .i64 ec) ∧ Below W.heap.size W w') := fun W R u q => by rw [← hec]; exact check_is W u x q
            have CR : Hid (∀ (W : World) (R : Nat → Prop) (u : Value), CW R W u x → Calls Try.prog 21 #[u] W fun e w' => e = .returned (.int .i64 ec) ∧ Below W.heap.size W w') := fun W R u q => by rw [← hec]; exact rCheck_is W u x q
            clear hec
            go_upto_region 24 with fail
            refine wp_region_held_drew (S := fun V' => CBox V' b3 28 [.slice ta3 x.ts.length tc3, .slice ca3 x.cs.length cc3, .slice sa3 x.ss.length sc3, .slice da3 x.d.length dc3, .int .i64 x.n] ∧ CBox V' b4 28 [.slice ta4 x.ts.length tc4, .slice ca4 x.cs.length cc4, .slice sa4 x.ss.length sc4, .slice da4 x.d.length dc4, .int .i64 x.n]) (by kernel_rfl) ⟨M9.out.1.c3.past below_drew, M9.out.1.c4.past below_drew⟩ (fun HH => ?_)
            have A : Hid (AM b3 b4 N S w W9.drew [.slice ta3 x.ts.length tc3, .slice ca3 x.cs.length cc3, .slice sa3 x.ss.length sc3, .slice da3 x.d.length dc3, .int .i64 x.n] [.slice ta4 x.ts.length tc4, .slice ca4 x.cs.length cc4, .slice sa4 x.ss.length sc4, .slice da4 x.d.length dc4, .int .i64 x.n] x (.slice ka ks.length kc) (.slice va ks.length vc) ks ks) := M9.out.1.past below_drew
            clear M9
            generalize W9.drew = z1 at HH A ⊢
            refine wpAnyH_take (i := 0) (v := .agg #[.slice ta3 x.ts.length tc3, .slice ca3 x.cs.length cc3, .slice sa3 x.ss.length sc3, .slice da3 x.d.length dc3, .int .i64 x.n]) ov0 (by kernel_rfl) (by kernel_rfl) (by kernel_rfl) (fun _ _ _ h => h) (Or.inl ⟨by rfl, fun V' hS => ?_⟩) HH ?_
            · obtain ⟨hS0, _⟩ := hS; have a0 := hS0.cell 0; have a1 := hS0.cell 1; have a2 := hS0.cell 2; have a3 := hS0.cell 3; have a4 := hS0.cell 4
              go_simp
            simp only [Act.put, List.setIfInBounds_toArray, List.set_cons_zero, List.set_cons_succ]
            refine wpAnyH_take (i := 2) (v := .agg #[.slice ta4 x.ts.length tc4, .slice ca4 x.cs.length cc4, .slice sa4 x.ss.length sc4, .slice da4 x.d.length dc4, .int .i64 x.n]) ov2 (by kernel_rfl) (by kernel_rfl) (by kernel_rfl) (fun _ _ _ h => h) (Or.inl ⟨by rfl, fun V' hS => ?_⟩) HH ?_
            · obtain ⟨_, hS0⟩ := hS; have a0 := hS0.cell 0; have a1 := hS0.cell 1; have a2 := hS0.cell 2; have a3 := hS0.cell 3; have a4 := hS0.cell 4
              go_simp
            simp only [Act.put, List.setIfInBounds_toArray, List.set_cons_zero, List.set_cons_succ]
            refine wpAnyH_ready (rs := [1]) (by kernel_rfl) (by simp) ?_
            refine AllReadyH.cons ov1 (fun K hK => ?_) AllReadyH.nil
            rw [if_pos (by rfl)]
            go_simp
            refine (CC.out _ _ _ A.out.k3).mono ?_
            rintro e z8 ⟨rfl, hB⟩
            have q9 := A.out.past hB
            clear A
            have A : Hid (AM b3 b4 N S w z8 [.slice ta3 x.ts.length tc3, .slice ca3 x.cs.length cc3, .slice sa3 x.ss.length sc3, .slice da3 x.d.length dc3, .int .i64 x.n] [.slice ta4 x.ts.length tc4, .slice ca4 x.cs.length cc4, .slice sa4 x.ss.length sc4, .slice da4 x.d.length dc4, .int .i64 x.n] x (.slice ka ks.length kc) (.slice va ks.length vc) ks ks) := q9
            clear q9 hB
            (try go_wp2_with fail)
            refine hK.out _ _ ⟨A.out.c3, A.out.c4⟩ (fun _ => ?_)
            clear hK K
            (try simp only [Act.put, List.setIfInBounds_toArray, List.set_cons_zero, List.set_cons_succ])
            generalize z8 = z1 at A ⊢
            refine wpAnyH_ready (rs := [3]) (by kernel_rfl) (by simp) ?_
            refine AllReadyH.cons ov3 (fun K hK => ?_) AllReadyH.nil
            rw [if_pos (by rfl)]
            go_simp
            refine (CR.out _ _ _ A.out.k4).mono ?_
            rintro e z7 ⟨rfl, hB⟩
            have q9 := A.out.past hB
            clear A
            have A : Hid (AM b3 b4 N S w z7 [.slice ta3 x.ts.length tc3, .slice ca3 x.cs.length cc3, .slice sa3 x.ss.length sc3, .slice da3 x.d.length dc3, .int .i64 x.n] [.slice ta4 x.ts.length tc4, .slice ca4 x.cs.length cc4, .slice sa4 x.ss.length sc4, .slice da4 x.d.length dc4, .int .i64 x.n] x (.slice ka ks.length kc) (.slice va ks.length vc) ks ks) := q9
            clear q9 hB
            (try go_wp2_with fail)
            refine hK.out _ _ ⟨A.out.c3, A.out.c4⟩ (fun _ => ?_)
            clear hK K
            (try simp only [Act.put, List.setIfInBounds_toArray, List.set_cons_zero, List.set_cons_succ])
            generalize z7 = z1 at A ⊢
            refine wpAnyH_take (i := 4) (v := .bool false) ov4 (by kernel_rfl) (by kernel_rfl) (by kernel_rfl) (fun _ _ _ h => h) (Or.inl ⟨by rfl, fun V' hS => ?_⟩) ⟨A.out.c3, A.out.c4⟩ ?_
            · go_simp
            simp only [Act.put, List.setIfInBounds_toArray, List.set_cons_zero, List.set_cons_succ]
            refine wpAnyH_done (by kernel_rfl) ?_ _
            clear HH
            go_wp2
            go_meet
            case rel => exact ⟨N, S, _, _, x, ks, by have := HKS.out; omega, A.out⟩
        by_cases e3 : kd = 3
        · as_aux_lemma =>
            subst e3
            have M9' : Hid (AM b3 b4 N S w W9 [.slice ta3 x.ts.length tc3, .slice ca3 x.cs.length cc3, .slice sa3 x.ss.length sc3, .slice da3 x.d.length dc3, .int .i64 x.n] [.slice ta4 x.ts.length tc4, .slice ca4 x.cs.length cc4, .slice sa4 x.ss.length sc4, .slice da4 x.d.length dc4, .int .i64 x.n] x (.slice ka ks.length kc) (.slice va ks.length vc) ks ks ∧ CBox W9 b9 44 [.int .i64 3, .slice ua b.length uc, .bool op]) := M9.out
            clear M9
            have M9 := M9'
            clear M9'
            skip
            obtain ⟨ec, hec⟩ : ∃ ec, chk x = ec := ⟨_, rfl⟩
            obtain ⟨bs, hbs⟩ : ∃ bs, serR x = bs := ⟨_, rfl⟩
            have HSX : Hid (Small x) := M9.out.1.sm.small
            have hbl : bs.length ≤ 67108864 := by
              rw [← hbs]
              unfold serR
              split
              · rename_i e; exact ser_small (chk_may e) HSX.out
              · simp
            have C1 : Hid (∀ (W : World) (R : Nat → Prop) (u : Value), CW R W u x → Calls Try.prog 35 #[u] W fun e w' => (∃ oa oc, e = .returned (.tuple #[.slice oa bs.length oc, .int .i64 ec]) ∧ BL (fun _ => True) w' (.slice oa bs.length oc) bs) ∧ Below W.heap.size W w') := fun W R u q => (serialize_is W u x q HSX.out).mono fun e w' q9 => by
              obtain ⟨v', rfl, hO, hB⟩ := q9
              rw [hbs] at hO
              obtain ⟨oa, oc, rfl⟩ := owns_sl hO
              exact ⟨⟨oa, oc, by rw [hec], SL.own hO (by omega) fun _ _ => trivial⟩, hB⟩
            have C2 : Hid (∀ (W : World) (R : Nat → Prop) (u : Value), CW R W u x → Calls Try.prog 36 #[u] W fun e w' => (∃ oa oc, e = .returned (.tuple #[.slice oa bs.length oc, .int .i64 ec]) ∧ BL (fun _ => True) w' (.slice oa bs.length oc) bs) ∧ Below W.heap.size W w') := fun W R u q => (rserialize_is W u x q HSX.out).mono fun e w' q9 => by
              obtain ⟨v', rfl, hO, hB⟩ := q9
              rw [hbs] at hO
              obtain ⟨oa, oc, rfl⟩ := owns_sl hO
              exact ⟨⟨oa, oc, by rw [hec], SL.own hO (by omega) fun _ _ => trivial⟩, hB⟩
            clear hec hbs hbl
            go_upto_region 27 with fail
            have a0 : W9.cell? ⟨b3, 0, none⟩ = some (.slice ta3 x.ts.length tc3) := M9.out.1.c3.cell 0
            have a1 : W9.cell? ⟨b3, 1, none⟩ = some (.slice ca3 x.cs.length cc3) := M9.out.1.c3.cell 1
            have a2 : W9.cell? ⟨b3, 2, none⟩ = some (.slice sa3 x.ss.length sc3) := M9.out.1.c3.cell 2
            have a3 : W9.cell? ⟨b3, 3, none⟩ = some (.slice da3 x.d.length dc3) := M9.out.1.c3.cell 3
            have a4 : W9.cell? ⟨b3, 4, none⟩ = some (.int .i64 x.n) := M9.out.1.c3.cell 4
            go_upto_region 28 with (first | (go_at_call 35; refine (C1.out _ _ _ M9.out.1.k3).mono ?_; rintro e w20 ⟨⟨oa, oc, rfl, hO⟩, hB⟩; (have M20 : Hid (AM b3 b4 N S w w20 [.slice ta3 x.ts.length tc3, .slice ca3 x.cs.length cc3, .slice sa3 x.ss.length sc3, .slice da3 x.d.length dc3, .int .i64 x.n] [.slice ta4 x.ts.length tc4, .slice ca4 x.cs.length cc4, .slice sa4 x.ss.length sc4, .slice da4 x.d.length dc4, .int .i64 x.n] x (.slice ka ks.length kc) (.slice va ks.length vc) ks ks ∧ BL (fun _ => True) w20 (.slice oa bs.length oc) bs) := ⟨M9.out.1.past hB, hO⟩); (clear hB hO)))
            clear a0 a1 a2 a3 a4 M9
            have a0 : w20.cell? ⟨b4, 0, none⟩ = some (.slice ta4 x.ts.length tc4) := M20.out.1.c4.cell 0
            have a1 : w20.cell? ⟨b4, 1, none⟩ = some (.slice ca4 x.cs.length cc4) := M20.out.1.c4.cell 1
            have a2 : w20.cell? ⟨b4, 2, none⟩ = some (.slice sa4 x.ss.length sc4) := M20.out.1.c4.cell 2
            have a3 : w20.cell? ⟨b4, 3, none⟩ = some (.slice da4 x.d.length dc4) := M20.out.1.c4.cell 3
            have a4 : w20.cell? ⟨b4, 4, none⟩ = some (.int .i64 x.n) := M20.out.1.c4.cell 4
            go_upto_region 29 with (first | (go_at_call 36; refine (C2.out _ _ _ M20.out.1.k4).mono ?_; rintro e w21 ⟨⟨ob, od, rfl, hO⟩, hB⟩; (have M21 : Hid (AM b3 b4 N S w w21 [.slice ta3 x.ts.length tc3, .slice ca3 x.cs.length cc3, .slice sa3 x.ss.length sc3, .slice da3 x.d.length dc3, .int .i64 x.n] [.slice ta4 x.ts.length tc4, .slice ca4 x.cs.length cc4, .slice sa4 x.ss.length sc4, .slice da4 x.d.length dc4, .int .i64 x.n] x (.slice ka ks.length kc) (.slice va ks.length vc) ks ks ∧ BL (fun _ => True) w21 (.slice oa bs.length oc) bs ∧ BL (fun _ => True) w21 (.slice ob bs.length od) bs) := ⟨M20.out.1.past hB, M20.out.2.past hB, hO⟩); (clear hB hO)))
            clear a0 a1 a2 a3 a4 M20
            refine wp_region_lit ?_
            refine lst_val (v := .int .i64 ec) (by kernel_rfl) ?_ ?_
            · go_simp
            simp only [Act.put, List.setIfInBounds_toArray, List.set_cons_zero, List.set_cons_succ]
            refine lst_val (v := .int .i64 ec) (by kernel_rfl) ?_ ?_
            · go_simp
            simp only [Act.put, List.setIfInBounds_toArray, List.set_cons_zero, List.set_cons_succ]
            refine lst_val (v := .bool false) (by kernel_rfl) ?_ ?_
            · go_simp
            simp only [Act.put, List.setIfInBounds_toArray, List.set_cons_zero, List.set_cons_succ]
            refine lst_val (v := .bool false) (by kernel_rfl) ?_ ?_
            · go_simp
            simp only [Act.put, List.setIfInBounds_toArray, List.set_cons_zero, List.set_cons_succ]
            refine lst_val (v := .slice oa bs.length oc) (by kernel_rfl) ?_ ?_
            · go_simp
            simp only [Act.put, List.setIfInBounds_toArray, List.set_cons_zero, List.set_cons_succ]
            refine lst_val (v := .slice ob bs.length od) (by kernel_rfl) ?_ ?_
            · go_simp
            simp only [Act.put, List.setIfInBounds_toArray, List.set_cons_zero, List.set_cons_succ]
            refine lst_call (by kernel_rfl) (by first | (go_simp; done) | (go_simp; first | exact rfl | exact ⟨rfl, rfl⟩ | exact ⟨rfl, rfl, rfl⟩)) (sameB_is _ _ _ bs M21.out.2.1 M21.out.2.2) ?_
            rintro e w22 ⟨rfl, hB⟩
            refine ⟨_, rfl, ?_⟩
            have MF : Hid (AM b3 b4 N S w w22 [.slice ta3 x.ts.length tc3, .slice ca3 x.cs.length cc3, .slice sa3 x.ss.length sc3, .slice da3 x.d.length dc3, .int .i64 x.n] [.slice ta4 x.ts.length tc4, .slice ca4 x.cs.length cc4, .slice sa4 x.ss.length sc4, .slice da4 x.d.length dc4, .int .i64 x.n] x (.slice ka ks.length kc) (.slice va ks.length vc) ks ks) := M21.out.1.past hB
            clear hB M21
            simp only [Act.put, List.setIfInBounds_toArray, List.set_cons_zero, List.set_cons_succ]
            refine lst_val (v := .bool false) (by kernel_rfl) ?_ ?_
            · go_simp
            simp only [Act.put, List.setIfInBounds_toArray, List.set_cons_zero, List.set_cons_succ]
            refine lst_val (v := .bool false) (by kernel_rfl) ?_ ?_
            · go_simp
            simp only [Act.put, List.setIfInBounds_toArray, List.set_cons_zero, List.set_cons_succ]
            refine wpList_nil ?_
            go_wp2
            go_meet
            case rel => exact ⟨N, S, _, _, x, ks, by have := HKS.out; omega, MF.out⟩
        by_cases e4 : kd = 4
        · as_aux_lemma =>
            subst e4
            have M9' : Hid (AM b3 b4 N S w W9 [.slice ta3 x.ts.length tc3, .slice ca3 x.cs.length cc3, .slice sa3 x.ss.length sc3, .slice da3 x.d.length dc3, .int .i64 x.n] [.slice ta4 x.ts.length tc4, .slice ca4 x.cs.length cc4, .slice sa4 x.ss.length sc4, .slice da4 x.d.length dc4, .int .i64 x.n] x (.slice ka ks.length kc) (.slice va ks.length vc) ks ks ∧ CBox W9 b9 44 [.int .i64 4, .slice ua b.length uc, .bool op]) := M9.out
            clear M9
            have M9 := M9'
            clear M9'
            skip
            obtain ⟨ec, hec⟩ : ∃ ec, chk x = ec := ⟨_, rfl⟩
            obtain ⟨m, hm⟩ : ∃ m, (serR x).length = m := ⟨_, rfl⟩
            have HSX : Hid (Small x) := M9.out.1.sm.small
            have hm2 : (if chk x = 0 then (ser x).length else 0) = m := by rw [← hm]; unfold serR; split <;> rfl
            have C1 : Hid (∀ (W : World) (R : Nat → Prop) (u : Value), CW R W u x → Calls Try.prog 38 #[u] W fun e w' => e = .returned (.tuple #[.int .i64 (m : Int), .int .i64 ec]) ∧ Below W.heap.size W w') := fun W R u q => by have q9 := size_is W u x q HSX.out; rw [hm2, hec] at q9; exact q9
            have C2 : Hid (∀ (W : World) (R : Nat → Prop) (u : Value), CW R W u x → Calls Try.prog 39 #[u] W fun e w' => e = .returned (.tuple #[.int .i64 (m : Int), .int .i64 ec]) ∧ Below W.heap.size W w') := fun W R u q => by have q9 := rsize_is W u x q HSX.out; rw [hm, hec] at q9; exact q9
            clear hec hm hm2
            go_upto_region 32 with fail
            have a0 : W9.cell? ⟨b3, 0, none⟩ = some (.slice ta3 x.ts.length tc3) := M9.out.1.c3.cell 0
            have a1 : W9.cell? ⟨b3, 1, none⟩ = some (.slice ca3 x.cs.length cc3) := M9.out.1.c3.cell 1
            have a2 : W9.cell? ⟨b3, 2, none⟩ = some (.slice sa3 x.ss.length sc3) := M9.out.1.c3.cell 2
            have a3 : W9.cell? ⟨b3, 3, none⟩ = some (.slice da3 x.d.length dc3) := M9.out.1.c3.cell 3
            have a4 : W9.cell? ⟨b3, 4, none⟩ = some (.int .i64 x.n) := M9.out.1.c3.cell 4
            go_upto_region 33 with (first | (go_at_call 38; refine (C1.out _ _ _ M9.out.1.k3).mono ?_; rintro e w20 ⟨rfl, hB⟩; (have M20 : Hid (AM b3 b4 N S w w20 [.slice ta3 x.ts.length tc3, .slice ca3 x.cs.length cc3, .slice sa3 x.ss.length sc3, .slice da3 x.d.length dc3, .int .i64 x.n] [.slice ta4 x.ts.length tc4, .slice ca4 x.cs.length cc4, .slice sa4 x.ss.length sc4, .slice da4 x.d.length dc4, .int .i64 x.n] x (.slice ka ks.length kc) (.slice va ks.length vc) ks ks ∧ True) := ⟨M9.out.1.past hB, trivial⟩); (clear hB)))
            clear a0 a1 a2 a3 a4 M9
            have a0 : w20.cell? ⟨b4, 0, none⟩ = some (.slice ta4 x.ts.length tc4) := M20.out.1.c4.cell 0
            have a1 : w20.cell? ⟨b4, 1, none⟩ = some (.slice ca4 x.cs.length cc4) := M20.out.1.c4.cell 1
            have a2 : w20.cell? ⟨b4, 2, none⟩ = some (.slice sa4 x.ss.length sc4) := M20.out.1.c4.cell 2
            have a3 : w20.cell? ⟨b4, 3, none⟩ = some (.slice da4 x.d.length dc4) := M20.out.1.c4.cell 3
            have a4 : w20.cell? ⟨b4, 4, none⟩ = some (.int .i64 x.n) := M20.out.1.c4.cell 4
            go_upto_region 34 with (first | (go_at_call 39; refine (C2.out _ _ _ M20.out.1.k4).mono ?_; rintro e w21 ⟨rfl, hB⟩; (have M21 : Hid (AM b3 b4 N S w w21 [.slice ta3 x.ts.length tc3, .slice ca3 x.cs.length cc3, .slice sa3 x.ss.length sc3, .slice da3 x.d.length dc3, .int .i64 x.n] [.slice ta4 x.ts.length tc4, .slice ca4 x.cs.length cc4, .slice sa4 x.ss.length sc4, .slice da4 x.d.length dc4, .int .i64 x.n] x (.slice ka ks.length kc) (.slice va ks.length vc) ks ks ∧ True ∧ True) := ⟨M20.out.1.past hB, trivial, trivial⟩); (clear hB)))
            clear a0 a1 a2 a3 a4 M20
            have MF : Hid (AM b3 b4 N S w w21 [.slice ta3 x.ts.length tc3, .slice ca3 x.cs.length cc3, .slice sa3 x.ss.length sc3, .slice da3 x.d.length dc3, .int .i64 x.n] [.slice ta4 x.ts.length tc4, .slice ca4 x.cs.length cc4, .slice sa4 x.ss.length sc4, .slice da4 x.d.length dc4, .int .i64 x.n] x (.slice ka ks.length kc) (.slice va ks.length vc) ks ks) := M21.out.1
            clear M21
            refine wp_region_lit ?_
            refine lst_val (v := .int .i64 ec) (by kernel_rfl) ?_ ?_
            · go_simp
            simp only [Act.put, List.setIfInBounds_toArray, List.set_cons_zero, List.set_cons_succ]
            refine lst_val (v := .int .i64 ec) (by kernel_rfl) ?_ ?_
            · go_simp
            simp only [Act.put, List.setIfInBounds_toArray, List.set_cons_zero, List.set_cons_succ]
            refine lst_val (v := .bool false) (by kernel_rfl) ?_ ?_
            · go_simp
            simp only [Act.put, List.setIfInBounds_toArray, List.set_cons_zero, List.set_cons_succ]
            refine lst_val (v := .bool false) (by kernel_rfl) ?_ ?_
            · go_simp
            simp only [Act.put, List.setIfInBounds_toArray, List.set_cons_zero, List.set_cons_succ]
            refine lst_val (v := .int .i64 (m : Int)) (by kernel_rfl) ?_ ?_
            · go_simp
            simp only [Act.put, List.setIfInBounds_toArray, List.set_cons_zero, List.set_cons_succ]
            refine lst_val (v := .int .i64 (m : Int)) (by kernel_rfl) ?_ ?_
            · go_simp
            simp only [Act.put, List.setIfInBounds_toArray, List.set_cons_zero, List.set_cons_succ]
            refine lst_val (v := .bool false) (by kernel_rfl) ?_ ?_
            · go_simp
            simp only [Act.put, List.setIfInBounds_toArray, List.set_cons_zero, List.set_cons_succ]
            refine lst_val (v := .bool false) (by kernel_rfl) ?_ ?_
            · go_simp
            simp only [Act.put, List.setIfInBounds_toArray, List.set_cons_zero, List.set_cons_succ]
            refine wpList_nil ?_
            go_wp2
            go_meet
            case rel => exact ⟨N, S, _, _, x, ks, by have := HKS.out; omega, MF.out⟩
        by_cases e5 : kd = 5
        · as_aux_lemma =>
            subst e5
            have M9' : Hid (AM b3 b4 N S w W9 [.slice ta3 x.ts.length tc3, .slice ca3 x.cs.length cc3, .slice sa3 x.ss.length sc3, .slice da3 x.d.length dc3, .int .i64 x.n] [.slice ta4 x.ts.length tc4, .slice ca4 x.cs.length cc4, .slice sa4 x.ss.length sc4, .slice da4 x.d.length dc4, .int .i64 x.n] x (.slice ka ks.length kc) (.slice va ks.length vc) ks ks ∧ CBox W9 b9 44 [.int .i64 5, .slice ua b.length uc, .bool op]) := M9.out
            clear M9
            have M9 := M9'
            clear M9'
            skip
            go_upto_region 37 with fail
            obtain ⟨⟨ec, y⟩, hl⟩ : ∃ p, layC x b = p := ⟨_, rfl⟩
            have HGY : Hid (Gcn y) := by have := gcn_lay (b := b) M9.out.1.sm; rw [hl] at this; exact this
            have HSY : Hid (Small y) := HGY.out.small
            have HSX : Hid (Small x) := M9.out.1.sm.small
            have LA : Hid (∀ (W : World) (R R2 : Nat → Prop) (u1 u2 : Value), CW R W u1 x → BL R2 W u2 b → Calls Try.prog 27 #[u1, u2] W fun e w' => (∃ ta tc ca cc sa sc da dc, e = .returned (.tuple #[.agg #[.slice ta y.ts.length tc, .slice ca y.cs.length cc, .slice sa y.ss.length sc, .slice da y.d.length dc, .int .i64 y.n], .int .i64 ec]) ∧ DW W.heap.size w' (.agg #[.slice ta y.ts.length tc, .slice ca y.cs.length cc, .slice sa y.ss.length sc, .slice da y.d.length dc, .int .i64 y.n]) y) ∧ Below W.heap.size W w') := fun W R R2 u1 u2 q1 q2 => (lay_is W u1 u2 x b q1 q2 HSX.out HBL.out).mono fun e w' q9 => by
              rw [hl] at q9
              obtain ⟨⟨v', rfl, hD⟩, hB⟩ := q9
              obtain ⟨ta, tc, ca, cc, sa, sc, da, dc, rfl⟩ := hD.dw.form
              exact ⟨⟨ta, tc, ca, cc, sa, sc, da, dc, rfl, hD.dw⟩, hB⟩
            have LD : Hid (∀ (W : World) (R R2 : Nat → Prop) (u1 u2 : Value), CW R W u1 x → BL R2 W u2 b → Calls Try.prog 28 #[u1, u2] W fun e w' => (∃ ta tc ca cc sa sc da dc, e = .returned (.tuple #[.agg #[.slice ta y.ts.length tc, .slice ca y.cs.length cc, .slice sa y.ss.length sc, .slice da y.d.length dc, .int .i64 y.n], .int .i64 ec]) ∧ DW W.heap.size w' (.agg #[.slice ta y.ts.length tc, .slice ca y.cs.length cc, .slice sa y.ss.length sc, .slice da y.d.length dc, .int .i64 y.n]) y) ∧ Below W.heap.size W w') := fun W R R2 u1 u2 q1 q2 => (rlay_is W u1 u2 x b q1 q2 HSX.out HBL.out).mono fun e w' q9 => by
              rw [hl] at q9
              obtain ⟨⟨v', rfl, hD⟩, hB⟩ := q9
              obtain ⟨ta, tc, ca, cc, sa, sc, da, dc, rfl⟩ := hD.dw.form
              exact ⟨⟨ta, tc, ca, cc, sa, sc, da, dc, rfl, hD.dw⟩, hB⟩
            clear hl
            go_cut [22, 23] (fun s22 s23 wx => ∃ (b22 : Nat) (ta5 : Option Addr) (tc5 : Nat) (ca5 : Option Addr) (cc5 : Nat) (sa5 : Option Addr) (sc5 : Nat) (da5 : Option Addr) (dc5 : Nat), s22 = .pointer (some ⟨b22, 0, none⟩) ∧ s23 = .int .i64 ec ∧ AM b3 b4 N S w wx [.slice ta3 x.ts.length tc3, .slice ca3 x.cs.length cc3, .slice sa3 x.ss.length sc3, .slice da3 x.d.length dc3, .int .i64 x.n] [.slice ta4 x.ts.length tc4, .slice ca4 x.cs.length cc4, .slice sa4 x.ss.length sc4, .slice da4 x.d.length dc4, .int .i64 x.n] x (.slice ka ks.length kc) (.slice va ks.length vc) ks ks ∧ CBox wx b9 44 [.int .i64 5, .slice ua b.length uc, .bool op] ∧ CBox wx b22 28 [.slice ta5 y.ts.length tc5, .slice ca5 y.cs.length cc5, .slice sa5 y.ss.length sc5, .slice da5 y.d.length dc5, .int .i64 y.n] ∧ DW N wx (.agg #[.slice ta5 y.ts.length tc5, .slice ca5 y.cs.length cc5, .slice sa5 y.ss.length sc5, .slice da5 y.d.length dc5, .int .i64 y.n]) y ∧ N ≤ b22)
            case first =>
              refine wp_region_held_drew (S := fun V' => CBox V' b9 44 [.int .i64 5, .slice ua b.length uc, .bool op] ∧ CBox V' b3 28 [.slice ta3 x.ts.length tc3, .slice ca3 x.cs.length cc3, .slice sa3 x.ss.length sc3, .slice da3 x.d.length dc3, .int .i64 x.n]) (by kernel_rfl) ⟨M9.out.2.past below_drew, M9.out.1.c3.past below_drew⟩ (fun HH => ?_)
              have A : Hid (AM b3 b4 N S w W9.drew [.slice ta3 x.ts.length tc3, .slice ca3 x.cs.length cc3, .slice sa3 x.ss.length sc3, .slice da3 x.d.length dc3, .int .i64 x.n] [.slice ta4 x.ts.length tc4, .slice ca4 x.cs.length cc4, .slice sa4 x.ss.length sc4, .slice da4 x.d.length dc4, .int .i64 x.n] x (.slice ka ks.length kc) (.slice va ks.length vc) ks ks) := M9.out.1.past below_drew
              clear M9
              generalize W9.drew = z1 at HH A ⊢
              refine wpAnyH_take (i := 0) (v := .agg #[.slice ta3 x.ts.length tc3, .slice ca3 x.cs.length cc3, .slice sa3 x.ss.length sc3, .slice da3 x.d.length dc3, .int .i64 x.n]) ov0 (by kernel_rfl) (by kernel_rfl) (by kernel_rfl) (fun _ _ _ h => h) (Or.inl ⟨by rfl, fun V' hS => ?_⟩) HH ?_
              · obtain ⟨_, hS0⟩ := hS; have a0 := hS0.cell 0; have a1 := hS0.cell 1; have a2 := hS0.cell 2; have a3 := hS0.cell 3; have a4 := hS0.cell 4
                go_simp
              simp only [Act.put, List.setIfInBounds_toArray, List.set_cons_zero, List.set_cons_succ]
              refine wpAnyH_take (i := 1) (v := .pointer (some ⟨b9, 1, none⟩)) ov1 (by kernel_rfl) (by kernel_rfl) (by kernel_rfl) (fun _ _ _ h => h) (Or.inl ⟨by rfl, fun V' hS => ?_⟩) HH ?_
              · go_simp
              simp only [Act.put, List.setIfInBounds_toArray, List.set_cons_zero, List.set_cons_succ]
              refine wpAnyH_take (i := 2) (v := .slice ua b.length uc) ov2 (by kernel_rfl) (by kernel_rfl) (by kernel_rfl) (fun _ _ _ h => h) (Or.inl ⟨by rfl, fun V' hS => ?_⟩) HH ?_
              · have c0 := hS.1.cell 1
                go_simp
              simp only [Act.put, List.setIfInBounds_toArray, List.set_cons_zero, List.set_cons_succ]
              refine wpAnyH_ready (rs := [3, 8]) (by kernel_rfl) (by simp) ?_
              refine AllReadyH.cons ov3 (fun K hK => ?_) (AllReadyH.cons ov8 (fun K hK => ?_) AllReadyH.nil)
              · rw [if_pos (by rfl)]
                go_simp
                refine (own_is _ _ b (HUB.out _ A.out.bel) HBL.out).mono ?_
                rintro e z9 ⟨v9, rfl, hO, hB⟩
                have F9 : Hid (BL (fun _ => True) z9 v9 b) := SL.own hO (by have := HBL.out; omega) fun _ _ => trivial
                have H9 := And.intro (HH.1.past hB) (HH.2.past hB)
                clear HH
                have HH := H9
                clear H9
                have q9 := A.out.past hB
                clear A
                have A : Hid _ := q9
                clear q9
                (try (have q9 := F0.out; clear F0; have F0 : Hid (CBox z9 b22 28 [.slice none 0 0, .slice none 0 0, .slice none 0 0, .slice none 0 0, .int .i64 0]) := CBox.past q9 hB; clear q9))
                have FO := F9
                clear F9 hO hB
                (try go_wp2_with fail)
                refine hK.out _ _ HH (fun _ => ?_)
                clear hK K
                (try simp only [Act.put, List.setIfInBounds_toArray, List.set_cons_zero, List.set_cons_succ])
                generalize z9 = z1 at *
                refine wpAnyH_ready (rs := [4, 8]) (by kernel_rfl) (by simp) ?_
                refine AllReadyH.cons ov4 (fun K hK => ?_) (AllReadyH.cons ov8 (fun K hK => ?_) AllReadyH.nil)
                · rw [if_pos (by rfl)]
                  go_simp
                  refine (LA.out _ _ _ _ _ A.out.k3 FO.out).mono ?_
                  rintro e z9 ⟨⟨ta5, tc5, ca5, cc5, sa5, sc5, da5, dc5, rfl, hD⟩, hB⟩
                  have F9 : Hid (DW N z9 (.agg #[.slice ta5 y.ts.length tc5, .slice ca5 y.cs.length cc5, .slice sa5 y.ss.length sc5, .slice da5 y.d.length dc5, .int .i64 y.n]) y) := hD.base A.out.NW
                  clear FO
                  have H9 := And.intro (HH.1.past hB) (HH.2.past hB)
                  clear HH
                  have HH := H9
                  clear H9
                  have q9 := A.out.past hB
                  clear A
                  have A : Hid _ := q9
                  clear q9
                  (try (have q9 := F0.out; clear F0; have F0 : Hid (CBox z9 b22 28 [.slice none 0 0, .slice none 0 0, .slice none 0 0, .slice none 0 0, .int .i64 0]) := CBox.past q9 hB; clear q9))
                  have FP := F9
                  clear F9 hD hB
                  (try go_wp2_with fail)
                  refine hK.out _ _ HH (fun _ => ?_)
                  clear hK K
                  (try simp only [Act.put, List.setIfInBounds_toArray, List.set_cons_zero, List.set_cons_succ])
                  generalize z9 = z1 at *
                  refine wpAnyH_take (i := 5) (v := .tuple #[.agg #[.slice ta5 y.ts.length tc5, .slice ca5 y.cs.length cc5, .slice sa5 y.ss.length sc5, .slice da5 y.d.length dc5, .int .i64 y.n], .int .i64 ec]) ov5 (by kernel_rfl) (by kernel_rfl) (by kernel_rfl) (fun _ _ _ h => h) (Or.inl ⟨by rfl, fun V' hS => ?_⟩) HH ?_
                  · go_simp
                  simp only [Act.put, List.setIfInBounds_toArray, List.set_cons_zero, List.set_cons_succ]
                  refine wpAnyH_take (i := 6) (v := .agg #[.slice ta5 y.ts.length tc5, .slice ca5 y.cs.length cc5, .slice sa5 y.ss.length sc5, .slice da5 y.d.length dc5, .int .i64 y.n]) ov6 (by kernel_rfl) (by kernel_rfl) (by kernel_rfl) (fun _ _ _ h => h) (Or.inl ⟨by rfl, fun V' hS => ?_⟩) HH ?_
                  · go_simp
                  simp only [Act.put, List.setIfInBounds_toArray, List.set_cons_zero, List.set_cons_succ]
                  refine wpAnyH_take (i := 7) (v := .int .i64 ec) ov7 (by kernel_rfl) (by kernel_rfl) (by kernel_rfl) (fun _ _ _ h => h) (Or.inl ⟨by rfl, fun V' hS => ?_⟩) HH ?_
                  · go_simp
                  simp only [Act.put, List.setIfInBounds_toArray, List.set_cons_zero, List.set_cons_succ]
                  refine wpAnyH_ready (rs := [8]) (by kernel_rfl) (by simp) ?_
                  refine AllReadyH.cons ov8 (fun K hK => ?_) AllReadyH.nil
                  rw [if_pos (by rfl)]
                  refine wp_newC rfl ?_
                  intro zl hB F9
                  have HX0 : Hid (N ≤ z1.heap.size) := A.out.NW
                  have H9 := And.intro (HH.1.past hB) (HH.2.past hB)
                  clear HH
                  have HH := H9
                  clear H9
                  have q9 := A.out.past hB
                  clear A
                  have A : Hid _ := q9
                  clear q9
                  (try (have q9 := FO.out; clear FO; have FO : Hid (BL (fun _ => True) zl v9 b) := BL.past q9 hB; clear q9))
                  (try (have q9 := FP.out; clear FP; have FP : Hid (DW N zl (.agg #[.slice ta5 y.ts.length tc5, .slice ca5 y.cs.length cc5, .slice sa5 y.ss.length sc5, .slice da5 y.d.length dc5, .int .i64 y.n]) y) := DW.past q9 hB; clear q9))
                  have F0 : Hid (CBox zl z1.heap.size 28 [.slice none 0 0, .slice none 0 0, .slice none 0 0, .slice none 0 0, .int .i64 0]) := F9
                  clear F9 hB
                  refine hK.out _ zl HH (fun _ => ?_)
                  clear hK K
                  (try simp only [Act.put, List.setIfInBounds_toArray, List.set_cons_zero, List.set_cons_succ])
                  generalize z1.heap.size = b22 at F0 HX0 ⊢
                  generalize zl = z1 at *
                  refine wpAnyH_ready (rs := [9]) (by kernel_rfl) (by simp) ?_
                  refine AllReadyH.cons ov9 (fun K hK => ?_) AllReadyH.nil
                  rw [if_pos (by rfl)]
                  refine wp_store5 _ _ rfl b22 (t0 := ta5) (n0 := y.ts.length) (m0 := tc5) (t1 := ca5) (n1 := y.cs.length) (m1 := cc5) (t2 := sa5) (n2 := y.ss.length) (m2 := sc5) (t3 := da5) (n3 := y.d.length) (m3 := dc5) (z := y.n) F0.out (by kernel_rfl) (by kernel_rfl) ?_
                  intro z3 hs hc
                  have MZ : Hid (AM b3 b4 N S w z3 [.slice ta3 x.ts.length tc3, .slice ca3 x.cs.length cc3, .slice sa3 x.ss.length sc3, .slice da3 x.d.length dc3, .int .i64 x.n] [.slice ta4 x.ts.length tc4, .slice ca4 x.cs.length cc4, .slice sa4 x.ss.length sc4, .slice da4 x.d.length dc4, .int .i64 x.n] x (.slice ka ks.length kc) (.slice va ks.length vc) ks ks ∧ CBox z3 b9 44 [.int .i64 5, .slice ua b.length uc, .bool op] ∧ CBox z3 b22 28 [.slice ta5 y.ts.length tc5, .slice ca5 y.cs.length cc5, .slice sa5 y.ss.length sc5, .slice da5 y.d.length dc5, .int .i64 y.n] ∧ DW N z3 (.agg #[.slice ta5 y.ts.length tc5, .slice ca5 y.cs.length cc5, .slice sa5 y.ss.length sc5, .slice da5 y.d.length dc5, .int .i64 y.n]) y ∧ N ≤ b22) := ⟨A.out.but (hs.mono fun g (e : g = b22) => by have := HX0.out; omega), HH.1.but hs (fun (e : b9 = b22) => box_ne HH.1 F0.out (by decide) e), hc, FP.out.alien hs F0.out (by decide) (by decide) (by decide), HX0.out⟩
                  have HHN := And.intro MZ.out.2.1 MZ.out.1.c3
                  clear hs hc A HH FP F0 HX0
                  refine hK.out _ z3 HHN (fun _ => ?_)
                  clear hK K
                  (try simp only [Act.put])
                  refine wpAnyH_take (i := 10) (v := .int .i64 ec) ov10 (by kernel_rfl) (by kernel_rfl) (by kernel_rfl) (fun _ _ _ h => h) (Or.inl ⟨by rfl, fun V' hS => ?_⟩) HHN ?_
                  · go_simp
                  simp only [Act.put, List.setIfInBounds_toArray, List.set_cons_zero, List.set_cons_succ]
                  refine wpAnyH_done (by kernel_rfl) ?_ _
                  clear HHN
                  go_wp2
                  go_meet
                  case rel => exact ⟨b22, ta5, tc5, ca5, cc5, sa5, sc5, da5, dc5, rfl, rfl, MZ.out⟩
                · rw [if_pos (by rfl)]
                  refine wp_newC rfl ?_
                  intro zl hB F9
                  have HX0 : Hid (N ≤ z1.heap.size) := A.out.NW
                  have H9 := And.intro (HH.1.past hB) (HH.2.past hB)
                  clear HH
                  have HH := H9
                  clear H9
                  have q9 := A.out.past hB
                  clear A
                  have A : Hid _ := q9
                  clear q9
                  (try (have q9 := FO.out; clear FO; have FO : Hid (BL (fun _ => True) zl v9 b) := BL.past q9 hB; clear q9))
                  (try (have q9 := FP.out; clear FP; have FP : Hid (DW N zl (.agg #[.slice ta5 y.ts.length tc5, .slice ca5 y.cs.length cc5, .slice sa5 y.ss.length sc5, .slice da5 y.d.length dc5, .int .i64 y.n]) y) := DW.past q9 hB; clear q9))
                  have F0 : Hid (CBox zl z1.heap.size 28 [.slice none 0 0, .slice none 0 0, .slice none 0 0, .slice none 0 0, .int .i64 0]) := F9
                  clear F9 hB
                  refine hK.out _ zl HH (fun _ => ?_)
                  clear hK K
                  (try simp only [Act.put, List.setIfInBounds_toArray, List.set_cons_zero, List.set_cons_succ])
                  generalize z1.heap.size = b22 at F0 HX0 ⊢
                  generalize zl = z1 at *
                  refine wpAnyH_ready (rs := [4]) (by kernel_rfl) (by simp) ?_
                  refine AllReadyH.cons ov4 (fun K hK => ?_) AllReadyH.nil
                  rw [if_pos (by rfl)]
                  go_simp
                  refine (LA.out _ _ _ _ _ A.out.k3 FO.out).mono ?_
                  rintro e z9 ⟨⟨ta5, tc5, ca5, cc5, sa5, sc5, da5, dc5, rfl, hD⟩, hB⟩
                  have F9 : Hid (DW N z9 (.agg #[.slice ta5 y.ts.length tc5, .slice ca5 y.cs.length cc5, .slice sa5 y.ss.length sc5, .slice da5 y.d.length dc5, .int .i64 y.n]) y) := hD.base A.out.NW
                  clear FO
                  have H9 := And.intro (HH.1.past hB) (HH.2.past hB)
                  clear HH
                  have HH := H9
                  clear H9
                  have q9 := A.out.past hB
                  clear A
                  have A : Hid _ := q9
                  clear q9
                  (try (have q9 := F0.out; clear F0; have F0 : Hid (CBox z9 b22 28 [.slice none 0 0, .slice none 0 0, .slice none 0 0, .slice none 0 0, .int .i64 0]) := CBox.past q9 hB; clear q9))
                  have FP := F9
                  clear F9 hD hB
                  (try go_wp2_with fail)
                  refine hK.out _ _ HH (fun _ => ?_)
                  clear hK K
                  (try simp only [Act.put, List.setIfInBounds_toArray, List.set_cons_zero, List.set_cons_succ])
                  generalize z9 = z1 at *
                  refine wpAnyH_take (i := 5) (v := .tuple #[.agg #[.slice ta5 y.ts.length tc5, .slice ca5 y.cs.length cc5, .slice sa5 y.ss.length sc5, .slice da5 y.d.length dc5, .int .i64 y.n], .int .i64 ec]) ov5 (by kernel_rfl) (by kernel_rfl) (by kernel_rfl) (fun _ _ _ h => h) (Or.inl ⟨by rfl, fun V' hS => ?_⟩) HH ?_
                  · go_simp
                  simp only [Act.put, List.setIfInBounds_toArray, List.set_cons_zero, List.set_cons_succ]
                  refine wpAnyH_take (i := 6) (v := .agg #[.slice ta5 y.ts.length tc5, .slice ca5 y.cs.length cc5, .slice sa5 y.ss.length sc5, .slice da5 y.d.length dc5, .int .i64 y.n]) ov6 (by kernel_rfl) (by kernel_rfl) (by kernel_rfl) (fun _ _ _ h => h) (Or.inl ⟨by rfl, fun V' hS => ?_⟩) HH ?_
                  · go_simp
                  simp only [Act.put, List.setIfInBounds_toArray, List.set_cons_zero, List.set_cons_succ]
                  refine wpAnyH_take (i := 7) (v := .int .i64 ec) ov7 (by kernel_rfl) (by kernel_rfl) (by kernel_rfl) (fun _ _ _ h => h) (Or.inl ⟨by rfl, fun V' hS => ?_⟩) HH ?_
                  · go_simp
                  simp only [Act.put, List.setIfInBounds_toArray, List.set_cons_zero, List.set_cons_succ]
                  refine wpAnyH_ready (rs := [9]) (by kernel_rfl) (by simp) ?_
                  refine AllReadyH.cons ov9 (fun K hK => ?_) AllReadyH.nil
                  rw [if_pos (by rfl)]
                  refine wp_store5 _ _ rfl b22 (t0 := ta5) (n0 := y.ts.length) (m0 := tc5) (t1 := ca5) (n1 := y.cs.length) (m1 := cc5) (t2 := sa5) (n2 := y.ss.length) (m2 := sc5) (t3 := da5) (n3 := y.d.length) (m3 := dc5) (z := y.n) F0.out (by kernel_rfl) (by kernel_rfl) ?_
                  intro z3 hs hc
                  have MZ : Hid (AM b3 b4 N S w z3 [.slice ta3 x.ts.length tc3, .slice ca3 x.cs.length cc3, .slice sa3 x.ss.length sc3, .slice da3 x.d.length dc3, .int .i64 x.n] [.slice ta4 x.ts.length tc4, .slice ca4 x.cs.length cc4, .slice sa4 x.ss.length sc4, .slice da4 x.d.length dc4, .int .i64 x.n] x (.slice ka ks.length kc) (.slice va ks.length vc) ks ks ∧ CBox z3 b9 44 [.int .i64 5, .slice ua b.length uc, .bool op] ∧ CBox z3 b22 28 [.slice ta5 y.ts.length tc5, .slice ca5 y.cs.length cc5, .slice sa5 y.ss.length sc5, .slice da5 y.d.length dc5, .int .i64 y.n] ∧ DW N z3 (.agg #[.slice ta5 y.ts.length tc5, .slice ca5 y.cs.length cc5, .slice sa5 y.ss.length sc5, .slice da5 y.d.length dc5, .int .i64 y.n]) y ∧ N ≤ b22) := ⟨A.out.but (hs.mono fun g (e : g = b22) => by have := HX0.out; omega), HH.1.but hs (fun (e : b9 = b22) => box_ne HH.1 F0.out (by decide) e), hc, FP.out.alien hs F0.out (by decide) (by decide) (by decide), HX0.out⟩
                  have HHN := And.intro MZ.out.2.1 MZ.out.1.c3
                  clear hs hc A HH FP F0 HX0
                  refine hK.out _ z3 HHN (fun _ => ?_)
                  clear hK K
                  (try simp only [Act.put])
                  refine wpAnyH_take (i := 10) (v := .int .i64 ec) ov10 (by kernel_rfl) (by kernel_rfl) (by kernel_rfl) (fun _ _ _ h => h) (Or.inl ⟨by rfl, fun V' hS => ?_⟩) HHN ?_
                  · go_simp
                  simp only [Act.put, List.setIfInBounds_toArray, List.set_cons_zero, List.set_cons_succ]
                  refine wpAnyH_done (by kernel_rfl) ?_ _
                  clear HHN
                  go_wp2
                  go_meet
                  case rel => exact ⟨b22, ta5, tc5, ca5, cc5, sa5, sc5, da5, dc5, rfl, rfl, MZ.out⟩
              · rw [if_pos (by rfl)]
                refine wp_newC rfl ?_
                intro zl hB F9
                have HX0 : Hid (N ≤ z1.heap.size) := A.out.NW
                have H9 := And.intro (HH.1.past hB) (HH.2.past hB)
                clear HH
                have HH := H9
                clear H9
                have q9 := A.out.past hB
                clear A
                have A : Hid _ := q9
                clear q9
                (try (have q9 := FO.out; clear FO; have FO : Hid (BL (fun _ => True) zl v9 b) := BL.past q9 hB; clear q9))
                (try (have q9 := FP.out; clear FP; have FP : Hid (DW N zl (.agg #[.slice ta5 y.ts.length tc5, .slice ca5 y.cs.length cc5, .slice sa5 y.ss.length sc5, .slice da5 y.d.length dc5, .int .i64 y.n]) y) := DW.past q9 hB; clear q9))
                have F0 : Hid (CBox zl z1.heap.size 28 [.slice none 0 0, .slice none 0 0, .slice none 0 0, .slice none 0 0, .int .i64 0]) := F9
                clear F9 hB
                refine hK.out _ zl HH (fun _ => ?_)
                clear hK K
                (try simp only [Act.put, List.setIfInBounds_toArray, List.set_cons_zero, List.set_cons_succ])
                generalize z1.heap.size = b22 at F0 HX0 ⊢
                generalize zl = z1 at *
                refine wpAnyH_ready (rs := [3]) (by kernel_rfl) (by simp) ?_
                refine AllReadyH.cons ov3 (fun K hK => ?_) AllReadyH.nil
                rw [if_pos (by rfl)]
                go_simp
                refine (own_is _ _ b (HUB.out _ A.out.bel) HBL.out).mono ?_
                rintro e z9 ⟨v9, rfl, hO, hB⟩
                have F9 : Hid (BL (fun _ => True) z9 v9 b) := SL.own hO (by have := HBL.out; omega) fun _ _ => trivial
                have H9 := And.intro (HH.1.past hB) (HH.2.past hB)
                clear HH
                have HH := H9
                clear H9
                have q9 := A.out.past hB
                clear A
                have A : Hid _ := q9
                clear q9
                (try (have q9 := F0.out; clear F0; have F0 : Hid (CBox z9 b22 28 [.slice none 0 0, .slice none 0 0, .slice none 0 0, .slice none 0 0, .int .i64 0]) := CBox.past q9 hB; clear q9))
                have FO := F9
                clear F9 hO hB
                (try go_wp2_with fail)
                refine hK.out _ _ HH (fun _ => ?_)
                clear hK K
                (try simp only [Act.put, List.setIfInBounds_toArray, List.set_cons_zero, List.set_cons_succ])
                generalize z9 = z1 at *
                refine wpAnyH_ready (rs := [4]) (by kernel_rfl) (by simp) ?_
                refine AllReadyH.cons ov4 (fun K hK => ?_) AllReadyH.nil
                rw [if_pos (by rfl)]
                go_simp
                refine (LA.out _ _ _ _ _ A.out.k3 FO.out).mono ?_
                rintro e z9 ⟨⟨ta5, tc5, ca5, cc5, sa5, sc5, da5, dc5, rfl, hD⟩, hB⟩
                have F9 : Hid (DW N z9 (.agg #[.slice ta5 y.ts.length tc5, .slice ca5 y.cs.length cc5, .slice sa5 y.ss.length sc5, .slice da5 y.d.length dc5, .int .i64 y.n]) y) := hD.base A.out.NW
                clear FO
                have H9 := And.intro (HH.1.past hB) (HH.2.past hB)
                clear HH
                have HH := H9
                clear H9
                have q9 := A.out.past hB
                clear A
                have A : Hid _ := q9
                clear q9
                (try (have q9 := F0.out; clear F0; have F0 : Hid (CBox z9 b22 28 [.slice none 0 0, .slice none 0 0, .slice none 0 0, .slice none 0 0, .int .i64 0]) := CBox.past q9 hB; clear q9))
                have FP := F9
                clear F9 hD hB
                (try go_wp2_with fail)
                refine hK.out _ _ HH (fun _ => ?_)
                clear hK K
                (try simp only [Act.put, List.setIfInBounds_toArray, List.set_cons_zero, List.set_cons_succ])
                generalize z9 = z1 at *
                refine wpAnyH_take (i := 5) (v := .tuple #[.agg #[.slice ta5 y.ts.length tc5, .slice ca5 y.cs.length cc5, .slice sa5 y.ss.length sc5, .slice da5 y.d.length dc5, .int .i64 y.n], .int .i64 ec]) ov5 (by kernel_rfl) (by kernel_rfl) (by kernel_rfl) (fun _ _ _ h => h) (Or.inl ⟨by rfl, fun V' hS => ?_⟩) HH ?_
                · go_simp
                simp only [Act.put, List.setIfInBounds_toArray, List.set_cons_zero, List.set_cons_succ]
                refine wpAnyH_take (i := 6) (v := .agg #[.slice ta5 y.ts.length tc5, .slice ca5 y.cs.length cc5, .slice sa5 y.ss.length sc5, .slice da5 y.d.length dc5, .int .i64 y.n]) ov6 (by kernel_rfl) (by kernel_rfl) (by kernel_rfl) (fun _ _ _ h => h) (Or.inl ⟨by rfl, fun V' hS => ?_⟩) HH ?_
                · go_simp
                simp only [Act.put, List.setIfInBounds_toArray, List.set_cons_zero, List.set_cons_succ]
                refine wpAnyH_take (i := 7) (v := .int .i64 ec) ov7 (by kernel_rfl) (by kernel_rfl) (by kernel_rfl) (fun _ _ _ h => h) (Or.inl ⟨by rfl, fun V' hS => ?_⟩) HH ?_
                · go_simp
                simp only [Act.put, List.setIfInBounds_toArray, List.set_cons_zero, List.set_cons_succ]
                refine wpAnyH_ready (rs := [9]) (by kernel_rfl) (by simp) ?_
                refine AllReadyH.cons ov9 (fun K hK => ?_) AllReadyH.nil
                rw [if_pos (by rfl)]
                refine wp_store5 _ _ rfl b22 (t0 := ta5) (n0 := y.ts.length) (m0 := tc5) (t1 := ca5) (n1 := y.cs.length) (m1 := cc5) (t2 := sa5) (n2 := y.ss.length) (m2 := sc5) (t3 := da5) (n3 := y.d.length) (m3 := dc5) (z := y.n) F0.out (by kernel_rfl) (by kernel_rfl) ?_
                intro z3 hs hc
                have MZ : Hid (AM b3 b4 N S w z3 [.slice ta3 x.ts.length tc3, .slice ca3 x.cs.length cc3, .slice sa3 x.ss.length sc3, .slice da3 x.d.length dc3, .int .i64 x.n] [.slice ta4 x.ts.length tc4, .slice ca4 x.cs.length cc4, .slice sa4 x.ss.length sc4, .slice da4 x.d.length dc4, .int .i64 x.n] x (.slice ka ks.length kc) (.slice va ks.length vc) ks ks ∧ CBox z3 b9 44 [.int .i64 5, .slice ua b.length uc, .bool op] ∧ CBox z3 b22 28 [.slice ta5 y.ts.length tc5, .slice ca5 y.cs.length cc5, .slice sa5 y.ss.length sc5, .slice da5 y.d.length dc5, .int .i64 y.n] ∧ DW N z3 (.agg #[.slice ta5 y.ts.length tc5, .slice ca5 y.cs.length cc5, .slice sa5 y.ss.length sc5, .slice da5 y.d.length dc5, .int .i64 y.n]) y ∧ N ≤ b22) := ⟨A.out.but (hs.mono fun g (e : g = b22) => by have := HX0.out; omega), HH.1.but hs (fun (e : b9 = b22) => box_ne HH.1 F0.out (by decide) e), hc, FP.out.alien hs F0.out (by decide) (by decide) (by decide), HX0.out⟩
                have HHN := And.intro MZ.out.2.1 MZ.out.1.c3
                clear hs hc A HH FP F0 HX0
                refine hK.out _ z3 HHN (fun _ => ?_)
                clear hK K
                (try simp only [Act.put])
                refine wpAnyH_take (i := 10) (v := .int .i64 ec) ov10 (by kernel_rfl) (by kernel_rfl) (by kernel_rfl) (fun _ _ _ h => h) (Or.inl ⟨by rfl, fun V' hS => ?_⟩) HHN ?_
                · go_simp
                simp only [Act.put, List.setIfInBounds_toArray, List.set_cons_zero, List.set_cons_succ]
                refine wpAnyH_done (by kernel_rfl) ?_ _
                clear HHN
                go_wp2
                go_meet
                case rel => exact ⟨b22, ta5, tc5, ca5, cc5, sa5, sc5, da5, dc5, rfl, rfl, MZ.out⟩
            case rest =>
              obtain ⟨b22, ta5, tc5, ca5, cc5, sa5, sc5, da5, dc5, rfl, rfl, hZ⟩ := hcut
              have MC : Hid (AM b3 b4 N S w wc [.slice ta3 x.ts.length tc3, .slice ca3 x.cs.length cc3, .slice sa3 x.ss.length sc3, .slice da3 x.d.length dc3, .int .i64 x.n] [.slice ta4 x.ts.length tc4, .slice ca4 x.cs.length cc4, .slice sa4 x.ss.length sc4, .slice da4 x.d.length dc4, .int .i64 x.n] x (.slice ka ks.length kc) (.slice va ks.length vc) ks ks ∧ CBox wc b9 44 [.int .i64 5, .slice ua b.length uc, .bool op] ∧ CBox wc b22 28 [.slice ta5 y.ts.length tc5, .slice ca5 y.cs.length cc5, .slice sa5 y.ss.length sc5, .slice da5 y.d.length dc5, .int .i64 y.n] ∧ DW N wc (.agg #[.slice ta5 y.ts.length tc5, .slice ca5 y.cs.length cc5, .slice sa5 y.ss.length sc5, .slice da5 y.d.length dc5, .int .i64 y.n]) y ∧ N ≤ b22) := hZ
              clear hZ M9 LA
              have e1 : wc.cell? ⟨b9, 1, none⟩ = some (.slice ua b.length uc) := MC.out.2.1.cell 1
              have a0 : wc.cell? ⟨b4, 0, none⟩ = some (.slice ta4 x.ts.length tc4) := MC.out.1.c4.cell 0
              have a1 : wc.cell? ⟨b4, 1, none⟩ = some (.slice ca4 x.cs.length cc4) := MC.out.1.c4.cell 1
              have a2 : wc.cell? ⟨b4, 2, none⟩ = some (.slice sa4 x.ss.length sc4) := MC.out.1.c4.cell 2
              have a3 : wc.cell? ⟨b4, 3, none⟩ = some (.slice da4 x.d.length dc4) := MC.out.1.c4.cell 3
              have a4 : wc.cell? ⟨b4, 4, none⟩ = some (.int .i64 x.n) := MC.out.1.c4.cell 4
              go_upto_region 39 with (go_at_call 28; refine (LD.out _ _ _ _ _ MC.out.1.k4 (HUB.out _ MC.out.1.bel)).mono ?_; rintro e w38 ⟨⟨ta6, tc6, ca6, cc6, sa6, sc6, da6, dc6, rfl, hD⟩, hB⟩; (have M38 : Hid ((AM b3 b4 N S w w38 [.slice ta3 x.ts.length tc3, .slice ca3 x.cs.length cc3, .slice sa3 x.ss.length sc3, .slice da3 x.d.length dc3, .int .i64 x.n] [.slice ta4 x.ts.length tc4, .slice ca4 x.cs.length cc4, .slice sa4 x.ss.length sc4, .slice da4 x.d.length dc4, .int .i64 x.n] x (.slice ka ks.length kc) (.slice va ks.length vc) ks ks ∧ CBox w38 b9 44 [.int .i64 5, .slice ua b.length uc, .bool op] ∧ CBox w38 b22 28 [.slice ta5 y.ts.length tc5, .slice ca5 y.cs.length cc5, .slice sa5 y.ss.length sc5, .slice da5 y.d.length dc5, .int .i64 y.n] ∧ CW (fun g => N ≤ g) w38 (.agg #[.slice ta5 y.ts.length tc5, .slice ca5 y.cs.length cc5, .slice sa5 y.ss.length sc5, .slice da5 y.d.length dc5, .int .i64 y.n]) y ∧ CW (fun g => N ≤ g) w38 (.agg #[.slice ta6 y.ts.length tc6, .slice ca6 y.cs.length cc6, .slice sa6 y.ss.length sc6, .slice da6 y.d.length dc6, .int .i64 y.n]) y) ∧ N ≤ b22 ∧ N ≤ w38.heap.size) := ⟨⟨MC.out.1.past hB, MC.out.2.1.past hB, MC.out.2.2.1.past hB, (MC.out.2.2.2.1.cw HSY.out).past hB, (hD.cw HSY.out).mono fun g hg _ => Nat.le_trans MC.out.1.NW hg⟩, MC.out.2.2.2.2, Nat.le_trans MC.out.1.NW hB.size⟩); (clear hD hB))
              clear a0 a1 a2 a3 a4 e1 MC LD
              have b9' := below_alloc w38 (.cells #[.slice ta6 y.ts.length tc6, .slice ca6 y.cs.length cc6, .slice sa6 y.ss.length sc6, .slice da6 y.d.length dc6, .int .i64 y.n] 28)
              have M39 : Hid (AM b3 b4 N S w (w38.alloc (.cells #[.slice ta6 y.ts.length tc6, .slice ca6 y.cs.length cc6, .slice sa6 y.ss.length sc6, .slice da6 y.d.length dc6, .int .i64 y.n] 28)) [.slice ta3 x.ts.length tc3, .slice ca3 x.cs.length cc3, .slice sa3 x.ss.length sc3, .slice da3 x.d.length dc3, .int .i64 x.n] [.slice ta4 x.ts.length tc4, .slice ca4 x.cs.length cc4, .slice sa4 x.ss.length sc4, .slice da4 x.d.length dc4, .int .i64 x.n] x (.slice ka ks.length kc) (.slice va ks.length vc) ks ks ∧ CBox (w38.alloc (.cells #[.slice ta6 y.ts.length tc6, .slice ca6 y.cs.length cc6, .slice sa6 y.ss.length sc6, .slice da6 y.d.length dc6, .int .i64 y.n] 28)) b9 44 [.int .i64 5, .slice ua b.length uc, .bool op] ∧ CBox (w38.alloc (.cells #[.slice ta6 y.ts.length tc6, .slice ca6 y.cs.length cc6, .slice sa6 y.ss.length sc6, .slice da6 y.d.length dc6, .int .i64 y.n] 28)) b22 28 [.slice ta5 y.ts.length tc5, .slice ca5 y.cs.length cc5, .slice sa5 y.ss.length sc5, .slice da5 y.d.length dc5, .int .i64 y.n] ∧ CBox (w38.alloc (.cells #[.slice ta6 y.ts.length tc6, .slice ca6 y.cs.length cc6, .slice sa6 y.ss.length sc6, .slice da6 y.d.length dc6, .int .i64 y.n] 28)) w38.heap.size 28 [.slice ta6 y.ts.length tc6, .slice ca6 y.cs.length cc6, .slice sa6 y.ss.length sc6, .slice da6 y.d.length dc6, .int .i64 y.n] ∧ CW (fun g => N ≤ g) (w38.alloc (.cells #[.slice ta6 y.ts.length tc6, .slice ca6 y.cs.length cc6, .slice sa6 y.ss.length sc6, .slice da6 y.d.length dc6, .int .i64 y.n] 28)) (.agg #[.slice ta5 y.ts.length tc5, .slice ca5 y.cs.length cc5, .slice sa5 y.ss.length sc5, .slice da5 y.d.length dc5, .int .i64 y.n]) y ∧ CW (fun g => N ≤ g) (w38.alloc (.cells #[.slice ta6 y.ts.length tc6, .slice ca6 y.cs.length cc6, .slice sa6 y.ss.length sc6, .slice da6 y.d.length dc6, .int .i64 y.n] 28)) (.agg #[.slice ta6 y.ts.length tc6, .slice ca6 y.cs.length cc6, .slice sa6 y.ss.length sc6, .slice da6 y.d.length dc6, .int .i64 y.n]) y) := ⟨M38.out.1.1.past b9', M38.out.1.2.1.past b9', M38.out.1.2.2.1.past b9', CBox.new w38 _ [_, _, _, _, _], M38.out.1.2.2.2.1.past b9', M38.out.1.2.2.2.2.past b9'⟩
              have HNB : Hid (N ≤ b22 ∧ N ≤ w38.heap.size) := M38.out.2
              clear b9' M38
              generalize w38.heap.size = b24 at M39 HNB ⊢
              generalize w38.alloc _ = W39 at M39 ⊢
              refine wp_region_lit ?_
              refine lst_val (v := .int .i64 ec) (by kernel_rfl) ?_ ?_
              · go_simp
              simp only [Act.put, List.setIfInBounds_toArray, List.set_cons_zero, List.set_cons_succ]
              refine lst_val (v := .int .i64 ec) (by kernel_rfl) ?_ ?_
              · go_simp
              simp only [Act.put, List.setIfInBounds_toArray, List.set_cons_zero, List.set_cons_succ]
              refine lst_val (v := .bool false) (by kernel_rfl) ?_ ?_
              · go_simp
              simp only [Act.put, List.setIfInBounds_toArray, List.set_cons_zero, List.set_cons_succ]
              refine lst_val (v := .bool false) (by kernel_rfl) ?_ ?_
              · go_simp
              simp only [Act.put, List.setIfInBounds_toArray, List.set_cons_zero, List.set_cons_succ]
              refine lst_val (v := .agg #[.slice ta5 y.ts.length tc5, .slice ca5 y.cs.length cc5, .slice sa5 y.ss.length sc5, .slice da5 y.d.length dc5, .int .i64 y.n]) (by kernel_rfl) ?_ ?_
              · have a0 := M39.out.2.2.1.cell 0; have a1 := M39.out.2.2.1.cell 1; have a2 := M39.out.2.2.1.cell 2; have a3 := M39.out.2.2.1.cell 3; have a4 := M39.out.2.2.1.cell 4
                go_simp
              simp only [Act.put, List.setIfInBounds_toArray, List.set_cons_zero, List.set_cons_succ]
              refine lst_val (v := .agg #[.slice ta6 y.ts.length tc6, .slice ca6 y.cs.length cc6, .slice sa6 y.ss.length sc6, .slice da6 y.d.length dc6, .int .i64 y.n]) (by kernel_rfl) ?_ ?_
              · have a0 := M39.out.2.2.2.1.cell 0; have a1 := M39.out.2.2.2.1.cell 1; have a2 := M39.out.2.2.2.1.cell 2; have a3 := M39.out.2.2.2.1.cell 3; have a4 := M39.out.2.2.2.1.cell 4
                go_simp
              simp only [Act.put, List.setIfInBounds_toArray, List.set_cons_zero, List.set_cons_succ]
              refine lst_call (by kernel_rfl) (by first | (go_simp; done) | (go_simp; first | exact rfl | exact ⟨rfl, rfl⟩ | exact ⟨rfl, rfl, rfl⟩)) (same_is _ _ _ y M39.out.2.2.2.2.1 M39.out.2.2.2.2.2) ?_
              rintro e w40 ⟨rfl, hB⟩
              refine ⟨_, rfl, ?_⟩
              have M40 : Hid (AM b3 b4 N S w w40 [.slice ta3 x.ts.length tc3, .slice ca3 x.cs.length cc3, .slice sa3 x.ss.length sc3, .slice da3 x.d.length dc3, .int .i64 x.n] [.slice ta4 x.ts.length tc4, .slice ca4 x.cs.length cc4, .slice sa4 x.ss.length sc4, .slice da4 x.d.length dc4, .int .i64 x.n] x (.slice ka ks.length kc) (.slice va ks.length vc) ks ks ∧ CBox w40 b9 44 [.int .i64 5, .slice ua b.length uc, .bool op] ∧ CBox w40 b22 28 [.slice ta5 y.ts.length tc5, .slice ca5 y.cs.length cc5, .slice sa5 y.ss.length sc5, .slice da5 y.d.length dc5, .int .i64 y.n] ∧ CBox w40 b24 28 [.slice ta6 y.ts.length tc6, .slice ca6 y.cs.length cc6, .slice sa6 y.ss.length sc6, .slice da6 y.d.length dc6, .int .i64 y.n] ∧ CW (fun g => N ≤ g) w40 (.agg #[.slice ta5 y.ts.length tc5, .slice ca5 y.cs.length cc5, .slice sa5 y.ss.length sc5, .slice da5 y.d.length dc5, .int .i64 y.n]) y ∧ CW (fun g => N ≤ g) w40 (.agg #[.slice ta6 y.ts.length tc6, .slice ca6 y.cs.length cc6, .slice sa6 y.ss.length sc6, .slice da6 y.d.length dc6, .int .i64 y.n]) y) := ⟨M39.out.1.past hB, M39.out.2.1.past hB, M39.out.2.2.1.past hB, M39.out.2.2.2.1.past hB, M39.out.2.2.2.2.1.past hB, M39.out.2.2.2.2.2.past hB⟩
              clear hB M39
              simp only [Act.put, List.setIfInBounds_toArray, List.set_cons_zero, List.set_cons_succ]
              refine lst_val (v := .bool false) (by kernel_rfl) ?_ ?_
              · go_simp
              simp only [Act.put, List.setIfInBounds_toArray, List.set_cons_zero, List.set_cons_succ]
              refine lst_val (v := .bool false) (by kernel_rfl) ?_ ?_
              · go_simp
              simp only [Act.put, List.setIfInBounds_toArray, List.set_cons_zero, List.set_cons_succ]
              refine wpList_nil ?_
              by_cases ex : ec = 0
              rotate_left
              · have qx : (ec == 0) = false := by rw [beq_eq_false_iff_ne]; exact ex
                clear ex
                have MF : Hid (AM b3 b4 N S w w40 [.slice ta3 x.ts.length tc3, .slice ca3 x.cs.length cc3, .slice sa3 x.ss.length sc3, .slice da3 x.d.length dc3, .int .i64 x.n] [.slice ta4 x.ts.length tc4, .slice ca4 x.cs.length cc4, .slice sa4 x.ss.length sc4, .slice da4 x.d.length dc4, .int .i64 x.n] x (.slice ka ks.length kc) (.slice va ks.length vc) ks ks) := M40.out.1
                clear M40 HNB
                go_wp2
                go_meet
                case rel => exact ⟨N, S, _, _, x, ks, by have := HKS.out; omega, MF.out⟩
              have qx : (ec == 0) = true := by rw [ex]; rfl
              clear ex
              by_cases ei : k < 100
              rotate_left
              · have qi : ¬ (k : Int) < 100 := by omega
                clear ei
                have MF : Hid (AM b3 b4 N S w w40 [.slice ta3 x.ts.length tc3, .slice ca3 x.cs.length cc3, .slice sa3 x.ss.length sc3, .slice da3 x.d.length dc3, .int .i64 x.n] [.slice ta4 x.ts.length tc4, .slice ca4 x.cs.length cc4, .slice sa4 x.ss.length sc4, .slice da4 x.d.length dc4, .int .i64 x.n] x (.slice ka ks.length kc) (.slice va ks.length vc) ks ks) := M40.out.1
                clear M40 HNB
                go_wp2
                go_meet
                case rel => exact ⟨N, S, _, _, x, ks, by have := HKS.out; omega, MF.out⟩
              have qi : (k : Int) < 100 := by omega
              clear ei
              go_upto_region 42 with fail
              clear qx qi
              as_aux_lemma =>
                have HKW : Hid ((∀ g, OwnV (.slice ka ks.length kc) g → g < N) ∧ ∀ g, OwnV (.slice va ks.length vc) g → g < N) := ⟨M40.out.1.kN, M40.out.1.wN⟩
                have HN3 : Hid (b3 < N ∧ b4 < N) := M40.out.1.bN
                have G0 : Hid (AM b3 b4 w40.heap.size (fun g => S g ∨ (N ≤ g ∧ g < w40.heap.size)) w w40 [.slice ta3 x.ts.length tc3, .slice ca3 x.cs.length cc3, .slice sa3 x.ss.length sc3, .slice da3 x.d.length dc3, .int .i64 x.n] [.slice ta4 x.ts.length tc4, .slice ca4 x.cs.length cc4, .slice sa4 x.ss.length sc4, .slice da4 x.d.length dc4, .int .i64 x.n] x (.slice ka ks.length kc) (.slice va ks.length vc) ks ks) := M40.out.1.grow
                have KA : Hid (CW (fun g => S g ∨ (N ≤ g ∧ g < w40.heap.size)) w40 (.agg #[.slice ta5 y.ts.length tc5, .slice ca5 y.cs.length cc5, .slice sa5 y.ss.length sc5, .slice da5 y.d.length dc5, .int .i64 y.n]) y ∧ CW (fun g => S g ∨ (N ≤ g ∧ g < w40.heap.size)) w40 (.agg #[.slice ta6 y.ts.length tc6, .slice ca6 y.cs.length cc6, .slice sa6 y.ss.length sc6, .slice da6 y.d.length dc6, .int .i64 y.n]) y) := ⟨M40.out.2.2.2.2.1.mono fun g hg hl => Or.inr ⟨hg, hl⟩, M40.out.2.2.2.2.2.mono fun g hg hl => Or.inr ⟨hg, hl⟩⟩
                have QB : Hid (CBox w40 b22 28 [.slice ta5 y.ts.length tc5, .slice ca5 y.cs.length cc5, .slice sa5 y.ss.length sc5, .slice da5 y.d.length dc5, .int .i64 y.n] ∧ CBox w40 b24 28 [.slice ta6 y.ts.length tc6, .slice ca6 y.cs.length cc6, .slice sa6 y.ss.length sc6, .slice da6 y.d.length dc6, .int .i64 y.n]) := ⟨M40.out.2.2.1, M40.out.2.2.2.1⟩
                have HGN : Hid (N ≤ w40.heap.size) := M40.out.1.NW
                clear M40
                obtain ⟨S2, hS2⟩ : ∃ S2 : Nat → Prop, S2 = (fun g => S g ∨ (N ≤ g ∧ g < w40.heap.size)) := ⟨_, rfl⟩
                rw [← hS2] at G0 KA
                clear hS2
                obtain ⟨N2, hN2⟩ : ∃ N2, N2 = w40.heap.size := ⟨_, rfl⟩
                rw [← hN2] at G0
                have HGN2 : Hid (N ≤ N2) := by have h1 := HGN.out; unfold Hid; omega
                clear hN2 HGN
                refine wp_region_held_drew (S := fun V' => CBox V' b22 28 [.slice ta5 y.ts.length tc5, .slice ca5 y.cs.length cc5, .slice sa5 y.ss.length sc5, .slice da5 y.d.length dc5, .int .i64 y.n] ∧ CBox V' b24 28 [.slice ta6 y.ts.length tc6, .slice ca6 y.cs.length cc6, .slice sa6 y.ss.length sc6, .slice da6 y.d.length dc6, .int .i64 y.n]) (by kernel_rfl) ⟨QB.out.1.past below_drew, QB.out.2.past below_drew⟩ (fun HH => ?_)
                have G1 : Hid (AM b3 b4 N2 S2 w w40.drew [.slice ta3 x.ts.length tc3, .slice ca3 x.cs.length cc3, .slice sa3 x.ss.length sc3, .slice da3 x.d.length dc3, .int .i64 x.n] [.slice ta4 x.ts.length tc4, .slice ca4 x.cs.length cc4, .slice sa4 x.ss.length sc4, .slice da4 x.d.length dc4, .int .i64 x.n] x (.slice ka ks.length kc) (.slice va ks.length vc) ks ks) := G0.out.past below_drew
                have KB : Hid (CW S2 w40.drew (.agg #[.slice ta5 y.ts.length tc5, .slice ca5 y.cs.length cc5, .slice sa5 y.ss.length sc5, .slice da5 y.d.length dc5, .int .i64 y.n]) y ∧ CW S2 w40.drew (.agg #[.slice ta6 y.ts.length tc6, .slice ca6 y.cs.length cc6, .slice sa6 y.ss.length sc6, .slice da6 y.d.length dc6, .int .i64 y.n]) y) := ⟨KA.out.1.past below_drew, KA.out.2.past below_drew⟩
                clear G0 KA QB
                generalize w40.drew = z1 at HH G1 KB ⊢
                refine wpAnyH_take (i := 0) (v := .agg #[.slice ta5 y.ts.length tc5, .slice ca5 y.cs.length cc5, .slice sa5 y.ss.length sc5, .slice da5 y.d.length dc5, .int .i64 y.n]) ov0 (by kernel_rfl) (by kernel_rfl) (by kernel_rfl) (fun _ _ _ h => h) (Or.inl ⟨by rfl, fun V' hS => ?_⟩) HH ?_
                · obtain ⟨hS0, _⟩ := hS; have a0 := hS0.cell 0; have a1 := hS0.cell 1; have a2 := hS0.cell 2; have a3 := hS0.cell 3; have a4 := hS0.cell 4
                  go_simp
                simp only [Act.put, List.setIfInBounds_toArray, List.set_cons_zero, List.set_cons_succ]
                refine wpAnyH_take (i := 1) (v := .agg #[.slice ta6 y.ts.length tc6, .slice ca6 y.cs.length cc6, .slice sa6 y.ss.length sc6, .slice da6 y.d.length dc6, .int .i64 y.n]) ov1 (by kernel_rfl) (by kernel_rfl) (by kernel_rfl) (fun _ _ _ h => h) (Or.inl ⟨by rfl, fun V' hS => ?_⟩) HH ?_
                · obtain ⟨_, hS0⟩ := hS; have a0 := hS0.cell 0; have a1 := hS0.cell 1; have a2 := hS0.cell 2; have a3 := hS0.cell 3; have a4 := hS0.cell 4
                  go_simp
                simp only [Act.put, List.setIfInBounds_toArray, List.set_cons_zero, List.set_cons_succ]
                refine wpAnyH_ready (rs := [2]) (by kernel_rfl) (by simp) ?_
                refine AllReadyH.cons ov2 (fun K hK => ?_) AllReadyH.nil
                rw [if_pos (by rfl)]
                refine wp_store5 _ _ rfl b3 (t0 := ta5) (n0 := y.ts.length) (m0 := tc5) (t1 := ca5) (n1 := y.cs.length) (m1 := cc5) (t2 := sa5) (n2 := y.ss.length) (m2 := sc5) (t3 := da5) (n3 := y.d.length) (m3 := dc5) (z := y.n) G1.out.c3 (by kernel_rfl) (by kernel_rfl) ?_
                intro z2 hs hc
                have F1 : Hid (But (fun g => g = b3 ∨ g = b4) z1 z2 ∧ CBox z2 b3 28 [.slice ta5 y.ts.length tc5, .slice ca5 y.cs.length cc5, .slice sa5 y.ss.length sc5, .slice da5 y.d.length dc5, .int .i64 y.n] ∧ CBox z2 b4 28 [.slice ta4 x.ts.length tc4, .slice ca4 x.cs.length cc4, .slice sa4 x.ss.length sc4, .slice da4 x.d.length dc4, .int .i64 x.n]) := ⟨hs.mono fun g e => Or.inl e, hc, G1.out.c4.but hs (fun (e : b4 = b3) => G1.out.ne e.symm)⟩
                have H1 := And.intro (HH.1.but F1.out.1 (fun e => by have h1 := HNB.out; have h2 := HN3.out; omega)) (HH.2.but F1.out.1 (fun e => by have h1 := HNB.out; have h2 := HN3.out; omega))
                clear hs hc
                refine hK.out _ z2 H1 (fun _ => ?_)
                clear hK K
                (try simp only [Act.put])
                clear HH
                refine wpAnyH_ready (rs := [3]) (by kernel_rfl) (by simp) ?_
                refine AllReadyH.cons ov3 (fun K hK => ?_) AllReadyH.nil
                rw [if_pos (by rfl)]
                refine wp_store5 _ _ rfl b4 (t0 := ta6) (n0 := y.ts.length) (m0 := tc6) (t1 := ca6) (n1 := y.cs.length) (m1 := cc6) (t2 := sa6) (n2 := y.ss.length) (m2 := sc6) (t3 := da6) (n3 := y.d.length) (m3 := dc6) (z := y.n) F1.out.2.2 (by kernel_rfl) (by kernel_rfl) ?_
                intro z3 hs hc
                have F2 : Hid (But (fun g => g = b3 ∨ g = b4) z1 z3 ∧ CBox z3 b3 28 [.slice ta5 y.ts.length tc5, .slice ca5 y.cs.length cc5, .slice sa5 y.ss.length sc5, .slice da5 y.d.length dc5, .int .i64 y.n] ∧ CBox z3 b4 28 [.slice ta6 y.ts.length tc6, .slice ca6 y.cs.length cc6, .slice sa6 y.ss.length sc6, .slice da6 y.d.length dc6, .int .i64 y.n]) := ⟨F1.out.1.trans (hs.mono fun g e => Or.inr e), F1.out.2.1.but hs (fun (e : b3 = b4) => G1.out.ne e), hc⟩
                have H2 := And.intro (H1.1.but hs (fun (e : b22 = b4) => by have h1 := HNB.out; have h2 := HN3.out; omega)) (H1.2.but hs (fun (e : b24 = b4) => by have h1 := HNB.out; have h2 := HN3.out; omega))
                clear hs hc
                refine hK.out _ z3 H2 (fun _ => ?_)
                clear hK K
                (try simp only [Act.put])
                clear H1 F1
                refine wpAnyH_done (by kernel_rfl) ?_ _
                have M3 : Hid (AM b3 b4 N2 S2 w z3 [.slice ta5 y.ts.length tc5, .slice ca5 y.cs.length cc5, .slice sa5 y.ss.length sc5, .slice da5 y.d.length dc5, .int .i64 y.n] [.slice ta6 y.ts.length tc6, .slice ca6 y.cs.length cc6, .slice sa6 y.ss.length sc6, .slice da6 y.d.length dc6, .int .i64 y.n] y (.slice ka ks.length kc) (.slice va ks.length vc) ks ks ∧ CBox z3 b22 28 [.slice ta5 y.ts.length tc5, .slice ca5 y.cs.length cc5, .slice sa5 y.ss.length sc5, .slice da5 y.d.length dc5, .int .i64 y.n] ∧ CBox z3 b24 28 [.slice ta6 y.ts.length tc6, .slice ca6 y.cs.length cc6, .slice sa6 y.ss.length sc6, .slice da6 y.d.length dc6, .int .i64 y.n]) := ⟨G1.out.put F2.out.1 F2.out.2.1 F2.out.2.2 KB.out.1 KB.out.2 HGY.out, H2.1, H2.2⟩
                clear G1 KB F2 H2 HN3
                by_cases el : ks.length < 50
                rotate_left
                · have qk : ¬ (ks.length : Int) < 50 := by omega
                  clear el HKW
                  have M3b : Hid (AM b3 b4 N2 S2 w z3 [.slice ta5 y.ts.length tc5, .slice ca5 y.cs.length cc5, .slice sa5 y.ss.length sc5, .slice da5 y.d.length dc5, .int .i64 y.n] [.slice ta6 y.ts.length tc6, .slice ca6 y.cs.length cc6, .slice sa6 y.ss.length sc6, .slice da6 y.d.length dc6, .int .i64 y.n] y (.slice ka ks.length kc) (.slice va ks.length vc) ks ks) := M3.out.1
                  clear M3
                  go_wp2
                  go_meet
                  case rel => exact ⟨N2, S2, _, _, y, ks, by have := HKS.out; omega, M3b.out⟩
                have qk : (ks.length : Int) < 50 := by omega
                have HEL : Hid (ks.length < 50) := el
                clear el
                go_upto_region 44 with fail
                clear qk
                refine wp_region_held_drew (S := fun V' => CBox V' b22 28 [.slice ta5 y.ts.length tc5, .slice ca5 y.cs.length cc5, .slice sa5 y.ss.length sc5, .slice da5 y.d.length dc5, .int .i64 y.n] ∧ CBox V' b24 28 [.slice ta6 y.ts.length tc6, .slice ca6 y.cs.length cc6, .slice sa6 y.ss.length sc6, .slice da6 y.d.length dc6, .int .i64 y.n]) (by kernel_rfl) ⟨M3.out.2.1.past below_drew, M3.out.2.2.past below_drew⟩ (fun HH => ?_)
                have A : Hid (AM b3 b4 N2 S2 w z3.drew [.slice ta5 y.ts.length tc5, .slice ca5 y.cs.length cc5, .slice sa5 y.ss.length sc5, .slice da5 y.d.length dc5, .int .i64 y.n] [.slice ta6 y.ts.length tc6, .slice ca6 y.cs.length cc6, .slice sa6 y.ss.length sc6, .slice da6 y.d.length dc6, .int .i64 y.n] y (.slice ka ks.length kc) (.slice va ks.length vc) ks ks) := M3.out.1.past below_drew
                have HN2N : Hid (N ≤ N2) := HGN2.out
                clear M3
                generalize z3.drew = z1 at HH A ⊢
                refine wpAnyH_take (i := 0) (v := .slice ka ks.length kc) ov0 (by kernel_rfl) (by kernel_rfl) (by kernel_rfl) (fun _ _ _ h => h) (Or.inl ⟨by rfl, fun V' hS => ?_⟩) HH ?_
                · go_simp
                simp only [Act.put, List.setIfInBounds_toArray, List.set_cons_zero, List.set_cons_succ]
                refine wpAnyH_take (i := 1) (v := .agg #[.slice ta5 y.ts.length tc5, .slice ca5 y.cs.length cc5, .slice sa5 y.ss.length sc5, .slice da5 y.d.length dc5, .int .i64 y.n]) ov1 (by kernel_rfl) (by kernel_rfl) (by kernel_rfl) (fun _ _ _ h => h) (Or.inl ⟨by rfl, fun V' hS => ?_⟩) HH ?_
                · obtain ⟨hS0, _⟩ := hS; have a0 := hS0.cell 0; have a1 := hS0.cell 1; have a2 := hS0.cell 2; have a3 := hS0.cell 3; have a4 := hS0.cell 4
                  go_simp
                simp only [Act.put, List.setIfInBounds_toArray, List.set_cons_zero, List.set_cons_succ]
                refine wpAnyH_take (i := 4) (v := .slice va ks.length vc) ov4 (by kernel_rfl) (by kernel_rfl) (by kernel_rfl) (fun _ _ _ h => h) (Or.inl ⟨by rfl, fun V' hS => ?_⟩) HH ?_
                · go_simp
                simp only [Act.put, List.setIfInBounds_toArray, List.set_cons_zero, List.set_cons_succ]
                refine wpAnyH_take (i := 5) (v := .agg #[.slice ta6 y.ts.length tc6, .slice ca6 y.cs.length cc6, .slice sa6 y.ss.length sc6, .slice da6 y.d.length dc6, .int .i64 y.n]) ov5 (by kernel_rfl) (by kernel_rfl) (by kernel_rfl) (fun _ _ _ h => h) (Or.inl ⟨by rfl, fun V' hS => ?_⟩) HH ?_
                · obtain ⟨_, hS0⟩ := hS; have a0 := hS0.cell 0; have a1 := hS0.cell 1; have a2 := hS0.cell 2; have a3 := hS0.cell 3; have a4 := hS0.cell 4
                  go_simp
                simp only [Act.put, List.setIfInBounds_toArray, List.set_cons_zero, List.set_cons_succ]
                refine wpAnyH_ready (rs := [2, 6]) (by kernel_rfl) (by simp) ?_
                refine AllReadyH.cons ov2 (fun K hK => ?_) (AllReadyH.cons ov6 (fun K hK => ?_) AllReadyH.nil)
                · rw [if_pos (by rfl)]
                  refine wp_lit5 182 rfl (t0 := ta5) (n0 := y.ts.length) (m0 := tc5) (t1 := ca5) (n1 := y.cs.length) (m1 := cc5) (t2 := sa5) (n2 := y.ss.length) (m2 := sc5) (t3 := da5) (n3 := y.d.length) (m3 := dc5) (z := y.n) (by kernel_rfl) ?_
                  intro zl hB F9
                  have HW0 : Hid (N ≤ z1.heap.size) := by have h1 := HH.1.lt; have h2 := HNB.out; unfold Hid; omega
                  have H9 := And.intro (HH.1.past hB) (HH.2.past hB)
                  clear HH
                  have HH := H9
                  clear H9
                  have q9 := A.out.past hB
                  clear A
                  have A : Hid _ := q9
                  clear q9
                  (try (have q9 : Hid (CBox zl bb1 28 [.slice ta6 y.ts.length tc6, .slice ca6 y.cs.length cc6, .slice sa6 y.ss.length sc6, .slice da6 y.d.length dc6, .int .i64 y.n]) := F1.out.past hB; clear F1; have F1 := q9; clear q9))
                  have F0 : Hid (CBox zl z1.heap.size 28 [.slice ta5 y.ts.length tc5, .slice ca5 y.cs.length cc5, .slice sa5 y.ss.length sc5, .slice da5 y.d.length dc5, .int .i64 y.n]) := F9
                  clear F9 hB
                  refine hK.out _ zl HH (fun _ => ?_)
                  clear hK K
                  (try simp only [Act.put, List.setIfInBounds_toArray, List.set_cons_zero, List.set_cons_succ])
                  generalize z1.heap.size = bb0 at F0 HW0 ⊢
                  generalize zl = z1 at *
                  refine wpAnyH_ready (rs := [3, 6]) (by kernel_rfl) (by simp) ?_
                  refine AllReadyH.cons ov3 (fun K hK => ?_) (AllReadyH.cons ov6 (fun K hK => ?_) AllReadyH.nil)
                  · rw [if_pos (by rfl)]
                    refine wp_appC _ _ rfl S2 w.heap.size A.out.bel.size (.slice ka ks.length kc) ks rfl A.out.kk (fun g hg => (A.out.ok g hg).1) bb0 [.slice ta5 y.ts.length tc5, .slice ca5 y.cs.length cc5, .slice sa5 y.ss.length sc5, .slice da5 y.d.length dc5, .int .i64 y.n] rfl F0.out y A.out.k3 (by have := HEL.out; omega) ?_
                    intro v9 z9 hP hb hn
                    obtain ⟨ka2, kc2, e9⟩ := hP.sl
                    rw [List.length_append, List.length_singleton] at e9
                    subst e9
                    have A9 : Hid _ := A.out.appK hP hb hn
                    have H9 := And.intro (HH.1.but hb (fun e => by have h1 := HNB.out; have h2 := HKW.out.1 _ e; omega)) (HH.2.but hb (fun e => by have h1 := HNB.out; have h2 := HKW.out.1 _ e; omega))
                    (try (have q9 : Hid (CBox z9 bb1 28 [.slice ta6 y.ts.length tc6, .slice ca6 y.cs.length cc6, .slice sa6 y.ss.length sc6, .slice da6 y.d.length dc6, .int .i64 y.n]) := F1.out.but hb (fun e => by have h1 := HW1.out; have h2 := HKW.out.1 _ e; omega); clear F1; have F1 := q9; clear q9))
                    clear HH A F0 HW0 hP hb hn
                    have HH := H9
                    have A := A9
                    clear H9 A9
                    refine hK.out _ z9 HH (fun _ => ?_)
                    clear hK K
                    (try simp only [Act.put, List.setIfInBounds_toArray, List.set_cons_zero, List.set_cons_succ])
                    generalize z9.heap.size = NA at A ⊢
                    generalize z9 = z1 at *
                    refine wpAnyH_ready (rs := [6]) (by kernel_rfl) (by simp) ?_
                    refine AllReadyH.cons ov6 (fun K hK => ?_) AllReadyH.nil
                    rw [if_pos (by rfl)]
                    refine wp_lit5 186 rfl (t0 := ta6) (n0 := y.ts.length) (m0 := tc6) (t1 := ca6) (n1 := y.cs.length) (m1 := cc6) (t2 := sa6) (n2 := y.ss.length) (m2 := sc6) (t3 := da6) (n3 := y.d.length) (m3 := dc6) (z := y.n) (by kernel_rfl) ?_
                    intro zl hB F9
                    have HW1 : Hid (N ≤ z1.heap.size) := by have h1 := HH.1.lt; have h2 := HNB.out; unfold Hid; omega
                    have H9 := And.intro (HH.1.past hB) (HH.2.past hB)
                    clear HH
                    have HH := H9
                    clear H9
                    have q9 := A.out.past hB
                    clear A
                    have A : Hid _ := q9
                    clear q9
                    (try (have q9 : Hid (CBox zl bb0 28 [.slice ta5 y.ts.length tc5, .slice ca5 y.cs.length cc5, .slice sa5 y.ss.length sc5, .slice da5 y.d.length dc5, .int .i64 y.n]) := F0.out.past hB; clear F0; have F0 := q9; clear q9))
                    have F1 : Hid (CBox zl z1.heap.size 28 [.slice ta6 y.ts.length tc6, .slice ca6 y.cs.length cc6, .slice sa6 y.ss.length sc6, .slice da6 y.d.length dc6, .int .i64 y.n]) := F9
                    clear F9 hB
                    refine hK.out _ zl HH (fun _ => ?_)
                    clear hK K
                    (try simp only [Act.put, List.setIfInBounds_toArray, List.set_cons_zero, List.set_cons_succ])
                    generalize z1.heap.size = bb1 at F1 HW1 ⊢
                    generalize zl = z1 at *
                    refine wpAnyH_ready (rs := [7]) (by kernel_rfl) (by simp) ?_
                    refine AllReadyH.cons ov7 (fun K hK => ?_) AllReadyH.nil
                    rw [if_pos (by rfl)]
                    refine wp_appC _ _ rfl S2 w.heap.size A.out.bel.size (.slice va ks.length vc) ks rfl A.out.kw (fun g hg => (A.out.ow g hg).1) bb1 [.slice ta6 y.ts.length tc6, .slice ca6 y.cs.length cc6, .slice sa6 y.ss.length sc6, .slice da6 y.d.length dc6, .int .i64 y.n] rfl F1.out y A.out.k4 (by have := HEL.out; omega) ?_
                    intro v9 z9 hP hb hn
                    obtain ⟨va2, vc2, e9⟩ := hP.sl
                    rw [List.length_append, List.length_singleton] at e9
                    subst e9
                    have A9 : Hid _ := A.out.appW hP hb hn
                    have H9 := And.intro (HH.1.but hb (fun e => by have h1 := HNB.out; have h2 := HKW.out.2 _ e; omega)) (HH.2.but hb (fun e => by have h1 := HNB.out; have h2 := HKW.out.2 _ e; omega))
                    clear HH A F1 HW1 hP hb hn
                    have HH := H9
                    have A := A9
                    clear H9 A9
                    refine hK.out _ z9 HH (fun _ => ?_)
                    clear hK K
                    (try simp only [Act.put, List.setIfInBounds_toArray, List.set_cons_zero, List.set_cons_succ])
                    generalize z9.heap.size = NB at A ⊢
                    generalize z9 = z1 at HH A ⊢
                    refine wpAnyH_take (i := 8) (v := .slice ka2 (ks.length + 1) kc2) ov8 (by kernel_rfl) (by kernel_rfl) (by kernel_rfl) (fun _ _ _ h => h) (Or.inl ⟨by rfl, fun V' hS => ?_⟩) HH ?_
                    · go_simp
                    simp only [Act.put, List.setIfInBounds_toArray, List.set_cons_zero, List.set_cons_succ]
                    refine wpAnyH_take (i := 9) (v := .slice va2 (ks.length + 1) vc2) ov9 (by kernel_rfl) (by kernel_rfl) (by kernel_rfl) (fun _ _ _ h => h) (Or.inl ⟨by rfl, fun V' hS => ?_⟩) HH ?_
                    · go_simp
                    simp only [Act.put, List.setIfInBounds_toArray, List.set_cons_zero, List.set_cons_succ]
                    refine wpAnyH_done (by kernel_rfl) ?_ _
                    clear HH HKW
                    go_wp2
                    go_meet
                    case rel => exact ⟨NB, S2, _, _, y, (ks ++ [y]), by have := HEL.out; rw [List.length_append, List.length_singleton]; omega, A.out⟩
                  · rw [if_pos (by rfl)]
                    refine wp_lit5 186 rfl (t0 := ta6) (n0 := y.ts.length) (m0 := tc6) (t1 := ca6) (n1 := y.cs.length) (m1 := cc6) (t2 := sa6) (n2 := y.ss.length) (m2 := sc6) (t3 := da6) (n3 := y.d.length) (m3 := dc6) (z := y.n) (by kernel_rfl) ?_
                    intro zl hB F9
                    have HW1 : Hid (N ≤ z1.heap.size) := by have h1 := HH.1.lt; have h2 := HNB.out; unfold Hid; omega
                    have H9 := And.intro (HH.1.past hB) (HH.2.past hB)
                    clear HH
                    have HH := H9
                    clear H9
                    have q9 := A.out.past hB
                    clear A
                    have A : Hid _ := q9
                    clear q9
                    (try (have q9 : Hid (CBox zl bb0 28 [.slice ta5 y.ts.length tc5, .slice ca5 y.cs.length cc5, .slice sa5 y.ss.length sc5, .slice da5 y.d.length dc5, .int .i64 y.n]) := F0.out.past hB; clear F0; have F0 := q9; clear q9))
                    have F1 : Hid (CBox zl z1.heap.size 28 [.slice ta6 y.ts.length tc6, .slice ca6 y.cs.length cc6, .slice sa6 y.ss.length sc6, .slice da6 y.d.length dc6, .int .i64 y.n]) := F9
                    clear F9 hB
                    refine hK.out _ zl HH (fun _ => ?_)
                    clear hK K
                    (try simp only [Act.put, List.setIfInBounds_toArray, List.set_cons_zero, List.set_cons_succ])
                    generalize z1.heap.size = bb1 at F1 HW1 ⊢
                    generalize zl = z1 at *
                    refine wpAnyH_ready (rs := [3]) (by kernel_rfl) (by simp) ?_
                    refine AllReadyH.cons ov3 (fun K hK => ?_) AllReadyH.nil
                    rw [if_pos (by rfl)]
                    refine wp_appC _ _ rfl S2 w.heap.size A.out.bel.size (.slice ka ks.length kc) ks rfl A.out.kk (fun g hg => (A.out.ok g hg).1) bb0 [.slice ta5 y.ts.length tc5, .slice ca5 y.cs.length cc5, .slice sa5 y.ss.length sc5, .slice da5 y.d.length dc5, .int .i64 y.n] rfl F0.out y A.out.k3 (by have := HEL.out; omega) ?_
                    intro v9 z9 hP hb hn
                    obtain ⟨ka2, kc2, e9⟩ := hP.sl
                    rw [List.length_append, List.length_singleton] at e9
                    subst e9
                    have A9 : Hid _ := A.out.appK hP hb hn
                    have H9 := And.intro (HH.1.but hb (fun e => by have h1 := HNB.out; have h2 := HKW.out.1 _ e; omega)) (HH.2.but hb (fun e => by have h1 := HNB.out; have h2 := HKW.out.1 _ e; omega))
                    (try (have q9 : Hid (CBox z9 bb1 28 [.slice ta6 y.ts.length tc6, .slice ca6 y.cs.length cc6, .slice sa6 y.ss.length sc6, .slice da6 y.d.length dc6, .int .i64 y.n]) := F1.out.but hb (fun e => by have h1 := HW1.out; have h2 := HKW.out.1 _ e; omega); clear F1; have F1 := q9; clear q9))
                    clear HH A F0 HW0 hP hb hn
                    have HH := H9
                    have A := A9
                    clear H9 A9
                    refine hK.out _ z9 HH (fun _ => ?_)
                    clear hK K
                    (try simp only [Act.put, List.setIfInBounds_toArray, List.set_cons_zero, List.set_cons_succ])
                    generalize z9.heap.size = NA at A ⊢
                    generalize z9 = z1 at *
                    refine wpAnyH_ready (rs := [7]) (by kernel_rfl) (by simp) ?_
                    refine AllReadyH.cons ov7 (fun K hK => ?_) AllReadyH.nil
                    rw [if_pos (by rfl)]
                    refine wp_appC _ _ rfl S2 w.heap.size A.out.bel.size (.slice va ks.length vc) ks rfl A.out.kw (fun g hg => (A.out.ow g hg).1) bb1 [.slice ta6 y.ts.length tc6, .slice ca6 y.cs.length cc6, .slice sa6 y.ss.length sc6, .slice da6 y.d.length dc6, .int .i64 y.n] rfl F1.out y A.out.k4 (by have := HEL.out; omega) ?_
                    intro v9 z9 hP hb hn
                    obtain ⟨va2, vc2, e9⟩ := hP.sl
                    rw [List.length_append, List.length_singleton] at e9
                    subst e9
                    have A9 : Hid _ := A.out.appW hP hb hn
                    have H9 := And.intro (HH.1.but hb (fun e => by have h1 := HNB.out; have h2 := HKW.out.2 _ e; omega)) (HH.2.but hb (fun e => by have h1 := HNB.out; have h2 := HKW.out.2 _ e; omega))
                    clear HH A F1 HW1 hP hb hn
                    have HH := H9
                    have A := A9
                    clear H9 A9
                    refine hK.out _ z9 HH (fun _ => ?_)
                    clear hK K
                    (try simp only [Act.put, List.setIfInBounds_toArray, List.set_cons_zero, List.set_cons_succ])
                    generalize z9.heap.size = NB at A ⊢
                    generalize z9 = z1 at HH A ⊢
                    refine wpAnyH_take (i := 8) (v := .slice ka2 (ks.length + 1) kc2) ov8 (by kernel_rfl) (by kernel_rfl) (by kernel_rfl) (fun _ _ _ h => h) (Or.inl ⟨by rfl, fun V' hS => ?_⟩) HH ?_
                    · go_simp
                    simp only [Act.put, List.setIfInBounds_toArray, List.set_cons_zero, List.set_cons_succ]
                    refine wpAnyH_take (i := 9) (v := .slice va2 (ks.length + 1) vc2) ov9 (by kernel_rfl) (by kernel_rfl) (by kernel_rfl) (fun _ _ _ h => h) (Or.inl ⟨by rfl, fun V' hS => ?_⟩) HH ?_
                    · go_simp
                    simp only [Act.put, List.setIfInBounds_toArray, List.set_cons_zero, List.set_cons_succ]
                    refine wpAnyH_done (by kernel_rfl) ?_ _
                    clear HH HKW
                    go_wp2
                    go_meet
                    case rel => exact ⟨NB, S2, _, _, y, (ks ++ [y]), by have := HEL.out; rw [List.length_append, List.length_singleton]; omega, A.out⟩
                · rw [if_pos (by rfl)]
                  refine wp_lit5 186 rfl (t0 := ta6) (n0 := y.ts.length) (m0 := tc6) (t1 := ca6) (n1 := y.cs.length) (m1 := cc6) (t2 := sa6) (n2 := y.ss.length) (m2 := sc6) (t3 := da6) (n3 := y.d.length) (m3 := dc6) (z := y.n) (by kernel_rfl) ?_
                  intro zl hB F9
                  have HW1 : Hid (N ≤ z1.heap.size) := by have h1 := HH.1.lt; have h2 := HNB.out; unfold Hid; omega
                  have H9 := And.intro (HH.1.past hB) (HH.2.past hB)
                  clear HH
                  have HH := H9
                  clear H9
                  have q9 := A.out.past hB
                  clear A
                  have A : Hid _ := q9
                  clear q9
                  (try (have q9 : Hid (CBox zl bb0 28 [.slice ta5 y.ts.length tc5, .slice ca5 y.cs.length cc5, .slice sa5 y.ss.length sc5, .slice da5 y.d.length dc5, .int .i64 y.n]) := F0.out.past hB; clear F0; have F0 := q9; clear q9))
                  have F1 : Hid (CBox zl z1.heap.size 28 [.slice ta6 y.ts.length tc6, .slice ca6 y.cs.length cc6, .slice sa6 y.ss.length sc6, .slice da6 y.d.length dc6, .int .i64 y.n]) := F9
                  clear F9 hB
                  refine hK.out _ zl HH (fun _ => ?_)
                  clear hK K
                  (try simp only [Act.put, List.setIfInBounds_toArray, List.set_cons_zero, List.set_cons_succ])
                  generalize z1.heap.size = bb1 at F1 HW1 ⊢
                  generalize zl = z1 at *
                  refine wpAnyH_ready (rs := [2]) (by kernel_rfl) (by simp) ?_
                  refine AllReadyH.cons ov2 (fun K hK => ?_) AllReadyH.nil
                  rw [if_pos (by rfl)]
                  refine wp_lit5 182 rfl (t0 := ta5) (n0 := y.ts.length) (m0 := tc5) (t1 := ca5) (n1 := y.cs.length) (m1 := cc5) (t2 := sa5) (n2 := y.ss.length) (m2 := sc5) (t3 := da5) (n3 := y.d.length) (m3 := dc5) (z := y.n) (by kernel_rfl) ?_
                  intro zl hB F9
                  have HW0 : Hid (N ≤ z1.heap.size) := by have h1 := HH.1.lt; have h2 := HNB.out; unfold Hid; omega
                  have H9 := And.intro (HH.1.past hB) (HH.2.past hB)
                  clear HH
                  have HH := H9
                  clear H9
                  have q9 := A.out.past hB
                  clear A
                  have A : Hid _ := q9
                  clear q9
                  (try (have q9 : Hid (CBox zl bb1 28 [.slice ta6 y.ts.length tc6, .slice ca6 y.cs.length cc6, .slice sa6 y.ss.length sc6, .slice da6 y.d.length dc6, .int .i64 y.n]) := F1.out.past hB; clear F1; have F1 := q9; clear q9))
                  have F0 : Hid (CBox zl z1.heap.size 28 [.slice ta5 y.ts.length tc5, .slice ca5 y.cs.length cc5, .slice sa5 y.ss.length sc5, .slice da5 y.d.length dc5, .int .i64 y.n]) := F9
                  clear F9 hB
                  refine hK.out _ zl HH (fun _ => ?_)
                  clear hK K
                  (try simp only [Act.put, List.setIfInBounds_toArray, List.set_cons_zero, List.set_cons_succ])
                  generalize z1.heap.size = bb0 at F0 HW0 ⊢
                  generalize zl = z1 at *
                  refine wpAnyH_ready (rs := [3]) (by kernel_rfl) (by simp) ?_
                  refine AllReadyH.cons ov3 (fun K hK => ?_) AllReadyH.nil
                  rw [if_pos (by rfl)]
                  refine wp_appC _ _ rfl S2 w.heap.size A.out.bel.size (.slice ka ks.length kc) ks rfl A.out.kk (fun g hg => (A.out.ok g hg).1) bb0 [.slice ta5 y.ts.length tc5, .slice ca5 y.cs.length cc5, .slice sa5 y.ss.length sc5, .slice da5 y.d.length dc5, .int .i64 y.n] rfl F0.out y A.out.k3 (by have := HEL.out; omega) ?_
                  intro v9 z9 hP hb hn
                  obtain ⟨ka2, kc2, e9⟩ := hP.sl
                  rw [List.length_append, List.length_singleton] at e9
                  subst e9
                  have A9 : Hid _ := A.out.appK hP hb hn
                  have H9 := And.intro (HH.1.but hb (fun e => by have h1 := HNB.out; have h2 := HKW.out.1 _ e; omega)) (HH.2.but hb (fun e => by have h1 := HNB.out; have h2 := HKW.out.1 _ e; omega))
                  (try (have q9 : Hid (CBox z9 bb1 28 [.slice ta6 y.ts.length tc6, .slice ca6 y.cs.length cc6, .slice sa6 y.ss.length sc6, .slice da6 y.d.length dc6, .int .i64 y.n]) := F1.out.but hb (fun e => by have h1 := HW1.out; have h2 := HKW.out.1 _ e; omega); clear F1; have F1 := q9; clear q9))
                  clear HH A F0 HW0 hP hb hn
                  have HH := H9
                  have A := A9
                  clear H9 A9
                  refine hK.out _ z9 HH (fun _ => ?_)
                  clear hK K
                  (try simp only [Act.put, List.setIfInBounds_toArray, List.set_cons_zero, List.set_cons_succ])
                  generalize z9.heap.size = NA at A ⊢
                  generalize z9 = z1 at *
                  refine wpAnyH_ready (rs := [7]) (by kernel_rfl) (by simp) ?_
                  refine AllReadyH.cons ov7 (fun K hK => ?_) AllReadyH.nil
                  rw [if_pos (by rfl)]
                  refine wp_appC _ _ rfl S2 w.heap.size A.out.bel.size (.slice va ks.length vc) ks rfl A.out.kw (fun g hg => (A.out.ow g hg).1) bb1 [.slice ta6 y.ts.length tc6, .slice ca6 y.cs.length cc6, .slice sa6 y.ss.length sc6, .slice da6 y.d.length dc6, .int .i64 y.n] rfl F1.out y A.out.k4 (by have := HEL.out; omega) ?_
                  intro v9 z9 hP hb hn
                  obtain ⟨va2, vc2, e9⟩ := hP.sl
                  rw [List.length_append, List.length_singleton] at e9
                  subst e9
                  have A9 : Hid _ := A.out.appW hP hb hn
                  have H9 := And.intro (HH.1.but hb (fun e => by have h1 := HNB.out; have h2 := HKW.out.2 _ e; omega)) (HH.2.but hb (fun e => by have h1 := HNB.out; have h2 := HKW.out.2 _ e; omega))
                  clear HH A F1 HW1 hP hb hn
                  have HH := H9
                  have A := A9
                  clear H9 A9
                  refine hK.out _ z9 HH (fun _ => ?_)
                  clear hK K
                  (try simp only [Act.put, List.setIfInBounds_toArray, List.set_cons_zero, List.set_cons_succ])
                  generalize z9.heap.size = NB at A ⊢
                  generalize z9 = z1 at HH A ⊢
                  refine wpAnyH_take (i := 8) (v := .slice ka2 (ks.length + 1) kc2) ov8 (by kernel_rfl) (by kernel_rfl) (by kernel_rfl) (fun _ _ _ h => h) (Or.inl ⟨by rfl, fun V' hS => ?_⟩) HH ?_
                  · go_simp
                  simp only [Act.put, List.setIfInBounds_toArray, List.set_cons_zero, List.set_cons_succ]
                  refine wpAnyH_take (i := 9) (v := .slice va2 (ks.length + 1) vc2) ov9 (by kernel_rfl) (by kernel_rfl) (by kernel_rfl) (fun _ _ _ h => h) (Or.inl ⟨by rfl, fun V' hS => ?_⟩) HH ?_
                  · go_simp
                  simp only [Act.put, List.setIfInBounds_toArray, List.set_cons_zero, List.set_cons_succ]
                  refine wpAnyH_done (by kernel_rfl) ?_ _
                  clear HH HKW
                  go_wp2
                  go_meet
                  case rel => exact ⟨NB, S2, _, _, y, (ks ++ [y]), by have := HEL.out; rw [List.length_append, List.length_singleton]; omega, A.out⟩
        have q1 : (kd == 1) = false := by rw [beq_eq_false_iff_ne]; exact e1
        have q2 : (kd == 2) = false := by rw [beq_eq_false_iff_ne]; exact e2
        have q3 : (kd == 3) = false := by rw [beq_eq_false_iff_ne]; exact e3
        have q4 : (kd == 4) = false := by rw [beq_eq_false_iff_ne]; exact e4
        have q5 : (kd == 5) = false := by rw [beq_eq_false_iff_ne]; exact e5
        clear e1 e2 e3 e4 e5
        have MF : Hid (AM b3 b4 N S w W9 [.slice ta3 x.ts.length tc3, .slice ca3 x.cs.length cc3, .slice sa3 x.ss.length sc3, .slice da3 x.d.length dc3, .int .i64 x.n] [.slice ta4 x.ts.length tc4, .slice ca4 x.cs.length cc4, .slice sa4 x.ss.length sc4, .slice da4 x.d.length dc4, .int .i64 x.n] x (.slice ka ks.length kc) (.slice va ks.length vc) ks ks) := M9.out.1
        clear M9
        go_wp2
        go_meet
        case rel => exact ⟨N, S, _, _, x, ks, by have := HKS.out; omega, MF.out⟩
      case rest =>
        obtain ⟨N, S, M3, M4, x, ks, hks, hM⟩ := hcut
        clear HKS
        have HKS : Hid (ks.length ≤ 50) := hks
        clear hks M9
        obtain ⟨ta3, tc3, ca3, cc3, sa3, sc3, da3, dc3, rfl⟩ := cw_cells hM.k3
        obtain ⟨ta4, tc4, ca4, cc4, sa4, sc4, da4, dc4, rfl⟩ := cw_cells hM.k4
        have ME : Hid _ := hM
        clear hM
        go_upto_region 45 with fail
        refine wp_region_lit ?_
        refine lst_val (v := .agg #[.slice ta3 x.ts.length tc3, .slice ca3 x.cs.length cc3, .slice sa3 x.ss.length sc3, .slice da3 x.d.length dc3, .int .i64 x.n]) (by kernel_rfl) ?_ ?_
        · have a0 := ME.out.c3.cell 0; have a1 := ME.out.c3.cell 1; have a2 := ME.out.c3.cell 2; have a3 := ME.out.c3.cell 3; have a4 := ME.out.c3.cell 4
          go_simp
        simp only [Act.put, List.setIfInBounds_toArray, List.set_cons_zero, List.set_cons_succ]
        refine lst_val (v := .agg #[.slice ta4 x.ts.length tc4, .slice ca4 x.cs.length cc4, .slice sa4 x.ss.length sc4, .slice da4 x.d.length dc4, .int .i64 x.n]) (by kernel_rfl) ?_ ?_
        · have a0 := ME.out.c4.cell 0; have a1 := ME.out.c4.cell 1; have a2 := ME.out.c4.cell 2; have a3 := ME.out.c4.cell 3; have a4 := ME.out.c4.cell 4
          go_simp
        simp only [Act.put, List.setIfInBounds_toArray, List.set_cons_zero, List.set_cons_succ]
        refine lst_call (by kernel_rfl) (by first | (go_simp; done) | (go_simp; first | exact rfl | exact ⟨rfl, rfl⟩ | exact ⟨rfl, rfl, rfl⟩)) (same_is _ _ _ x ME.out.k3 ME.out.k4) ?_
        rintro e we ⟨rfl, hB⟩
        refine ⟨_, rfl, ?_⟩
        have MG : Hid _ := ME.out.past hB
        clear hB ME
        simp only [Act.put, List.setIfInBounds_toArray, List.set_cons_zero, List.set_cons_succ]
        refine lst_val (v := .bool false) (by kernel_rfl) ?_ ?_
        · go_simp
        simp only [Act.put, List.setIfInBounds_toArray, List.set_cons_zero, List.set_cons_succ]
        refine wpList_nil ?_
        go_wp2
        go_roundw
        case rel => first | exact ⟨k + 1, r2, N, S, _, _, x, ks, by first | rfl | go_num, by first | rfl | go_num, by have := NT.out; omega, by have := HR2.out; omega, by have := HKS.out; omega, MG.out⟩ | ((repeat apply Exists.intro); exact ⟨⟨k + 1, r2, N, S, _, _, x, ks, by first | rfl | go_num, by first | rfl | go_num, by have := NT.out; omega, by have := HR2.out; omega, by have := HKS.out; omega, MG.out⟩, rfl⟩)
        case measure => (simp [intOf]; have := NT.out; omega)
end Go.Proofs.Ytndhabhlajldeaa
