/- The laws' over: the last type is written over, the first section grows where it lies. -/
import Derived.Test.YtndhabhlajldeaaBtp
namespace Go.Proofs.Ytndhabhlajldeaa
open Go.RowKit
theorem LgM.setT {b1 b2 B n cap g i : Nat} {w W : World} {cv sv dv : Value} {z : Int} {c : Con} (h : LgM b1 b2 B w W (.slice (some ⟨g, 0, none⟩) n cap) cv sv dv z c) (hn : c.ts.length = n) (hg : B ≤ g) (g1 : b1 ≠ g) (g2 : b2 ≠ g) (u : Value) (ts : List Ty) (he : (tV c.ts).set i u = tV ts) (hl : ts.length = n) : LgM b1 b2 B w (W.setCell ⟨g, i, none⟩ u) (.slice (some ⟨g, 0, none⟩) n cap) cv sv dv z ⟨ts, c.cs, c.ss, c.d, c.n⟩ := by
  have hs : But (fun y => y = g) W (W.setCell ⟨g, i, none⟩ u) := (But.refl (fun y => y = g) W).setCell ⟨g, i, none⟩ _ (Or.inl rfl)
  exact ⟨h.c1.but hs g1, h.c2.but hs g2, h.dq.setT hn u ts he hl, h.bel.trans (hs.below (fun k e => by omega) (Nat.le_trans h.ge h.bel.size)), h.ge⟩
theorem tV_set : ∀ (l : List Ty) (k : Nat) (t : Ty) (m : Int), l[k]? = some t → (tV l).set (k * 3 + 2) (.int .i64 m) = tV (l.set k (t.1, t.2.1, m))
  | [], k, t, m, h => by cases h
  | x :: l, 0, t, m, h => by
    cases h
    rfl
  | x :: l, k + 1, t, m, h => by
    have ih := tV_set l k t m (by simpa using h)
    have e : (x :: l).set (k + 1) (t.1, t.2.1, m) = x :: l.set k (t.1, t.2.1, m) := rfl
    rw [e, tV_cons, tV_cons, show (k + 1) * 3 + 2 = (k * 3 + 2) + 1 + 1 + 1 by omega, List.set_cons_succ, List.set_cons_succ, List.set_cons_succ, ih]
theorem type_at {B n cap : Nat} {W : World} {ad : Option Addr} {l : List Ty} (h : W.ownsRow B 77 3 (.slice ad n cap) n (tV l)) (hn : l.length = n) {k : Nat} {t : Ty} (hx : l[k]? = some t) : ∃ g, ad = some ⟨g, 0, none⟩ ∧ B ≤ g ∧ W.cell? ⟨g, k * 3 + 2, none⟩ = some (.int .i64 t.2.2) ∧ W.frozen? ⟨g, k * 3 + 2, none⟩ = false ∧ g < W.heap.size ∧ ∀ t l q, CBox W q t l → t ≠ 77 → q ≠ g := by
  subst hn
  have h0 : k < l.length := (List.getElem?_eq_some_iff.1 hx).1
  have hg : ∃ g, ad = some ⟨g, 0, none⟩ := by
    rcases h.2 with ⟨_, e0⟩ | ⟨g, c9, cur, e, _⟩
    · omega
    · injection e with e _ _; exact ⟨g, e⟩
  obtain ⟨g, rfl⟩ := hg
  have hlt := h.lt g rfl
  refine ⟨g, rfl, hlt.1, ?_, World.ownsRow.frozenAt h _, hlt.2, fun t l q hc ht e => own_box h hc (Ne.symm ht) (g := g) rfl e.symm⟩
  have := World.ownsRow.cells h (g := g) rfl (k * 3 + 2) _ (tV_get l k t hx).2.2
  simpa [Addr.add_mid] using this
set_option maxHeartbeats 8000000 in
set_option maxRecDepth 100000 in
theorem over_is (w : World) (B : Nat) (hB : B ≤ w.heap.size) (v : Value) (c : Con) (h : DO B w v c) (ht : total c ≤ 2097152) : Calls Try.prog 23 #[v] w fun e w' => (∃ v' c', e = .returned v' ∧ DO B w' v' c' ∧ total c' ≤ 2097154) ∧ Below B w w' := by
  obtain ⟨ta, tc, ca, cc, sa, sc, da, dc, rfl, hd⟩ := do_dq h
  have HL : Hid (Lens c c.ts.length c.cs.length c.ss.length c.d.length c.n) := ⟨rfl, rfl, rfl, rfl, rfl⟩
  generalize c.ts.length = nt at *
  generalize c.cs.length = nc at *
  generalize c.ss.length = ns at *
  generalize c.d.length = nd at *
  generalize c.n = z at *
  have HTO : Hid (total c ≤ 2097152) := ht
  have b1 := below_alloc w (.cells #[.slice ta nt tc, .slice ca nc cc, .slice sa ns sc, .slice da nd dc, .int .i64 z] 28)
  have b2 := below_alloc (w.alloc (.cells #[.slice ta nt tc, .slice ca nc cc, .slice sa ns sc, .slice da nd dc, .int .i64 z] 28)) (.cells #[.slice none 0 0, .slice none 0 0, .slice none 0 0, .slice none 0 0, .int .i64 0] 28)
  have s1 : (w.alloc (.cells #[.slice ta nt tc, .slice ca nc cc, .slice sa ns sc, .slice da nd dc, .int .i64 z] 28)).heap.size = w.heap.size + 1 := by simp
  have bb : Below w.heap.size w ((w.alloc (.cells #[.slice ta nt tc, .slice ca nc cc, .slice sa ns sc, .slice da nd dc, .int .i64 z] 28)).alloc (.cells #[.slice none 0 0, .slice none 0 0, .slice none 0 0, .slice none 0 0, .int .i64 0] 28)) := b1.trans (b2.mono (by omega))
  have c2 := CBox.new (w.alloc (.cells #[.slice ta nt tc, .slice ca nc cc, .slice sa ns sc, .slice da nd dc, .int .i64 z] 28)) 28 [.slice none 0 0, .slice none 0 0, .slice none 0 0, .slice none 0 0, .int .i64 0]
  rw [s1] at c2
  have M : Hid (LgM w.heap.size (w.heap.size + 1) B w ((w.alloc (.cells #[.slice ta nt tc, .slice ca nc cc, .slice sa ns sc, .slice da nd dc, .int .i64 z] 28)).alloc (.cells #[.slice none 0 0, .slice none 0 0, .slice none 0 0, .slice none 0 0, .int .i64 0] 28)) (.slice ta nt tc) (.slice ca nc cc) (.slice sa ns sc) (.slice da nd dc) z c) := ⟨(CBox.new w 28 [.slice ta nt tc, .slice ca nc cc, .slice sa ns sc, .slice da nd dc, .int .i64 z]).past b2, c2, hd.past bb, bb.mono hB, hB⟩
  have GL : Hid (B ≤ w.heap.size + 1) := by unfold Hid; omega
  clear h hd ht b1 b2 s1 bb c2 hB
  go_enter Try.func23, Try.ntmps23
  go_upto_region 1 with fail
  generalize w.heap.size + 1 = b2 at M GL ⊢
  generalize w.heap.size = b1 at M ⊢
  generalize (w.alloc _).alloc _ = W0 at M ⊢
  by_cases e0 : nt = 0
  · have a0 : W0.cell? ⟨b1, 0, none⟩ = some (.slice ta nt tc) := M.out.c1.cell 0
    have q0 : ¬ (0 : Int) < (nt : Int) := by omega
    clear e0
    go_upto_region 3 with fail
    clear a0 q0
    by_cases e1 : nc = 0
    · have a1 : W0.cell? ⟨b1, 1, none⟩ = some (.slice ca nc cc) := M.out.c1.cell 1
      have q1 : ¬ (0 : Int) < (nc : Int) := by omega
      clear e1
      go_upto_region 5 with fail
      clear a1 q1
      have x0 : W0.cell? ⟨b1, 0, none⟩ = some (.slice ta nt tc) := M.out.c1.cell 0
      have x1 : W0.cell? ⟨b1, 1, none⟩ = some (.slice ca nc cc) := M.out.c1.cell 1
      have x2 : W0.cell? ⟨b1, 2, none⟩ = some (.slice sa ns sc) := M.out.c1.cell 2
      have x3 : W0.cell? ⟨b1, 3, none⟩ = some (.slice da nd dc) := M.out.c1.cell 3
      have x4 : W0.cell? ⟨b1, 4, none⟩ = some (.int .i64 z) := M.out.c1.cell 4
      have k0 : W0.cell? ⟨b2, 0, none⟩ = some (.slice none 0 0) := M.out.c2.cell 0
      have f0 := CBox.frozen M.out.c2 0
      have k1 : W0.cell? ⟨b2, 1, none⟩ = some (.slice none 0 0) := M.out.c2.cell 1
      have f1 := CBox.frozen M.out.c2 1
      have k2 : W0.cell? ⟨b2, 2, none⟩ = some (.slice none 0 0) := M.out.c2.cell 2
      have f2 := CBox.frozen M.out.c2 2
      have k3 : W0.cell? ⟨b2, 3, none⟩ = some (.slice none 0 0) := M.out.c2.cell 3
      have f3 := CBox.frozen M.out.c2 3
      have k4 : W0.cell? ⟨b2, 4, none⟩ = some (.int .i64 0) := M.out.c2.cell 4
      have f4 := CBox.frozen M.out.c2 4
      have HF : Hid (CBox (((((W0.setCell ⟨b2, 0, none⟩ (.slice ta nt tc)).setCell ⟨b2, 1, none⟩ (.slice ca nc cc)).setCell ⟨b2, 2, none⟩ (.slice sa ns sc)).setCell ⟨b2, 3, none⟩ (.slice da nd dc)).setCell ⟨b2, 4, none⟩ (.int .i64 z)) b2 28 [.slice ta nt tc, .slice ca nc cc, .slice sa ns sc, .slice da nd dc, .int .i64 z] ∧ DQ B (((((W0.setCell ⟨b2, 0, none⟩ (.slice ta nt tc)).setCell ⟨b2, 1, none⟩ (.slice ca nc cc)).setCell ⟨b2, 2, none⟩ (.slice sa ns sc)).setCell ⟨b2, 3, none⟩ (.slice da nd dc)).setCell ⟨b2, 4, none⟩ (.int .i64 z)) (.slice ta nt tc) (.slice ca nc cc) (.slice sa ns sc) (.slice da nd dc) c ∧ Below B w (((((W0.setCell ⟨b2, 0, none⟩ (.slice ta nt tc)).setCell ⟨b2, 1, none⟩ (.slice ca nc cc)).setCell ⟨b2, 2, none⟩ (.slice sa ns sc)).setCell ⟨b2, 3, none⟩ (.slice da nd dc)).setCell ⟨b2, 4, none⟩ (.int .i64 z))) := by
        have hs : But (fun y => y = b2) W0 (((((W0.setCell ⟨b2, 0, none⟩ (.slice ta nt tc)).setCell ⟨b2, 1, none⟩ (.slice ca nc cc)).setCell ⟨b2, 2, none⟩ (.slice sa ns sc)).setCell ⟨b2, 3, none⟩ (.slice da nd dc)).setCell ⟨b2, 4, none⟩ (.int .i64 z)) := ((((((But.refl (fun y => y = b2) W0).setCell ⟨b2, 0, none⟩ _ (Or.inl rfl)).setCell ⟨b2, 1, none⟩ _ (Or.inl rfl)).setCell ⟨b2, 2, none⟩ _ (Or.inl rfl)).setCell ⟨b2, 3, none⟩ _ (Or.inl rfl)).setCell ⟨b2, 4, none⟩ _ (Or.inl rfl))
        have ra : Alien W0 b2 := ⟨_, _, M.out.c2, by decide, by decide, by decide⟩
        exact ⟨(((((M.out.c2.set 0 _).set 1 _).set 2 _).set 3 _).set 4 _), ⟨row_alienT M.out.dq.t hs ra, PO.alien M.out.dq.p hs ra, PO.alien M.out.dq.s hs ra, row_alien M.out.dq.d hs ra, M.out.dq.ap⟩, M.out.bel.trans (hs.below (fun g e => by have := GL.out; omega) (Nat.le_trans M.out.ge M.out.bel.size))⟩
      clear M
      go_wp2
      clear x0 x1 x2 x3 x4 k0 k1 k2 k3 k4 f0 f1 f2 f3 f4
      generalize (((((W0.setCell ⟨b2, 0, none⟩ (.slice ta nt tc)).setCell ⟨b2, 1, none⟩ (.slice ca nc cc)).setCell ⟨b2, 2, none⟩ (.slice sa ns sc)).setCell ⟨b2, 3, none⟩ (.slice da nd dc)).setCell ⟨b2, 4, none⟩ (.int .i64 z)) = Z9 at HF ⊢
      refine bodyPost_ret (v := .agg #[.slice ta nt tc, .slice ca nc cc, .slice sa ns sc, .slice da nd dc, .int .i64 z]) (results_c (p := 2) (ty := 28) Try.results23 _ _ _ ⟨b2, 0, none⟩ rfl (run_loadVar_mid Z9 b2 0 28 [.slice ta nt tc, .slice ca nc cc, .slice sa ns sc, .slice da nd dc, .int .i64 z] _ HF.out.1.range Try.underlying28 rfl (by kernel_rfl))) rfl ?_
      exact ⟨⟨_, c, rfl, dq_do HF.out.2.1 HL.out, by have := HTO.out; omega⟩, HF.out.2.2⟩
    · have q1 : (0 : Int) < (nc : Int) := by omega
      obtain ⟨y1, hx⟩ : ∃ x, c.cs[0]? = some x := ⟨c.cs[0]'(by have := HL.out; unfold Lens at this; omega), List.getElem?_eq_getElem _⟩
      have HX : Hid (c.cs[0]? = some y1) := hx
      have hsx : y1.length ≤ 16777216 := by
        have h1 := (List.sublist_flatten_of_mem (List.mem_of_getElem? hx)).length_le
        have h2 := HTO.out
        unfold total at h2
        omega
      have HSX : Hid (y1.length ≤ 16777216) := hsx
      obtain ⟨g1, ua, uc, eg, r1, r2, r3, r4, r5, r6⟩ := piece_at M.out.dq.p HL.out.2.1 hx hsx
      subst eg
      have PA : Hid (W0.cell? ⟨g1, 0, none⟩ = some (.slice ua y1.length uc) ∧ W0.frozen? ⟨g1, 0, none⟩ = false ∧ BL (fun _ => True) W0 (.slice ua y1.length uc) y1 ∧ g1 < W0.heap.size) := ⟨r2, r3, r4, r5⟩
      have PB : Hid (B ≤ g1 ∧ b1 ≠ g1 ∧ b2 ≠ g1) := ⟨r1, r6 _ _ _ M.out.c1 (by decide), r6 _ _ _ M.out.c2 (by decide)⟩
      clear hx hsx r1 r2 r3 r4 r5 r6 e1
      have a1 : W0.cell? ⟨b1, 1, none⟩ = some (.slice (some ⟨g1, 0, none⟩) nc cc) := M.out.c1.cell 1
      go_upto_region 4 with fail
      clear a1 q1
      refine wp_region_held_drew (S := fun V' => CBox V' b1 28 [.slice ta nt tc, .slice (some ⟨g1, 0, none⟩) nc cc, .slice sa ns sc, .slice da nd dc, .int .i64 z]) (by kernel_rfl) (M.out.c1.past below_drew) (fun HH => ?_)
      have BC : Hid (Below W0.heap.size W0 W0.drew) := below_drew
      have M : Hid _ := M
      generalize W0.drew = z1 at HH BC ⊢
      refine wpAnyH_take (i := 0) (v := .pointer (some ⟨b1, 1, none⟩)) ov0 (by kernel_rfl) (by kernel_rfl) (by kernel_rfl) (fun _ _ _ h => h) (Or.inl ⟨by rfl, fun V' hS => ?_⟩) HH ?_
      · go_simp
      simp only [Act.put, List.setIfInBounds_toArray, List.set_cons_zero, List.set_cons_succ]
      refine wpAnyH_take (i := 1) (v := .slice (some ⟨g1, 0, none⟩) nc cc) ov1 (by kernel_rfl) (by kernel_rfl) (by kernel_rfl) (fun _ _ _ h => h) (Or.inl ⟨by rfl, fun V' hS => ?_⟩) HH ?_
      · have c0 := hS.cell 1
        go_simp
      simp only [Act.put, List.setIfInBounds_toArray, List.set_cons_zero, List.set_cons_succ]
      refine wpAnyH_take (i := 2) (v := .pointer (some ⟨b1, 1, none⟩)) ov2 (by kernel_rfl) (by kernel_rfl) (by kernel_rfl) (fun _ _ _ h => h) (Or.inl ⟨by rfl, fun V' hS => ?_⟩) HH ?_
      · go_simp
      simp only [Act.put, List.setIfInBounds_toArray, List.set_cons_zero, List.set_cons_succ]
      refine wpAnyH_take (i := 3) (v := .slice (some ⟨g1, 0, none⟩) nc cc) ov3 (by kernel_rfl) (by kernel_rfl) (by kernel_rfl) (fun _ _ _ h => h) (Or.inl ⟨by rfl, fun V' hS => ?_⟩) HH ?_
      · have c0 := hS.cell 1
        go_simp
      simp only [Act.put, List.setIfInBounds_toArray, List.set_cons_zero, List.set_cons_succ]
      refine wpAnyH_take (i := 4) (v := .pointer (some ⟨g1, 0, none⟩)) ov4 (by kernel_rfl) (by kernel_rfl) (by kernel_rfl) (fun _ _ _ h => h) (Or.inl ⟨by rfl, fun V' hS => ?_⟩) HH ?_
      · go_simp
      simp only [Act.put, List.setIfInBounds_toArray, List.set_cons_zero, List.set_cons_succ]
      refine wpAnyH_ready (rs := [5, 7]) (by kernel_rfl) (by simp) ?_
      refine AllReadyH.cons ov5 (fun K hK => ?_) (AllReadyH.cons ov7 (fun K hK => ?_) AllReadyH.nil)
      · rw [if_pos (by rfl)]
        have c0 := (BC.out.cell (p := ⟨g1, 0, none⟩) PA.out.2.2.2).trans PA.out.1
        go_simp
        clear c0
        refine hK.out _ _ HH (fun _ => ?_)
        clear hK K
        (try simp only [Act.put, List.setIfInBounds_toArray, List.set_cons_zero, List.set_cons_succ])
        refine wpAnyH_ready (rs := [6, 7]) (by kernel_rfl) (by simp) ?_
        refine AllReadyH.cons ov6 (fun K hK => ?_) (AllReadyH.cons ov7 (fun K hK => ?_) AllReadyH.nil)
        · rw [if_pos (by rfl)]
          go_simp
          refine (own_is _ _ y1 (PA.out.2.2.1.past BC.out) HSX.out).mono ?_
          rintro e z1 ⟨v9, rfl, hO, hB⟩
          obtain ⟨oa, oc, rfl⟩ := owns_sl hO
          have FO9 := owns_base hO BC.out.size
          clear hO
          have H9 := HH.past hB
          clear HH
          have HH := H9
          clear H9
          have B9 := BC.out.trans (hB.mono BC.out.size)
          clear BC
          have BC : Hid (Below W0.heap.size W0 z1) := B9
          clear B9
          (try (have q9 := FB.out; clear FB; have FB : Hid (BL (fun _ => True) z1 (.slice (some ⟨bb, 0, none⟩) 1 1) [7]) := q9.past hB; clear q9))
          have FO : Hid (z1.ownsRow W0.heap.size 5 1 (.slice oa y1.length oc) y1.length (bV y1)) := FO9
          clear FO9 hB
          (try go_wp2_with fail)
          refine hK.out _ _ HH (fun _ => ?_)
          clear hK K
          (try simp only [Act.put, List.setIfInBounds_toArray, List.set_cons_zero, List.set_cons_succ])
          refine wpAnyH_ready (rs := [7]) (by kernel_rfl) (by simp) ?_
          refine AllReadyH.cons ov7 (fun K hK => ?_) AllReadyH.nil
          rw [if_pos (by rfl)]
          go_simp
          have hB : Below z1.heap.size z1 (z1.alloc (.cells #[.int .u8 7] 5)) := below_alloc _ _
          have FB9 : BL (fun _ => True) (z1.alloc (.cells #[.int .u8 7] 5)) (.slice (some ⟨z1.heap.size, 0, none⟩) 1 1) [7] := (BL.new z1 [7] (by simp)).mono fun _ _ _ => trivial
          have H9 := HH.past hB
          clear HH
          have HH := H9
          clear H9
          have B9 := BC.out.trans (hB.mono BC.out.size)
          clear BC
          have BC : Hid (Below W0.heap.size W0 (z1.alloc (.cells #[.int .u8 7] 5))) := B9
          clear B9
          (try (have q9 := FO.out; clear FO; have FO : Hid ((z1.alloc (.cells #[.int .u8 7] 5)).ownsRow W0.heap.size 5 1 (.slice oa y1.length oc) y1.length (bV y1)) := owns_past q9 hB; clear q9))
          have FB : Hid _ := FB9
          clear FB9 hB
          refine hK.out _ (z1.alloc (.cells #[.int .u8 7] 5)) HH (fun _ => ?_)
          clear hK K
          (try simp only [Act.put, List.setIfInBounds_toArray, List.set_cons_zero, List.set_cons_succ])
          generalize z1.heap.size = bb at FB ⊢
          (first | generalize (z1.alloc (.cells #[.int .u8 7] 5)) = z1 at HH BC FO FB ⊢ | generalize (z1.alloc (.cells #[.int .u8 7] 5)) = z1 at HH BC FB ⊢)
          refine wpAnyH_ready (rs := [8]) (by kernel_rfl) (by simp) ?_
          refine AllReadyH.cons ov8 (fun K hK => ?_) AllReadyH.nil
          rw [if_pos (by rfl)]
          refine wp_appB _ _ rfl W0.heap.size BC.out.size (.slice oa y1.length oc) y1 rfl FO.out (.slice (some ⟨bb, 0, none⟩) 1 1) [7] rfl FB.out (by have := HSX.out; simp only [List.length_singleton]; omega) ?_
          intro v9 z9 hA
          obtain ⟨oa2, oc2, e9⟩ := owns_sl hA.row
          rw [List.length_append, List.length_singleton] at e9
          subst e9
          have H9 := HH.app hA FO.out (by decide)
          have B9 := BC.out.trans (hA.below FO.out BC.out.size)
          have FO9 := hA.row
          rw [List.length_append, List.length_singleton] at FO9
          clear HH BC FO FB hA
          have HH := H9
          have BC : Hid (Below W0.heap.size W0 z9) := B9
          have FO : Hid (z9.ownsRow W0.heap.size 5 1 (.slice oa2 (y1.length + 1) oc2) (y1.length + 1) (bV (y1 ++ [7]))) := FO9
          clear H9 B9 FO9
          refine hK.out _ z9 HH (fun _ => ?_)
          clear hK K
          (try simp only [Act.put, List.setIfInBounds_toArray, List.set_cons_zero, List.set_cons_succ])
          refine wpAnyH_take (i := 9) (v := .pointer (some ⟨g1, 0, none⟩)) ov9 (by kernel_rfl) (by kernel_rfl) (by kernel_rfl) (fun _ _ _ h => h) (Or.inl ⟨by rfl, fun V' hS => ?_⟩) HH ?_
          · go_simp
          simp only [Act.put, List.setIfInBounds_toArray, List.set_cons_zero, List.set_cons_succ]
          refine wpAnyH_ready (rs := [10]) (by kernel_rfl) (by simp) ?_
          refine AllReadyH.cons ov10 (fun K hK => ?_) AllReadyH.nil
          rw [if_pos (by rfl)]
          have c0 := (BC.out.cell (p := ⟨g1, 0, none⟩) PA.out.2.2.2).trans PA.out.1
          have f0 := (BC.out.frozen (p := ⟨g1, 0, none⟩) PA.out.2.2.2).trans PA.out.2.1
          go_simp
          clear c0 f0
          have M9 : Hid (LgM b1 b2 B w (z9.setCell ⟨g1, 0, none⟩ (.slice oa2 (y1.length + 1) oc2)) (.slice ta nt tc) (.slice (some ⟨g1, 0, none⟩) nc cc) (.slice sa ns sc) (.slice da nd dc) z ⟨c.ts, c.cs.set 0 (y1 ++ [7]), c.ss, c.d, c.n⟩) := (M.out.past BC.out).set1 HL.out.2.1 PB.out.1 PB.out.2.1 PB.out.2.2 _ _ (by rw [List.length_append, List.length_singleton]; exact owns_base FO.out (Nat.le_trans M.out.ge M.out.bel.size))
          have H9 := HH.but ((But.refl (fun y => y = g1) z9).setCell ⟨g1, 0, none⟩ (.slice oa2 (y1.length + 1) oc2) (Or.inl rfl)) PB.out.2.1
          refine hK.out _ (z9.setCell ⟨g1, 0, none⟩ (.slice oa2 (y1.length + 1) oc2)) H9 (fun _ => ?_)
          clear hK K
          (try simp only [Act.put, List.setIfInBounds_toArray, List.set_cons_zero, List.set_cons_succ])
          generalize z9.setCell ⟨g1, 0, none⟩ (.slice oa2 (y1.length + 1) oc2) = W1 at M9 H9 ⊢
          clear H9 HH BC FO PA PB M HSX
          have M := M9
          clear M9
          refine wpAnyH_done (by kernel_rfl) ?_ _
          obtain ⟨c1, hc2⟩ : ∃ q : Con, q = ⟨c.ts, c.cs.set 0 (y1 ++ [7]), c.ss, c.d, c.n⟩ := ⟨_, rfl⟩
          rw [← hc2] at M
          have HT9 : Hid (total c1 ≤ 2097153) := by have := total_set1 c y1 7 HX.out; unfold Hid; rw [hc2, this]; have := HTO.out; omega
          have HL9 : Hid (Lens c1 nt nc ns nd z) := by have := HL.out; unfold Lens at this; unfold Hid Lens; rw [hc2]; simp only [List.length_set]; exact this
          clear hc2 HTO HL HX
          have HTO := HT9
          have HL := HL9
          clear HT9 HL9
          go_upto_region 5 with fail
          have x0 : W1.cell? ⟨b1, 0, none⟩ = some (.slice ta nt tc) := M.out.c1.cell 0
          have x1 : W1.cell? ⟨b1, 1, none⟩ = some (.slice (some ⟨g1, 0, none⟩) nc cc) := M.out.c1.cell 1
          have x2 : W1.cell? ⟨b1, 2, none⟩ = some (.slice sa ns sc) := M.out.c1.cell 2
          have x3 : W1.cell? ⟨b1, 3, none⟩ = some (.slice da nd dc) := M.out.c1.cell 3
          have x4 : W1.cell? ⟨b1, 4, none⟩ = some (.int .i64 z) := M.out.c1.cell 4
          have k0 : W1.cell? ⟨b2, 0, none⟩ = some (.slice none 0 0) := M.out.c2.cell 0
          have f0 := CBox.frozen M.out.c2 0
          have k1 : W1.cell? ⟨b2, 1, none⟩ = some (.slice none 0 0) := M.out.c2.cell 1
          have f1 := CBox.frozen M.out.c2 1
          have k2 : W1.cell? ⟨b2, 2, none⟩ = some (.slice none 0 0) := M.out.c2.cell 2
          have f2 := CBox.frozen M.out.c2 2
          have k3 : W1.cell? ⟨b2, 3, none⟩ = some (.slice none 0 0) := M.out.c2.cell 3
          have f3 := CBox.frozen M.out.c2 3
          have k4 : W1.cell? ⟨b2, 4, none⟩ = some (.int .i64 0) := M.out.c2.cell 4
          have f4 := CBox.frozen M.out.c2 4
          have HF : Hid (CBox (((((W1.setCell ⟨b2, 0, none⟩ (.slice ta nt tc)).setCell ⟨b2, 1, none⟩ (.slice (some ⟨g1, 0, none⟩) nc cc)).setCell ⟨b2, 2, none⟩ (.slice sa ns sc)).setCell ⟨b2, 3, none⟩ (.slice da nd dc)).setCell ⟨b2, 4, none⟩ (.int .i64 z)) b2 28 [.slice ta nt tc, .slice (some ⟨g1, 0, none⟩) nc cc, .slice sa ns sc, .slice da nd dc, .int .i64 z] ∧ DQ B (((((W1.setCell ⟨b2, 0, none⟩ (.slice ta nt tc)).setCell ⟨b2, 1, none⟩ (.slice (some ⟨g1, 0, none⟩) nc cc)).setCell ⟨b2, 2, none⟩ (.slice sa ns sc)).setCell ⟨b2, 3, none⟩ (.slice da nd dc)).setCell ⟨b2, 4, none⟩ (.int .i64 z)) (.slice ta nt tc) (.slice (some ⟨g1, 0, none⟩) nc cc) (.slice sa ns sc) (.slice da nd dc) c1 ∧ Below B w (((((W1.setCell ⟨b2, 0, none⟩ (.slice ta nt tc)).setCell ⟨b2, 1, none⟩ (.slice (some ⟨g1, 0, none⟩) nc cc)).setCell ⟨b2, 2, none⟩ (.slice sa ns sc)).setCell ⟨b2, 3, none⟩ (.slice da nd dc)).setCell ⟨b2, 4, none⟩ (.int .i64 z))) := by
            have hs : But (fun y => y = b2) W1 (((((W1.setCell ⟨b2, 0, none⟩ (.slice ta nt tc)).setCell ⟨b2, 1, none⟩ (.slice (some ⟨g1, 0, none⟩) nc cc)).setCell ⟨b2, 2, none⟩ (.slice sa ns sc)).setCell ⟨b2, 3, none⟩ (.slice da nd dc)).setCell ⟨b2, 4, none⟩ (.int .i64 z)) := ((((((But.refl (fun y => y = b2) W1).setCell ⟨b2, 0, none⟩ _ (Or.inl rfl)).setCell ⟨b2, 1, none⟩ _ (Or.inl rfl)).setCell ⟨b2, 2, none⟩ _ (Or.inl rfl)).setCell ⟨b2, 3, none⟩ _ (Or.inl rfl)).setCell ⟨b2, 4, none⟩ _ (Or.inl rfl))
            have ra : Alien W1 b2 := ⟨_, _, M.out.c2, by decide, by decide, by decide⟩
            exact ⟨(((((M.out.c2.set 0 _).set 1 _).set 2 _).set 3 _).set 4 _), ⟨row_alienT M.out.dq.t hs ra, PO.alien M.out.dq.p hs ra, PO.alien M.out.dq.s hs ra, row_alien M.out.dq.d hs ra, M.out.dq.ap⟩, M.out.bel.trans (hs.below (fun g e => by have := GL.out; omega) (Nat.le_trans M.out.ge M.out.bel.size))⟩
          clear M
          go_wp2
          clear x0 x1 x2 x3 x4 k0 k1 k2 k3 k4 f0 f1 f2 f3 f4
          generalize (((((W1.setCell ⟨b2, 0, none⟩ (.slice ta nt tc)).setCell ⟨b2, 1, none⟩ (.slice (some ⟨g1, 0, none⟩) nc cc)).setCell ⟨b2, 2, none⟩ (.slice sa ns sc)).setCell ⟨b2, 3, none⟩ (.slice da nd dc)).setCell ⟨b2, 4, none⟩ (.int .i64 z)) = Z9 at HF ⊢
          refine bodyPost_ret (v := .agg #[.slice ta nt tc, .slice (some ⟨g1, 0, none⟩) nc cc, .slice sa ns sc, .slice da nd dc, .int .i64 z]) (results_c (p := 2) (ty := 28) Try.results23 _ _ _ ⟨b2, 0, none⟩ rfl (run_loadVar_mid Z9 b2 0 28 [.slice ta nt tc, .slice (some ⟨g1, 0, none⟩) nc cc, .slice sa ns sc, .slice da nd dc, .int .i64 z] _ HF.out.1.range Try.underlying28 rfl (by kernel_rfl))) rfl ?_
          exact ⟨⟨_, c1, rfl, dq_do HF.out.2.1 HL.out, by have := HTO.out; omega⟩, HF.out.2.2⟩
        · rw [if_pos (by rfl)]
          go_simp
          have hB : Below z1.heap.size z1 (z1.alloc (.cells #[.int .u8 7] 5)) := below_alloc _ _
          have FB9 : BL (fun _ => True) (z1.alloc (.cells #[.int .u8 7] 5)) (.slice (some ⟨z1.heap.size, 0, none⟩) 1 1) [7] := (BL.new z1 [7] (by simp)).mono fun _ _ _ => trivial
          have H9 := HH.past hB
          clear HH
          have HH := H9
          clear H9
          have B9 := BC.out.trans (hB.mono BC.out.size)
          clear BC
          have BC : Hid (Below W0.heap.size W0 (z1.alloc (.cells #[.int .u8 7] 5))) := B9
          clear B9
          (try (have q9 := FO.out; clear FO; have FO : Hid ((z1.alloc (.cells #[.int .u8 7] 5)).ownsRow W0.heap.size 5 1 (.slice oa y1.length oc) y1.length (bV y1)) := owns_past q9 hB; clear q9))
          have FB : Hid _ := FB9
          clear FB9 hB
          refine hK.out _ (z1.alloc (.cells #[.int .u8 7] 5)) HH (fun _ => ?_)
          clear hK K
          (try simp only [Act.put, List.setIfInBounds_toArray, List.set_cons_zero, List.set_cons_succ])
          generalize z1.heap.size = bb at FB ⊢
          (first | generalize (z1.alloc (.cells #[.int .u8 7] 5)) = z1 at HH BC FO FB ⊢ | generalize (z1.alloc (.cells #[.int .u8 7] 5)) = z1 at HH BC FB ⊢)
          refine wpAnyH_ready (rs := [6]) (by kernel_rfl) (by simp) ?_
          refine AllReadyH.cons ov6 (fun K hK => ?_) AllReadyH.nil
          rw [if_pos (by rfl)]
          go_simp
          refine (own_is _ _ y1 (PA.out.2.2.1.past BC.out) HSX.out).mono ?_
          rintro e z1 ⟨v9, rfl, hO, hB⟩
          obtain ⟨oa, oc, rfl⟩ := owns_sl hO
          have FO9 := owns_base hO BC.out.size
          clear hO
          have H9 := HH.past hB
          clear HH
          have HH := H9
          clear H9
          have B9 := BC.out.trans (hB.mono BC.out.size)
          clear BC
          have BC : Hid (Below W0.heap.size W0 z1) := B9
          clear B9
          (try (have q9 := FB.out; clear FB; have FB : Hid (BL (fun _ => True) z1 (.slice (some ⟨bb, 0, none⟩) 1 1) [7]) := q9.past hB; clear q9))
          have FO : Hid (z1.ownsRow W0.heap.size 5 1 (.slice oa y1.length oc) y1.length (bV y1)) := FO9
          clear FO9 hB
          (try go_wp2_with fail)
          refine hK.out _ _ HH (fun _ => ?_)
          clear hK K
          (try simp only [Act.put, List.setIfInBounds_toArray, List.set_cons_zero, List.set_cons_succ])
          refine wpAnyH_ready (rs := [8]) (by kernel_rfl) (by simp) ?_
          refine AllReadyH.cons ov8 (fun K hK => ?_) AllReadyH.nil
          rw [if_pos (by rfl)]
          refine wp_appB _ _ rfl W0.heap.size BC.out.size (.slice oa y1.length oc) y1 rfl FO.out (.slice (some ⟨bb, 0, none⟩) 1 1) [7] rfl FB.out (by have := HSX.out; simp only [List.length_singleton]; omega) ?_
          intro v9 z9 hA
          obtain ⟨oa2, oc2, e9⟩ := owns_sl hA.row
          rw [List.length_append, List.length_singleton] at e9
          subst e9
          have H9 := HH.app hA FO.out (by decide)
          have B9 := BC.out.trans (hA.below FO.out BC.out.size)
          have FO9 := hA.row
          rw [List.length_append, List.length_singleton] at FO9
          clear HH BC FO FB hA
          have HH := H9
          have BC : Hid (Below W0.heap.size W0 z9) := B9
          have FO : Hid (z9.ownsRow W0.heap.size 5 1 (.slice oa2 (y1.length + 1) oc2) (y1.length + 1) (bV (y1 ++ [7]))) := FO9
          clear H9 B9 FO9
          refine hK.out _ z9 HH (fun _ => ?_)
          clear hK K
          (try simp only [Act.put, List.setIfInBounds_toArray, List.set_cons_zero, List.set_cons_succ])
          refine wpAnyH_take (i := 9) (v := .pointer (some ⟨g1, 0, none⟩)) ov9 (by kernel_rfl) (by kernel_rfl) (by kernel_rfl) (fun _ _ _ h => h) (Or.inl ⟨by rfl, fun V' hS => ?_⟩) HH ?_
          · go_simp
          simp only [Act.put, List.setIfInBounds_toArray, List.set_cons_zero, List.set_cons_succ]
          refine wpAnyH_ready (rs := [10]) (by kernel_rfl) (by simp) ?_
          refine AllReadyH.cons ov10 (fun K hK => ?_) AllReadyH.nil
          rw [if_pos (by rfl)]
          have c0 := (BC.out.cell (p := ⟨g1, 0, none⟩) PA.out.2.2.2).trans PA.out.1
          have f0 := (BC.out.frozen (p := ⟨g1, 0, none⟩) PA.out.2.2.2).trans PA.out.2.1
          go_simp
          clear c0 f0
          have M9 : Hid (LgM b1 b2 B w (z9.setCell ⟨g1, 0, none⟩ (.slice oa2 (y1.length + 1) oc2)) (.slice ta nt tc) (.slice (some ⟨g1, 0, none⟩) nc cc) (.slice sa ns sc) (.slice da nd dc) z ⟨c.ts, c.cs.set 0 (y1 ++ [7]), c.ss, c.d, c.n⟩) := (M.out.past BC.out).set1 HL.out.2.1 PB.out.1 PB.out.2.1 PB.out.2.2 _ _ (by rw [List.length_append, List.length_singleton]; exact owns_base FO.out (Nat.le_trans M.out.ge M.out.bel.size))
          have H9 := HH.but ((But.refl (fun y => y = g1) z9).setCell ⟨g1, 0, none⟩ (.slice oa2 (y1.length + 1) oc2) (Or.inl rfl)) PB.out.2.1
          refine hK.out _ (z9.setCell ⟨g1, 0, none⟩ (.slice oa2 (y1.length + 1) oc2)) H9 (fun _ => ?_)
          clear hK K
          (try simp only [Act.put, List.setIfInBounds_toArray, List.set_cons_zero, List.set_cons_succ])
          generalize z9.setCell ⟨g1, 0, none⟩ (.slice oa2 (y1.length + 1) oc2) = W1 at M9 H9 ⊢
          clear H9 HH BC FO PA PB M HSX
          have M := M9
          clear M9
          refine wpAnyH_done (by kernel_rfl) ?_ _
          obtain ⟨c1, hc2⟩ : ∃ q : Con, q = ⟨c.ts, c.cs.set 0 (y1 ++ [7]), c.ss, c.d, c.n⟩ := ⟨_, rfl⟩
          rw [← hc2] at M
          have HT9 : Hid (total c1 ≤ 2097153) := by have := total_set1 c y1 7 HX.out; unfold Hid; rw [hc2, this]; have := HTO.out; omega
          have HL9 : Hid (Lens c1 nt nc ns nd z) := by have := HL.out; unfold Lens at this; unfold Hid Lens; rw [hc2]; simp only [List.length_set]; exact this
          clear hc2 HTO HL HX
          have HTO := HT9
          have HL := HL9
          clear HT9 HL9
          go_upto_region 5 with fail
          have x0 : W1.cell? ⟨b1, 0, none⟩ = some (.slice ta nt tc) := M.out.c1.cell 0
          have x1 : W1.cell? ⟨b1, 1, none⟩ = some (.slice (some ⟨g1, 0, none⟩) nc cc) := M.out.c1.cell 1
          have x2 : W1.cell? ⟨b1, 2, none⟩ = some (.slice sa ns sc) := M.out.c1.cell 2
          have x3 : W1.cell? ⟨b1, 3, none⟩ = some (.slice da nd dc) := M.out.c1.cell 3
          have x4 : W1.cell? ⟨b1, 4, none⟩ = some (.int .i64 z) := M.out.c1.cell 4
          have k0 : W1.cell? ⟨b2, 0, none⟩ = some (.slice none 0 0) := M.out.c2.cell 0
          have f0 := CBox.frozen M.out.c2 0
          have k1 : W1.cell? ⟨b2, 1, none⟩ = some (.slice none 0 0) := M.out.c2.cell 1
          have f1 := CBox.frozen M.out.c2 1
          have k2 : W1.cell? ⟨b2, 2, none⟩ = some (.slice none 0 0) := M.out.c2.cell 2
          have f2 := CBox.frozen M.out.c2 2
          have k3 : W1.cell? ⟨b2, 3, none⟩ = some (.slice none 0 0) := M.out.c2.cell 3
          have f3 := CBox.frozen M.out.c2 3
          have k4 : W1.cell? ⟨b2, 4, none⟩ = some (.int .i64 0) := M.out.c2.cell 4
          have f4 := CBox.frozen M.out.c2 4
          have HF : Hid (CBox (((((W1.setCell ⟨b2, 0, none⟩ (.slice ta nt tc)).setCell ⟨b2, 1, none⟩ (.slice (some ⟨g1, 0, none⟩) nc cc)).setCell ⟨b2, 2, none⟩ (.slice sa ns sc)).setCell ⟨b2, 3, none⟩ (.slice da nd dc)).setCell ⟨b2, 4, none⟩ (.int .i64 z)) b2 28 [.slice ta nt tc, .slice (some ⟨g1, 0, none⟩) nc cc, .slice sa ns sc, .slice da nd dc, .int .i64 z] ∧ DQ B (((((W1.setCell ⟨b2, 0, none⟩ (.slice ta nt tc)).setCell ⟨b2, 1, none⟩ (.slice (some ⟨g1, 0, none⟩) nc cc)).setCell ⟨b2, 2, none⟩ (.slice sa ns sc)).setCell ⟨b2, 3, none⟩ (.slice da nd dc)).setCell ⟨b2, 4, none⟩ (.int .i64 z)) (.slice ta nt tc) (.slice (some ⟨g1, 0, none⟩) nc cc) (.slice sa ns sc) (.slice da nd dc) c1 ∧ Below B w (((((W1.setCell ⟨b2, 0, none⟩ (.slice ta nt tc)).setCell ⟨b2, 1, none⟩ (.slice (some ⟨g1, 0, none⟩) nc cc)).setCell ⟨b2, 2, none⟩ (.slice sa ns sc)).setCell ⟨b2, 3, none⟩ (.slice da nd dc)).setCell ⟨b2, 4, none⟩ (.int .i64 z))) := by
            have hs : But (fun y => y = b2) W1 (((((W1.setCell ⟨b2, 0, none⟩ (.slice ta nt tc)).setCell ⟨b2, 1, none⟩ (.slice (some ⟨g1, 0, none⟩) nc cc)).setCell ⟨b2, 2, none⟩ (.slice sa ns sc)).setCell ⟨b2, 3, none⟩ (.slice da nd dc)).setCell ⟨b2, 4, none⟩ (.int .i64 z)) := ((((((But.refl (fun y => y = b2) W1).setCell ⟨b2, 0, none⟩ _ (Or.inl rfl)).setCell ⟨b2, 1, none⟩ _ (Or.inl rfl)).setCell ⟨b2, 2, none⟩ _ (Or.inl rfl)).setCell ⟨b2, 3, none⟩ _ (Or.inl rfl)).setCell ⟨b2, 4, none⟩ _ (Or.inl rfl))
            have ra : Alien W1 b2 := ⟨_, _, M.out.c2, by decide, by decide, by decide⟩
            exact ⟨(((((M.out.c2.set 0 _).set 1 _).set 2 _).set 3 _).set 4 _), ⟨row_alienT M.out.dq.t hs ra, PO.alien M.out.dq.p hs ra, PO.alien M.out.dq.s hs ra, row_alien M.out.dq.d hs ra, M.out.dq.ap⟩, M.out.bel.trans (hs.below (fun g e => by have := GL.out; omega) (Nat.le_trans M.out.ge M.out.bel.size))⟩
          clear M
          go_wp2
          clear x0 x1 x2 x3 x4 k0 k1 k2 k3 k4 f0 f1 f2 f3 f4
          generalize (((((W1.setCell ⟨b2, 0, none⟩ (.slice ta nt tc)).setCell ⟨b2, 1, none⟩ (.slice (some ⟨g1, 0, none⟩) nc cc)).setCell ⟨b2, 2, none⟩ (.slice sa ns sc)).setCell ⟨b2, 3, none⟩ (.slice da nd dc)).setCell ⟨b2, 4, none⟩ (.int .i64 z)) = Z9 at HF ⊢
          refine bodyPost_ret (v := .agg #[.slice ta nt tc, .slice (some ⟨g1, 0, none⟩) nc cc, .slice sa ns sc, .slice da nd dc, .int .i64 z]) (results_c (p := 2) (ty := 28) Try.results23 _ _ _ ⟨b2, 0, none⟩ rfl (run_loadVar_mid Z9 b2 0 28 [.slice ta nt tc, .slice (some ⟨g1, 0, none⟩) nc cc, .slice sa ns sc, .slice da nd dc, .int .i64 z] _ HF.out.1.range Try.underlying28 rfl (by kernel_rfl))) rfl ?_
          exact ⟨⟨_, c1, rfl, dq_do HF.out.2.1 HL.out, by have := HTO.out; omega⟩, HF.out.2.2⟩
      · rw [if_pos (by rfl)]
        go_simp
        have hB : Below z1.heap.size z1 (z1.alloc (.cells #[.int .u8 7] 5)) := below_alloc _ _
        have FB9 : BL (fun _ => True) (z1.alloc (.cells #[.int .u8 7] 5)) (.slice (some ⟨z1.heap.size, 0, none⟩) 1 1) [7] := (BL.new z1 [7] (by simp)).mono fun _ _ _ => trivial
        have H9 := HH.past hB
        clear HH
        have HH := H9
        clear H9
        have B9 := BC.out.trans (hB.mono BC.out.size)
        clear BC
        have BC : Hid (Below W0.heap.size W0 (z1.alloc (.cells #[.int .u8 7] 5))) := B9
        clear B9
        (try (have q9 := FO.out; clear FO; have FO : Hid ((z1.alloc (.cells #[.int .u8 7] 5)).ownsRow W0.heap.size 5 1 (.slice oa y1.length oc) y1.length (bV y1)) := owns_past q9 hB; clear q9))
        have FB : Hid _ := FB9
        clear FB9 hB
        refine hK.out _ (z1.alloc (.cells #[.int .u8 7] 5)) HH (fun _ => ?_)
        clear hK K
        (try simp only [Act.put, List.setIfInBounds_toArray, List.set_cons_zero, List.set_cons_succ])
        generalize z1.heap.size = bb at FB ⊢
        (first | generalize (z1.alloc (.cells #[.int .u8 7] 5)) = z1 at HH BC FO FB ⊢ | generalize (z1.alloc (.cells #[.int .u8 7] 5)) = z1 at HH BC FB ⊢)
        refine wpAnyH_ready (rs := [5]) (by kernel_rfl) (by simp) ?_
        refine AllReadyH.cons ov5 (fun K hK => ?_) AllReadyH.nil
        rw [if_pos (by rfl)]
        have c0 := (BC.out.cell (p := ⟨g1, 0, none⟩) PA.out.2.2.2).trans PA.out.1
        go_simp
        clear c0
        refine hK.out _ _ HH (fun _ => ?_)
        clear hK K
        (try simp only [Act.put, List.setIfInBounds_toArray, List.set_cons_zero, List.set_cons_succ])
        refine wpAnyH_ready (rs := [6]) (by kernel_rfl) (by simp) ?_
        refine AllReadyH.cons ov6 (fun K hK => ?_) AllReadyH.nil
        rw [if_pos (by rfl)]
        go_simp
        refine (own_is _ _ y1 (PA.out.2.2.1.past BC.out) HSX.out).mono ?_
        rintro e z1 ⟨v9, rfl, hO, hB⟩
        obtain ⟨oa, oc, rfl⟩ := owns_sl hO
        have FO9 := owns_base hO BC.out.size
        clear hO
        have H9 := HH.past hB
        clear HH
        have HH := H9
        clear H9
        have B9 := BC.out.trans (hB.mono BC.out.size)
        clear BC
        have BC : Hid (Below W0.heap.size W0 z1) := B9
        clear B9
        (try (have q9 := FB.out; clear FB; have FB : Hid (BL (fun _ => True) z1 (.slice (some ⟨bb, 0, none⟩) 1 1) [7]) := q9.past hB; clear q9))
        have FO : Hid (z1.ownsRow W0.heap.size 5 1 (.slice oa y1.length oc) y1.length (bV y1)) := FO9
        clear FO9 hB
        (try go_wp2_with fail)
        refine hK.out _ _ HH (fun _ => ?_)
        clear hK K
        (try simp only [Act.put, List.setIfInBounds_toArray, List.set_cons_zero, List.set_cons_succ])
        refine wpAnyH_ready (rs := [8]) (by kernel_rfl) (by simp) ?_
        refine AllReadyH.cons ov8 (fun K hK => ?_) AllReadyH.nil
        rw [if_pos (by rfl)]
        refine wp_appB _ _ rfl W0.heap.size BC.out.size (.slice oa y1.length oc) y1 rfl FO.out (.slice (some ⟨bb, 0, none⟩) 1 1) [7] rfl FB.out (by have := HSX.out; simp only [List.length_singleton]; omega) ?_
        intro v9 z9 hA
        obtain ⟨oa2, oc2, e9⟩ := owns_sl hA.row
        rw [List.length_append, List.length_singleton] at e9
        subst e9
        have H9 := HH.app hA FO.out (by decide)
        have B9 := BC.out.trans (hA.below FO.out BC.out.size)
        have FO9 := hA.row
        rw [List.length_append, List.length_singleton] at FO9
        clear HH BC FO FB hA
        have HH := H9
        have BC : Hid (Below W0.heap.size W0 z9) := B9
        have FO : Hid (z9.ownsRow W0.heap.size 5 1 (.slice oa2 (y1.length + 1) oc2) (y1.length + 1) (bV (y1 ++ [7]))) := FO9
        clear H9 B9 FO9
        refine hK.out _ z9 HH (fun _ => ?_)
        clear hK K
        (try simp only [Act.put, List.setIfInBounds_toArray, List.set_cons_zero, List.set_cons_succ])
        refine wpAnyH_take (i := 9) (v := .pointer (some ⟨g1, 0, none⟩)) ov9 (by kernel_rfl) (by kernel_rfl) (by kernel_rfl) (fun _ _ _ h => h) (Or.inl ⟨by rfl, fun V' hS => ?_⟩) HH ?_
        · go_simp
        simp only [Act.put, List.setIfInBounds_toArray, List.set_cons_zero, List.set_cons_succ]
        refine wpAnyH_ready (rs := [10]) (by kernel_rfl) (by simp) ?_
        refine AllReadyH.cons ov10 (fun K hK => ?_) AllReadyH.nil
        rw [if_pos (by rfl)]
        have c0 := (BC.out.cell (p := ⟨g1, 0, none⟩) PA.out.2.2.2).trans PA.out.1
        have f0 := (BC.out.frozen (p := ⟨g1, 0, none⟩) PA.out.2.2.2).trans PA.out.2.1
        go_simp
        clear c0 f0
        have M9 : Hid (LgM b1 b2 B w (z9.setCell ⟨g1, 0, none⟩ (.slice oa2 (y1.length + 1) oc2)) (.slice ta nt tc) (.slice (some ⟨g1, 0, none⟩) nc cc) (.slice sa ns sc) (.slice da nd dc) z ⟨c.ts, c.cs.set 0 (y1 ++ [7]), c.ss, c.d, c.n⟩) := (M.out.past BC.out).set1 HL.out.2.1 PB.out.1 PB.out.2.1 PB.out.2.2 _ _ (by rw [List.length_append, List.length_singleton]; exact owns_base FO.out (Nat.le_trans M.out.ge M.out.bel.size))
        have H9 := HH.but ((But.refl (fun y => y = g1) z9).setCell ⟨g1, 0, none⟩ (.slice oa2 (y1.length + 1) oc2) (Or.inl rfl)) PB.out.2.1
        refine hK.out _ (z9.setCell ⟨g1, 0, none⟩ (.slice oa2 (y1.length + 1) oc2)) H9 (fun _ => ?_)
        clear hK K
        (try simp only [Act.put, List.setIfInBounds_toArray, List.set_cons_zero, List.set_cons_succ])
        generalize z9.setCell ⟨g1, 0, none⟩ (.slice oa2 (y1.length + 1) oc2) = W1 at M9 H9 ⊢
        clear H9 HH BC FO PA PB M HSX
        have M := M9
        clear M9
        refine wpAnyH_done (by kernel_rfl) ?_ _
        obtain ⟨c1, hc2⟩ : ∃ q : Con, q = ⟨c.ts, c.cs.set 0 (y1 ++ [7]), c.ss, c.d, c.n⟩ := ⟨_, rfl⟩
        rw [← hc2] at M
        have HT9 : Hid (total c1 ≤ 2097153) := by have := total_set1 c y1 7 HX.out; unfold Hid; rw [hc2, this]; have := HTO.out; omega
        have HL9 : Hid (Lens c1 nt nc ns nd z) := by have := HL.out; unfold Lens at this; unfold Hid Lens; rw [hc2]; simp only [List.length_set]; exact this
        clear hc2 HTO HL HX
        have HTO := HT9
        have HL := HL9
        clear HT9 HL9
        go_upto_region 5 with fail
        have x0 : W1.cell? ⟨b1, 0, none⟩ = some (.slice ta nt tc) := M.out.c1.cell 0
        have x1 : W1.cell? ⟨b1, 1, none⟩ = some (.slice (some ⟨g1, 0, none⟩) nc cc) := M.out.c1.cell 1
        have x2 : W1.cell? ⟨b1, 2, none⟩ = some (.slice sa ns sc) := M.out.c1.cell 2
        have x3 : W1.cell? ⟨b1, 3, none⟩ = some (.slice da nd dc) := M.out.c1.cell 3
        have x4 : W1.cell? ⟨b1, 4, none⟩ = some (.int .i64 z) := M.out.c1.cell 4
        have k0 : W1.cell? ⟨b2, 0, none⟩ = some (.slice none 0 0) := M.out.c2.cell 0
        have f0 := CBox.frozen M.out.c2 0
        have k1 : W1.cell? ⟨b2, 1, none⟩ = some (.slice none 0 0) := M.out.c2.cell 1
        have f1 := CBox.frozen M.out.c2 1
        have k2 : W1.cell? ⟨b2, 2, none⟩ = some (.slice none 0 0) := M.out.c2.cell 2
        have f2 := CBox.frozen M.out.c2 2
        have k3 : W1.cell? ⟨b2, 3, none⟩ = some (.slice none 0 0) := M.out.c2.cell 3
        have f3 := CBox.frozen M.out.c2 3
        have k4 : W1.cell? ⟨b2, 4, none⟩ = some (.int .i64 0) := M.out.c2.cell 4
        have f4 := CBox.frozen M.out.c2 4
        have HF : Hid (CBox (((((W1.setCell ⟨b2, 0, none⟩ (.slice ta nt tc)).setCell ⟨b2, 1, none⟩ (.slice (some ⟨g1, 0, none⟩) nc cc)).setCell ⟨b2, 2, none⟩ (.slice sa ns sc)).setCell ⟨b2, 3, none⟩ (.slice da nd dc)).setCell ⟨b2, 4, none⟩ (.int .i64 z)) b2 28 [.slice ta nt tc, .slice (some ⟨g1, 0, none⟩) nc cc, .slice sa ns sc, .slice da nd dc, .int .i64 z] ∧ DQ B (((((W1.setCell ⟨b2, 0, none⟩ (.slice ta nt tc)).setCell ⟨b2, 1, none⟩ (.slice (some ⟨g1, 0, none⟩) nc cc)).setCell ⟨b2, 2, none⟩ (.slice sa ns sc)).setCell ⟨b2, 3, none⟩ (.slice da nd dc)).setCell ⟨b2, 4, none⟩ (.int .i64 z)) (.slice ta nt tc) (.slice (some ⟨g1, 0, none⟩) nc cc) (.slice sa ns sc) (.slice da nd dc) c1 ∧ Below B w (((((W1.setCell ⟨b2, 0, none⟩ (.slice ta nt tc)).setCell ⟨b2, 1, none⟩ (.slice (some ⟨g1, 0, none⟩) nc cc)).setCell ⟨b2, 2, none⟩ (.slice sa ns sc)).setCell ⟨b2, 3, none⟩ (.slice da nd dc)).setCell ⟨b2, 4, none⟩ (.int .i64 z))) := by
          have hs : But (fun y => y = b2) W1 (((((W1.setCell ⟨b2, 0, none⟩ (.slice ta nt tc)).setCell ⟨b2, 1, none⟩ (.slice (some ⟨g1, 0, none⟩) nc cc)).setCell ⟨b2, 2, none⟩ (.slice sa ns sc)).setCell ⟨b2, 3, none⟩ (.slice da nd dc)).setCell ⟨b2, 4, none⟩ (.int .i64 z)) := ((((((But.refl (fun y => y = b2) W1).setCell ⟨b2, 0, none⟩ _ (Or.inl rfl)).setCell ⟨b2, 1, none⟩ _ (Or.inl rfl)).setCell ⟨b2, 2, none⟩ _ (Or.inl rfl)).setCell ⟨b2, 3, none⟩ _ (Or.inl rfl)).setCell ⟨b2, 4, none⟩ _ (Or.inl rfl))
          have ra : Alien W1 b2 := ⟨_, _, M.out.c2, by decide, by decide, by decide⟩
          exact ⟨(((((M.out.c2.set 0 _).set 1 _).set 2 _).set 3 _).set 4 _), ⟨row_alienT M.out.dq.t hs ra, PO.alien M.out.dq.p hs ra, PO.alien M.out.dq.s hs ra, row_alien M.out.dq.d hs ra, M.out.dq.ap⟩, M.out.bel.trans (hs.below (fun g e => by have := GL.out; omega) (Nat.le_trans M.out.ge M.out.bel.size))⟩
        clear M
        go_wp2
        clear x0 x1 x2 x3 x4 k0 k1 k2 k3 k4 f0 f1 f2 f3 f4
        generalize (((((W1.setCell ⟨b2, 0, none⟩ (.slice ta nt tc)).setCell ⟨b2, 1, none⟩ (.slice (some ⟨g1, 0, none⟩) nc cc)).setCell ⟨b2, 2, none⟩ (.slice sa ns sc)).setCell ⟨b2, 3, none⟩ (.slice da nd dc)).setCell ⟨b2, 4, none⟩ (.int .i64 z)) = Z9 at HF ⊢
        refine bodyPost_ret (v := .agg #[.slice ta nt tc, .slice (some ⟨g1, 0, none⟩) nc cc, .slice sa ns sc, .slice da nd dc, .int .i64 z]) (results_c (p := 2) (ty := 28) Try.results23 _ _ _ ⟨b2, 0, none⟩ rfl (run_loadVar_mid Z9 b2 0 28 [.slice ta nt tc, .slice (some ⟨g1, 0, none⟩) nc cc, .slice sa ns sc, .slice da nd dc, .int .i64 z] _ HF.out.1.range Try.underlying28 rfl (by kernel_rfl))) rfl ?_
        exact ⟨⟨_, c1, rfl, dq_do HF.out.2.1 HL.out, by have := HTO.out; omega⟩, HF.out.2.2⟩
  · have q0 : (0 : Int) < (nt : Int) := by omega
    obtain ⟨k, hk⟩ : ∃ k, nt = k + 1 := ⟨nt - 1, by omega⟩
    obtain ⟨t, hx⟩ : ∃ t, c.ts[k]? = some t := ⟨c.ts[k]'(by have := HL.out; unfold Lens at this; omega), List.getElem?_eq_getElem _⟩
    have HX : Hid (c.ts[k]? = some t) := hx
    have HK1 : Hid ((nt : Int) - 1 = (k : Int)) := by unfold Hid; omega
    have HK2 : Hid (IntKind.i64.wrap (k : Int) = (k : Int)) := by have h1 := HTO.out; have h2 := HL.out; unfold total fourOf at h1; unfold Lens at h2; unfold Hid; rw [IntKind.wrap_i64]; omega
    have kI : (k : Int) < (nt : Int) := by omega
    obtain ⟨m', hm⟩ : ∃ m', m' = bits .xor .i64 t.2.2 1024 := ⟨_, rfl⟩
    have HXM : Hid (bits .xor .i64 t.2.2 1024 = m') := hm.symm
    obtain ⟨g0, eg, r1, r2, r3, r4, r5⟩ := type_at (by have h2 := M.out.dq.t; rw [HL.out.1] at h2; exact h2) HL.out.1 hx
    subst eg
    have PA : Hid (W0.cell? ⟨g0, k * 3 + 2, none⟩ = some (.int .i64 t.2.2) ∧ W0.frozen? ⟨g0, k * 3 + 2, none⟩ = false ∧ g0 < W0.heap.size) := ⟨r2, r3, r4⟩
    have PB : Hid (B ≤ g0 ∧ b1 ≠ g0 ∧ b2 ≠ g0) := ⟨r1, r5 _ _ _ M.out.c1 (by decide), r5 _ _ _ M.out.c2 (by decide)⟩
    clear hx hm hk r1 r2 r3 r4 r5 e0
    have a0 : W0.cell? ⟨b1, 0, none⟩ = some (.slice (some ⟨g0, 0, none⟩) nt tc) := M.out.c1.cell 0
    go_upto_region 2 with fail
    clear a0 q0
    refine wp_region_held_drew (S := fun V' => CBox V' b1 28 [.slice (some ⟨g0, 0, none⟩) nt tc, .slice ca nc cc, .slice sa ns sc, .slice da nd dc, .int .i64 z]) (by kernel_rfl) (M.out.c1.past below_drew) (fun HH => ?_)
    have BC : Hid (Below W0.heap.size W0 W0.drew) := below_drew
    have M : Hid _ := M
    generalize W0.drew = z1 at HH BC ⊢
    refine wpAnyH_take (i := 0) (v := .pointer (some ⟨b1, 0, none⟩)) ov0 (by kernel_rfl) (by kernel_rfl) (by kernel_rfl) (fun _ _ _ h => h) (Or.inl ⟨by rfl, fun V' hS => ?_⟩) HH ?_
    · go_simp
    simp only [Act.put, List.setIfInBounds_toArray, List.set_cons_zero, List.set_cons_succ]
    refine wpAnyH_take (i := 1) (v := .slice (some ⟨g0, 0, none⟩) nt tc) ov1 (by kernel_rfl) (by kernel_rfl) (by kernel_rfl) (fun _ _ _ h => h) (Or.inl ⟨by rfl, fun V' hS => ?_⟩) HH ?_
    · have c0 := hS.cell 0
      go_simp
    simp only [Act.put, List.setIfInBounds_toArray, List.set_cons_zero, List.set_cons_succ]
    refine wpAnyH_take (i := 2) (v := .pointer (some ⟨b1, 0, none⟩)) ov2 (by kernel_rfl) (by kernel_rfl) (by kernel_rfl) (fun _ _ _ h => h) (Or.inl ⟨by rfl, fun V' hS => ?_⟩) HH ?_
    · go_simp
    simp only [Act.put, List.setIfInBounds_toArray, List.set_cons_zero, List.set_cons_succ]
    refine wpAnyH_take (i := 3) (v := .slice (some ⟨g0, 0, none⟩) nt tc) ov3 (by kernel_rfl) (by kernel_rfl) (by kernel_rfl) (fun _ _ _ h => h) (Or.inl ⟨by rfl, fun V' hS => ?_⟩) HH ?_
    · have c0 := hS.cell 0
      go_simp
    simp only [Act.put, List.setIfInBounds_toArray, List.set_cons_zero, List.set_cons_succ]
    refine wpAnyH_take (i := 4) (v := .int .i64 (nt : Int)) ov4 (by kernel_rfl) (by kernel_rfl) (by kernel_rfl) (fun _ _ _ h => h) (Or.inl ⟨by rfl, fun V' hS => ?_⟩) HH ?_
    · go_simp
    simp only [Act.put, List.setIfInBounds_toArray, List.set_cons_zero, List.set_cons_succ]
    refine wpAnyH_take (i := 5) (v := .int .i64 (k : Int)) ov5 (by kernel_rfl) (by kernel_rfl) (by kernel_rfl) (fun _ _ _ h => h) (Or.inl ⟨by rfl, fun V' hS => ?_⟩) HH ?_
    · have c0 := HK1.out; have c1 := HK2.out
      go_simp
    simp only [Act.put, List.setIfInBounds_toArray, List.set_cons_zero, List.set_cons_succ]
    refine wpAnyH_take (i := 6) (v := .pointer (some ⟨b1, 0, none⟩)) ov6 (by kernel_rfl) (by kernel_rfl) (by kernel_rfl) (fun _ _ _ h => h) (Or.inl ⟨by rfl, fun V' hS => ?_⟩) HH ?_
    · go_simp
    simp only [Act.put, List.setIfInBounds_toArray, List.set_cons_zero, List.set_cons_succ]
    refine wpAnyH_take (i := 7) (v := .slice (some ⟨g0, 0, none⟩) nt tc) ov7 (by kernel_rfl) (by kernel_rfl) (by kernel_rfl) (fun _ _ _ h => h) (Or.inl ⟨by rfl, fun V' hS => ?_⟩) HH ?_
    · have c0 := hS.cell 0
      go_simp
    simp only [Act.put, List.setIfInBounds_toArray, List.set_cons_zero, List.set_cons_succ]
    refine wpAnyH_take (i := 8) (v := .pointer (some ⟨b1, 0, none⟩)) ov8 (by kernel_rfl) (by kernel_rfl) (by kernel_rfl) (fun _ _ _ h => h) (Or.inl ⟨by rfl, fun V' hS => ?_⟩) HH ?_
    · go_simp
    simp only [Act.put, List.setIfInBounds_toArray, List.set_cons_zero, List.set_cons_succ]
    refine wpAnyH_take (i := 9) (v := .slice (some ⟨g0, 0, none⟩) nt tc) ov9 (by kernel_rfl) (by kernel_rfl) (by kernel_rfl) (fun _ _ _ h => h) (Or.inl ⟨by rfl, fun V' hS => ?_⟩) HH ?_
    · have c0 := hS.cell 0
      go_simp
    simp only [Act.put, List.setIfInBounds_toArray, List.set_cons_zero, List.set_cons_succ]
    refine wpAnyH_take (i := 10) (v := .int .i64 (nt : Int)) ov10 (by kernel_rfl) (by kernel_rfl) (by kernel_rfl) (fun _ _ _ h => h) (Or.inl ⟨by rfl, fun V' hS => ?_⟩) HH ?_
    · go_simp
    simp only [Act.put, List.setIfInBounds_toArray, List.set_cons_zero, List.set_cons_succ]
    refine wpAnyH_take (i := 11) (v := .int .i64 (k : Int)) ov11 (by kernel_rfl) (by kernel_rfl) (by kernel_rfl) (fun _ _ _ h => h) (Or.inl ⟨by rfl, fun V' hS => ?_⟩) HH ?_
    · have c0 := HK1.out; have c1 := HK2.out
      go_simp
    simp only [Act.put, List.setIfInBounds_toArray, List.set_cons_zero, List.set_cons_succ]
    refine wpAnyH_take (i := 12) (v := .pointer (some ⟨g0, k * 3, none⟩)) ov12 (by kernel_rfl) (by kernel_rfl) (by kernel_rfl) (fun _ _ _ h => h) (Or.inl ⟨by rfl, fun V' hS => ?_⟩) HH ?_
    · go_simp
    simp only [Act.put, List.setIfInBounds_toArray, List.set_cons_zero, List.set_cons_succ]
    refine wpAnyH_take (i := 13) (v := .pointer (some ⟨g0, k * 3 + 2, none⟩)) ov13 (by kernel_rfl) (by kernel_rfl) (by kernel_rfl) (fun _ _ _ h => h) (Or.inl ⟨by rfl, fun V' hS => ?_⟩) HH ?_
    · go_simp
    simp only [Act.put, List.setIfInBounds_toArray, List.set_cons_zero, List.set_cons_succ]
    refine wpAnyH_ready (rs := [14]) (by kernel_rfl) (by simp) ?_
    refine AllReadyH.cons ov14 (fun K hK => ?_) AllReadyH.nil
    rw [if_pos (by rfl)]
    have c0 := (BC.out.cell (p := ⟨g0, k * 3 + 2, none⟩) PA.out.2.2).trans PA.out.1
    go_simp
    clear c0
    refine hK.out _ _ HH (fun _ => ?_)
    clear hK K
    (try simp only [Act.put, List.setIfInBounds_toArray, List.set_cons_zero, List.set_cons_succ])
    refine wpAnyH_take (i := 15) (v := .int .i64 m') ov15 (by kernel_rfl) (by kernel_rfl) (by kernel_rfl) (fun _ _ _ h => h) (Or.inl ⟨by rfl, fun V' hS => ?_⟩) HH ?_
    · have c0 := HXM.out
      go_simp
    simp only [Act.put, List.setIfInBounds_toArray, List.set_cons_zero, List.set_cons_succ]
    refine wpAnyH_take (i := 16) (v := .pointer (some ⟨g0, k * 3, none⟩)) ov16 (by kernel_rfl) (by kernel_rfl) (by kernel_rfl) (fun _ _ _ h => h) (Or.inl ⟨by rfl, fun V' hS => ?_⟩) HH ?_
    · go_simp
    simp only [Act.put, List.setIfInBounds_toArray, List.set_cons_zero, List.set_cons_succ]
    refine wpAnyH_take (i := 17) (v := .pointer (some ⟨g0, k * 3 + 2, none⟩)) ov17 (by kernel_rfl) (by kernel_rfl) (by kernel_rfl) (fun _ _ _ h => h) (Or.inl ⟨by rfl, fun V' hS => ?_⟩) HH ?_
    · go_simp
    simp only [Act.put, List.setIfInBounds_toArray, List.set_cons_zero, List.set_cons_succ]
    refine wpAnyH_ready (rs := [18]) (by kernel_rfl) (by simp) ?_
    refine AllReadyH.cons ov18 (fun K hK => ?_) AllReadyH.nil
    rw [if_pos (by rfl)]
    have c0 := (BC.out.cell (p := ⟨g0, k * 3 + 2, none⟩) PA.out.2.2).trans PA.out.1
    have f0 := (BC.out.frozen (p := ⟨g0, k * 3 + 2, none⟩) PA.out.2.2).trans PA.out.2.1
    go_simp
    clear c0 f0
    have M9 : Hid (LgM b1 b2 B w (z1.setCell ⟨g0, k * 3 + 2, none⟩ (.int .i64 m')) (.slice (some ⟨g0, 0, none⟩) nt tc) (.slice ca nc cc) (.slice sa ns sc) (.slice da nd dc) z ⟨c.ts.set k (t.1, t.2.1, m'), c.cs, c.ss, c.d, c.n⟩) := (M.out.past BC.out).setT HL.out.1 PB.out.1 PB.out.2.1 PB.out.2.2 _ _ (tV_set c.ts k t m' HX.out) (by rw [List.length_set]; exact HL.out.1)
    have H9 := HH.but ((But.refl (fun y => y = g0) z1).setCell ⟨g0, k * 3 + 2, none⟩ (.int .i64 m') (Or.inl rfl)) PB.out.2.1
    refine hK.out _ (z1.setCell ⟨g0, k * 3 + 2, none⟩ (.int .i64 m')) H9 (fun _ => ?_)
    clear hK K
    (try simp only [Act.put, List.setIfInBounds_toArray, List.set_cons_zero, List.set_cons_succ])
    generalize (z1.setCell ⟨g0, k * 3 + 2, none⟩ (.int .i64 m')) = W7 at M9 H9 ⊢
    clear H9 HH BC PA PB M HXM
    have M := M9
    clear M9
    refine wpAnyH_done (by kernel_rfl) ?_ _
    obtain ⟨c7, hc2⟩ : ∃ q : Con, q = ⟨c.ts.set k (t.1, t.2.1, m'), c.cs, c.ss, c.d, c.n⟩ := ⟨_, rfl⟩
    rw [← hc2] at M
    have HT9 : Hid (total c7 ≤ 2097152) := by have := HTO.out; unfold Hid; rw [hc2]; unfold total fourOf at this ⊢; simp only [List.length_set]; exact this
    have HL9 : Hid (Lens c7 nt nc ns nd z) := by have := HL.out; unfold Lens at this; unfold Hid Lens; rw [hc2]; simp only [List.length_set]; exact this
    clear hc2 HTO HL HX HK1 HK2
    have HTO := HT9
    have HL := HL9
    clear HT9 HL9
    go_upto_region 3 with fail
    by_cases e1 : nc = 0
    · have a1 : W7.cell? ⟨b1, 1, none⟩ = some (.slice ca nc cc) := M.out.c1.cell 1
      have q1 : ¬ (0 : Int) < (nc : Int) := by omega
      clear e1
      go_upto_region 5 with fail
      clear a1 q1
      have x0 : W7.cell? ⟨b1, 0, none⟩ = some (.slice (some ⟨g0, 0, none⟩) nt tc) := M.out.c1.cell 0
      have x1 : W7.cell? ⟨b1, 1, none⟩ = some (.slice ca nc cc) := M.out.c1.cell 1
      have x2 : W7.cell? ⟨b1, 2, none⟩ = some (.slice sa ns sc) := M.out.c1.cell 2
      have x3 : W7.cell? ⟨b1, 3, none⟩ = some (.slice da nd dc) := M.out.c1.cell 3
      have x4 : W7.cell? ⟨b1, 4, none⟩ = some (.int .i64 z) := M.out.c1.cell 4
      have k0 : W7.cell? ⟨b2, 0, none⟩ = some (.slice none 0 0) := M.out.c2.cell 0
      have f0 := CBox.frozen M.out.c2 0
      have k1 : W7.cell? ⟨b2, 1, none⟩ = some (.slice none 0 0) := M.out.c2.cell 1
      have f1 := CBox.frozen M.out.c2 1
      have k2 : W7.cell? ⟨b2, 2, none⟩ = some (.slice none 0 0) := M.out.c2.cell 2
      have f2 := CBox.frozen M.out.c2 2
      have k3 : W7.cell? ⟨b2, 3, none⟩ = some (.slice none 0 0) := M.out.c2.cell 3
      have f3 := CBox.frozen M.out.c2 3
      have k4 : W7.cell? ⟨b2, 4, none⟩ = some (.int .i64 0) := M.out.c2.cell 4
      have f4 := CBox.frozen M.out.c2 4
      have HF : Hid (CBox (((((W7.setCell ⟨b2, 0, none⟩ (.slice (some ⟨g0, 0, none⟩) nt tc)).setCell ⟨b2, 1, none⟩ (.slice ca nc cc)).setCell ⟨b2, 2, none⟩ (.slice sa ns sc)).setCell ⟨b2, 3, none⟩ (.slice da nd dc)).setCell ⟨b2, 4, none⟩ (.int .i64 z)) b2 28 [.slice (some ⟨g0, 0, none⟩) nt tc, .slice ca nc cc, .slice sa ns sc, .slice da nd dc, .int .i64 z] ∧ DQ B (((((W7.setCell ⟨b2, 0, none⟩ (.slice (some ⟨g0, 0, none⟩) nt tc)).setCell ⟨b2, 1, none⟩ (.slice ca nc cc)).setCell ⟨b2, 2, none⟩ (.slice sa ns sc)).setCell ⟨b2, 3, none⟩ (.slice da nd dc)).setCell ⟨b2, 4, none⟩ (.int .i64 z)) (.slice (some ⟨g0, 0, none⟩) nt tc) (.slice ca nc cc) (.slice sa ns sc) (.slice da nd dc) c7 ∧ Below B w (((((W7.setCell ⟨b2, 0, none⟩ (.slice (some ⟨g0, 0, none⟩) nt tc)).setCell ⟨b2, 1, none⟩ (.slice ca nc cc)).setCell ⟨b2, 2, none⟩ (.slice sa ns sc)).setCell ⟨b2, 3, none⟩ (.slice da nd dc)).setCell ⟨b2, 4, none⟩ (.int .i64 z))) := by
        have hs : But (fun y => y = b2) W7 (((((W7.setCell ⟨b2, 0, none⟩ (.slice (some ⟨g0, 0, none⟩) nt tc)).setCell ⟨b2, 1, none⟩ (.slice ca nc cc)).setCell ⟨b2, 2, none⟩ (.slice sa ns sc)).setCell ⟨b2, 3, none⟩ (.slice da nd dc)).setCell ⟨b2, 4, none⟩ (.int .i64 z)) := ((((((But.refl (fun y => y = b2) W7).setCell ⟨b2, 0, none⟩ _ (Or.inl rfl)).setCell ⟨b2, 1, none⟩ _ (Or.inl rfl)).setCell ⟨b2, 2, none⟩ _ (Or.inl rfl)).setCell ⟨b2, 3, none⟩ _ (Or.inl rfl)).setCell ⟨b2, 4, none⟩ _ (Or.inl rfl))
        have ra : Alien W7 b2 := ⟨_, _, M.out.c2, by decide, by decide, by decide⟩
        exact ⟨(((((M.out.c2.set 0 _).set 1 _).set 2 _).set 3 _).set 4 _), ⟨row_alienT M.out.dq.t hs ra, PO.alien M.out.dq.p hs ra, PO.alien M.out.dq.s hs ra, row_alien M.out.dq.d hs ra, M.out.dq.ap⟩, M.out.bel.trans (hs.below (fun g e => by have := GL.out; omega) (Nat.le_trans M.out.ge M.out.bel.size))⟩
      clear M
      go_wp2
      clear x0 x1 x2 x3 x4 k0 k1 k2 k3 k4 f0 f1 f2 f3 f4
      generalize (((((W7.setCell ⟨b2, 0, none⟩ (.slice (some ⟨g0, 0, none⟩) nt tc)).setCell ⟨b2, 1, none⟩ (.slice ca nc cc)).setCell ⟨b2, 2, none⟩ (.slice sa ns sc)).setCell ⟨b2, 3, none⟩ (.slice da nd dc)).setCell ⟨b2, 4, none⟩ (.int .i64 z)) = Z9 at HF ⊢
      refine bodyPost_ret (v := .agg #[.slice (some ⟨g0, 0, none⟩) nt tc, .slice ca nc cc, .slice sa ns sc, .slice da nd dc, .int .i64 z]) (results_c (p := 2) (ty := 28) Try.results23 _ _ _ ⟨b2, 0, none⟩ rfl (run_loadVar_mid Z9 b2 0 28 [.slice (some ⟨g0, 0, none⟩) nt tc, .slice ca nc cc, .slice sa ns sc, .slice da nd dc, .int .i64 z] _ HF.out.1.range Try.underlying28 rfl (by kernel_rfl))) rfl ?_
      exact ⟨⟨_, c7, rfl, dq_do HF.out.2.1 HL.out, by have := HTO.out; omega⟩, HF.out.2.2⟩
    · have q1 : (0 : Int) < (nc : Int) := by omega
      obtain ⟨y1, hx⟩ : ∃ x, c7.cs[0]? = some x := ⟨c7.cs[0]'(by have := HL.out; unfold Lens at this; omega), List.getElem?_eq_getElem _⟩
      have HX : Hid (c7.cs[0]? = some y1) := hx
      have hsx : y1.length ≤ 16777216 := by
        have h1 := (List.sublist_flatten_of_mem (List.mem_of_getElem? hx)).length_le
        have h2 := HTO.out
        unfold total at h2
        omega
      have HSX : Hid (y1.length ≤ 16777216) := hsx
      obtain ⟨g1, ua, uc, eg, r1, r2, r3, r4, r5, r6⟩ := piece_at M.out.dq.p HL.out.2.1 hx hsx
      subst eg
      have PA : Hid (W7.cell? ⟨g1, 0, none⟩ = some (.slice ua y1.length uc) ∧ W7.frozen? ⟨g1, 0, none⟩ = false ∧ BL (fun _ => True) W7 (.slice ua y1.length uc) y1 ∧ g1 < W7.heap.size) := ⟨r2, r3, r4, r5⟩
      have PB : Hid (B ≤ g1 ∧ b1 ≠ g1 ∧ b2 ≠ g1) := ⟨r1, r6 _ _ _ M.out.c1 (by decide), r6 _ _ _ M.out.c2 (by decide)⟩
      clear hx hsx r1 r2 r3 r4 r5 r6 e1
      have a1 : W7.cell? ⟨b1, 1, none⟩ = some (.slice (some ⟨g1, 0, none⟩) nc cc) := M.out.c1.cell 1
      go_upto_region 4 with fail
      clear a1 q1
      refine wp_region_held_drew (S := fun V' => CBox V' b1 28 [.slice (some ⟨g0, 0, none⟩) nt tc, .slice (some ⟨g1, 0, none⟩) nc cc, .slice sa ns sc, .slice da nd dc, .int .i64 z]) (by kernel_rfl) (M.out.c1.past below_drew) (fun HH => ?_)
      have BC : Hid (Below W7.heap.size W7 W7.drew) := below_drew
      have M : Hid _ := M
      generalize W7.drew = z1 at HH BC ⊢
      refine wpAnyH_take (i := 0) (v := .pointer (some ⟨b1, 1, none⟩)) ov0 (by kernel_rfl) (by kernel_rfl) (by kernel_rfl) (fun _ _ _ h => h) (Or.inl ⟨by rfl, fun V' hS => ?_⟩) HH ?_
      · go_simp
      simp only [Act.put, List.setIfInBounds_toArray, List.set_cons_zero, List.set_cons_succ]
      refine wpAnyH_take (i := 1) (v := .slice (some ⟨g1, 0, none⟩) nc cc) ov1 (by kernel_rfl) (by kernel_rfl) (by kernel_rfl) (fun _ _ _ h => h) (Or.inl ⟨by rfl, fun V' hS => ?_⟩) HH ?_
      · have c0 := hS.cell 1
        go_simp
      simp only [Act.put, List.setIfInBounds_toArray, List.set_cons_zero, List.set_cons_succ]
      refine wpAnyH_take (i := 2) (v := .pointer (some ⟨b1, 1, none⟩)) ov2 (by kernel_rfl) (by kernel_rfl) (by kernel_rfl) (fun _ _ _ h => h) (Or.inl ⟨by rfl, fun V' hS => ?_⟩) HH ?_
      · go_simp
      simp only [Act.put, List.setIfInBounds_toArray, List.set_cons_zero, List.set_cons_succ]
      refine wpAnyH_take (i := 3) (v := .slice (some ⟨g1, 0, none⟩) nc cc) ov3 (by kernel_rfl) (by kernel_rfl) (by kernel_rfl) (fun _ _ _ h => h) (Or.inl ⟨by rfl, fun V' hS => ?_⟩) HH ?_
      · have c0 := hS.cell 1
        go_simp
      simp only [Act.put, List.setIfInBounds_toArray, List.set_cons_zero, List.set_cons_succ]
      refine wpAnyH_take (i := 4) (v := .pointer (some ⟨g1, 0, none⟩)) ov4 (by kernel_rfl) (by kernel_rfl) (by kernel_rfl) (fun _ _ _ h => h) (Or.inl ⟨by rfl, fun V' hS => ?_⟩) HH ?_
      · go_simp
      simp only [Act.put, List.setIfInBounds_toArray, List.set_cons_zero, List.set_cons_succ]
      refine wpAnyH_ready (rs := [5, 7]) (by kernel_rfl) (by simp) ?_
      refine AllReadyH.cons ov5 (fun K hK => ?_) (AllReadyH.cons ov7 (fun K hK => ?_) AllReadyH.nil)
      · rw [if_pos (by rfl)]
        have c0 := (BC.out.cell (p := ⟨g1, 0, none⟩) PA.out.2.2.2).trans PA.out.1
        go_simp
        clear c0
        refine hK.out _ _ HH (fun _ => ?_)
        clear hK K
        (try simp only [Act.put, List.setIfInBounds_toArray, List.set_cons_zero, List.set_cons_succ])
        refine wpAnyH_ready (rs := [6, 7]) (by kernel_rfl) (by simp) ?_
        refine AllReadyH.cons ov6 (fun K hK => ?_) (AllReadyH.cons ov7 (fun K hK => ?_) AllReadyH.nil)
        · rw [if_pos (by rfl)]
          go_simp
          refine (own_is _ _ y1 (PA.out.2.2.1.past BC.out) HSX.out).mono ?_
          rintro e z1 ⟨v9, rfl, hO, hB⟩
          obtain ⟨oa, oc, rfl⟩ := owns_sl hO
          have FO9 := owns_base hO BC.out.size
          clear hO
          have H9 := HH.past hB
          clear HH
          have HH := H9
          clear H9
          have B9 := BC.out.trans (hB.mono BC.out.size)
          clear BC
          have BC : Hid (Below W7.heap.size W7 z1) := B9
          clear B9
          (try (have q9 := FB.out; clear FB; have FB : Hid (BL (fun _ => True) z1 (.slice (some ⟨bb, 0, none⟩) 1 1) [7]) := q9.past hB; clear q9))
          have FO : Hid (z1.ownsRow W7.heap.size 5 1 (.slice oa y1.length oc) y1.length (bV y1)) := FO9
          clear FO9 hB
          (try go_wp2_with fail)
          refine hK.out _ _ HH (fun _ => ?_)
          clear hK K
          (try simp only [Act.put, List.setIfInBounds_toArray, List.set_cons_zero, List.set_cons_succ])
          refine wpAnyH_ready (rs := [7]) (by kernel_rfl) (by simp) ?_
          refine AllReadyH.cons ov7 (fun K hK => ?_) AllReadyH.nil
          rw [if_pos (by rfl)]
          go_simp
          have hB : Below z1.heap.size z1 (z1.alloc (.cells #[.int .u8 7] 5)) := below_alloc _ _
          have FB9 : BL (fun _ => True) (z1.alloc (.cells #[.int .u8 7] 5)) (.slice (some ⟨z1.heap.size, 0, none⟩) 1 1) [7] := (BL.new z1 [7] (by simp)).mono fun _ _ _ => trivial
          have H9 := HH.past hB
          clear HH
          have HH := H9
          clear H9
          have B9 := BC.out.trans (hB.mono BC.out.size)
          clear BC
          have BC : Hid (Below W7.heap.size W7 (z1.alloc (.cells #[.int .u8 7] 5))) := B9
          clear B9
          (try (have q9 := FO.out; clear FO; have FO : Hid ((z1.alloc (.cells #[.int .u8 7] 5)).ownsRow W7.heap.size 5 1 (.slice oa y1.length oc) y1.length (bV y1)) := owns_past q9 hB; clear q9))
          have FB : Hid _ := FB9
          clear FB9 hB
          refine hK.out _ (z1.alloc (.cells #[.int .u8 7] 5)) HH (fun _ => ?_)
          clear hK K
          (try simp only [Act.put, List.setIfInBounds_toArray, List.set_cons_zero, List.set_cons_succ])
          generalize z1.heap.size = bb at FB ⊢
          (first | generalize (z1.alloc (.cells #[.int .u8 7] 5)) = z1 at HH BC FO FB ⊢ | generalize (z1.alloc (.cells #[.int .u8 7] 5)) = z1 at HH BC FB ⊢)
          refine wpAnyH_ready (rs := [8]) (by kernel_rfl) (by simp) ?_
          refine AllReadyH.cons ov8 (fun K hK => ?_) AllReadyH.nil
          rw [if_pos (by rfl)]
          refine wp_appB _ _ rfl W7.heap.size BC.out.size (.slice oa y1.length oc) y1 rfl FO.out (.slice (some ⟨bb, 0, none⟩) 1 1) [7] rfl FB.out (by have := HSX.out; simp only [List.length_singleton]; omega) ?_
          intro v9 z9 hA
          obtain ⟨oa2, oc2, e9⟩ := owns_sl hA.row
          rw [List.length_append, List.length_singleton] at e9
          subst e9
          have H9 := HH.app hA FO.out (by decide)
          have B9 := BC.out.trans (hA.below FO.out BC.out.size)
          have FO9 := hA.row
          rw [List.length_append, List.length_singleton] at FO9
          clear HH BC FO FB hA
          have HH := H9
          have BC : Hid (Below W7.heap.size W7 z9) := B9
          have FO : Hid (z9.ownsRow W7.heap.size 5 1 (.slice oa2 (y1.length + 1) oc2) (y1.length + 1) (bV (y1 ++ [7]))) := FO9
          clear H9 B9 FO9
          refine hK.out _ z9 HH (fun _ => ?_)
          clear hK K
          (try simp only [Act.put, List.setIfInBounds_toArray, List.set_cons_zero, List.set_cons_succ])
          refine wpAnyH_take (i := 9) (v := .pointer (some ⟨g1, 0, none⟩)) ov9 (by kernel_rfl) (by kernel_rfl) (by kernel_rfl) (fun _ _ _ h => h) (Or.inl ⟨by rfl, fun V' hS => ?_⟩) HH ?_
          · go_simp
          simp only [Act.put, List.setIfInBounds_toArray, List.set_cons_zero, List.set_cons_succ]
          refine wpAnyH_ready (rs := [10]) (by kernel_rfl) (by simp) ?_
          refine AllReadyH.cons ov10 (fun K hK => ?_) AllReadyH.nil
          rw [if_pos (by rfl)]
          have c0 := (BC.out.cell (p := ⟨g1, 0, none⟩) PA.out.2.2.2).trans PA.out.1
          have f0 := (BC.out.frozen (p := ⟨g1, 0, none⟩) PA.out.2.2.2).trans PA.out.2.1
          go_simp
          clear c0 f0
          have M9 : Hid (LgM b1 b2 B w (z9.setCell ⟨g1, 0, none⟩ (.slice oa2 (y1.length + 1) oc2)) (.slice (some ⟨g0, 0, none⟩) nt tc) (.slice (some ⟨g1, 0, none⟩) nc cc) (.slice sa ns sc) (.slice da nd dc) z ⟨c7.ts, c7.cs.set 0 (y1 ++ [7]), c7.ss, c7.d, c7.n⟩) := (M.out.past BC.out).set1 HL.out.2.1 PB.out.1 PB.out.2.1 PB.out.2.2 _ _ (by rw [List.length_append, List.length_singleton]; exact owns_base FO.out (Nat.le_trans M.out.ge M.out.bel.size))
          have H9 := HH.but ((But.refl (fun y => y = g1) z9).setCell ⟨g1, 0, none⟩ (.slice oa2 (y1.length + 1) oc2) (Or.inl rfl)) PB.out.2.1
          refine hK.out _ (z9.setCell ⟨g1, 0, none⟩ (.slice oa2 (y1.length + 1) oc2)) H9 (fun _ => ?_)
          clear hK K
          (try simp only [Act.put, List.setIfInBounds_toArray, List.set_cons_zero, List.set_cons_succ])
          generalize z9.setCell ⟨g1, 0, none⟩ (.slice oa2 (y1.length + 1) oc2) = W1 at M9 H9 ⊢
          clear H9 HH BC FO PA PB M HSX
          have M := M9
          clear M9
          refine wpAnyH_done (by kernel_rfl) ?_ _
          obtain ⟨c1, hc2⟩ : ∃ q : Con, q = ⟨c7.ts, c7.cs.set 0 (y1 ++ [7]), c7.ss, c7.d, c7.n⟩ := ⟨_, rfl⟩
          rw [← hc2] at M
          have HT9 : Hid (total c1 ≤ 2097153) := by have := total_set1 c7 y1 7 HX.out; unfold Hid; rw [hc2, this]; have := HTO.out; omega
          have HL9 : Hid (Lens c1 nt nc ns nd z) := by have := HL.out; unfold Lens at this; unfold Hid Lens; rw [hc2]; simp only [List.length_set]; exact this
          clear hc2 HTO HL HX
          have HTO := HT9
          have HL := HL9
          clear HT9 HL9
          go_upto_region 5 with fail
          have x0 : W1.cell? ⟨b1, 0, none⟩ = some (.slice (some ⟨g0, 0, none⟩) nt tc) := M.out.c1.cell 0
          have x1 : W1.cell? ⟨b1, 1, none⟩ = some (.slice (some ⟨g1, 0, none⟩) nc cc) := M.out.c1.cell 1
          have x2 : W1.cell? ⟨b1, 2, none⟩ = some (.slice sa ns sc) := M.out.c1.cell 2
          have x3 : W1.cell? ⟨b1, 3, none⟩ = some (.slice da nd dc) := M.out.c1.cell 3
          have x4 : W1.cell? ⟨b1, 4, none⟩ = some (.int .i64 z) := M.out.c1.cell 4
          have k0 : W1.cell? ⟨b2, 0, none⟩ = some (.slice none 0 0) := M.out.c2.cell 0
          have f0 := CBox.frozen M.out.c2 0
          have k1 : W1.cell? ⟨b2, 1, none⟩ = some (.slice none 0 0) := M.out.c2.cell 1
          have f1 := CBox.frozen M.out.c2 1
          have k2 : W1.cell? ⟨b2, 2, none⟩ = some (.slice none 0 0) := M.out.c2.cell 2
          have f2 := CBox.frozen M.out.c2 2
          have k3 : W1.cell? ⟨b2, 3, none⟩ = some (.slice none 0 0) := M.out.c2.cell 3
          have f3 := CBox.frozen M.out.c2 3
          have k4 : W1.cell? ⟨b2, 4, none⟩ = some (.int .i64 0) := M.out.c2.cell 4
          have f4 := CBox.frozen M.out.c2 4
          have HF : Hid (CBox (((((W1.setCell ⟨b2, 0, none⟩ (.slice (some ⟨g0, 0, none⟩) nt tc)).setCell ⟨b2, 1, none⟩ (.slice (some ⟨g1, 0, none⟩) nc cc)).setCell ⟨b2, 2, none⟩ (.slice sa ns sc)).setCell ⟨b2, 3, none⟩ (.slice da nd dc)).setCell ⟨b2, 4, none⟩ (.int .i64 z)) b2 28 [.slice (some ⟨g0, 0, none⟩) nt tc, .slice (some ⟨g1, 0, none⟩) nc cc, .slice sa ns sc, .slice da nd dc, .int .i64 z] ∧ DQ B (((((W1.setCell ⟨b2, 0, none⟩ (.slice (some ⟨g0, 0, none⟩) nt tc)).setCell ⟨b2, 1, none⟩ (.slice (some ⟨g1, 0, none⟩) nc cc)).setCell ⟨b2, 2, none⟩ (.slice sa ns sc)).setCell ⟨b2, 3, none⟩ (.slice da nd dc)).setCell ⟨b2, 4, none⟩ (.int .i64 z)) (.slice (some ⟨g0, 0, none⟩) nt tc) (.slice (some ⟨g1, 0, none⟩) nc cc) (.slice sa ns sc) (.slice da nd dc) c1 ∧ Below B w (((((W1.setCell ⟨b2, 0, none⟩ (.slice (some ⟨g0, 0, none⟩) nt tc)).setCell ⟨b2, 1, none⟩ (.slice (some ⟨g1, 0, none⟩) nc cc)).setCell ⟨b2, 2, none⟩ (.slice sa ns sc)).setCell ⟨b2, 3, none⟩ (.slice da nd dc)).setCell ⟨b2, 4, none⟩ (.int .i64 z))) := by
            have hs : But (fun y => y = b2) W1 (((((W1.setCell ⟨b2, 0, none⟩ (.slice (some ⟨g0, 0, none⟩) nt tc)).setCell ⟨b2, 1, none⟩ (.slice (some ⟨g1, 0, none⟩) nc cc)).setCell ⟨b2, 2, none⟩ (.slice sa ns sc)).setCell ⟨b2, 3, none⟩ (.slice da nd dc)).setCell ⟨b2, 4, none⟩ (.int .i64 z)) := ((((((But.refl (fun y => y = b2) W1).setCell ⟨b2, 0, none⟩ _ (Or.inl rfl)).setCell ⟨b2, 1, none⟩ _ (Or.inl rfl)).setCell ⟨b2, 2, none⟩ _ (Or.inl rfl)).setCell ⟨b2, 3, none⟩ _ (Or.inl rfl)).setCell ⟨b2, 4, none⟩ _ (Or.inl rfl))
            have ra : Alien W1 b2 := ⟨_, _, M.out.c2, by decide, by decide, by decide⟩
            exact ⟨(((((M.out.c2.set 0 _).set 1 _).set 2 _).set 3 _).set 4 _), ⟨row_alienT M.out.dq.t hs ra, PO.alien M.out.dq.p hs ra, PO.alien M.out.dq.s hs ra, row_alien M.out.dq.d hs ra, M.out.dq.ap⟩, M.out.bel.trans (hs.below (fun g e => by have := GL.out; omega) (Nat.le_trans M.out.ge M.out.bel.size))⟩
          clear M
          go_wp2
          clear x0 x1 x2 x3 x4 k0 k1 k2 k3 k4 f0 f1 f2 f3 f4
          generalize (((((W1.setCell ⟨b2, 0, none⟩ (.slice (some ⟨g0, 0, none⟩) nt tc)).setCell ⟨b2, 1, none⟩ (.slice (some ⟨g1, 0, none⟩) nc cc)).setCell ⟨b2, 2, none⟩ (.slice sa ns sc)).setCell ⟨b2, 3, none⟩ (.slice da nd dc)).setCell ⟨b2, 4, none⟩ (.int .i64 z)) = Z9 at HF ⊢
          refine bodyPost_ret (v := .agg #[.slice (some ⟨g0, 0, none⟩) nt tc, .slice (some ⟨g1, 0, none⟩) nc cc, .slice sa ns sc, .slice da nd dc, .int .i64 z]) (results_c (p := 2) (ty := 28) Try.results23 _ _ _ ⟨b2, 0, none⟩ rfl (run_loadVar_mid Z9 b2 0 28 [.slice (some ⟨g0, 0, none⟩) nt tc, .slice (some ⟨g1, 0, none⟩) nc cc, .slice sa ns sc, .slice da nd dc, .int .i64 z] _ HF.out.1.range Try.underlying28 rfl (by kernel_rfl))) rfl ?_
          exact ⟨⟨_, c1, rfl, dq_do HF.out.2.1 HL.out, by have := HTO.out; omega⟩, HF.out.2.2⟩
        · rw [if_pos (by rfl)]
          go_simp
          have hB : Below z1.heap.size z1 (z1.alloc (.cells #[.int .u8 7] 5)) := below_alloc _ _
          have FB9 : BL (fun _ => True) (z1.alloc (.cells #[.int .u8 7] 5)) (.slice (some ⟨z1.heap.size, 0, none⟩) 1 1) [7] := (BL.new z1 [7] (by simp)).mono fun _ _ _ => trivial
          have H9 := HH.past hB
          clear HH
          have HH := H9
          clear H9
          have B9 := BC.out.trans (hB.mono BC.out.size)
          clear BC
          have BC : Hid (Below W7.heap.size W7 (z1.alloc (.cells #[.int .u8 7] 5))) := B9
          clear B9
          (try (have q9 := FO.out; clear FO; have FO : Hid ((z1.alloc (.cells #[.int .u8 7] 5)).ownsRow W7.heap.size 5 1 (.slice oa y1.length oc) y1.length (bV y1)) := owns_past q9 hB; clear q9))
          have FB : Hid _ := FB9
          clear FB9 hB
          refine hK.out _ (z1.alloc (.cells #[.int .u8 7] 5)) HH (fun _ => ?_)
          clear hK K
          (try simp only [Act.put, List.setIfInBounds_toArray, List.set_cons_zero, List.set_cons_succ])
          generalize z1.heap.size = bb at FB ⊢
          (first | generalize (z1.alloc (.cells #[.int .u8 7] 5)) = z1 at HH BC FO FB ⊢ | generalize (z1.alloc (.cells #[.int .u8 7] 5)) = z1 at HH BC FB ⊢)
          refine wpAnyH_ready (rs := [6]) (by kernel_rfl) (by simp) ?_
          refine AllReadyH.cons ov6 (fun K hK => ?_) AllReadyH.nil
          rw [if_pos (by rfl)]
          go_simp
          refine (own_is _ _ y1 (PA.out.2.2.1.past BC.out) HSX.out).mono ?_
          rintro e z1 ⟨v9, rfl, hO, hB⟩
          obtain ⟨oa, oc, rfl⟩ := owns_sl hO
          have FO9 := owns_base hO BC.out.size
          clear hO
          have H9 := HH.past hB
          clear HH
          have HH := H9
          clear H9
          have B9 := BC.out.trans (hB.mono BC.out.size)
          clear BC
          have BC : Hid (Below W7.heap.size W7 z1) := B9
          clear B9
          (try (have q9 := FB.out; clear FB; have FB : Hid (BL (fun _ => True) z1 (.slice (some ⟨bb, 0, none⟩) 1 1) [7]) := q9.past hB; clear q9))
          have FO : Hid (z1.ownsRow W7.heap.size 5 1 (.slice oa y1.length oc) y1.length (bV y1)) := FO9
          clear FO9 hB
          (try go_wp2_with fail)
          refine hK.out _ _ HH (fun _ => ?_)
          clear hK K
          (try simp only [Act.put, List.setIfInBounds_toArray, List.set_cons_zero, List.set_cons_succ])
          refine wpAnyH_ready (rs := [8]) (by kernel_rfl) (by simp) ?_
          refine AllReadyH.cons ov8 (fun K hK => ?_) AllReadyH.nil
          rw [if_pos (by rfl)]
          refine wp_appB _ _ rfl W7.heap.size BC.out.size (.slice oa y1.length oc) y1 rfl FO.out (.slice (some ⟨bb, 0, none⟩) 1 1) [7] rfl FB.out (by have := HSX.out; simp only [List.length_singleton]; omega) ?_
          intro v9 z9 hA
          obtain ⟨oa2, oc2, e9⟩ := owns_sl hA.row
          rw [List.length_append, List.length_singleton] at e9
          subst e9
          have H9 := HH.app hA FO.out (by decide)
          have B9 := BC.out.trans (hA.below FO.out BC.out.size)
          have FO9 := hA.row
          rw [List.length_append, List.length_singleton] at FO9
          clear HH BC FO FB hA
          have HH := H9
          have BC : Hid (Below W7.heap.size W7 z9) := B9
          have FO : Hid (z9.ownsRow W7.heap.size 5 1 (.slice oa2 (y1.length + 1) oc2) (y1.length + 1) (bV (y1 ++ [7]))) := FO9
          clear H9 B9 FO9
          refine hK.out _ z9 HH (fun _ => ?_)
          clear hK K
          (try simp only [Act.put, List.setIfInBounds_toArray, List.set_cons_zero, List.set_cons_succ])
          refine wpAnyH_take (i := 9) (v := .pointer (some ⟨g1, 0, none⟩)) ov9 (by kernel_rfl) (by kernel_rfl) (by kernel_rfl) (fun _ _ _ h => h) (Or.inl ⟨by rfl, fun V' hS => ?_⟩) HH ?_
          · go_simp
          simp only [Act.put, List.setIfInBounds_toArray, List.set_cons_zero, List.set_cons_succ]
          refine wpAnyH_ready (rs := [10]) (by kernel_rfl) (by simp) ?_
          refine AllReadyH.cons ov10 (fun K hK => ?_) AllReadyH.nil
          rw [if_pos (by rfl)]
          have c0 := (BC.out.cell (p := ⟨g1, 0, none⟩) PA.out.2.2.2).trans PA.out.1
          have f0 := (BC.out.frozen (p := ⟨g1, 0, none⟩) PA.out.2.2.2).trans PA.out.2.1
          go_simp
          clear c0 f0
          have M9 : Hid (LgM b1 b2 B w (z9.setCell ⟨g1, 0, none⟩ (.slice oa2 (y1.length + 1) oc2)) (.slice (some ⟨g0, 0, none⟩) nt tc) (.slice (some ⟨g1, 0, none⟩) nc cc) (.slice sa ns sc) (.slice da nd dc) z ⟨c7.ts, c7.cs.set 0 (y1 ++ [7]), c7.ss, c7.d, c7.n⟩) := (M.out.past BC.out).set1 HL.out.2.1 PB.out.1 PB.out.2.1 PB.out.2.2 _ _ (by rw [List.length_append, List.length_singleton]; exact owns_base FO.out (Nat.le_trans M.out.ge M.out.bel.size))
          have H9 := HH.but ((But.refl (fun y => y = g1) z9).setCell ⟨g1, 0, none⟩ (.slice oa2 (y1.length + 1) oc2) (Or.inl rfl)) PB.out.2.1
          refine hK.out _ (z9.setCell ⟨g1, 0, none⟩ (.slice oa2 (y1.length + 1) oc2)) H9 (fun _ => ?_)
          clear hK K
          (try simp only [Act.put, List.setIfInBounds_toArray, List.set_cons_zero, List.set_cons_succ])
          generalize z9.setCell ⟨g1, 0, none⟩ (.slice oa2 (y1.length + 1) oc2) = W1 at M9 H9 ⊢
          clear H9 HH BC FO PA PB M HSX
          have M := M9
          clear M9
          refine wpAnyH_done (by kernel_rfl) ?_ _
          obtain ⟨c1, hc2⟩ : ∃ q : Con, q = ⟨c7.ts, c7.cs.set 0 (y1 ++ [7]), c7.ss, c7.d, c7.n⟩ := ⟨_, rfl⟩
          rw [← hc2] at M
          have HT9 : Hid (total c1 ≤ 2097153) := by have := total_set1 c7 y1 7 HX.out; unfold Hid; rw [hc2, this]; have := HTO.out; omega
          have HL9 : Hid (Lens c1 nt nc ns nd z) := by have := HL.out; unfold Lens at this; unfold Hid Lens; rw [hc2]; simp only [List.length_set]; exact this
          clear hc2 HTO HL HX
          have HTO := HT9
          have HL := HL9
          clear HT9 HL9
          go_upto_region 5 with fail
          have x0 : W1.cell? ⟨b1, 0, none⟩ = some (.slice (some ⟨g0, 0, none⟩) nt tc) := M.out.c1.cell 0
          have x1 : W1.cell? ⟨b1, 1, none⟩ = some (.slice (some ⟨g1, 0, none⟩) nc cc) := M.out.c1.cell 1
          have x2 : W1.cell? ⟨b1, 2, none⟩ = some (.slice sa ns sc) := M.out.c1.cell 2
          have x3 : W1.cell? ⟨b1, 3, none⟩ = some (.slice da nd dc) := M.out.c1.cell 3
          have x4 : W1.cell? ⟨b1, 4, none⟩ = some (.int .i64 z) := M.out.c1.cell 4
          have k0 : W1.cell? ⟨b2, 0, none⟩ = some (.slice none 0 0) := M.out.c2.cell 0
          have f0 := CBox.frozen M.out.c2 0
          have k1 : W1.cell? ⟨b2, 1, none⟩ = some (.slice none 0 0) := M.out.c2.cell 1
          have f1 := CBox.frozen M.out.c2 1
          have k2 : W1.cell? ⟨b2, 2, none⟩ = some (.slice none 0 0) := M.out.c2.cell 2
          have f2 := CBox.frozen M.out.c2 2
          have k3 : W1.cell? ⟨b2, 3, none⟩ = some (.slice none 0 0) := M.out.c2.cell 3
          have f3 := CBox.frozen M.out.c2 3
          have k4 : W1.cell? ⟨b2, 4, none⟩ = some (.int .i64 0) := M.out.c2.cell 4
          have f4 := CBox.frozen M.out.c2 4
          have HF : Hid (CBox (((((W1.setCell ⟨b2, 0, none⟩ (.slice (some ⟨g0, 0, none⟩) nt tc)).setCell ⟨b2, 1, none⟩ (.slice (some ⟨g1, 0, none⟩) nc cc)).setCell ⟨b2, 2, none⟩ (.slice sa ns sc)).setCell ⟨b2, 3, none⟩ (.slice da nd dc)).setCell ⟨b2, 4, none⟩ (.int .i64 z)) b2 28 [.slice (some ⟨g0, 0, none⟩) nt tc, .slice (some ⟨g1, 0, none⟩) nc cc, .slice sa ns sc, .slice da nd dc, .int .i64 z] ∧ DQ B (((((W1.setCell ⟨b2, 0, none⟩ (.slice (some ⟨g0, 0, none⟩) nt tc)).setCell ⟨b2, 1, none⟩ (.slice (some ⟨g1, 0, none⟩) nc cc)).setCell ⟨b2, 2, none⟩ (.slice sa ns sc)).setCell ⟨b2, 3, none⟩ (.slice da nd dc)).setCell ⟨b2, 4, none⟩ (.int .i64 z)) (.slice (some ⟨g0, 0, none⟩) nt tc) (.slice (some ⟨g1, 0, none⟩) nc cc) (.slice sa ns sc) (.slice da nd dc) c1 ∧ Below B w (((((W1.setCell ⟨b2, 0, none⟩ (.slice (some ⟨g0, 0, none⟩) nt tc)).setCell ⟨b2, 1, none⟩ (.slice (some ⟨g1, 0, none⟩) nc cc)).setCell ⟨b2, 2, none⟩ (.slice sa ns sc)).setCell ⟨b2, 3, none⟩ (.slice da nd dc)).setCell ⟨b2, 4, none⟩ (.int .i64 z))) := by
            have hs : But (fun y => y = b2) W1 (((((W1.setCell ⟨b2, 0, none⟩ (.slice (some ⟨g0, 0, none⟩) nt tc)).setCell ⟨b2, 1, none⟩ (.slice (some ⟨g1, 0, none⟩) nc cc)).setCell ⟨b2, 2, none⟩ (.slice sa ns sc)).setCell ⟨b2, 3, none⟩ (.slice da nd dc)).setCell ⟨b2, 4, none⟩ (.int .i64 z)) := ((((((But.refl (fun y => y = b2) W1).setCell ⟨b2, 0, none⟩ _ (Or.inl rfl)).setCell ⟨b2, 1, none⟩ _ (Or.inl rfl)).setCell ⟨b2, 2, none⟩ _ (Or.inl rfl)).setCell ⟨b2, 3, none⟩ _ (Or.inl rfl)).setCell ⟨b2, 4, none⟩ _ (Or.inl rfl))
            have ra : Alien W1 b2 := ⟨_, _, M.out.c2, by decide, by decide, by decide⟩
            exact ⟨(((((M.out.c2.set 0 _).set 1 _).set 2 _).set 3 _).set 4 _), ⟨row_alienT M.out.dq.t hs ra, PO.alien M.out.dq.p hs ra, PO.alien M.out.dq.s hs ra, row_alien M.out.dq.d hs ra, M.out.dq.ap⟩, M.out.bel.trans (hs.below (fun g e => by have := GL.out; omega) (Nat.le_trans M.out.ge M.out.bel.size))⟩
          clear M
          go_wp2
          clear x0 x1 x2 x3 x4 k0 k1 k2 k3 k4 f0 f1 f2 f3 f4
          generalize (((((W1.setCell ⟨b2, 0, none⟩ (.slice (some ⟨g0, 0, none⟩) nt tc)).setCell ⟨b2, 1, none⟩ (.slice (some ⟨g1, 0, none⟩) nc cc)).setCell ⟨b2, 2, none⟩ (.slice sa ns sc)).setCell ⟨b2, 3, none⟩ (.slice da nd dc)).setCell ⟨b2, 4, none⟩ (.int .i64 z)) = Z9 at HF ⊢
          refine bodyPost_ret (v := .agg #[.slice (some ⟨g0, 0, none⟩) nt tc, .slice (some ⟨g1, 0, none⟩) nc cc, .slice sa ns sc, .slice da nd dc, .int .i64 z]) (results_c (p := 2) (ty := 28) Try.results23 _ _ _ ⟨b2, 0, none⟩ rfl (run_loadVar_mid Z9 b2 0 28 [.slice (some ⟨g0, 0, none⟩) nt tc, .slice (some ⟨g1, 0, none⟩) nc cc, .slice sa ns sc, .slice da nd dc, .int .i64 z] _ HF.out.1.range Try.underlying28 rfl (by kernel_rfl))) rfl ?_
          exact ⟨⟨_, c1, rfl, dq_do HF.out.2.1 HL.out, by have := HTO.out; omega⟩, HF.out.2.2⟩
      · rw [if_pos (by rfl)]
        go_simp
        have hB : Below z1.heap.size z1 (z1.alloc (.cells #[.int .u8 7] 5)) := below_alloc _ _
        have FB9 : BL (fun _ => True) (z1.alloc (.cells #[.int .u8 7] 5)) (.slice (some ⟨z1.heap.size, 0, none⟩) 1 1) [7] := (BL.new z1 [7] (by simp)).mono fun _ _ _ => trivial
        have H9 := HH.past hB
        clear HH
        have HH := H9
        clear H9
        have B9 := BC.out.trans (hB.mono BC.out.size)
        clear BC
        have BC : Hid (Below W7.heap.size W7 (z1.alloc (.cells #[.int .u8 7] 5))) := B9
        clear B9
        (try (have q9 := FO.out; clear FO; have FO : Hid ((z1.alloc (.cells #[.int .u8 7] 5)).ownsRow W7.heap.size 5 1 (.slice oa y1.length oc) y1.length (bV y1)) := owns_past q9 hB; clear q9))
        have FB : Hid _ := FB9
        clear FB9 hB
        refine hK.out _ (z1.alloc (.cells #[.int .u8 7] 5)) HH (fun _ => ?_)
        clear hK K
        (try simp only [Act.put, List.setIfInBounds_toArray, List.set_cons_zero, List.set_cons_succ])
        generalize z1.heap.size = bb at FB ⊢
        (first | generalize (z1.alloc (.cells #[.int .u8 7] 5)) = z1 at HH BC FO FB ⊢ | generalize (z1.alloc (.cells #[.int .u8 7] 5)) = z1 at HH BC FB ⊢)
        refine wpAnyH_ready (rs := [5]) (by kernel_rfl) (by simp) ?_
        refine AllReadyH.cons ov5 (fun K hK => ?_) AllReadyH.nil
        rw [if_pos (by rfl)]
        have c0 := (BC.out.cell (p := ⟨g1, 0, none⟩) PA.out.2.2.2).trans PA.out.1
        go_simp
        clear c0
        refine hK.out _ _ HH (fun _ => ?_)
        clear hK K
        (try simp only [Act.put, List.setIfInBounds_toArray, List.set_cons_zero, List.set_cons_succ])
        refine wpAnyH_ready (rs := [6]) (by kernel_rfl) (by simp) ?_
        refine AllReadyH.cons ov6 (fun K hK => ?_) AllReadyH.nil
        rw [if_pos (by rfl)]
        go_simp
        refine (own_is _ _ y1 (PA.out.2.2.1.past BC.out) HSX.out).mono ?_
        rintro e z1 ⟨v9, rfl, hO, hB⟩
        obtain ⟨oa, oc, rfl⟩ := owns_sl hO
        have FO9 := owns_base hO BC.out.size
        clear hO
        have H9 := HH.past hB
        clear HH
        have HH := H9
        clear H9
        have B9 := BC.out.trans (hB.mono BC.out.size)
        clear BC
        have BC : Hid (Below W7.heap.size W7 z1) := B9
        clear B9
        (try (have q9 := FB.out; clear FB; have FB : Hid (BL (fun _ => True) z1 (.slice (some ⟨bb, 0, none⟩) 1 1) [7]) := q9.past hB; clear q9))
        have FO : Hid (z1.ownsRow W7.heap.size 5 1 (.slice oa y1.length oc) y1.length (bV y1)) := FO9
        clear FO9 hB
        (try go_wp2_with fail)
        refine hK.out _ _ HH (fun _ => ?_)
        clear hK K
        (try simp only [Act.put, List.setIfInBounds_toArray, List.set_cons_zero, List.set_cons_succ])
        refine wpAnyH_ready (rs := [8]) (by kernel_rfl) (by simp) ?_
        refine AllReadyH.cons ov8 (fun K hK => ?_) AllReadyH.nil
        rw [if_pos (by rfl)]
        refine wp_appB _ _ rfl W7.heap.size BC.out.size (.slice oa y1.length oc) y1 rfl FO.out (.slice (some ⟨bb, 0, none⟩) 1 1) [7] rfl FB.out (by have := HSX.out; simp only [List.length_singleton]; omega) ?_
        intro v9 z9 hA
        obtain ⟨oa2, oc2, e9⟩ := owns_sl hA.row
        rw [List.length_append, List.length_singleton] at e9
        subst e9
        have H9 := HH.app hA FO.out (by decide)
        have B9 := BC.out.trans (hA.below FO.out BC.out.size)
        have FO9 := hA.row
        rw [List.length_append, List.length_singleton] at FO9
        clear HH BC FO FB hA
        have HH := H9
        have BC : Hid (Below W7.heap.size W7 z9) := B9
        have FO : Hid (z9.ownsRow W7.heap.size 5 1 (.slice oa2 (y1.length + 1) oc2) (y1.length + 1) (bV (y1 ++ [7]))) := FO9
        clear H9 B9 FO9
        refine hK.out _ z9 HH (fun _ => ?_)
        clear hK K
        (try simp only [Act.put, List.setIfInBounds_toArray, List.set_cons_zero, List.set_cons_succ])
        refine wpAnyH_take (i := 9) (v := .pointer (some ⟨g1, 0, none⟩)) ov9 (by kernel_rfl) (by kernel_rfl) (by kernel_rfl) (fun _ _ _ h => h) (Or.inl ⟨by rfl, fun V' hS => ?_⟩) HH ?_
        · go_simp
        simp only [Act.put, List.setIfInBounds_toArray, List.set_cons_zero, List.set_cons_succ]
        refine wpAnyH_ready (rs := [10]) (by kernel_rfl) (by simp) ?_
        refine AllReadyH.cons ov10 (fun K hK => ?_) AllReadyH.nil
        rw [if_pos (by rfl)]
        have c0 := (BC.out.cell (p := ⟨g1, 0, none⟩) PA.out.2.2.2).trans PA.out.1
        have f0 := (BC.out.frozen (p := ⟨g1, 0, none⟩) PA.out.2.2.2).trans PA.out.2.1
        go_simp
        clear c0 f0
        have M9 : Hid (LgM b1 b2 B w (z9.setCell ⟨g1, 0, none⟩ (.slice oa2 (y1.length + 1) oc2)) (.slice (some ⟨g0, 0, none⟩) nt tc) (.slice (some ⟨g1, 0, none⟩) nc cc) (.slice sa ns sc) (.slice da nd dc) z ⟨c7.ts, c7.cs.set 0 (y1 ++ [7]), c7.ss, c7.d, c7.n⟩) := (M.out.past BC.out).set1 HL.out.2.1 PB.out.1 PB.out.2.1 PB.out.2.2 _ _ (by rw [List.length_append, List.length_singleton]; exact owns_base FO.out (Nat.le_trans M.out.ge M.out.bel.size))
        have H9 := HH.but ((But.refl (fun y => y = g1) z9).setCell ⟨g1, 0, none⟩ (.slice oa2 (y1.length + 1) oc2) (Or.inl rfl)) PB.out.2.1
        refine hK.out _ (z9.setCell ⟨g1, 0, none⟩ (.slice oa2 (y1.length + 1) oc2)) H9 (fun _ => ?_)
        clear hK K
        (try simp only [Act.put, List.setIfInBounds_toArray, List.set_cons_zero, List.set_cons_succ])
        generalize z9.setCell ⟨g1, 0, none⟩ (.slice oa2 (y1.length + 1) oc2) = W1 at M9 H9 ⊢
        clear H9 HH BC FO PA PB M HSX
        have M := M9
        clear M9
        refine wpAnyH_done (by kernel_rfl) ?_ _
        obtain ⟨c1, hc2⟩ : ∃ q : Con, q = ⟨c7.ts, c7.cs.set 0 (y1 ++ [7]), c7.ss, c7.d, c7.n⟩ := ⟨_, rfl⟩
        rw [← hc2] at M
        have HT9 : Hid (total c1 ≤ 2097153) := by have := total_set1 c7 y1 7 HX.out; unfold Hid; rw [hc2, this]; have := HTO.out; omega
        have HL9 : Hid (Lens c1 nt nc ns nd z) := by have := HL.out; unfold Lens at this; unfold Hid Lens; rw [hc2]; simp only [List.length_set]; exact this
        clear hc2 HTO HL HX
        have HTO := HT9
        have HL := HL9
        clear HT9 HL9
        go_upto_region 5 with fail
        have x0 : W1.cell? ⟨b1, 0, none⟩ = some (.slice (some ⟨g0, 0, none⟩) nt tc) := M.out.c1.cell 0
        have x1 : W1.cell? ⟨b1, 1, none⟩ = some (.slice (some ⟨g1, 0, none⟩) nc cc) := M.out.c1.cell 1
        have x2 : W1.cell? ⟨b1, 2, none⟩ = some (.slice sa ns sc) := M.out.c1.cell 2
        have x3 : W1.cell? ⟨b1, 3, none⟩ = some (.slice da nd dc) := M.out.c1.cell 3
        have x4 : W1.cell? ⟨b1, 4, none⟩ = some (.int .i64 z) := M.out.c1.cell 4
        have k0 : W1.cell? ⟨b2, 0, none⟩ = some (.slice none 0 0) := M.out.c2.cell 0
        have f0 := CBox.frozen M.out.c2 0
        have k1 : W1.cell? ⟨b2, 1, none⟩ = some (.slice none 0 0) := M.out.c2.cell 1
        have f1 := CBox.frozen M.out.c2 1
        have k2 : W1.cell? ⟨b2, 2, none⟩ = some (.slice none 0 0) := M.out.c2.cell 2
        have f2 := CBox.frozen M.out.c2 2
        have k3 : W1.cell? ⟨b2, 3, none⟩ = some (.slice none 0 0) := M.out.c2.cell 3
        have f3 := CBox.frozen M.out.c2 3
        have k4 : W1.cell? ⟨b2, 4, none⟩ = some (.int .i64 0) := M.out.c2.cell 4
        have f4 := CBox.frozen M.out.c2 4
        have HF : Hid (CBox (((((W1.setCell ⟨b2, 0, none⟩ (.slice (some ⟨g0, 0, none⟩) nt tc)).setCell ⟨b2, 1, none⟩ (.slice (some ⟨g1, 0, none⟩) nc cc)).setCell ⟨b2, 2, none⟩ (.slice sa ns sc)).setCell ⟨b2, 3, none⟩ (.slice da nd dc)).setCell ⟨b2, 4, none⟩ (.int .i64 z)) b2 28 [.slice (some ⟨g0, 0, none⟩) nt tc, .slice (some ⟨g1, 0, none⟩) nc cc, .slice sa ns sc, .slice da nd dc, .int .i64 z] ∧ DQ B (((((W1.setCell ⟨b2, 0, none⟩ (.slice (some ⟨g0, 0, none⟩) nt tc)).setCell ⟨b2, 1, none⟩ (.slice (some ⟨g1, 0, none⟩) nc cc)).setCell ⟨b2, 2, none⟩ (.slice sa ns sc)).setCell ⟨b2, 3, none⟩ (.slice da nd dc)).setCell ⟨b2, 4, none⟩ (.int .i64 z)) (.slice (some ⟨g0, 0, none⟩) nt tc) (.slice (some ⟨g1, 0, none⟩) nc cc) (.slice sa ns sc) (.slice da nd dc) c1 ∧ Below B w (((((W1.setCell ⟨b2, 0, none⟩ (.slice (some ⟨g0, 0, none⟩) nt tc)).setCell ⟨b2, 1, none⟩ (.slice (some ⟨g1, 0, none⟩) nc cc)).setCell ⟨b2, 2, none⟩ (.slice sa ns sc)).setCell ⟨b2, 3, none⟩ (.slice da nd dc)).setCell ⟨b2, 4, none⟩ (.int .i64 z))) := by
          have hs : But (fun y => y = b2) W1 (((((W1.setCell ⟨b2, 0, none⟩ (.slice (some ⟨g0, 0, none⟩) nt tc)).setCell ⟨b2, 1, none⟩ (.slice (some ⟨g1, 0, none⟩) nc cc)).setCell ⟨b2, 2, none⟩ (.slice sa ns sc)).setCell ⟨b2, 3, none⟩ (.slice da nd dc)).setCell ⟨b2, 4, none⟩ (.int .i64 z)) := ((((((But.refl (fun y => y = b2) W1).setCell ⟨b2, 0, none⟩ _ (Or.inl rfl)).setCell ⟨b2, 1, none⟩ _ (Or.inl rfl)).setCell ⟨b2, 2, none⟩ _ (Or.inl rfl)).setCell ⟨b2, 3, none⟩ _ (Or.inl rfl)).setCell ⟨b2, 4, none⟩ _ (Or.inl rfl))
          have ra : Alien W1 b2 := ⟨_, _, M.out.c2, by decide, by decide, by decide⟩
          exact ⟨(((((M.out.c2.set 0 _).set 1 _).set 2 _).set 3 _).set 4 _), ⟨row_alienT M.out.dq.t hs ra, PO.alien M.out.dq.p hs ra, PO.alien M.out.dq.s hs ra, row_alien M.out.dq.d hs ra, M.out.dq.ap⟩, M.out.bel.trans (hs.below (fun g e => by have := GL.out; omega) (Nat.le_trans M.out.ge M.out.bel.size))⟩
        clear M
        go_wp2
        clear x0 x1 x2 x3 x4 k0 k1 k2 k3 k4 f0 f1 f2 f3 f4
        generalize (((((W1.setCell ⟨b2, 0, none⟩ (.slice (some ⟨g0, 0, none⟩) nt tc)).setCell ⟨b2, 1, none⟩ (.slice (some ⟨g1, 0, none⟩) nc cc)).setCell ⟨b2, 2, none⟩ (.slice sa ns sc)).setCell ⟨b2, 3, none⟩ (.slice da nd dc)).setCell ⟨b2, 4, none⟩ (.int .i64 z)) = Z9 at HF ⊢
        refine bodyPost_ret (v := .agg #[.slice (some ⟨g0, 0, none⟩) nt tc, .slice (some ⟨g1, 0, none⟩) nc cc, .slice sa ns sc, .slice da nd dc, .int .i64 z]) (results_c (p := 2) (ty := 28) Try.results23 _ _ _ ⟨b2, 0, none⟩ rfl (run_loadVar_mid Z9 b2 0 28 [.slice (some ⟨g0, 0, none⟩) nt tc, .slice (some ⟨g1, 0, none⟩) nc cc, .slice sa ns sc, .slice da nd dc, .int .i64 z] _ HF.out.1.range Try.underlying28 rfl (by kernel_rfl))) rfl ?_
        exact ⟨⟨_, c1, rfl, dq_do HF.out.2.1 HL.out, by have := HTO.out; omega⟩, HF.out.2.2⟩
end Go.Proofs.Ytndhabhlajldeaa
