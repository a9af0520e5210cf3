/- Package container: headerOf, writeTypes. -/
import Derived.Test.YtndhabhlajldeaaBki
namespace Go.Proofs.Ytndhabhlajldeaa
open Go.RowKit
/-- the boxes of headerOf -/
structure HO (bw : Nat) (w V : World) (b1 b2 : Nat) (tv cv sv dv : Value) (z : Int) : Prop where
  bel : Below bw w V
  c1 : CBox V b1 28 [tv, cv, sv, dv, .int .i64 z]
  le : bw ≤ b2
  ge : bw ≤ w.heap.size
theorem HO.past {bw : Nat} {w V V' : World} {b1 b2 : Nat} {tv cv sv dv : Value} {z : Int} (h : HO bw w V b1 b2 tv cv sv dv z) (k : Below V.heap.size V V') : HO bw w V' b1 b2 tv cv sv dv z := ⟨h.bel.trans (k.mono (Nat.le_trans h.ge h.bel.size)), h.c1.past k, h.le, h.ge⟩
theorem UL.but2 {W W' : World} {v : Value} {l : List Nat} {b : Nat} {t : TypeId} {cs : List Value} (h : UL W v l) (k : But (fun i => i = b) W W') (hb : CBox W b t cs) (ht : t ≠ 73) : UL W' v l := by
  rcases h with h | ⟨g, e, h⟩
  · exact Or.inl h
  · refine Or.inr ⟨g, e, h.but k fun hg => ?_⟩
    subst hg
    have hb' : W.heap[g]? = _ := hb
    rw [show W.heap[g]? = _ from h] at hb'
    injection hb' with hb'
    injection hb' with _ hb' _
    exact ht hb'.symm
theorem HO.but2 {bw : Nat} {w V V' : World} {b1 b2 : Nat} {tv cv sv dv : Value} {z : Int} (h : HO bw w V b1 b2 tv cv sv dv z) (k : But (fun i => i = b2) V V') (hb : b1 ≠ b2) : HO bw w V' b1 b2 tv cv sv dv z :=
  ⟨h.bel.trans (k.below (fun i e => by rw [e]; exact h.le) (Nat.le_trans h.ge h.bel.size)), h.c1.but k hb, h.le, h.ge⟩
set_option maxHeartbeats 4000000 in
set_option maxRecDepth 100000 in
theorem headerOf_is {P : Nat → Prop} (w : World) (v : Value) (c : Con) (h : CW P w v c) (hn : 0 ≤ c.n ∧ c.n ≤ 65535) (hc : c.cs.length ≤ 16777216) (hs : c.ss.length ≤ 16777216) : Calls Try.prog 74 #[v] w fun e w' => ∃ u1 u2, e = .returned (.agg #[u1, u2, .int .u64 (c.n.toNat : Int)]) ∧ UL w' u1 (lns c.cs) ∧ UL w' u2 (lns c.ss) ∧ Below w.heap.size w w' := by
  obtain ⟨tv, cv, sv, dv, rfl, hT, hC, hS, hD⟩ := h
  have LC0 : ∀ W, Below w.heap.size w W → Calls Try.prog 103 #[cv] W fun e w' => ∃ a1, e = .returned (.slice a1 (lns c.cs).length (lns c.cs).length) ∧ UL w' (.slice a1 (lns c.cs).length (lns c.cs).length) (lns c.cs) ∧ Below W.heap.size W w' := fun W hW => (lengths_is W cv c.cs (hC.past hW) hc).mono fun e w' ⟨v', h1, h2, h3⟩ => by obtain ⟨a1, rfl⟩ := h2.len; exact ⟨a1, h1, h2, h3⟩
  have LS0 : ∀ W, Below w.heap.size w W → Calls Try.prog 103 #[sv] W fun e w' => ∃ a1, e = .returned (.slice a1 (lns c.ss).length (lns c.ss).length) ∧ UL w' (.slice a1 (lns c.ss).length (lns c.ss).length) (lns c.ss) ∧ Below W.heap.size W w' := fun W hW => (lengths_is W sv c.ss (hS.past hW) hs).mono fun e w' ⟨v', h1, h2, h3⟩ => by obtain ⟨a1, rfl⟩ := h2.len; exact ⟨a1, h1, h2, h3⟩
  generalize (lns c.cs).length = nc at LC0
  generalize (lns c.ss).length = ns at LS0
  obtain ⟨z, ez⟩ : ∃ z : Nat, c.n = (z : Int) := ⟨c.n.toNat, by omega⟩
  have HZ : Hid (c.n.toNat = z) := by unfold Hid; omega
  have zI : (z : Int) ≤ 65535 := by omega
  have wz : IntKind.u64.wrap (z : Int) = (z : Int) := by rw [IntKind.wrap_u64]; omega
  rw [ez]
  obtain ⟨ta, tc, rfl, _⟩ := hT.len
  obtain ⟨ca, cc, rfl, _⟩ := hC.len
  obtain ⟨sa, sc, rfl, _⟩ := hS.len
  obtain ⟨da, dc, rfl, _⟩ := hD.len
  generalize hbw : w.heap.size = bw at *
  have LC : Hid _ := LC0
  have LS : Hid _ := LS0
  have GB : Hid (w.heap.size = bw) := hbw
  generalize Value.slice ta _ tc = tv at *
  generalize Value.slice ca _ cc = cv at *
  generalize Value.slice sa _ sc = sv at *
  generalize Value.slice da _ dc = dv at *
  rw [← hbw]
  have H0 : Hid (HO w.heap.size w ((w.alloc (.cells #[tv, cv, sv, dv, .int .i64 (z : Int)] 28)).alloc (.cells #[.slice none 0 0, .slice none 0 0, .int .u64 0] 84)) w.heap.size (w.heap.size + 1) tv cv sv dv (z : Int) ∧ CBox ((w.alloc (.cells #[tv, cv, sv, dv, .int .i64 (z : Int)] 28)).alloc (.cells #[.slice none 0 0, .slice none 0 0, .int .u64 0] 84)) (w.heap.size + 1) 84 [.slice none 0 0, .slice none 0 0, .int .u64 0]) := by
    have b1 := below_alloc w (.cells #[tv, cv, sv, dv, .int .i64 (z : Int)] 28)
    have b2 := below_alloc (w.alloc (.cells #[tv, cv, sv, dv, .int .i64 (z : Int)] 28)) (.cells #[.slice none 0 0, .slice none 0 0, .int .u64 0] 84)
    refine ⟨⟨b1.trans (b2.mono b1.size), (CBox.new w 28 [tv, cv, sv, dv, .int .i64 (z : Int)]).past b2, by omega, Nat.le_refl _⟩, ?_⟩
    have := CBox.new (w.alloc (.cells #[tv, cv, sv, dv, .int .i64 (z : Int)] 28)) 84 [.slice none 0 0, .slice none 0 0, .int .u64 0]
    simpa using this
  clear hT hC hS hD ez hn hc hs LC0 LS0
  rw [hbw] at H0
  have NE : Hid (bw ≠ bw + 1) := by unfold Hid; omega
  go_enter Try.func74, Try.ntmps74
  go_upto_region 1 with fail
  clear hbw
  generalize (w.alloc _).alloc _ = W0 at H0 ⊢
  generalize hb2 : bw + 1 = b2 at H0 NE ⊢
  clear hb2
  refine wp_region_held_drew (S := fun V' => HO bw w V' bw b2 tv cv sv dv (z : Int)) (by kernel_rfl) (H0.out.1.past below_drew) (fun hHeld => ?_)
  have C2 : Hid (CBox W0.drew b2 84 [.slice none 0 0, .slice none 0 0, .int .u64 0]) := H0.out.2.past below_drew
  clear H0
  generalize W0.drew = z0 at hHeld C2 ⊢
  refine wpAnyH_take (i := 0) (v := .pointer (some ⟨bw, 1, none⟩)) ov0 (by kernel_rfl) (by kernel_rfl) (by kernel_rfl) (fun _ _ _ h => h) (Or.inl ⟨by rfl, fun V' hS => ?_⟩) hHeld ?_
  · go_simp
  simp only [Act.put, List.setIfInBounds_toArray, List.set_cons_zero, List.set_cons_succ]
  refine wpAnyH_take (i := 1) (v := cv) ov1 (by kernel_rfl) (by kernel_rfl) (by kernel_rfl) (fun _ _ _ h => h) (Or.inl ⟨by rfl, fun V' hS => ?_⟩) hHeld ?_
  · have c0 : V'.cell? ⟨bw, 1, none⟩ = some cv := hS.c1.cell 1
    go_simp
  simp only [Act.put, List.setIfInBounds_toArray, List.set_cons_zero, List.set_cons_succ]
  refine wpAnyH_take (i := 3) (v := .pointer (some ⟨bw, 2, none⟩)) ov3 (by kernel_rfl) (by kernel_rfl) (by kernel_rfl) (fun _ _ _ h => h) (Or.inl ⟨by rfl, fun V' hS => ?_⟩) hHeld ?_
  · go_simp
  simp only [Act.put, List.setIfInBounds_toArray, List.set_cons_zero, List.set_cons_succ]
  refine wpAnyH_take (i := 4) (v := sv) ov4 (by kernel_rfl) (by kernel_rfl) (by kernel_rfl) (fun _ _ _ h => h) (Or.inl ⟨by rfl, fun V' hS => ?_⟩) hHeld ?_
  · have c0 : V'.cell? ⟨bw, 2, none⟩ = some sv := hS.c1.cell 2
    go_simp
  simp only [Act.put, List.setIfInBounds_toArray, List.set_cons_zero, List.set_cons_succ]
  refine wpAnyH_take (i := 6) (v := .pointer (some ⟨bw, 4, none⟩)) ov6 (by kernel_rfl) (by kernel_rfl) (by kernel_rfl) (fun _ _ _ h => h) (Or.inl ⟨by rfl, fun V' hS => ?_⟩) hHeld ?_
  · go_simp
  simp only [Act.put, List.setIfInBounds_toArray, List.set_cons_zero, List.set_cons_succ]
  refine wpAnyH_take (i := 7) (v := .int .i64 (z : Int)) ov7 (by kernel_rfl) (by kernel_rfl) (by kernel_rfl) (fun _ _ _ h => h) (Or.inl ⟨by rfl, fun V' hS => ?_⟩) hHeld ?_
  · have c0 : V'.cell? ⟨bw, 4, none⟩ = some (.int .i64 (z : Int)) := hS.c1.cell 4
    go_simp
  simp only [Act.put, List.setIfInBounds_toArray, List.set_cons_zero, List.set_cons_succ]
  refine wpAnyH_take (i := 8) (v := .int .u64 (z : Int)) ov8 (by kernel_rfl) (by kernel_rfl) (by kernel_rfl) (fun _ _ _ h => h) (Or.inl ⟨by rfl, fun V' hS => ?_⟩) hHeld ?_
  · go_simp
  simp only [Act.put, List.setIfInBounds_toArray, List.set_cons_zero, List.set_cons_succ]
  refine wpAnyH_ready (rs := [2]) (by kernel_rfl) (by simp) ?_
  refine AllReadyH.cons ov2 (fun K hK => ?_) AllReadyH.nil
  rw [if_pos (by rfl)]
  go_simp
  refine (LC.out _ hHeld.bel).mono ?_
  rintro e z1 ⟨a1, rfl, hU1, hB1⟩
  have H1 := hHeld.past hB1
  have C3 : Hid (CBox z1 b2 84 [.slice none 0 0, .slice none 0 0, .int .u64 0]) := C2.out.past hB1
  (try go_wp2_with fail)
  refine hK.out _ _ H1 (fun _ => ?_)
  clear hK K
  (try simp only [Act.put, List.setIfInBounds_toArray, List.set_cons_zero, List.set_cons_succ])
  refine wpAnyH_ready (rs := [5]) (by kernel_rfl) (by simp) ?_
  refine AllReadyH.cons ov5 (fun K hK => ?_) AllReadyH.nil
  rw [if_pos (by rfl)]
  go_simp
  refine (LS.out _ H1.bel).mono ?_
  rintro e z2 ⟨a2, rfl, hU2, hB2⟩
  have H2 := H1.past hB2
  have hU1 := hU1.past hB2
  have C4 : Hid (CBox z2 b2 84 [.slice none 0 0, .slice none 0 0, .int .u64 0]) := C3.out.past hB2
  (try go_wp2_with fail)
  refine hK.out _ _ H2 (fun _ => ?_)
  clear hK K
  (try simp only [Act.put, List.setIfInBounds_toArray, List.set_cons_zero, List.set_cons_succ])
  refine wpAnyH_take (i := 9) (v := (.agg #[.slice a1 nc nc, .slice a2 ns ns, .int .u64 (z : Int)])) ov9 (by kernel_rfl) (by kernel_rfl) (by kernel_rfl) (fun _ _ _ h => h) (Or.inl ⟨by rfl, fun V' hS => ?_⟩) H2 ?_
  · go_simp
  simp only [Act.put, List.setIfInBounds_toArray, List.set_cons_zero, List.set_cons_succ]
  refine wpAnyH_ready (rs := [10]) (by kernel_rfl) (by simp) ?_
  refine AllReadyH.cons ov10 (fun K hK => ?_) AllReadyH.nil
  rw [if_pos (by rfl)]
  have k0 : z2.cell? ⟨b2, 0, none⟩ = some (.slice none 0 0) := C4.out.cell 0
  have k1 : z2.cell? ⟨b2, 1, none⟩ = some (.slice none 0 0) := C4.out.cell 1
  have k2 : z2.cell? ⟨b2, 2, none⟩ = some (.int .u64 0) := C4.out.cell 2
  have f0 := C4.out.frozen 0
  have f1 := C4.out.frozen 1
  have f2 := C4.out.frozen 2
  go_simp
  have HB : But (fun k => k = b2) z2 (((z2.setCell ⟨b2, 0, none⟩ (.slice a1 nc nc)).setCell ⟨b2, 1, none⟩ (.slice a2 ns ns)).setCell ⟨b2, 2, none⟩ (.int .u64 (z : Int))) := (((But.refl (fun k => k = b2) z2).setCell ⟨b2, 0, none⟩ _ (Or.inl rfl)).setCell ⟨b2, 1, none⟩ _ (Or.inl rfl)).setCell ⟨b2, 2, none⟩ _ (Or.inl rfl)
  have HN : Hid (CBox (((z2.setCell ⟨b2, 0, none⟩ (.slice a1 nc nc)).setCell ⟨b2, 1, none⟩ (.slice a2 ns ns)).setCell ⟨b2, 2, none⟩ (.int .u64 (z : Int))) b2 84 [.slice a1 nc nc, .slice a2 ns ns, .int .u64 (z : Int)] ∧ UL (((z2.setCell ⟨b2, 0, none⟩ (.slice a1 nc nc)).setCell ⟨b2, 1, none⟩ (.slice a2 ns ns)).setCell ⟨b2, 2, none⟩ (.int .u64 (z : Int))) (.slice a1 nc nc) (lns c.cs) ∧ UL (((z2.setCell ⟨b2, 0, none⟩ (.slice a1 nc nc)).setCell ⟨b2, 1, none⟩ (.slice a2 ns ns)).setCell ⟨b2, 2, none⟩ (.int .u64 (z : Int))) (.slice a2 ns ns) (lns c.ss) ∧ HO bw w (((z2.setCell ⟨b2, 0, none⟩ (.slice a1 nc nc)).setCell ⟨b2, 1, none⟩ (.slice a2 ns ns)).setCell ⟨b2, 2, none⟩ (.int .u64 (z : Int))) bw b2 tv cv sv dv (z : Int)) := ⟨((C4.out.set 0 _).set 1 _).set 2 _, hU1.but2 HB C4.out (by decide), hU2.but2 HB C4.out (by decide), H2.but2 HB NE.out⟩
  refine hK.out _ (((z2.setCell ⟨b2, 0, none⟩ (.slice a1 nc nc)).setCell ⟨b2, 1, none⟩ (.slice a2 ns ns)).setCell ⟨b2, 2, none⟩ (.int .u64 (z : Int))) HN.out.2.2.2 (fun _ => ?_)
  clear hK K
  (try simp only [Act.put, List.setIfInBounds_toArray, List.set_cons_zero, List.set_cons_succ])
  clear k0 k1 k2 f0 f1 f2 HB
  generalize (((z2.setCell ⟨b2, 0, none⟩ (.slice a1 nc nc)).setCell ⟨b2, 1, none⟩ (.slice a2 ns ns)).setCell ⟨b2, 2, none⟩ (.int .u64 (z : Int))) = z3 at HN ⊢
  refine wpAnyH_done (by kernel_rfl) ?_ _
  go_wp2
  refine bodyPost_ret (v := .agg #[.slice a1 nc nc, .slice a2 ns ns, .int .u64 (z : Int)]) (results_c (p := 2) (ty := 84) Try.results74 _ _ _ ⟨b2, 0, none⟩ rfl (run_loadVar_mid z3 b2 0 84 [.slice a1 nc nc, .slice a2 ns ns, .int .u64 (z : Int)] _ HN.out.1.range Try.underlying84 rfl (by kernel_rfl))) rfl ?_
  exact ⟨.slice a1 nc nc, .slice a2 ns ns, by rw [Int.toNat_natCast], HN.out.2.1, HN.out.2.2.1, by rw [GB.out]; exact HN.out.2.2.2.bel⟩
end Go.Proofs.Ytndhabhlajldeaa
