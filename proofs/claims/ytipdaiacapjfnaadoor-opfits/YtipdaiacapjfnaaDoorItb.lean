/- OpFits. -/
import Derived.Test.YtipdaiacapjfnaaDoorItc
import Derived.Test.YtipdaiacapjfnaaDoorRgn
namespace Go.Proofs.YtipdaiacapjfnaaDoor
open Go.RowKit Go.Shelf
attribute [local go_sem] Oper.semAt_some
/-- a row of the table in a block: its seven parts -/
def Row7 (W : World) (b : Nat) (c : Nat) : Prop := Op7 W b (c : Int) (nameT c) (immT c) (inT c) (outT c) (gasT c) (endsT c)
theorem row7_own (b c : Nat) : Own (fun (_ : Unit) W => Row7 W b c) := fun _ A B row h hg hr => by
  obtain ⟨h0, h1, h2, h3, h4, h5, h6⟩ := h
  exact ⟨cell_kept h0 hg hr, cell_kept h1 hg hr, cell_kept h2 hg hr, cell_kept h3 hg hr, cell_kept h4 hg hr, cell_kept h5 hg hr, cell_kept h6 hg hr⟩
set_option maxRecDepth 100000 in
set_option maxHeartbeats 2000000 in
theorem opFits_in (k : Nat) (hk : k < 256) (w : World) (hN : Nms w) : CallsIn Fence.wide 10 Tryd.prog 8 #[.int .i64 (k : Int)] w fun e w' => e = .returned (.bool true) ∧ Below w.heap.size w w' := by
  have k0 : ¬ (k : Int) < 0 := by omega
  have k1 : ¬ (255 : Int) < (k : Int) := by omega
  have hnil : ∀ W : World, Sem.run Tryd.prog (binOp BinOp.eql 35 (.func (.func 29) #[] #[]) .nilFunc) W = .ok (.bool false) W := fun W => by kernel_rfl
  refine callsIn_of_wp_marks Tryd.func8 rfl trivial ?_ rfl
  simp only [Tryd.ntmps8, List.size_toArray, List.length_cons, List.length_nil, Nat.reduceAdd, Nat.reduceSub, Array.replicate_succ, Array.replicate_zero, List.push_toArray, List.append_toArray, List.nil_append, List.cons_append]
  gi_wp2_with (refine ⟨trivial, ?_⟩; gi_at_call 15; refine (callsIn_wide.2 (all_is _)).mono ?_; rintro e w' ⟨rfl, hw⟩; rw [hw]; clear hw)
  have hnN : ∀ k g, tabOf k = some g → g < w.heap.size := fun k g hk => World.block_lt_of_cell? w _ (hN k g hk 0 (by omega))
  have bK := (Boxed.new w 3 (.int .i64 (k : Int))).alloc (.cells #[.bool false] 4)
  have bR := Boxed.new (w.alloc (.cells #[.int .i64 (k : Int)] 3)) 4 (.bool false)
  simp only [World.size_alloc] at bR
  have hB0 : Below w.heap.size w ((w.alloc (.cells #[.int .i64 (k : Int)] 3)).alloc (.cells #[.bool false] 4)) := ((Below.refl _ w).alloc (Nat.le_refl _) _).alloc (by simp) _
  have hsz : ((w.alloc (.cells #[.int .i64 (k : Int)] 3)).alloc (.cells #[.bool false] 4)).heap.size = w.heap.size + 2 := by simp
  obtain ⟨W0, hW0⟩ : ∃ W0, (w.alloc (.cells #[.int .i64 (k : Int)] 3)).alloc (.cells #[.bool false] 4) = W0 := ⟨_, rfl⟩
  rw [hW0] at bK bR hB0 hsz ⊢
  clear hW0
  refine wpIn_rangeFunc_ownH (F := Fence.wide) rfl (by omega) (gf := 29) (lb := #[]) rfl trivial (enters_of Tryd.func29 (by kernel_rfl) rfl)
    (all_stops 9 (by omega) w.heap.size W0 (hN.past hB0) hnN) belowK_t (belowK_b (by omega)) (Below.refl _ _) (fun _ => rfl)
    (fun _ W => (Boxed W w.heap.size 3 (.int .i64 (k : Int)) ∧ Boxed W (w.heap.size + 1) 4 (.bool false)) ∧ Below w.heap.size w W)
    (fun _ _ _ => False)
    (OwnFrom.and (OwnFrom.and (Own.from (boxed_own _ _ _) _) (Own.from (boxed_own _ _ _) _)) (ownFrom_below (Nat.le_refl _) (by omega)))
    (fun _ _ _ _ _ hs _ _ => hs)
    ⟨⟨bK, bR⟩, hB0⟩
    (fun x a' W => ∃ Bx, w.heap.size + 1 < Bx ∧ Row7 W Bx x.1 ∧ a' = { tmps := #[.int .i64 (k : Int), .pointer (some ⟨w.heap.size, 0, none⟩), .pointer (some ⟨w.heap.size + 1, 0, none⟩), .func (.func 29) #[] #[], .pointer (some ⟨Bx, 0, none⟩), undef, undef, undef, undef, undef, undef, undef, undef, undef, undef, undef, .int .i64 (k : Int), .bool false, .bool false, .int .i64 (k : Int), .bool false, .bool false, .func (.func 29) #[] #[], .func (.func 29) #[] #[], .bool false, .func (.func 29) #[] #[], opv x.1, undef, undef, undef, undef, undef, undef, undef, undef, undef, undef, undef, undef, undef, undef, undef, undef, undef, undef, undef, undef, undef, undef, undef, undef, undef, undef, undef, undef, undef, undef, undef, undef, undef, undef, undef, undef, undef, undef, undef, undef, undef, undef, undef, undef, undef, undef, undef, undef, undef, undef, undef, undef, undef], defers := [] })
    (fun x a' _ X Y row hs hg hr => by obtain ⟨Bx, h1, h2, h3⟩ := hs; exact ⟨Bx, h1, row7_own Bx x.1 () X Y row h2 hg (fun r e => (hr r e).2), h3⟩)
    ?assign ?body ?done ?stop
  case assign =>
    rintro l pre x W K ⟨⟨bK1, bR1⟩, hB1⟩ hK
    have hx : opv x.1 = .agg #[.int .i64 (x.1 : Int), .string (nameT x.1), .int .i64 (immT x.1), .int .i64 (inT x.1), .int .i64 (outT x.1), .int .i64 (gasT x.1), .bool (endsT x.1)] := rfl
    gi_wp2
    exact hK _ _ ((KeepsOthers.alloc _ _).from _) ((Below.refl _ W).alloc hB1.size _) ⟨⟨bK1.alloc _, bR1.alloc _⟩, hB1.alloc hB1.size _⟩ ⟨W.heap.size, bR1.lt, Op7.new W _ _ _ _ _ _ _, rfl⟩
  case body =>
    rintro l pre ⟨c, hc, hop⟩ a' W hl ⟨r, hr⟩ ⟨⟨bK1, bR1⟩, hB1⟩ ⟨Bx, hBx, oX, rfl⟩ hlt
    have oXX : Hid (Row7 W Bx c) := oX
    obtain ⟨x0, x1, x2, x3, x4, x5, x6⟩ := oX
    have cK := bK1.cell
    have hBx2 : Bx < W.heap.size := World.block_lt_of_cell? W _ x0
    have hNW : Nms W := hN.past hB1
    have hop2 : opB (c : Int) = true := by unfold opB; rw [decide_eq_true (by omega : 0 ≤ (c : Int) ∧ (c : Int) < 256), Int.toNat_natCast, hop]; rfl
    have hk1 : (k : Int) < 256 := by omega
    have hr1 := of_decide_eq_true (imm_range ⟨c, hc⟩)
    dsimp only at hr1
    obtain ⟨i1, hi1⟩ : ∃ i1, immT c = i1 := ⟨_, rfl⟩
    rw [hi1] at x2 hr1
    by_cases hm : i1 = -1
    · subst hm
      obtain ⟨N, eN⟩ : ∃ N : Nat, 1 + 2 * (k + 1) = N := ⟨_, rfl⟩
      have hNI : (N : Int) ≤ 600 := by omega
      have FF : Hid (fitsB (immT c) N k = true ∧ fitsB (immT c) (N + 1) k = false ∧ (0 < N → fitsB (immT c) (N - 1) k = false)) := ⟨by rw [hi1]; unfold fitsB; rw [if_pos rfl, decide_eq_true eN.symm], by rw [hi1]; unfold fitsB; rw [if_pos rfl, decide_eq_false (by omega)], fun h => by rw [hi1]; unfold fitsB; rw [if_pos rfl, decide_eq_false (by omega)]⟩
      obtain ⟨B1, e1⟩ : ∃ B1, (k : Int) + 1 = B1 := ⟨_, rfl⟩
      obtain ⟨B2, e2⟩ : ∃ B2, 2 * B1 = B2 := ⟨_, rfl⟩
      have e3 : 1 + B2 = (N : Int) := by omega
      have v1 : IntKind.i64.wrap B1 = B1 := by rw [IntKind.wrap_i64]; omega
      have v2 : IntKind.i64.wrap B2 = B2 := by rw [IntKind.wrap_i64]; omega
      clear hr1 hi1
      obtain ⟨M, eM⟩ : ∃ M : Nat, N + 1 = M := ⟨_, rfl⟩
      have eM2 : (N : Int) + 1 = (M : Int) := by omega
      obtain ⟨W1, hmk, m0, m1, mB, mS⟩ := mk_is W M (by omega) (by omega)
      have hMI : (0 : Int) < (M : Int) := by omega
      have cK1 : W1.cell? ⟨w.heap.size, 0, none⟩ = some (.int .i64 (k : Int)) := (mB.cell (p := ⟨w.heap.size, 0, none⟩) bK1.lt).trans cK
      have mB2 : Below W.heap.size W (W1.setCell ⟨W.heap.size, 0, none⟩ (.int .u8 (k : Int))) := mB.setCell (p := ⟨W.heap.size, 0, none⟩) (Nat.le_refl _) _
      have mC2 : (W1.setCell ⟨W.heap.size, 0, none⟩ (.int .u8 (k : Int))).cell? ⟨W.heap.size, 0, none⟩ = some (.int .u8 (k : Int)) := World.cell?_setCell_same' _ _ _ (by rw [m0]; rfl)
      clear mB mS
      gi_wp2
      generalize W1.setCell ⟨W.heap.size, 0, none⟩ (.int .u8 (k : Int)) = W2 at mB2 mC2 ⊢
      have y0 : Below W.heap.size W W2 ∧ W2.cell? ⟨Bx, 0, none⟩ = some (.int .i64 (c : Int)) ∧ W2.cell? ⟨W.heap.size, 0, none⟩ = some (.int .u8 (k : Int)) := ⟨mB2, (mB2.cell (p := ⟨Bx, 0, none⟩) hBx2).trans x0, mC2⟩
      have hmx : Tryd.prog.follows .mixedOrders = true := by kernel_rfl
      clear x0 x1 x2 x3 x4 x5 x6 cK cK1 m0 m1 hmk mB2 mC2
      obtain ⟨a1, a2, hnv⟩ := nv_yes hop2 FF.out.1
      have HE : Hid (∀ V : World, Below W.heap.size W V → V.cell? ⟨W.heap.size, 0, none⟩ = some (.int .u8 (k : Int)) → Calls Tryd.prog 17 #[.int .i64 (c : Int), .slice (some ⟨W.heap.size, 0, none⟩) N M] V fun e w' => e = .returned (.tuple #[.int .i64 a1, .int .i64 a2, .bool true]) ∧ Below V.heap.size V w') := fun V hV hc0 => by
        have := needs_is (c : Int) (.slice (some ⟨W.heap.size, 0, none⟩) N M) N k V (hNW.past hV) ⟨_, _, rfl, by omega, hk, fun _ => ⟨_, _, rfl, hc0⟩⟩
        rw [hnv] at this
        exact this
      have HM : Hid (∀ V : World, Below W.heap.size W V → V.cell? ⟨W.heap.size, 0, none⟩ = some (.int .u8 (k : Int)) → Calls Tryd.prog 17 #[.int .i64 (c : Int), .slice (some ⟨W.heap.size, 0, none⟩) M M] V fun e w' => e = .returned (.tuple #[.int .i64 0, .int .i64 0, .bool false]) ∧ Below V.heap.size V w') := fun V hV hc0 => by
        have := needs_is (c : Int) (.slice (some ⟨W.heap.size, 0, none⟩) M M) M k V (hNW.past hV) ⟨_, _, rfl, by omega, hk, fun _ => ⟨_, _, rfl, hc0⟩⟩
        rw [nv_no (by rw [← eM]; exact FF.out.2.1)] at this
        exact this
      have hsl : ∀ V : World, Sem.run Tryd.prog (Instr.slice 39 (.slice (some ⟨W.heap.size, 0, none⟩) M M) none (some (.int .i64 (N : Int))) none) V = .ok (.slice (some ⟨W.heap.size, 0, none⟩) N M) V := fun V => slice_toB _ M M N (by omega) V
      refine wpIn_region_heldR (S := fun V => Below W.heap.size W V ∧ V.cell? ⟨Bx, 0, none⟩ = some (.int .i64 (c : Int)) ∧ V.cell? ⟨W.heap.size, 0, none⟩ = some (.int .u8 (k : Int))) hmx (by simp) (fun ⟨_, _, h⟩ => h) ⟨y0.1.drew, y0.2.1, y0.2.2⟩ (fun hF => ?_)
      generalize W2.drew = z0 at hF ⊢
      refine wpAnyH_take (i := 0) (v := .pointer (some ⟨Bx, 0, none⟩)) op0 (by kernel_rfl) (by kernel_rfl) (by kernel_rfl) (fun _ _ _ h => h) (Or.inl ⟨by rfl, fun V hS => ?_⟩) hF ?_
      · go_simp
      simp only [Act.put, List.setIfInBounds_toArray, List.set_cons_zero, List.set_cons_succ]
      refine wpAnyH_take (i := 1) (v := .int .i64 (c : Int)) op1 (by kernel_rfl) (by kernel_rfl) (by kernel_rfl) (fun _ _ _ h => h) (Or.inl ⟨by rfl, fun V hS => ?_⟩) hF ?_
      · obtain ⟨_, h1, h2⟩ := hS
        go_simp
      simp only [Act.put, List.setIfInBounds_toArray, List.set_cons_zero, List.set_cons_succ]
      refine wpAnyH_take (i := 2) (v := .slice (some ⟨W.heap.size, 0, none⟩) M M) op2 (by kernel_rfl) (by kernel_rfl) (by kernel_rfl) (fun _ _ _ h => h) (Or.inl ⟨by rfl, fun V hS => ?_⟩) hF ?_
      · go_simp
      simp only [Act.put, List.setIfInBounds_toArray, List.set_cons_zero, List.set_cons_succ]
      refine wpAnyH_take (i := 3) (v := .int .i64 (N : Int)) op3 (by kernel_rfl) (by kernel_rfl) (by kernel_rfl) (fun _ _ _ h => h) (Or.inl ⟨by rfl, fun V hS => ?_⟩) hF ?_
      · go_simp
      simp only [Act.put, List.setIfInBounds_toArray, List.set_cons_zero, List.set_cons_succ]
      refine wpAnyH_take (i := 4) (v := .slice (some ⟨W.heap.size, 0, none⟩) N M) op4 (by kernel_rfl) (by kernel_rfl) (by kernel_rfl) (fun _ _ _ h => h) (Or.inl ⟨by rfl, fun V hS => ?_⟩) hF ?_
      · go_simp
      simp only [Act.put, List.setIfInBounds_toArray, List.set_cons_zero, List.set_cons_succ]
      refine wpAnyH_ready (rs := [5]) (by kernel_rfl) (by simp) ?_
      refine AllReadyH.cons op5 (fun K hK => ?_) AllReadyH.nil
      rw [if_pos (by rfl)]
      go_simp
      refine (HE.out _ hF.1 hF.2.2).mono ?_
      rintro e z1 ⟨rfl, hB3⟩
      have hF1 : Below W.heap.size W z1 ∧ z1.cell? ⟨Bx, 0, none⟩ = some (.int .i64 (c : Int)) ∧ z1.cell? ⟨W.heap.size, 0, none⟩ = some (.int .u8 (k : Int)) := ⟨hF.1.trans (hB3.mono hF.1.size), (hB3.cell (p := ⟨Bx, 0, none⟩) (World.block_lt_of_cell? z0 _ hF.2.1)).trans hF.2.1, (hB3.cell (p := ⟨W.heap.size, 0, none⟩) (World.block_lt_of_cell? z0 _ hF.2.2)).trans hF.2.2⟩
      clear hB3 hF
      (try go_wp2_with fail)
      refine hK.out _ _ hF1 (fun _ => ?_)
      clear hK K
      (try simp only [Act.put, List.setIfInBounds_toArray, List.set_cons_zero, List.set_cons_succ])
      refine wpAnyH_take (i := 6) (v := .tuple #[.int .i64 a1, .int .i64 a2, .bool true]) op6 (by kernel_rfl) (by kernel_rfl) (by kernel_rfl) (fun _ _ _ h => h) (Or.inl ⟨by rfl, fun V hS => ?_⟩) hF1 ?_
      · go_simp
      simp only [Act.put, List.setIfInBounds_toArray, List.set_cons_zero, List.set_cons_succ]
      refine wpAnyH_take (i := 7) (v := .int .i64 a1) op7 (by kernel_rfl) (by kernel_rfl) (by kernel_rfl) (fun _ _ _ h => h) (Or.inl ⟨by rfl, fun V hS => ?_⟩) hF1 ?_
      · go_simp
      simp only [Act.put, List.setIfInBounds_toArray, List.set_cons_zero, List.set_cons_succ]
      refine wpAnyH_take (i := 8) (v := .int .i64 a2) op8 (by kernel_rfl) (by kernel_rfl) (by kernel_rfl) (fun _ _ _ h => h) (Or.inl ⟨by rfl, fun V hS => ?_⟩) hF1 ?_
      · go_simp
      simp only [Act.put, List.setIfInBounds_toArray, List.set_cons_zero, List.set_cons_succ]
      refine wpAnyH_take (i := 9) (v := .bool true) op9 (by kernel_rfl) (by kernel_rfl) (by kernel_rfl) (fun _ _ _ h => h) (Or.inl ⟨by rfl, fun V hS => ?_⟩) hF1 ?_
      · go_simp
      simp only [Act.put, List.setIfInBounds_toArray, List.set_cons_zero, List.set_cons_succ]
      refine wpAnyH_take (i := 10) (v := .int .i64 a1) op10 (by kernel_rfl) (by kernel_rfl) (by kernel_rfl) (fun _ _ _ h => h) (Or.inl ⟨by rfl, fun V hS => ?_⟩) hF1 ?_
      · go_simp
      simp only [Act.put, List.setIfInBounds_toArray, List.set_cons_zero, List.set_cons_succ]
      refine wpAnyH_take (i := 11) (v := .int .i64 a2) op11 (by kernel_rfl) (by kernel_rfl) (by kernel_rfl) (fun _ _ _ h => h) (Or.inl ⟨by rfl, fun V hS => ?_⟩) hF1 ?_
      · go_simp
      simp only [Act.put, List.setIfInBounds_toArray, List.set_cons_zero, List.set_cons_succ]
      refine wpAnyH_take (i := 12) (v := .bool true) op12 (by kernel_rfl) (by kernel_rfl) (by kernel_rfl) (fun _ _ _ h => h) (Or.inl ⟨by rfl, fun V hS => ?_⟩) hF1 ?_
      · go_simp
      simp only [Act.put, List.setIfInBounds_toArray, List.set_cons_zero, List.set_cons_succ]
      refine wpAnyH_done (by kernel_rfl) ?_ _
      obtain ⟨zB, zx, zq⟩ := hF1
      clear hsl HE y0
      by_cases hN0 : N = 0
      · exact absurd hN0 (by omega)
      · have n0 : (0 : Int) < (N : Int) := by omega
        obtain ⟨R, eR⟩ : ∃ R : Nat, N - 1 = R := ⟨_, rfl⟩
        have eR2 : (N : Int) - 1 = (R : Int) := by omega
        have vR : IntKind.i64.wrap (R : Int) = (R : Int) := by rw [IntKind.wrap_i64]; omega
        have HR : Hid (∀ V : World, Below W.heap.size W V → V.cell? ⟨W.heap.size, 0, none⟩ = some (.int .u8 (k : Int)) → Calls Tryd.prog 17 #[.int .i64 (c : Int), .slice (some ⟨W.heap.size, 0, none⟩) R M] V fun e w' => e = .returned (.tuple #[.int .i64 0, .int .i64 0, .bool false]) ∧ Below V.heap.size V w') := fun V hV hc0 => by
          have := needs_is (c : Int) (.slice (some ⟨W.heap.size, 0, none⟩) R M) R k V (hNW.past hV) ⟨_, _, rfl, by omega, hk, fun _ => ⟨_, _, rfl, hc0⟩⟩
          rw [nv_no (by rw [← eR]; exact FF.out.2.2 (by omega))] at this
          exact this
        have hsr : ∀ V : World, Sem.run Tryd.prog (Instr.slice 39 (.slice (some ⟨W.heap.size, 0, none⟩) M M) none (some (.int .i64 (R : Int))) none) V = .ok (.slice (some ⟨W.heap.size, 0, none⟩) R M) V := fun V => slice_toB _ M M R (by omega) V
        gi_wp2_with (refine ⟨trivial, ?_⟩; gi_at_call 17; refine (CallsIn.inRound l (callsIn_wide.2 (HM.out _ zB zq))).mono ?_; rintro e z2 ⟨rfl, hB4⟩)
        have y2 : Below W.heap.size W z2 ∧ z2.cell? ⟨Bx, 0, none⟩ = some (.int .i64 (c : Int)) ∧ z2.cell? ⟨W.heap.size, 0, none⟩ = some (.int .u8 (k : Int)) := ⟨zB.trans (hB4.mono zB.size), (hB4.cell (p := ⟨Bx, 0, none⟩) (World.block_lt_of_cell? _ _ zx)).trans zx, (hB4.cell (p := ⟨W.heap.size, 0, none⟩) (World.block_lt_of_cell? _ _ zq)).trans zq⟩
        clear zB zx zq hB4 HM
        refine wpIn_region_heldR (S := fun V => Below W.heap.size W V ∧ V.cell? ⟨Bx, 0, none⟩ = some (.int .i64 (c : Int)) ∧ V.cell? ⟨W.heap.size, 0, none⟩ = some (.int .u8 (k : Int))) hmx (by simp) (fun ⟨_, _, h⟩ => h) ⟨y2.1.drew, y2.2.1, y2.2.2⟩ (fun hF => ?_)
        generalize z2.drew = z0r at hF ⊢
        refine wpAnyH_take (i := 0) (v := .pointer (some ⟨Bx, 0, none⟩)) op0 (by kernel_rfl) (by kernel_rfl) (by kernel_rfl) (fun _ _ _ h => h) (Or.inl ⟨by rfl, fun V hS => ?_⟩) hF ?_
        · go_simp
        simp only [Act.put, List.setIfInBounds_toArray, List.set_cons_zero, List.set_cons_succ]
        refine wpAnyH_take (i := 1) (v := .int .i64 (c : Int)) op1 (by kernel_rfl) (by kernel_rfl) (by kernel_rfl) (fun _ _ _ h => h) (Or.inl ⟨by rfl, fun V hS => ?_⟩) hF ?_
        · obtain ⟨_, h1, h2⟩ := hS
          go_simp
        simp only [Act.put, List.setIfInBounds_toArray, List.set_cons_zero, List.set_cons_succ]
        refine wpAnyH_take (i := 2) (v := .slice (some ⟨W.heap.size, 0, none⟩) M M) op2 (by kernel_rfl) (by kernel_rfl) (by kernel_rfl) (fun _ _ _ h => h) (Or.inl ⟨by rfl, fun V hS => ?_⟩) hF ?_
        · go_simp
        simp only [Act.put, List.setIfInBounds_toArray, List.set_cons_zero, List.set_cons_succ]
        refine wpAnyH_take (i := 3) (v := .int .i64 (N : Int)) op3 (by kernel_rfl) (by kernel_rfl) (by kernel_rfl) (fun _ _ _ h => h) (Or.inl ⟨by rfl, fun V hS => ?_⟩) hF ?_
        · go_simp
        simp only [Act.put, List.setIfInBounds_toArray, List.set_cons_zero, List.set_cons_succ]
        refine wpAnyH_take (i := 4) (v := .int .i64 (R : Int)) op4 (by kernel_rfl) (by kernel_rfl) (by kernel_rfl) (fun _ _ _ h => h) (Or.inl ⟨by rfl, fun V hS => ?_⟩) hF ?_
        · go_simp
        simp only [Act.put, List.setIfInBounds_toArray, List.set_cons_zero, List.set_cons_succ]
        refine wpAnyH_take (i := 5) (v := .slice (some ⟨W.heap.size, 0, none⟩) R M) op5 (by kernel_rfl) (by kernel_rfl) (by kernel_rfl) (fun _ _ _ h => h) (Or.inl ⟨by rfl, fun V hS => ?_⟩) hF ?_
        · go_simp
        simp only [Act.put, List.setIfInBounds_toArray, List.set_cons_zero, List.set_cons_succ]
        refine wpAnyH_ready (rs := [6]) (by kernel_rfl) (by simp) ?_
        refine AllReadyH.cons op6 (fun K hK => ?_) AllReadyH.nil
        rw [if_pos (by rfl)]
        go_simp
        refine (HR.out _ hF.1 hF.2.2).mono ?_
        rintro e z1r ⟨rfl, hB3⟩
        have hF1r : Below W.heap.size W z1r ∧ z1r.cell? ⟨Bx, 0, none⟩ = some (.int .i64 (c : Int)) ∧ z1r.cell? ⟨W.heap.size, 0, none⟩ = some (.int .u8 (k : Int)) := ⟨hF.1.trans (hB3.mono hF.1.size), (hB3.cell (p := ⟨Bx, 0, none⟩) (World.block_lt_of_cell? z0r _ hF.2.1)).trans hF.2.1, (hB3.cell (p := ⟨W.heap.size, 0, none⟩) (World.block_lt_of_cell? z0r _ hF.2.2)).trans hF.2.2⟩
        clear hB3 hF
        (try go_wp2_with fail)
        refine hK.out _ _ hF1r (fun _ => ?_)
        clear hK K
        (try simp only [Act.put, List.setIfInBounds_toArray, List.set_cons_zero, List.set_cons_succ])
        refine wpAnyH_take (i := 7) (v := .tuple #[.int .i64 0, .int .i64 0, .bool false]) op7 (by kernel_rfl) (by kernel_rfl) (by kernel_rfl) (fun _ _ _ h => h) (Or.inl ⟨by rfl, fun V hS => ?_⟩) hF1r ?_
        · go_simp
        simp only [Act.put, List.setIfInBounds_toArray, List.set_cons_zero, List.set_cons_succ]
        refine wpAnyH_take (i := 8) (v := .int .i64 0) op8 (by kernel_rfl) (by kernel_rfl) (by kernel_rfl) (fun _ _ _ h => h) (Or.inl ⟨by rfl, fun V hS => ?_⟩) hF1r ?_
        · go_simp
        simp only [Act.put, List.setIfInBounds_toArray, List.set_cons_zero, List.set_cons_succ]
        refine wpAnyH_take (i := 9) (v := .int .i64 0) op9 (by kernel_rfl) (by kernel_rfl) (by kernel_rfl) (fun _ _ _ h => h) (Or.inl ⟨by rfl, fun V hS => ?_⟩) hF1r ?_
        · go_simp
        simp only [Act.put, List.setIfInBounds_toArray, List.set_cons_zero, List.set_cons_succ]
        refine wpAnyH_take (i := 10) (v := .bool false) op10 (by kernel_rfl) (by kernel_rfl) (by kernel_rfl) (fun _ _ _ h => h) (Or.inl ⟨by rfl, fun V hS => ?_⟩) hF1r ?_
        · go_simp
        simp only [Act.put, List.setIfInBounds_toArray, List.set_cons_zero, List.set_cons_succ]
        refine wpAnyH_take (i := 11) (v := .int .i64 0) op11 (by kernel_rfl) (by kernel_rfl) (by kernel_rfl) (fun _ _ _ h => h) (Or.inl ⟨by rfl, fun V hS => ?_⟩) hF1r ?_
        · go_simp
        simp only [Act.put, List.setIfInBounds_toArray, List.set_cons_zero, List.set_cons_succ]
        refine wpAnyH_take (i := 12) (v := .int .i64 0) op12 (by kernel_rfl) (by kernel_rfl) (by kernel_rfl) (fun _ _ _ h => h) (Or.inl ⟨by rfl, fun V hS => ?_⟩) hF1r ?_
        · go_simp
        simp only [Act.put, List.setIfInBounds_toArray, List.set_cons_zero, List.set_cons_succ]
        refine wpAnyH_take (i := 13) (v := .bool false) op13 (by kernel_rfl) (by kernel_rfl) (by kernel_rfl) (fun _ _ _ h => h) (Or.inl ⟨by rfl, fun V hS => ?_⟩) hF1r ?_
        · go_simp
        simp only [Act.put, List.setIfInBounds_toArray, List.set_cons_zero, List.set_cons_succ]
        refine wpAnyH_done (by kernel_rfl) ?_ _
        gi_wp2
        exact ⟨KeepsFrom.of_grownBy (grown_of_below hF1r.1) (fun j e => by cases e), hF1r.1.mono hB1.size, ⟨⟨boxed_own _ _ (fun (_ : Unit) => Value.int .i64 (k : Int)) () W z1r none bK1 (grown_of_below hF1r.1) (fun r e => by cases e), boxed_own _ _ (fun (_ : Unit) => Value.bool false) () W z1r none bR1 (grown_of_below hF1r.1) (fun r e => by cases e)⟩, hB1.trans (hF1r.1.mono hB1.size)⟩⟩
    · have hm2 : (i1 == -1) = false := beq_eq_false_iff_ne.2 hm
      obtain ⟨N, rfl⟩ : ∃ N : Nat, i1 = (N : Int) := ⟨i1.toNat, by omega⟩
      have hNI : (N : Int) ≤ 600 := by omega
      have FF : Hid (fitsB (immT c) N k = true ∧ fitsB (immT c) (N + 1) k = false ∧ (0 < N → fitsB (immT c) (N - 1) k = false)) := ⟨by rw [hi1]; unfold fitsB; rw [if_neg hm, decide_eq_true rfl], by rw [hi1]; unfold fitsB; rw [if_neg hm, decide_eq_false (by omega)], fun h => by rw [hi1]; unfold fitsB; rw [if_neg hm, decide_eq_false (by omega)]⟩
      clear hm hr1 hi1
      obtain ⟨M, eM⟩ : ∃ M : Nat, N + 1 = M := ⟨_, rfl⟩
      have eM2 : (N : Int) + 1 = (M : Int) := by omega
      obtain ⟨W1, hmk, m0, m1, mB, mS⟩ := mk_is W M (by omega) (by omega)
      have hMI : (0 : Int) < (M : Int) := by omega
      have cK1 : W1.cell? ⟨w.heap.size, 0, none⟩ = some (.int .i64 (k : Int)) := (mB.cell (p := ⟨w.heap.size, 0, none⟩) bK1.lt).trans cK
      have mB2 : Below W.heap.size W (W1.setCell ⟨W.heap.size, 0, none⟩ (.int .u8 (k : Int))) := mB.setCell (p := ⟨W.heap.size, 0, none⟩) (Nat.le_refl _) _
      have mC2 : (W1.setCell ⟨W.heap.size, 0, none⟩ (.int .u8 (k : Int))).cell? ⟨W.heap.size, 0, none⟩ = some (.int .u8 (k : Int)) := World.cell?_setCell_same' _ _ _ (by rw [m0]; rfl)
      clear mB mS
      gi_wp2
      generalize W1.setCell ⟨W.heap.size, 0, none⟩ (.int .u8 (k : Int)) = W2 at mB2 mC2 ⊢
      have y0 : Below W.heap.size W W2 ∧ W2.cell? ⟨Bx, 0, none⟩ = some (.int .i64 (c : Int)) ∧ W2.cell? ⟨W.heap.size, 0, none⟩ = some (.int .u8 (k : Int)) := ⟨mB2, (mB2.cell (p := ⟨Bx, 0, none⟩) hBx2).trans x0, mC2⟩
      have hmx : Tryd.prog.follows .mixedOrders = true := by kernel_rfl
      clear x0 x1 x2 x3 x4 x5 x6 cK cK1 m0 m1 hmk mB2 mC2
      obtain ⟨a1, a2, hnv⟩ := nv_yes hop2 FF.out.1
      have HE : Hid (∀ V : World, Below W.heap.size W V → V.cell? ⟨W.heap.size, 0, none⟩ = some (.int .u8 (k : Int)) → Calls Tryd.prog 17 #[.int .i64 (c : Int), .slice (some ⟨W.heap.size, 0, none⟩) N M] V fun e w' => e = .returned (.tuple #[.int .i64 a1, .int .i64 a2, .bool true]) ∧ Below V.heap.size V w') := fun V hV hc0 => by
        have := needs_is (c : Int) (.slice (some ⟨W.heap.size, 0, none⟩) N M) N k V (hNW.past hV) ⟨_, _, rfl, by omega, hk, fun _ => ⟨_, _, rfl, hc0⟩⟩
        rw [hnv] at this
        exact this
      have HM : Hid (∀ V : World, Below W.heap.size W V → V.cell? ⟨W.heap.size, 0, none⟩ = some (.int .u8 (k : Int)) → Calls Tryd.prog 17 #[.int .i64 (c : Int), .slice (some ⟨W.heap.size, 0, none⟩) M M] V fun e w' => e = .returned (.tuple #[.int .i64 0, .int .i64 0, .bool false]) ∧ Below V.heap.size V w') := fun V hV hc0 => by
        have := needs_is (c : Int) (.slice (some ⟨W.heap.size, 0, none⟩) M M) M k V (hNW.past hV) ⟨_, _, rfl, by omega, hk, fun _ => ⟨_, _, rfl, hc0⟩⟩
        rw [nv_no (by rw [← eM]; exact FF.out.2.1)] at this
        exact this
      have hsl : ∀ V : World, Sem.run Tryd.prog (Instr.slice 39 (.slice (some ⟨W.heap.size, 0, none⟩) M M) none (some (.int .i64 (N : Int))) none) V = .ok (.slice (some ⟨W.heap.size, 0, none⟩) N M) V := fun V => slice_toB _ M M N (by omega) V
      refine wpIn_region_heldR (S := fun V => Below W.heap.size W V ∧ V.cell? ⟨Bx, 0, none⟩ = some (.int .i64 (c : Int)) ∧ V.cell? ⟨W.heap.size, 0, none⟩ = some (.int .u8 (k : Int))) hmx (by simp) (fun ⟨_, _, h⟩ => h) ⟨y0.1.drew, y0.2.1, y0.2.2⟩ (fun hF => ?_)
      generalize W2.drew = z0 at hF ⊢
      refine wpAnyH_take (i := 0) (v := .pointer (some ⟨Bx, 0, none⟩)) op0 (by kernel_rfl) (by kernel_rfl) (by kernel_rfl) (fun _ _ _ h => h) (Or.inl ⟨by rfl, fun V hS => ?_⟩) hF ?_
      · go_simp
      simp only [Act.put, List.setIfInBounds_toArray, List.set_cons_zero, List.set_cons_succ]
      refine wpAnyH_take (i := 1) (v := .int .i64 (c : Int)) op1 (by kernel_rfl) (by kernel_rfl) (by kernel_rfl) (fun _ _ _ h => h) (Or.inl ⟨by rfl, fun V hS => ?_⟩) hF ?_
      · obtain ⟨_, h1, h2⟩ := hS
        go_simp
      simp only [Act.put, List.setIfInBounds_toArray, List.set_cons_zero, List.set_cons_succ]
      refine wpAnyH_take (i := 2) (v := .slice (some ⟨W.heap.size, 0, none⟩) M M) op2 (by kernel_rfl) (by kernel_rfl) (by kernel_rfl) (fun _ _ _ h => h) (Or.inl ⟨by rfl, fun V hS => ?_⟩) hF ?_
      · go_simp
      simp only [Act.put, List.setIfInBounds_toArray, List.set_cons_zero, List.set_cons_succ]
      refine wpAnyH_take (i := 3) (v := .int .i64 (N : Int)) op3 (by kernel_rfl) (by kernel_rfl) (by kernel_rfl) (fun _ _ _ h => h) (Or.inl ⟨by rfl, fun V hS => ?_⟩) hF ?_
      · go_simp
      simp only [Act.put, List.setIfInBounds_toArray, List.set_cons_zero, List.set_cons_succ]
      refine wpAnyH_take (i := 4) (v := .slice (some ⟨W.heap.size, 0, none⟩) N M) op4 (by kernel_rfl) (by kernel_rfl) (by kernel_rfl) (fun _ _ _ h => h) (Or.inl ⟨by rfl, fun V hS => ?_⟩) hF ?_
      · go_simp
      simp only [Act.put, List.setIfInBounds_toArray, List.set_cons_zero, List.set_cons_succ]
      refine wpAnyH_ready (rs := [5]) (by kernel_rfl) (by simp) ?_
      refine AllReadyH.cons op5 (fun K hK => ?_) AllReadyH.nil
      rw [if_pos (by rfl)]
      go_simp
      refine (HE.out _ hF.1 hF.2.2).mono ?_
      rintro e z1 ⟨rfl, hB3⟩
      have hF1 : Below W.heap.size W z1 ∧ z1.cell? ⟨Bx, 0, none⟩ = some (.int .i64 (c : Int)) ∧ z1.cell? ⟨W.heap.size, 0, none⟩ = some (.int .u8 (k : Int)) := ⟨hF.1.trans (hB3.mono hF.1.size), (hB3.cell (p := ⟨Bx, 0, none⟩) (World.block_lt_of_cell? z0 _ hF.2.1)).trans hF.2.1, (hB3.cell (p := ⟨W.heap.size, 0, none⟩) (World.block_lt_of_cell? z0 _ hF.2.2)).trans hF.2.2⟩
      clear hB3 hF
      (try go_wp2_with fail)
      refine hK.out _ _ hF1 (fun _ => ?_)
      clear hK K
      (try simp only [Act.put, List.setIfInBounds_toArray, List.set_cons_zero, List.set_cons_succ])
      refine wpAnyH_take (i := 6) (v := .tuple #[.int .i64 a1, .int .i64 a2, .bool true]) op6 (by kernel_rfl) (by kernel_rfl) (by kernel_rfl) (fun _ _ _ h => h) (Or.inl ⟨by rfl, fun V hS => ?_⟩) hF1 ?_
      · go_simp
      simp only [Act.put, List.setIfInBounds_toArray, List.set_cons_zero, List.set_cons_succ]
      refine wpAnyH_take (i := 7) (v := .int .i64 a1) op7 (by kernel_rfl) (by kernel_rfl) (by kernel_rfl) (fun _ _ _ h => h) (Or.inl ⟨by rfl, fun V hS => ?_⟩) hF1 ?_
      · go_simp
      simp only [Act.put, List.setIfInBounds_toArray, List.set_cons_zero, List.set_cons_succ]
      refine wpAnyH_take (i := 8) (v := .int .i64 a2) op8 (by kernel_rfl) (by kernel_rfl) (by kernel_rfl) (fun _ _ _ h => h) (Or.inl ⟨by rfl, fun V hS => ?_⟩) hF1 ?_
      · go_simp
      simp only [Act.put, List.setIfInBounds_toArray, List.set_cons_zero, List.set_cons_succ]
      refine wpAnyH_take (i := 9) (v := .bool true) op9 (by kernel_rfl) (by kernel_rfl) (by kernel_rfl) (fun _ _ _ h => h) (Or.inl ⟨by rfl, fun V hS => ?_⟩) hF1 ?_
      · go_simp
      simp only [Act.put, List.setIfInBounds_toArray, List.set_cons_zero, List.set_cons_succ]
      refine wpAnyH_take (i := 10) (v := .int .i64 a1) op10 (by kernel_rfl) (by kernel_rfl) (by kernel_rfl) (fun _ _ _ h => h) (Or.inl ⟨by rfl, fun V hS => ?_⟩) hF1 ?_
      · go_simp
      simp only [Act.put, List.setIfInBounds_toArray, List.set_cons_zero, List.set_cons_succ]
      refine wpAnyH_take (i := 11) (v := .int .i64 a2) op11 (by kernel_rfl) (by kernel_rfl) (by kernel_rfl) (fun _ _ _ h => h) (Or.inl ⟨by rfl, fun V hS => ?_⟩) hF1 ?_
      · go_simp
      simp only [Act.put, List.setIfInBounds_toArray, List.set_cons_zero, List.set_cons_succ]
      refine wpAnyH_take (i := 12) (v := .bool true) op12 (by kernel_rfl) (by kernel_rfl) (by kernel_rfl) (fun _ _ _ h => h) (Or.inl ⟨by rfl, fun V hS => ?_⟩) hF1 ?_
      · go_simp
      simp only [Act.put, List.setIfInBounds_toArray, List.set_cons_zero, List.set_cons_succ]
      refine wpAnyH_done (by kernel_rfl) ?_ _
      obtain ⟨zB, zx, zq⟩ := hF1
      clear hsl HE y0
      by_cases hN0 : N = 0
      · have n0 : ¬ (0 : Int) < (N : Int) := by omega
        gi_wp2_with (refine ⟨trivial, ?_⟩; gi_at_call 17; refine (CallsIn.inRound l (callsIn_wide.2 (HM.out _ zB zq))).mono ?_; rintro e z2 ⟨rfl, hB4⟩)
        have hE : Below W.heap.size W z2 ∧ True := ⟨zB.trans (hB4.mono zB.size), trivial⟩
        exact ⟨KeepsFrom.of_grownBy (grown_of_below hE.1) (fun j e => by cases e), hE.1.mono hB1.size, ⟨⟨boxed_own _ _ (fun (_ : Unit) => Value.int .i64 (k : Int)) () W z2 none bK1 (grown_of_below hE.1) (fun r e => by cases e), boxed_own _ _ (fun (_ : Unit) => Value.bool false) () W z2 none bR1 (grown_of_below hE.1) (fun r e => by cases e)⟩, hB1.trans (hE.1.mono hB1.size)⟩⟩
      · have n0 : (0 : Int) < (N : Int) := by omega
        obtain ⟨R, eR⟩ : ∃ R : Nat, N - 1 = R := ⟨_, rfl⟩
        have eR2 : (N : Int) - 1 = (R : Int) := by omega
        have vR : IntKind.i64.wrap (R : Int) = (R : Int) := by rw [IntKind.wrap_i64]; omega
        have HR : Hid (∀ V : World, Below W.heap.size W V → V.cell? ⟨W.heap.size, 0, none⟩ = some (.int .u8 (k : Int)) → Calls Tryd.prog 17 #[.int .i64 (c : Int), .slice (some ⟨W.heap.size, 0, none⟩) R M] V fun e w' => e = .returned (.tuple #[.int .i64 0, .int .i64 0, .bool false]) ∧ Below V.heap.size V w') := fun V hV hc0 => by
          have := needs_is (c : Int) (.slice (some ⟨W.heap.size, 0, none⟩) R M) R k V (hNW.past hV) ⟨_, _, rfl, by omega, hk, fun _ => ⟨_, _, rfl, hc0⟩⟩
          rw [nv_no (by rw [← eR]; exact FF.out.2.2 (by omega))] at this
          exact this
        have hsr : ∀ V : World, Sem.run Tryd.prog (Instr.slice 39 (.slice (some ⟨W.heap.size, 0, none⟩) M M) none (some (.int .i64 (R : Int))) none) V = .ok (.slice (some ⟨W.heap.size, 0, none⟩) R M) V := fun V => slice_toB _ M M R (by omega) V
        gi_wp2_with (refine ⟨trivial, ?_⟩; gi_at_call 17; refine (CallsIn.inRound l (callsIn_wide.2 (HM.out _ zB zq))).mono ?_; rintro e z2 ⟨rfl, hB4⟩)
        have y2 : Below W.heap.size W z2 ∧ z2.cell? ⟨Bx, 0, none⟩ = some (.int .i64 (c : Int)) ∧ z2.cell? ⟨W.heap.size, 0, none⟩ = some (.int .u8 (k : Int)) := ⟨zB.trans (hB4.mono zB.size), (hB4.cell (p := ⟨Bx, 0, none⟩) (World.block_lt_of_cell? _ _ zx)).trans zx, (hB4.cell (p := ⟨W.heap.size, 0, none⟩) (World.block_lt_of_cell? _ _ zq)).trans zq⟩
        clear zB zx zq hB4 HM
        refine wpIn_region_heldR (S := fun V => Below W.heap.size W V ∧ V.cell? ⟨Bx, 0, none⟩ = some (.int .i64 (c : Int)) ∧ V.cell? ⟨W.heap.size, 0, none⟩ = some (.int .u8 (k : Int))) hmx (by simp) (fun ⟨_, _, h⟩ => h) ⟨y2.1.drew, y2.2.1, y2.2.2⟩ (fun hF => ?_)
        generalize z2.drew = z0r at hF ⊢
        refine wpAnyH_take (i := 0) (v := .pointer (some ⟨Bx, 0, none⟩)) op0 (by kernel_rfl) (by kernel_rfl) (by kernel_rfl) (fun _ _ _ h => h) (Or.inl ⟨by rfl, fun V hS => ?_⟩) hF ?_
        · go_simp
        simp only [Act.put, List.setIfInBounds_toArray, List.set_cons_zero, List.set_cons_succ]
        refine wpAnyH_take (i := 1) (v := .int .i64 (c : Int)) op1 (by kernel_rfl) (by kernel_rfl) (by kernel_rfl) (fun _ _ _ h => h) (Or.inl ⟨by rfl, fun V hS => ?_⟩) hF ?_
        · obtain ⟨_, h1, h2⟩ := hS
          go_simp
        simp only [Act.put, List.setIfInBounds_toArray, List.set_cons_zero, List.set_cons_succ]
        refine wpAnyH_take (i := 2) (v := .slice (some ⟨W.heap.size, 0, none⟩) M M) op2 (by kernel_rfl) (by kernel_rfl) (by kernel_rfl) (fun _ _ _ h => h) (Or.inl ⟨by rfl, fun V hS => ?_⟩) hF ?_
        · go_simp
        simp only [Act.put, List.setIfInBounds_toArray, List.set_cons_zero, List.set_cons_succ]
        refine wpAnyH_take (i := 3) (v := .int .i64 (N : Int)) op3 (by kernel_rfl) (by kernel_rfl) (by kernel_rfl) (fun _ _ _ h => h) (Or.inl ⟨by rfl, fun V hS => ?_⟩) hF ?_
        · go_simp
        simp only [Act.put, List.setIfInBounds_toArray, List.set_cons_zero, List.set_cons_succ]
        refine wpAnyH_take (i := 4) (v := .int .i64 (R : Int)) op4 (by kernel_rfl) (by kernel_rfl) (by kernel_rfl) (fun _ _ _ h => h) (Or.inl ⟨by rfl, fun V hS => ?_⟩) hF ?_
        · go_simp
        simp only [Act.put, List.setIfInBounds_toArray, List.set_cons_zero, List.set_cons_succ]
        refine wpAnyH_take (i := 5) (v := .slice (some ⟨W.heap.size, 0, none⟩) R M) op5 (by kernel_rfl) (by kernel_rfl) (by kernel_rfl) (fun _ _ _ h => h) (Or.inl ⟨by rfl, fun V hS => ?_⟩) hF ?_
        · go_simp
        simp only [Act.put, List.setIfInBounds_toArray, List.set_cons_zero, List.set_cons_succ]
        refine wpAnyH_ready (rs := [6]) (by kernel_rfl) (by simp) ?_
        refine AllReadyH.cons op6 (fun K hK => ?_) AllReadyH.nil
        rw [if_pos (by rfl)]
        go_simp
        refine (HR.out _ hF.1 hF.2.2).mono ?_
        rintro e z1r ⟨rfl, hB3⟩
        have hF1r : Below W.heap.size W z1r ∧ z1r.cell? ⟨Bx, 0, none⟩ = some (.int .i64 (c : Int)) ∧ z1r.cell? ⟨W.heap.size, 0, none⟩ = some (.int .u8 (k : Int)) := ⟨hF.1.trans (hB3.mono hF.1.size), (hB3.cell (p := ⟨Bx, 0, none⟩) (World.block_lt_of_cell? z0r _ hF.2.1)).trans hF.2.1, (hB3.cell (p := ⟨W.heap.size, 0, none⟩) (World.block_lt_of_cell? z0r _ hF.2.2)).trans hF.2.2⟩
        clear hB3 hF
        (try go_wp2_with fail)
        refine hK.out _ _ hF1r (fun _ => ?_)
        clear hK K
        (try simp only [Act.put, List.setIfInBounds_toArray, List.set_cons_zero, List.set_cons_succ])
        refine wpAnyH_take (i := 7) (v := .tuple #[.int .i64 0, .int .i64 0, .bool false]) op7 (by kernel_rfl) (by kernel_rfl) (by kernel_rfl) (fun _ _ _ h => h) (Or.inl ⟨by rfl, fun V hS => ?_⟩) hF1r ?_
        · go_simp
        simp only [Act.put, List.setIfInBounds_toArray, List.set_cons_zero, List.set_cons_succ]
        refine wpAnyH_take (i := 8) (v := .int .i64 0) op8 (by kernel_rfl) (by kernel_rfl) (by kernel_rfl) (fun _ _ _ h => h) (Or.inl ⟨by rfl, fun V hS => ?_⟩) hF1r ?_
        · go_simp
        simp only [Act.put, List.setIfInBounds_toArray, List.set_cons_zero, List.set_cons_succ]
        refine wpAnyH_take (i := 9) (v := .int .i64 0) op9 (by kernel_rfl) (by kernel_rfl) (by kernel_rfl) (fun _ _ _ h => h) (Or.inl ⟨by rfl, fun V hS => ?_⟩) hF1r ?_
        · go_simp
        simp only [Act.put, List.setIfInBounds_toArray, List.set_cons_zero, List.set_cons_succ]
        refine wpAnyH_take (i := 10) (v := .bool false) op10 (by kernel_rfl) (by kernel_rfl) (by kernel_rfl) (fun _ _ _ h => h) (Or.inl ⟨by rfl, fun V hS => ?_⟩) hF1r ?_
        · go_simp
        simp only [Act.put, List.setIfInBounds_toArray, List.set_cons_zero, List.set_cons_succ]
        refine wpAnyH_take (i := 11) (v := .int .i64 0) op11 (by kernel_rfl) (by kernel_rfl) (by kernel_rfl) (fun _ _ _ h => h) (Or.inl ⟨by rfl, fun V hS => ?_⟩) hF1r ?_
        · go_simp
        simp only [Act.put, List.setIfInBounds_toArray, List.set_cons_zero, List.set_cons_succ]
        refine wpAnyH_take (i := 12) (v := .int .i64 0) op12 (by kernel_rfl) (by kernel_rfl) (by kernel_rfl) (fun _ _ _ h => h) (Or.inl ⟨by rfl, fun V hS => ?_⟩) hF1r ?_
        · go_simp
        simp only [Act.put, List.setIfInBounds_toArray, List.set_cons_zero, List.set_cons_succ]
        refine wpAnyH_take (i := 13) (v := .bool false) op13 (by kernel_rfl) (by kernel_rfl) (by kernel_rfl) (fun _ _ _ h => h) (Or.inl ⟨by rfl, fun V hS => ?_⟩) hF1r ?_
        · go_simp
        simp only [Act.put, List.setIfInBounds_toArray, List.set_cons_zero, List.set_cons_succ]
        refine wpAnyH_done (by kernel_rfl) ?_ _
        gi_wp2
        exact ⟨KeepsFrom.of_grownBy (grown_of_below hF1r.1) (fun j e => by cases e), hF1r.1.mono hB1.size, ⟨⟨boxed_own _ _ (fun (_ : Unit) => Value.int .i64 (k : Int)) () W z1r none bK1 (grown_of_below hF1r.1) (fun r e => by cases e), boxed_own _ _ (fun (_ : Unit) => Value.bool false) () W z1r none bR1 (grown_of_below hF1r.1) (fun r e => by cases e)⟩, hB1.trans (hF1r.1.mono hB1.size)⟩⟩
  case done =>
    rintro D zs W hD rfl ⟨⟨bK1, bR1⟩, hB1⟩ hK
    have hNW : Nms W := hN.past hB1
    have hDl : D < W.heap.size := (Array.getElem?_eq_some_iff.1 hK).1
    have cR := bR1.cell
    have fR := bR1.frozen
    gi_wp2_with (refine ⟨trivial, ?_⟩; gi_at_call 11; refine (callsIn_wide.2 (awake4_any _ hNW)).mono ?_; rintro e z9 ⟨rfl, hB9⟩; (have cR9 := (hB9.cell (p := ⟨w.heap.size + 1, 0, none⟩) bR1.lt).trans cR); (have fR9 := (hB9.frozen (p := ⟨w.heap.size + 1, 0, none⟩) bR1.lt).trans fR))
    have hKz : z9.heap[D]? = some (.deferred (some [])) := (hB9.block D hDl).trans hK
    have hK9 : (z9.setCell ⟨w.heap.size + 1, 0, none⟩ (.bool true)).heap[D]? = some (.deferred (some [])) := ((KeepsOthers.setCell z9 _ _).same D _ hKz rfl)
    have cE : (z9.setCell ⟨w.heap.size + 1, 0, none⟩ (.bool true)).cell? ⟨w.heap.size + 1, 0, none⟩ = some (.bool true) := World.cell?_setCell_same' _ _ _ (by rw [cR9]; rfl)
    have hBe : Below w.heap.size w (z9.setCell ⟨w.heap.size + 1, 0, none⟩ (.bool true)) := (hB1.trans (hB9.mono hB1.size)).setCell (p := ⟨w.heap.size + 1, 0, none⟩) (by simp) _
    refine ⟨by simp, .inl ⟨_, _, rfl, run_takeDeferred hK9, ?_⟩⟩
    have cF := cell_kept cE (grownBy_putObj' _ D (.deferred none)) (fun r e => by cases e; exact ⟨_, hK9, rfl⟩)
    have hBf := hBe.trans (belowK_b (w := w) (Nat.le_refl _) _ D _ (.deferred none) (by omega) hK9 rfl rfl)
    exact ⟨_, results_one rfl _ _ _ ⟨w.heap.size + 1, 0, none⟩ rfl (by go_simp), rfl, hBf⟩
  case stop =>
    rintro D c pre W _ _ h _
    exact h.elim
end Go.Proofs.YtipdaiacapjfnaaDoor
