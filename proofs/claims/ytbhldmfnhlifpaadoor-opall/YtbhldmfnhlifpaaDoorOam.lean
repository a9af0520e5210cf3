/- OpAll: the walk. -/
import Derived.Test.YtbhldmfnhlifpaaDoorOal
namespace Go.Proofs.YtbhldmfnhlifpaaDoor
open Go.RowKit Go.Shelf
attribute [local go_sem] Oper.semAt_some
theorem run_store_fn {P : Program} {w : World} {a : Addr} {m : Mode} (f : Fn) (x y : Array Value) : (store a (.func f x y) m).run P w = stored P w a (.func f x y) m := run_store P w a _ m rfl
attribute [local go_sem] run_store_fn
def Okd (w : World) (q : Nat → Nat) (g c N : Nat) (fi se : Int) (p : List OpC) (V : World) : Prop := ∃ b, BX w q g c N fi se (N : Int) b V ∧ (p <+: opsUpto 256 → b = true)
theorem okd_mk {w : World} {q : Nat → Nat} {g c N : Nat} {fi se : Int} {p : List OpC} {V : World} (b : Bool) (h : BX w q g c N fi se (N : Int) b V) (hb : p <+: opsUpto 256 → b = true) : Okd w q g c N fi se p V := ⟨b, h, hb⟩
def qOf (a b : Nat) : Nat → Nat
  | 0 => a
  | 1 => a + 1
  | 2 => a + 1 + 1
  | 3 => b
  | 4 => b + 1
  | 5 => b + 1 + 1
  | _ => b + 1 + 1 + 1
theorem bx_start (w w1 : World) (fi se : Int) (g c N : Nat) (hWt : WantAt g w1) (hg1 : (((w.alloc (.cells #[.int .i64 fi] 3)).alloc (.cells #[.int .i64 se] 3)).alloc (.cells #[.bool false] 4)).heap.size ≤ g) (hg2 : g < w1.heap.size)
    (hB1 : Below (((w.alloc (.cells #[.int .i64 fi] 3)).alloc (.cells #[.int .i64 se] 3)).alloc (.cells #[.bool false] 4)).heap.size (((w.alloc (.cells #[.int .i64 fi] 3)).alloc (.cells #[.int .i64 se] 3)).alloc (.cells #[.bool false] 4)) w1) :
    ∃ q : Nat → Nat, w.heap.size + 1 + 1 = q 2 ∧ w.heap.size + 1 = q 1 ∧ w.heap.size = q 0 ∧ w1.heap.size + 1 + 1 + 1 = q 6 ∧ w1.heap.size + 1 + 1 = q 5 ∧ w1.heap.size + 1 = q 4 ∧ w1.heap.size = q 3 ∧ Apart w q g ∧
      BX w q g c N fi se 0 true ((((w1.alloc (.cells #[.slice (some ⟨g, 0, none⟩) N c] 98)).alloc (.cells #[.func (.func 102) #[] #[]] 101)).alloc (.cells #[.int .i64 0] 3)).alloc (.cells #[.bool true] 4)) := by
  refine ⟨qOf w.heap.size w1.heap.size, rfl, rfl, rfl, rfl, rfl, rfl, rfl, ?_, ?_⟩
  · simp only [World.size_alloc] at hg1
    unfold Apart; simp only [qOf]; omega
  · have hB0 : Below w.heap.size w (((w.alloc (.cells #[.int .i64 fi] 3)).alloc (.cells #[.int .i64 se] 3)).alloc (.cells #[.bool false] 4)) := (((Below.refl _ w).alloc (Nat.le_refl _) _).alloc (by simp) _).alloc (by simp; omega) _
    have c0 := ((Boxed.new w 3 (.int .i64 fi)).alloc (.cells #[.int .i64 se] 3)).alloc (.cells #[.bool false] 4)
    have c1 := (Boxed.new (w.alloc (.cells #[.int .i64 fi] 3)) 3 (.int .i64 se)).alloc (.cells #[.bool false] 4)
    have c2 := Boxed.new ((w.alloc (.cells #[.int .i64 fi] 3)).alloc (.cells #[.int .i64 se] 3)) 4 (.bool false)
    simp only [World.size_alloc] at c1 c2
    have gB := grown_of_below hB1
    generalize ((w.alloc (.cells #[.int .i64 fi] 3)).alloc (.cells #[.int .i64 se] 3)).alloc (.cells #[.bool false] 4) = V0 at c0 c1 c2 hB1 hB0 gB
    have d0 := c0.kept gB (by simp)
    have d1 := c1.kept gB (by simp)
    have d2 := c2.kept gB (by simp)
    have hBw : Below w.heap.size w w1 := hB0.trans (hB1.mono hB0.size)
    have e3 := Boxed.new w1 98 (.slice (some ⟨g, 0, none⟩) N c)
    have e4 := Boxed.new (w1.alloc (.cells #[.slice (some ⟨g, 0, none⟩) N c] 98)) 101 (.func (.func 102) #[] #[])
    have e5 := Boxed.new ((w1.alloc (.cells #[.slice (some ⟨g, 0, none⟩) N c] 98)).alloc (.cells #[.func (.func 102) #[] #[]] 101)) 3 (.int .i64 0)
    have e6 := Boxed.new (((w1.alloc (.cells #[.slice (some ⟨g, 0, none⟩) N c] 98)).alloc (.cells #[.func (.func 102) #[] #[]] 101)).alloc (.cells #[.int .i64 0] 3)) 4 (.bool true)
    simp only [World.size_alloc] at e4 e5 e6
    have al : ∀ (X : World) (o : Obj), WantAt g X → WantAt g (X.alloc o) := fun X o h => h.kept (World.grownBy_alloc X o none) (by simp)
    have z := hBw.size
    exact ⟨(((d0.alloc _).alloc _).alloc _).alloc _, (((d1.alloc _).alloc _).alloc _).alloc _, (((d2.alloc _).alloc _).alloc _).alloc _, ((e3.alloc _).alloc _).alloc _, (e4.alloc _).alloc _, e5.alloc _, e6, al _ _ (al _ _ (al _ _ (al _ _ hWt))), (((hBw.alloc z _).alloc (by simp; omega) _).alloc (by simp; omega) _).alloc (by simp; omega) _⟩
set_option maxRecDepth 100000 in
set_option maxHeartbeats 4000000 in
theorem opAll_in (w : World) (hN : Nms w) (fi se : Int) : CallsIn Fence.wide 10 Tryd.prog 26 #[.int .i64 fi, .int .i64 se] w fun e w' => e = .returned (.bool true) ∧ Below w.heap.size w w' := by
  have hnil : ∀ W : World, Sem.run Tryd.prog (binOp BinOp.eql 101 (.func (.func 102) #[] #[]) .nilFunc) W = .ok (.bool false) W := fun W => by kernel_rfl
  have RA : Hid (∀ V : World, Calls Tryd.prog 66 #[] V fun e w' => ∃ g c, e = .returned (.slice (some ⟨g, 0, none⟩) opsN c) ∧ WantAt g w' ∧ V.heap.size ≤ g ∧ g < w'.heap.size ∧ Below V.heap.size V w') := fun V => (rall_is V).mono fun e w' ⟨v, h1, h2⟩ => by
    obtain ⟨g, c, rfl, h3, h4, h5⟩ := want_of h2
    exact ⟨g, c, h1, h3, h4, h5, h2.2⟩
  have hnp := opsN_pos
  have hnl := opsN_le
  obtain ⟨N, eN⟩ : ∃ N, opsN = N := ⟨_, rfl⟩
  have EN : Hid (opsN = N) := eN
  rw [eN] at RA hnp hnl
  clear eN
  refine callsIn_of_wp_marks Tryd.func26 rfl trivial ?_ rfl
  simp only [Tryd.ntmps26, List.size_toArray, List.length_cons, List.length_nil, Nat.reduceAdd, Nat.reduceSub, Array.replicate_succ, Array.replicate_zero, List.push_toArray, List.append_toArray, List.nil_append, List.cons_append]
  gi_wp2_with (refine ⟨trivial, ?_⟩; first | (gi_at_call 67; refine (callsIn_wide.2 (all_is _)).mono ?_; rintro e w' ⟨rfl, hw⟩; (have hw2 := hw.symm); clear hw; subst hw2) | (gi_at_call 66; refine (callsIn_wide.2 (RA.out _)).mono ?_; rintro e w1 ⟨g, c, rfl, hWt, hg1, hg2, hB1⟩; (have HU : Hid (WantAt g w1 ∧ _ ≤ g ∧ g < w1.heap.size ∧ Below _ _ w1) := ⟨hWt, hg1, hg2, hB1⟩); clear hWt hg1 hg2 hB1))
  obtain ⟨hWt, hg1, hg2, hB1⟩ := HU.out
  clear HU RA
  have hnN : ∀ k g, tabOf k = some g → g < w.heap.size := fun k g hk => World.block_lt_of_cell? w _ (hN k g hk 0 (by omega))
  obtain ⟨q, h2, h1, h0, h6, h5, h4, h3, hAp, hBX⟩ := bx_start w w1 fi se g c N hWt hg1 hg2 hB1
  clear hWt hg1 hg2 hB1
  generalize (((w1.alloc (.cells #[.slice (some ⟨g, 0, none⟩) N c] 98)).alloc (.cells #[.func (.func 102) #[] #[]] 101)).alloc (.cells #[.int .i64 0] 3)).alloc (.cells #[.bool true] 4) = W0 at hBX ⊢
  rw [h2, h1, h6, h5, h4, h3]
  simp only [h0]
  clear h0 h1 h2 h3 h4 h5 h6
  have hq : w.heap.size ≤ q 0 ∧ q 0 < q 1 ∧ q 1 < q 2 ∧ q 2 < g ∧ g < q 3 ∧ q 3 < q 4 ∧ q 4 < q 5 ∧ q 5 < q 6 := hAp
  have hB0 : Below w.heap.size w W0 := hBX.be
  refine wpIn_rangeFunc_ownH (F := Fence.wide) rfl (by omega) (gf := 102) (lb := #[]) rfl trivial (enters_of Tryd.func102 (by kernel_rfl) rfl)
    (all_stops 9 (by omega) w.heap.size W0 (hN.past hB0) hnN) belowK_t (belowK_b hB0.size) (Below.refl _ _) (fun _ => rfl)
    (fun pre W => pre <+: opsUpto 256 ∧ BX w q g c N fi se (pre.length : Int) true W)
    (fun cd pre _ => cd = .ret ∧ ¬ (pre <+: opsUpto 256))
    (OwnFrom.and (ownFrom_pure _ (fun pre : List OpC => pre <+: opsUpto 256)) (BX.own hB0.size (fun pre : List OpC => (pre.length : Int)) (fun _ => true)))
    (fun _ _ _ _ _ hs _ _ => hs)
    ⟨List.nil_prefix, hBX⟩
    (fun x a' W => ∃ Bx, q 6 < Bx ∧ Op7 W Bx (x.1 : Int) (nameT x.1) (immT x.1) (inT x.1) (outT x.1) (gasT x.1) (endsT x.1) ∧ a' = { tmps := #[.int .i64 fi, .int .i64 se, .pointer (some ⟨q 0, 0, none⟩), .pointer (some ⟨q 1, 0, none⟩), .pointer (some ⟨q 2, 0, none⟩), .pointer (some ⟨q 3, 0, none⟩), .pointer (some ⟨q 4, 0, none⟩), .pointer (some ⟨q 5, 0, none⟩), .pointer (some ⟨q 6, 0, none⟩), .pointer (some ⟨Bx, 0, none⟩), undef, undef, undef, undef, .slice (some ⟨g, 0, none⟩) N c, .func (.func 102) #[] #[], .func (.func 102) #[] #[], .bool false, .func (.func 102) #[] #[], opv x.1, undef, undef, undef, undef, undef, undef, undef, undef, undef, undef, undef, undef, undef, undef, undef, undef, undef, undef, undef, undef, undef, undef, undef, undef, undef, undef, undef, undef, undef, undef, undef, undef, undef, undef, undef, undef, undef, undef, undef, undef, undef, undef, undef, undef, undef, undef, undef, undef, undef, undef, undef, undef, undef, undef, undef, undef, undef, undef, undef, undef, undef, undef, undef, undef, undef, undef, undef, undef, undef, undef, undef, undef, undef, undef, undef, undef, undef, undef, undef, undef, undef, undef, undef, undef, undef, undef, undef, undef, undef, undef, undef, undef, undef, undef, undef, undef, undef, undef], defers := [] })
    (fun x a' _ X Y row hs hg hr => by obtain ⟨Bx, h1, ⟨h0, g1, h2, h3, h4, h5, h6⟩, e⟩ := hs; have hr' : ∀ r, row = some r → ∃ o : Obj, X.heap[r]? = some o ∧ o.isCells = false := fun r e => (hr r e).2; exact ⟨Bx, h1, ⟨cell_kept h0 hg hr', cell_kept g1 hg hr', cell_kept h2 hg hr', cell_kept h3 hg hr', cell_kept h4 hg hr', cell_kept h5 hg hr', cell_kept h6 hg hr'⟩, e⟩)
    ?assign ?body ?done ?stop
  case assign =>
    rintro l pre x W K ⟨hpr, hX⟩ hK
    have hx : opv x.1 = .agg #[.int .i64 (x.1 : Int), .string (nameT x.1), .int .i64 (immT x.1), .int .i64 (inT x.1), .int .i64 (outT x.1), .int .i64 (gasT x.1), .bool (endsT x.1)] := rfl
    gi_wp2
    exact hK _ _ ((KeepsOthers.alloc _ _).from _) ((Below.refl _ W).alloc hX.be.size _) ⟨hpr, hX.past ((Below.refl _ W).alloc (Nat.le_refl _) _)⟩ ⟨W.heap.size, hX.bo.lt, Op7.new W _ _ _ _ _ _ _, rfl⟩
  case body =>
    rintro l pre x a' W hl ⟨r, hr⟩ ⟨hpr, hX⟩ ⟨Bx, hBx, hO, rfl⟩ hlt
    have hln : pre.length ≤ N := by have := pre_le hpr; rw [EN.out] at this; exact this
    have hmx : Tryd.prog.follows .mixedOrders = true := by kernel_rfl
    have HPR : Hid (pre <+: opsUpto 256) := hpr
    obtain ⟨L, eL⟩ : ∃ L : Nat, pre.length = L := ⟨_, rfl⟩
    have HL : Hid (pre.length = L) := eL
    rw [eL] at hX hln
    clear hpr eL hlt
    by_cases hA : (pre ++ [x]) <+: opsUpto 256
    · have hat := pre_same hA
      have hLN : L < N := by have := pre_le hA; rw [EN.out, List.length_append, HL.out, List.length_singleton] at this; omega
      have lI : (L : Int) < (N : Int) := by omega
      rw [HL.out] at hat
      have HAT : Hid ((opsUpto 256)[L]? = some x) := hat
      have HA : Hid ((pre ++ [x]) <+: opsUpto 256) := hA
      clear hA
      gi_wp2
      refine wpIn_region_heldR (S := fun V => BX w q g c N fi se (L : Int) true V ∧ Op7 V Bx (x.1 : Int) (nameT x.1) (immT x.1) (inT x.1) (outT x.1) (gasT x.1) (endsT x.1)) hmx (by simp) (fun ⟨_, _, h⟩ => h) ⟨hX.past (Below.refl _ _).drew, hO.past (Below.refl _ _).drew⟩ (fun hF => ?_)
      have KD := KeepsOthers.drew W
      have BD : Below W.heap.size W W.drew := (Below.refl _ _).drew
      generalize W.drew = z0 at hF KD BD ⊢
      refine wpAnyH_take (i := 0) (v := .int .i64 (L : Int)) op0 (by kernel_rfl) (by kernel_rfl) (by kernel_rfl) (fun _ _ _ h => h) (Or.inl ⟨by rfl, fun V hS => ?_⟩) hF ?_
      · have k1 := hS.1.bn.cell
        go_simp
      simp only [Act.put, List.setIfInBounds_toArray, List.set_cons_zero, List.set_cons_succ]
      refine wpAnyH_take (i := 1) (v := .slice (some ⟨g, 0, none⟩) N c) op1 (by kernel_rfl) (by kernel_rfl) (by kernel_rfl) (fun _ _ _ h => h) (Or.inl ⟨by rfl, fun V hS => ?_⟩) hF ?_
      · have k1 := hS.1.bw.cell
        go_simp
      simp only [Act.put, List.setIfInBounds_toArray, List.set_cons_zero, List.set_cons_succ]
      refine wpAnyH_take (i := 2) (v := .int .i64 (N : Int)) op2 (by kernel_rfl) (by kernel_rfl) (by kernel_rfl) (fun _ _ _ h => h) (Or.inl ⟨by rfl, fun V hS => ?_⟩) hF ?_
      · go_simp
      simp only [Act.put, List.setIfInBounds_toArray, List.set_cons_zero, List.set_cons_succ]
      refine wpAnyH_take (i := 3) (v := .bool false) op3 (by kernel_rfl) (by kernel_rfl) (by kernel_rfl) (fun _ _ _ h => h) (Or.inl ⟨by rfl, fun V hS => ?_⟩) hF ?_
      · go_simp
      simp only [Act.put, List.setIfInBounds_toArray, List.set_cons_zero, List.set_cons_succ]
      refine wpAnyH_take (i := 4) (v := .bool false) op4 (by kernel_rfl) (by kernel_rfl) (by kernel_rfl) (fun _ _ _ h => h) (Or.inl ⟨by rfl, fun V hS => ?_⟩) hF ?_
      · go_simp
      simp only [Act.put, List.setIfInBounds_toArray, List.set_cons_zero, List.set_cons_succ]
      refine wpAnyH_take (i := 5) (v := .agg #[.int .i64 (x.1 : Int), .string (nameT x.1), .int .i64 (immT x.1), .int .i64 (inT x.1), .int .i64 (outT x.1), .int .i64 (gasT x.1), .bool (endsT x.1)]) op5 (by kernel_rfl) (by kernel_rfl) (by kernel_rfl) (fun _ _ _ h => h) (Or.inl ⟨by rfl, fun V hS => ?_⟩) hF ?_
      · obtain ⟨k0, k1, k2, k3, k4, k5, k6⟩ := hS.2
        go_simp
      simp only [Act.put, List.setIfInBounds_toArray, List.set_cons_zero, List.set_cons_succ]
      refine wpAnyH_take (i := 6) (v := .slice (some ⟨g, 0, none⟩) N c) op6 (by kernel_rfl) (by kernel_rfl) (by kernel_rfl) (fun _ _ _ h => h) (Or.inl ⟨by rfl, fun V hS => ?_⟩) hF ?_
      · have k1 := hS.1.bw.cell
        go_simp
      simp only [Act.put, List.setIfInBounds_toArray, List.set_cons_zero, List.set_cons_succ]
      refine wpAnyH_take (i := 7) (v := .int .i64 (L : Int)) op7 (by kernel_rfl) (by kernel_rfl) (by kernel_rfl) (fun _ _ _ h => h) (Or.inl ⟨by rfl, fun V hS => ?_⟩) hF ?_
      · have k1 := hS.1.bn.cell
        go_simp
      simp only [Act.put, List.setIfInBounds_toArray, List.set_cons_zero, List.set_cons_succ]
      refine wpAnyH_take (i := 8) (v := .pointer (some ⟨g, L * 7, none⟩)) op8 (by kernel_rfl) (by kernel_rfl) (by kernel_rfl) (fun _ _ _ h => h) (Or.inl ⟨by rfl, fun V hS => ?_⟩) hF ?_
      · go_simp
      simp only [Act.put, List.setIfInBounds_toArray, List.set_cons_zero, List.set_cons_succ]
      refine wpAnyH_take (i := 9) (v := .agg #[.int .i64 (x.1 : Int), .string (nameT x.1), .int .i64 (immT x.1), .int .i64 (inT x.1), .int .i64 (outT x.1), .int .i64 (gasT x.1), .bool (endsT x.1)]) op9 (by kernel_rfl) (by kernel_rfl) (by kernel_rfl) (fun _ _ _ h => h) (Or.inl ⟨by rfl, fun V hS => ?_⟩) hF ?_
      · obtain ⟨k0, k1, k2, k3, k4, k5, k6⟩ := hS.1.wa.row hat
        go_simp
      simp only [Act.put, List.setIfInBounds_toArray, List.set_cons_zero, List.set_cons_succ]
      refine wpAnyH_take (i := 10) (v := .bool false) op10 (by kernel_rfl) (by kernel_rfl) (by kernel_rfl) (fun _ _ _ h => h) (Or.inl ⟨by rfl, fun V hS => ?_⟩) hF ?_
      · have k1 := eq7_same
        go_simp
      simp only [Act.put, List.setIfInBounds_toArray, List.set_cons_zero, List.set_cons_succ]
      refine wpAnyH_take (i := 11) (v := .bool false) op11 (by kernel_rfl) (by kernel_rfl) (by kernel_rfl) (fun _ _ _ h => h) (Or.inl ⟨by rfl, fun V hS => ?_⟩) hF ?_
      · go_simp
      simp only [Act.put, List.setIfInBounds_toArray, List.set_cons_zero, List.set_cons_succ]
      refine wpAnyH_done (by kernel_rfl) ?_ _
      obtain ⟨hX0, hO0⟩ := hF
      have hr0 : z0.heap[l]? = some (.loop r) := KD.same l _ hr rfl
      obtain ⟨L1, eL1⟩ : ∃ L1 : Nat, L + 1 = L1 := ⟨_, rfl⟩
      have s1 : (L : Int) + 1 = (L1 : Int) := by omega
      have w1' : IntKind.i64.wrap (L1 : Int) = (L1 : Int) := by rw [IntKind.wrap_i64]; omega
      have HL1 : Hid ((((pre ++ [x]).length : Nat) : Int) = (L1 : Int)) := by unfold Hid; rw [List.length_append, HL.out, List.length_singleton]; omega
      have hL1 : L1 ≤ N := by omega
      have hX1 : Hid (BX w q g c N fi se (L1 : Int) true (z0.setCell ⟨q 5, 0, none⟩ (.int .i64 (L1 : Int)))) := hX0.setN hAp _
      have hr1 : Hid ((z0.setCell ⟨q 5, 0, none⟩ (.int .i64 (L1 : Int))).heap[l]? = some (.loop r)) := (KeepsOthers.setCell z0 _ _).same l _ hr0 rfl
      have K1 : Hid (KeepsOthers W (z0.setCell ⟨q 5, 0, none⟩ (.int .i64 (L1 : Int)))) := KD.trans (KeepsOthers.setCell _ _ _)
      have B1 : Hid (Below w.heap.size W (z0.setCell ⟨q 5, 0, none⟩ (.int .i64 (L1 : Int)))) := (BD.mono hX.be.size).setCell (p := ⟨q 5, 0, none⟩) (show w.heap.size ≤ q 5 by omega) _
      have cN := hX0.bn.cell
      have fN := hX0.bn.frozen
      have cF := hX0.bf.cell
      have n05 : ¬ q 0 = q 5 := by omega
      have n50 : ¬ q 5 = q 0 := by omega
      clear eL1
      by_cases hf : (L1 : Int) = fi
      · subst hf
        have hX2 : Hid (BX w q g c N (L1 : Int) se (L1 : Int) true ((z0.setCell ⟨q 5, 0, none⟩ (.int .i64 (L1 : Int))).alloc (.cells #[.int .i64 0] 3))) := hX1.out.past ((Below.refl _ _).alloc (Nat.le_refl _) _)
        have hk2 : Hid (Boxed ((z0.setCell ⟨q 5, 0, none⟩ (.int .i64 (L1 : Int))).alloc (.cells #[.int .i64 0] 3)) z0.heap.size 3 (.int .i64 0)) := by have := Boxed.new (z0.setCell ⟨q 5, 0, none⟩ (.int .i64 (L1 : Int))) 3 (.int .i64 0); simp only [World.size_setCell] at this; exact this
        have hr2 : ((z0.setCell ⟨q 5, 0, none⟩ (.int .i64 (L1 : Int))).alloc (.cells #[.int .i64 0] 3)).heap[l]? = some (.loop r) := (KeepsOthers.alloc _ _).same l _ hr1.out rfl
        have K2 : Hid (KeepsFrom W0.heap.size W ((z0.setCell ⟨q 5, 0, none⟩ (.int .i64 (L1 : Int))).alloc (.cells #[.int .i64 0] 3))) := (K1.out.trans (KeepsOthers.alloc _ _)).from _
        have B2 : Hid (Below w.heap.size W ((z0.setCell ⟨q 5, 0, none⟩ (.int .i64 (L1 : Int))).alloc (.cells #[.int .i64 0] 3))) := B1.out.alloc (by have h1 := hX1.out.be.size; exact h1) _
        have cI := hX2.out.bi.cell
        have hbk : q 6 < z0.heap.size := hX0.bo.lt
        gi_wp2
        generalize (z0.setCell ⟨q 5, 0, none⟩ (.int .i64 (L1 : Int))).alloc (.cells #[.int .i64 0] 3) = W2 at hX2 hk2 hr2 K2 B2 cI ⊢
        generalize z0.heap.size = bk at hk2 hbk ⊢
        clear hX0 hO0 hr0 hX1 hr1 K1 B1 cN fN cF cI KD BD hat
        have hWW : W.heap.size ≤ W2.heap.size := K2.out.size
        refine wpIn_rangeFunc_ownN (F := Fence.wide.inRound l) rfl hr2 (by omega) (gf := 102) (lb := #[]) rfl trivial (enters_of Tryd.func102 (by kernel_rfl) rfl)
          ((all_stops 7 (by omega) w.heap.size W2 (hN.past hX2.out.be) hnN).inRound l) belowK_t (belowK_b hX2.out.be.size) (Below.refl _ _) (fun _ => rfl)
          (fun p V => (p <+: opsUpto 256 ∧ ∀ j : Nat, 1 ≤ j → j ≤ p.length → se ≠ (j : Int)) ∧ BX w q g c N (L1 : Int) se (L1 : Int) true V ∧ Boxed V bk 3 (.int .i64 (p.length : Int)) ∧ KeepsFrom W0.heap.size W V ∧ Below w.heap.size W V)
          (fun cd p V => cd = .exit 2 ∧ KeepsFrom W0.heap.size W V ∧ Below w.heap.size W V ∧ (p <+: opsUpto 256 → (BX w q g c N (L1 : Int) se (L1 : Int) true V ∧ Boxed V bk 3 (.int .i64 (p.length : Int))) ∧ se = (p.length : Int) ∧ 1 ≤ p.length))
          (OwnFrom.and (ownFrom_pure _ (fun p : List OpC => p <+: opsUpto 256 ∧ ∀ j : Nat, 1 ≤ j → j ≤ p.length → se ≠ (j : Int))) (OwnFrom.and (BX.own hX2.out.be.size (fun _ : List OpC => (L1 : Int)) (fun _ => true)) (OwnFrom.and (Own.from (boxed_own _ _ (fun p : List OpC => .int .i64 (p.length : Int))) _) (OwnFrom.and (ownFrom_keepsFrom hWW) (ownFrom_below hX.be.size hX2.out.be.size)))))
          (fun cd p X Y row hs hg hr => ⟨hs.1, ownFrom_keepsFrom hWW () X Y row hs.2.1 hg hr, ownFrom_below (β := Unit) hX.be.size hX2.out.be.size () X Y row hs.2.2.1 hg hr, fun hp => ⟨⟨BX.own hX2.out.be.size (fun _ : List OpC => (L1 : Int)) (fun _ => true) p X Y row (hs.2.2.2 hp).1.1 hg hr, Own.from (boxed_own _ _ (fun p : List OpC => .int .i64 (p.length : Int))) _ p X Y row (hs.2.2.2 hp).1.2 hg hr⟩, (hs.2.2.2 hp).2⟩⟩)
          ⟨⟨List.nil_prefix, fun j h1 h2 => absurd h2 (by simp; omega)⟩, hX2.out, hk2.out, K2.out, B2.out⟩
          (fun y a' V => ∃ By, bk < By ∧ Op7 V By (y.1 : Int) (nameT y.1) (immT y.1) (inT y.1) (outT y.1) (gasT y.1) (endsT y.1) ∧ a' = { tmps := #[.int .i64 (L1 : Int), .int .i64 se, .pointer (some ⟨q 0, 0, none⟩), .pointer (some ⟨q 1, 0, none⟩), .pointer (some ⟨q 2, 0, none⟩), .pointer (some ⟨q 3, 0, none⟩), .pointer (some ⟨q 4, 0, none⟩), .pointer (some ⟨q 5, 0, none⟩), .pointer (some ⟨q 6, 0, none⟩), .pointer (some ⟨Bx, 0, none⟩), .pointer (some ⟨bk, 0, none⟩), .pointer (some ⟨By, 0, none⟩), undef, undef, .slice (some ⟨g, 0, none⟩) N c, .func (.func 102) #[] #[], .func (.func 102) #[] #[], .bool false, .func (.func 102) #[] #[], opv x.1, .int .i64 (L : Int), .slice (some ⟨g, 0, none⟩) N c, .int .i64 (N : Int), .bool false, .bool false, .agg #[.int .i64 (x.1 : Int), .string (nameT x.1), .int .i64 (immT x.1), .int .i64 (inT x.1), .int .i64 (outT x.1), .int .i64 (gasT x.1), .bool (endsT x.1)], .slice (some ⟨g, 0, none⟩) N c, .int .i64 (L : Int), .pointer (some ⟨g, L * 7, none⟩), .agg #[.int .i64 (x.1 : Int), .string (nameT x.1), .int .i64 (immT x.1), .int .i64 (inT x.1), .int .i64 (outT x.1), .int .i64 (gasT x.1), .bool (endsT x.1)], .bool false, .bool false, .int .i64 (L : Int), .int .i64 (L1 : Int), .int .i64 (L1 : Int), .int .i64 (L1 : Int), .bool true, .func (.func 102) #[] #[], opv y.1, undef, undef, undef, undef, undef, undef, undef, undef, undef, undef, undef, undef, undef, undef, undef, undef, undef, undef, undef, undef, undef, undef, undef, undef, undef, undef, undef, undef, undef, undef, undef, undef, undef, undef, undef, undef, undef, undef, undef, undef, undef, undef, undef, undef, undef, undef, undef, undef, undef, undef, undef, undef, undef, undef, undef, undef, undef, undef, undef, undef, undef, undef, undef, undef, undef, undef, undef, undef, undef, undef, undef, undef, undef, undef, undef, undef, undef, undef, undef], defers := [] })
          (fun x a' _ X Y row hs hg hr => by obtain ⟨Bx, h1, ⟨h0, g1, h2, h3, h4, h5, h6⟩, e⟩ := hs; have hr' : ∀ r, row = some r → ∃ o : Obj, X.heap[r]? = some o ∧ o.isCells = false := fun r e => (hr r e).2; exact ⟨Bx, h1, ⟨cell_kept h0 hg hr', cell_kept g1 hg hr', cell_kept h2 hg hr', cell_kept h3 hg hr', cell_kept h4 hg hr', cell_kept h5 hg hr', cell_kept h6 hg hr'⟩, e⟩)
          ?assign2 ?body2 ?done2 ?stop2
        case assign2 =>
          rintro l2 p y V K ⟨hpr, hY, hkb, hkf, hbl⟩ hK
          have hx : opv y.1 = .agg #[.int .i64 (y.1 : Int), .string (nameT y.1), .int .i64 (immT y.1), .int .i64 (inT y.1), .int .i64 (outT y.1), .int .i64 (gasT y.1), .bool (endsT y.1)] := rfl
          gi_wp2
          exact hK _ _ ((KeepsOthers.alloc _ _).from _) ((Below.refl _ V).alloc hY.be.size _) ⟨hpr, hY.past ((Below.refl _ V).alloc (Nat.le_refl _) _), hkb.alloc _, hkf.trans ((KeepsOthers.alloc _ _).from _), hbl.alloc hY.be.size _⟩ ⟨V.heap.size, hkb.lt, Op7.new V _ _ _ _ _ _ _, rfl⟩
        case body2 =>
          rintro l2 p y a' V hl2 ⟨r2, hr3⟩ ⟨⟨hpp, hne⟩, hY, hkb, hkf, hbl⟩ ⟨By, hBy, hO, rfl⟩ hlt2
          have hpl : p.length ≤ N := by have := pre_le hpp; rw [EN.out] at this; exact this
          obtain ⟨M, eM⟩ : ∃ M : Nat, p.length = M := ⟨_, rfl⟩
          have HM : Hid (p.length = M) := eM
          rw [eM] at hkb hpl
          obtain ⟨M1, eM1⟩ : ∃ M1 : Nat, M + 1 = M1 := ⟨_, rfl⟩
          have s2 : (M : Int) + 1 = (M1 : Int) := by omega
          have w2' : IntKind.i64.wrap (M1 : Int) = (M1 : Int) := by rw [IntKind.wrap_i64]; omega
          have HM1 : Hid ((p ++ [y]).length = M1) := by unfold Hid; rw [List.length_append, HM.out, List.length_singleton]; omega
          have HNE : Hid (∀ j : Nat, 1 ≤ j → j ≤ M → se ≠ (j : Int)) := by have := hne; rw [eM] at this; exact this
          have h1M : 1 ≤ M1 := by omega
          have hMM : Hid (M + 1 = M1) := eM1
          clear eM eM1 hne hlt2
          by_cases hA2 : (p ++ [y]) <+: opsUpto 256
          · have hat := pre_same hA2
            rw [HM.out] at hat
            have hMN : M < N := by have := pre_le hA2; rw [EN.out, HM1.out] at this; have := hMM.out; omega
            have mI : (M : Int) < (N : Int) := by omega
            have HA2 : Hid ((p ++ [y]) <+: opsUpto 256) := hA2
            clear hA2
            gi_wp2
            have hYd := hY.past (Below.refl V.heap.size V).drew
            have hkd := hkb.kept (grown_of_below (Below.refl V.heap.size V).drew) (by simp)
            refine wpIn_region_heldR (S := fun U => Boxed U (q 3) 98 (.slice (some ⟨g, 0, none⟩) N c) ∧ Boxed U bk 3 (.int .i64 (M : Int)) ∧ WantAt g U ∧ Op7 U By (y.1 : Int) (nameT y.1) (immT y.1) (inT y.1) (outT y.1) (gasT y.1) (endsT y.1)) hmx (by simp) (fun ⟨_, _, h⟩ => h) ⟨hYd.bw, hkd, hYd.wa, hO.past (Below.refl _ _).drew⟩ (fun hF => ?_)
            have KD := KeepsOthers.drew V
            have BD : Below w.heap.size V V.drew := (Below.refl _ _).drew
            generalize V.drew = z0 at hF KD BD hYd hkd ⊢
            have cO := hYd.bo.cell
            have fO := hYd.bo.frozen
            refine wpAnyH_ready (rs := [0]) (by kernel_rfl) (by simp) ?_
            refine AllReadyH.cons op0 (fun K hK => ?_) AllReadyH.nil
            rw [if_pos (by rfl)]
            go_simp
            refine hK.out _ _ hF (fun _ => ?_)
            clear hK K
            (try simp only [Act.put, List.setIfInBounds_toArray, List.set_cons_zero, List.set_cons_succ])
            refine wpAnyH_take (i := 1) (v := .bool true) op1 (by kernel_rfl) (by kernel_rfl) (by kernel_rfl) (fun _ _ _ h => h) (Or.inl ⟨by rfl, fun V hS => ?_⟩) hF ?_
            · go_simp
            simp only [Act.put, List.setIfInBounds_toArray, List.set_cons_zero, List.set_cons_succ]
            refine wpAnyH_take (i := 2) (v := .int .i64 (M : Int)) op2 (by kernel_rfl) (by kernel_rfl) (by kernel_rfl) (fun _ _ _ h => h) (Or.inl ⟨by rfl, fun V hS => ?_⟩) hF ?_
            · have k1 := hS.2.1.cell
              go_simp
            simp only [Act.put, List.setIfInBounds_toArray, List.set_cons_zero, List.set_cons_succ]
            refine wpAnyH_take (i := 3) (v := .slice (some ⟨g, 0, none⟩) N c) op3 (by kernel_rfl) (by kernel_rfl) (by kernel_rfl) (fun _ _ _ h => h) (Or.inl ⟨by rfl, fun V hS => ?_⟩) hF ?_
            · have k1 := hS.1.cell
              go_simp
            simp only [Act.put, List.setIfInBounds_toArray, List.set_cons_zero, List.set_cons_succ]
            refine wpAnyH_take (i := 4) (v := .int .i64 (N : Int)) op4 (by kernel_rfl) (by kernel_rfl) (by kernel_rfl) (fun _ _ _ h => h) (Or.inl ⟨by rfl, fun V hS => ?_⟩) hF ?_
            · go_simp
            simp only [Act.put, List.setIfInBounds_toArray, List.set_cons_zero, List.set_cons_succ]
            refine wpAnyH_take (i := 5) (v := .bool true) op5 (by kernel_rfl) (by kernel_rfl) (by kernel_rfl) (fun _ _ _ h => h) (Or.inl ⟨by rfl, fun V hS => ?_⟩) hF ?_
            · go_simp
            simp only [Act.put, List.setIfInBounds_toArray, List.set_cons_zero, List.set_cons_succ]
            refine wpAnyH_take (i := 6) (v := .bool true) op6 (by kernel_rfl) (by kernel_rfl) (by kernel_rfl) (fun _ _ _ h => h) (Or.inl ⟨by rfl, fun V hS => ?_⟩) hF ?_
            · go_simp
            simp only [Act.put, List.setIfInBounds_toArray, List.set_cons_zero, List.set_cons_succ]
            refine wpAnyH_take (i := 7) (v := .bool true) op7 (by kernel_rfl) (by kernel_rfl) (by kernel_rfl) (fun _ _ _ h => h) (Or.inl ⟨by rfl, fun V hS => ?_⟩) hF ?_
            · go_simp
            simp only [Act.put, List.setIfInBounds_toArray, List.set_cons_zero, List.set_cons_succ]
            refine wpAnyH_take (i := 8) (v := .agg #[.int .i64 (y.1 : Int), .string (nameT y.1), .int .i64 (immT y.1), .int .i64 (inT y.1), .int .i64 (outT y.1), .int .i64 (gasT y.1), .bool (endsT y.1)]) op8 (by kernel_rfl) (by kernel_rfl) (by kernel_rfl) (fun _ _ _ h => h) (Or.inl ⟨by rfl, fun V hS => ?_⟩) hF ?_
            · obtain ⟨k0, k1, k2, k3, k4, k5, k6⟩ := hS.2.2.2
              go_simp
            simp only [Act.put, List.setIfInBounds_toArray, List.set_cons_zero, List.set_cons_succ]
            refine wpAnyH_take (i := 9) (v := .slice (some ⟨g, 0, none⟩) N c) op9 (by kernel_rfl) (by kernel_rfl) (by kernel_rfl) (fun _ _ _ h => h) (Or.inl ⟨by rfl, fun V hS => ?_⟩) hF ?_
            · have k1 := hS.1.cell
              go_simp
            simp only [Act.put, List.setIfInBounds_toArray, List.set_cons_zero, List.set_cons_succ]
            refine wpAnyH_take (i := 10) (v := .int .i64 (M : Int)) op10 (by kernel_rfl) (by kernel_rfl) (by kernel_rfl) (fun _ _ _ h => h) (Or.inl ⟨by rfl, fun V hS => ?_⟩) hF ?_
            · have k1 := hS.2.1.cell
              go_simp
            simp only [Act.put, List.setIfInBounds_toArray, List.set_cons_zero, List.set_cons_succ]
            refine wpAnyH_take (i := 11) (v := .pointer (some ⟨g, M * 7, none⟩)) op11 (by kernel_rfl) (by kernel_rfl) (by kernel_rfl) (fun _ _ _ h => h) (Or.inl ⟨by rfl, fun V hS => ?_⟩) hF ?_
            · go_simp
            simp only [Act.put, List.setIfInBounds_toArray, List.set_cons_zero, List.set_cons_succ]
            refine wpAnyH_take (i := 12) (v := .agg #[.int .i64 (y.1 : Int), .string (nameT y.1), .int .i64 (immT y.1), .int .i64 (inT y.1), .int .i64 (outT y.1), .int .i64 (gasT y.1), .bool (endsT y.1)]) op12 (by kernel_rfl) (by kernel_rfl) (by kernel_rfl) (fun _ _ _ h => h) (Or.inl ⟨by rfl, fun V hS => ?_⟩) hF ?_
            · obtain ⟨k0, k1, k2, k3, k4, k5, k6⟩ := hS.2.2.1.row hat
              go_simp
            simp only [Act.put, List.setIfInBounds_toArray, List.set_cons_zero, List.set_cons_succ]
            refine wpAnyH_take (i := 13) (v := .bool true) op13 (by kernel_rfl) (by kernel_rfl) (by kernel_rfl) (fun _ _ _ h => h) (Or.inl ⟨by rfl, fun V hS => ?_⟩) hF ?_
            · have k1 := eq7_same
              go_simp
            simp only [Act.put, List.setIfInBounds_toArray, List.set_cons_zero, List.set_cons_succ]
            refine wpAnyH_take (i := 14) (v := .bool true) op14 (by kernel_rfl) (by kernel_rfl) (by kernel_rfl) (fun _ _ _ h => h) (Or.inl ⟨by rfl, fun V hS => ?_⟩) hF ?_
            · go_simp
            simp only [Act.put, List.setIfInBounds_toArray, List.set_cons_zero, List.set_cons_succ]
            obtain ⟨hF1, hF2, hF3, g0, g1, g2', g3, g4, g5, g6⟩ := hF
            have hF' : (fun U : World => Boxed U (q 3) 98 (.slice (some ⟨g, 0, none⟩) N c) ∧ Boxed U bk 3 (.int .i64 (M : Int)) ∧ WantAt g U ∧ Op7 U By (y.1 : Int) (nameT y.1) (immT y.1) (inT y.1) (outT y.1) (gasT y.1) (endsT y.1)) (z0.setCell ⟨q 6, 0, none⟩ (.bool true)) := by
              refine ⟨hF1.other (by omega) _, hF2.other (by omega) _, hF3.set (by omega) _, ?_⟩
              have e6 : ∀ o : Nat, (⟨By, o, none⟩ : Addr) ≠ ⟨q 6, 0, none⟩ := fun o e => by injection e with e1 _ _; omega
              exact ⟨(World.cell?_setCell_other _ _ _ _ (fun e => e6 _ e.symm)).trans g0, (World.cell?_setCell_other _ _ _ _ (fun e => e6 _ e.symm)).trans g1, (World.cell?_setCell_other _ _ _ _ (fun e => e6 _ e.symm)).trans g2', (World.cell?_setCell_other _ _ _ _ (fun e => e6 _ e.symm)).trans g3, (World.cell?_setCell_other _ _ _ _ (fun e => e6 _ e.symm)).trans g4, (World.cell?_setCell_other _ _ _ _ (fun e => e6 _ e.symm)).trans g5, (World.cell?_setCell_other _ _ _ _ (fun e => e6 _ e.symm)).trans g6⟩
            refine wpAnyH_ready (rs := [15]) (by kernel_rfl) (by simp) ?_
            refine AllReadyH.cons op15 (fun K hK => ?_) AllReadyH.nil
            rw [if_pos (by rfl)]
            go_simp
            refine hK.out _ _ hF' (fun _ => ?_)
            clear hK K
            (try simp only [Act.put, List.setIfInBounds_toArray, List.set_cons_zero, List.set_cons_succ])
            refine wpAnyH_done (by kernel_rfl) ?_ _
            have hY2 : BX w q g c N (L1 : Int) se (L1 : Int) true (z0.setCell ⟨q 6, 0, none⟩ (.bool true)) := hYd.setO hAp _
            have hk3 : Boxed (z0.setCell ⟨q 6, 0, none⟩ (.bool true)) bk 3 (.int .i64 (M : Int)) := hkd.other (by omega) _
            have KE : KeepsOthers V (z0.setCell ⟨q 6, 0, none⟩ (.bool true)) := KD.trans (KeepsOthers.setCell _ _ _)
            have BE : Below w.heap.size V (z0.setCell ⟨q 6, 0, none⟩ (.bool true)) := BD.setCell (p := ⟨q 6, 0, none⟩) (show w.heap.size ≤ q 6 by omega) _
            clear hF' hF1 hF2 hF3 g0 g1 g2' g3 g4 g5 g6 cO fO hYd hkd KD BD
            generalize z0.setCell ⟨q 6, 0, none⟩ (.bool true) = z1 at hY2 hk3 KE BE ⊢
            have cK := hk3.cell
            have fK := hk3.frozen
            have cS := hY2.bs.cell
            have cO := hY2.bo.cell
            have n1 : ¬ q 1 = bk := by omega
            have n2 : ¬ bk = q 1 := by omega
            have n3 : ¬ q 6 = bk := by omega
            have n4 : ¬ bk = q 6 := by omega
            have hY3 : Hid (BX w q g c N (L1 : Int) se (L1 : Int) true (z1.setCell ⟨bk, 0, none⟩ (.int .i64 (M1 : Int)))) := hY2.other hAp hbk _
            have hk4 : Hid (Boxed (z1.setCell ⟨bk, 0, none⟩ (.int .i64 (M1 : Int))) bk 3 (.int .i64 (M1 : Int))) := hk3.set _
            have KF : Hid (KeepsOthers V (z1.setCell ⟨bk, 0, none⟩ (.int .i64 (M1 : Int)))) := KE.trans (KeepsOthers.setCell _ _ _)
            have BF : Hid (Below w.heap.size V (z1.setCell ⟨bk, 0, none⟩ (.int .i64 (M1 : Int)))) := BE.setCell (p := ⟨bk, 0, none⟩) (show w.heap.size ≤ bk by omega) _
            clear hY2 hk3 KE BE
            by_cases hse : (M1 : Int) = se
            · subst hse
              gi_wp2
              exact ⟨KF.out.from _, rfl, hkf.trans (KF.out.from _), hbl.trans BF.out, fun hp => ⟨⟨hY3.out, by rw [HM1.out]; exact hk4.out⟩, by rw [HM1.out], by rw [HM1.out]; exact h1M⟩⟩
            · gi_wp2
              exact ⟨KF.out.from _, BF.out, ⟨HA2.out, fun j h1 h2 e => by
                rw [HM1.out] at h2
                by_cases e2 : j = M1
                · subst e2; exact hse e.symm
                · have := hMM.out; exact HNE.out j h1 (by omega) e⟩, hY3.out, by rw [HM1.out]; exact hk4.out, hkf.trans (KF.out.from _), hbl.trans BF.out⟩
          · by_cases hMN : M < N
            · obtain ⟨y2, hat⟩ : ∃ y2, (opsUpto 256)[M]? = some y2 := ⟨_, List.getElem?_eq_getElem (by have := EN.out; unfold opsN at this; omega)⟩
              have hxy : (y.1 : Int) ≠ (y2.1 : Int) := fun e => hA2 (pre_next hpp (by rw [HM.out, hat]; congr 1; exact Subtype.ext (by omega)))
              have mI : (M : Int) < (N : Int) := by omega
              gi_wp2
              have hYd := hY.past (Below.refl V.heap.size V).drew
              have hkd := hkb.kept (grown_of_below (Below.refl V.heap.size V).drew) (by simp)
              refine wpIn_region_heldR (S := fun U => Boxed U (q 3) 98 (.slice (some ⟨g, 0, none⟩) N c) ∧ Boxed U bk 3 (.int .i64 (M : Int)) ∧ WantAt g U ∧ Op7 U By (y.1 : Int) (nameT y.1) (immT y.1) (inT y.1) (outT y.1) (gasT y.1) (endsT y.1)) hmx (by simp) (fun ⟨_, _, h⟩ => h) ⟨hYd.bw, hkd, hYd.wa, hO.past (Below.refl _ _).drew⟩ (fun hF => ?_)
              have KD := KeepsOthers.drew V
              have BD : Below w.heap.size V V.drew := (Below.refl _ _).drew
              generalize V.drew = z0 at hF KD BD hYd hkd ⊢
              have cO := hYd.bo.cell
              have fO := hYd.bo.frozen
              refine wpAnyH_ready (rs := [0]) (by kernel_rfl) (by simp) ?_
              refine AllReadyH.cons op0 (fun K hK => ?_) AllReadyH.nil
              rw [if_pos (by rfl)]
              go_simp
              refine hK.out _ _ hF (fun _ => ?_)
              clear hK K
              (try simp only [Act.put, List.setIfInBounds_toArray, List.set_cons_zero, List.set_cons_succ])
              refine wpAnyH_take (i := 1) (v := .bool true) op1 (by kernel_rfl) (by kernel_rfl) (by kernel_rfl) (fun _ _ _ h => h) (Or.inl ⟨by rfl, fun V hS => ?_⟩) hF ?_
              · go_simp
              simp only [Act.put, List.setIfInBounds_toArray, List.set_cons_zero, List.set_cons_succ]
              refine wpAnyH_take (i := 2) (v := .int .i64 (M : Int)) op2 (by kernel_rfl) (by kernel_rfl) (by kernel_rfl) (fun _ _ _ h => h) (Or.inl ⟨by rfl, fun V hS => ?_⟩) hF ?_
              · have k1 := hS.2.1.cell
                go_simp
              simp only [Act.put, List.setIfInBounds_toArray, List.set_cons_zero, List.set_cons_succ]
              refine wpAnyH_take (i := 3) (v := .slice (some ⟨g, 0, none⟩) N c) op3 (by kernel_rfl) (by kernel_rfl) (by kernel_rfl) (fun _ _ _ h => h) (Or.inl ⟨by rfl, fun V hS => ?_⟩) hF ?_
              · have k1 := hS.1.cell
                go_simp
              simp only [Act.put, List.setIfInBounds_toArray, List.set_cons_zero, List.set_cons_succ]
              refine wpAnyH_take (i := 4) (v := .int .i64 (N : Int)) op4 (by kernel_rfl) (by kernel_rfl) (by kernel_rfl) (fun _ _ _ h => h) (Or.inl ⟨by rfl, fun V hS => ?_⟩) hF ?_
              · go_simp
              simp only [Act.put, List.setIfInBounds_toArray, List.set_cons_zero, List.set_cons_succ]
              refine wpAnyH_take (i := 5) (v := .bool true) op5 (by kernel_rfl) (by kernel_rfl) (by kernel_rfl) (fun _ _ _ h => h) (Or.inl ⟨by rfl, fun V hS => ?_⟩) hF ?_
              · go_simp
              simp only [Act.put, List.setIfInBounds_toArray, List.set_cons_zero, List.set_cons_succ]
              refine wpAnyH_take (i := 6) (v := .bool true) op6 (by kernel_rfl) (by kernel_rfl) (by kernel_rfl) (fun _ _ _ h => h) (Or.inl ⟨by rfl, fun V hS => ?_⟩) hF ?_
              · go_simp
              simp only [Act.put, List.setIfInBounds_toArray, List.set_cons_zero, List.set_cons_succ]
              refine wpAnyH_take (i := 7) (v := .bool true) op7 (by kernel_rfl) (by kernel_rfl) (by kernel_rfl) (fun _ _ _ h => h) (Or.inl ⟨by rfl, fun V hS => ?_⟩) hF ?_
              · go_simp
              simp only [Act.put, List.setIfInBounds_toArray, List.set_cons_zero, List.set_cons_succ]
              refine wpAnyH_take (i := 8) (v := .agg #[.int .i64 (y.1 : Int), .string (nameT y.1), .int .i64 (immT y.1), .int .i64 (inT y.1), .int .i64 (outT y.1), .int .i64 (gasT y.1), .bool (endsT y.1)]) op8 (by kernel_rfl) (by kernel_rfl) (by kernel_rfl) (fun _ _ _ h => h) (Or.inl ⟨by rfl, fun V hS => ?_⟩) hF ?_
              · obtain ⟨k0, k1, k2, k3, k4, k5, k6⟩ := hS.2.2.2
                go_simp
              simp only [Act.put, List.setIfInBounds_toArray, List.set_cons_zero, List.set_cons_succ]
              refine wpAnyH_take (i := 9) (v := .slice (some ⟨g, 0, none⟩) N c) op9 (by kernel_rfl) (by kernel_rfl) (by kernel_rfl) (fun _ _ _ h => h) (Or.inl ⟨by rfl, fun V hS => ?_⟩) hF ?_
              · have k1 := hS.1.cell
                go_simp
              simp only [Act.put, List.setIfInBounds_toArray, List.set_cons_zero, List.set_cons_succ]
              refine wpAnyH_take (i := 10) (v := .int .i64 (M : Int)) op10 (by kernel_rfl) (by kernel_rfl) (by kernel_rfl) (fun _ _ _ h => h) (Or.inl ⟨by rfl, fun V hS => ?_⟩) hF ?_
              · have k1 := hS.2.1.cell
                go_simp
              simp only [Act.put, List.setIfInBounds_toArray, List.set_cons_zero, List.set_cons_succ]
              refine wpAnyH_take (i := 11) (v := .pointer (some ⟨g, M * 7, none⟩)) op11 (by kernel_rfl) (by kernel_rfl) (by kernel_rfl) (fun _ _ _ h => h) (Or.inl ⟨by rfl, fun V hS => ?_⟩) hF ?_
              · go_simp
              simp only [Act.put, List.setIfInBounds_toArray, List.set_cons_zero, List.set_cons_succ]
              refine wpAnyH_take (i := 12) (v := .agg #[.int .i64 (y2.1 : Int), .string (nameT y2.1), .int .i64 (immT y2.1), .int .i64 (inT y2.1), .int .i64 (outT y2.1), .int .i64 (gasT y2.1), .bool (endsT y2.1)]) op12 (by kernel_rfl) (by kernel_rfl) (by kernel_rfl) (fun _ _ _ h => h) (Or.inl ⟨by rfl, fun V hS => ?_⟩) hF ?_
              · obtain ⟨k0, k1, k2, k3, k4, k5, k6⟩ := hS.2.2.1.row hat
                go_simp
              simp only [Act.put, List.setIfInBounds_toArray, List.set_cons_zero, List.set_cons_succ]
              refine wpAnyH_take (i := 13) (v := .bool false) op13 (by kernel_rfl) (by kernel_rfl) (by kernel_rfl) (fun _ _ _ h => h) (Or.inl ⟨by rfl, fun V hS => ?_⟩) hF ?_
              · have k1 := eq7_diff (y.1 : Int) (y2.1 : Int) hxy
                go_simp
              simp only [Act.put, List.setIfInBounds_toArray, List.set_cons_zero, List.set_cons_succ]
              refine wpAnyH_take (i := 14) (v := .bool false) op14 (by kernel_rfl) (by kernel_rfl) (by kernel_rfl) (fun _ _ _ h => h) (Or.inl ⟨by rfl, fun V hS => ?_⟩) hF ?_
              · go_simp
              simp only [Act.put, List.setIfInBounds_toArray, List.set_cons_zero, List.set_cons_succ]
              obtain ⟨hF1, hF2, hF3, g0, g1, g2', g3, g4, g5, g6⟩ := hF
              have hF' : (fun U : World => Boxed U (q 3) 98 (.slice (some ⟨g, 0, none⟩) N c) ∧ Boxed U bk 3 (.int .i64 (M : Int)) ∧ WantAt g U ∧ Op7 U By (y.1 : Int) (nameT y.1) (immT y.1) (inT y.1) (outT y.1) (gasT y.1) (endsT y.1)) (z0.setCell ⟨q 6, 0, none⟩ (.bool false)) := by
                refine ⟨hF1.other (by omega) _, hF2.other (by omega) _, hF3.set (by omega) _, ?_⟩
                have e6 : ∀ o : Nat, (⟨By, o, none⟩ : Addr) ≠ ⟨q 6, 0, none⟩ := fun o e => by injection e with e1 _ _; omega
                exact ⟨(World.cell?_setCell_other _ _ _ _ (fun e => e6 _ e.symm)).trans g0, (World.cell?_setCell_other _ _ _ _ (fun e => e6 _ e.symm)).trans g1, (World.cell?_setCell_other _ _ _ _ (fun e => e6 _ e.symm)).trans g2', (World.cell?_setCell_other _ _ _ _ (fun e => e6 _ e.symm)).trans g3, (World.cell?_setCell_other _ _ _ _ (fun e => e6 _ e.symm)).trans g4, (World.cell?_setCell_other _ _ _ _ (fun e => e6 _ e.symm)).trans g5, (World.cell?_setCell_other _ _ _ _ (fun e => e6 _ e.symm)).trans g6⟩
              refine wpAnyH_ready (rs := [15]) (by kernel_rfl) (by simp) ?_
              refine AllReadyH.cons op15 (fun K hK => ?_) AllReadyH.nil
              rw [if_pos (by rfl)]
              go_simp
              refine hK.out _ _ hF' (fun _ => ?_)
              clear hK K
              (try simp only [Act.put, List.setIfInBounds_toArray, List.set_cons_zero, List.set_cons_succ])
              refine wpAnyH_done (by kernel_rfl) ?_ _
              have hY2 : BX w q g c N (L1 : Int) se (L1 : Int) false (z0.setCell ⟨q 6, 0, none⟩ (.bool false)) := hYd.setO hAp _
              have hk3 : Boxed (z0.setCell ⟨q 6, 0, none⟩ (.bool false)) bk 3 (.int .i64 (M : Int)) := hkd.other (by omega) _
              have KE : KeepsOthers V (z0.setCell ⟨q 6, 0, none⟩ (.bool false)) := KD.trans (KeepsOthers.setCell _ _ _)
              have BE : Below w.heap.size V (z0.setCell ⟨q 6, 0, none⟩ (.bool false)) := BD.setCell (p := ⟨q 6, 0, none⟩) (show w.heap.size ≤ q 6 by omega) _
              clear hF' hF1 hF2 hF3 g0 g1 g2' g3 g4 g5 g6 cO fO hYd hkd KD BD
              generalize z0.setCell ⟨q 6, 0, none⟩ (.bool false) = z1 at hY2 hk3 KE BE ⊢
              have cK := hk3.cell
              have fK := hk3.frozen
              have cS := hY2.bs.cell
              have cO := hY2.bo.cell
              have n1 : ¬ q 1 = bk := by omega
              have n2 : ¬ bk = q 1 := by omega
              have n3 : ¬ q 6 = bk := by omega
              have n4 : ¬ bk = q 6 := by omega
              have hY3 : Hid (BX w q g c N (L1 : Int) se (L1 : Int) false (z1.setCell ⟨bk, 0, none⟩ (.int .i64 (M1 : Int)))) := hY2.other hAp hbk _
              have hk4 : Hid (Boxed (z1.setCell ⟨bk, 0, none⟩ (.int .i64 (M1 : Int))) bk 3 (.int .i64 (M1 : Int))) := hk3.set _
              have KF : Hid (KeepsOthers V (z1.setCell ⟨bk, 0, none⟩ (.int .i64 (M1 : Int)))) := KE.trans (KeepsOthers.setCell _ _ _)
              have BF : Hid (Below w.heap.size V (z1.setCell ⟨bk, 0, none⟩ (.int .i64 (M1 : Int)))) := BE.setCell (p := ⟨bk, 0, none⟩) (show w.heap.size ≤ bk by omega) _
              clear hY2 hk3 KE BE
              by_cases hse : (M1 : Int) = se
              · subst hse
                gi_wp2
                exact ⟨KF.out.from _, rfl, hkf.trans (KF.out.from _), hbl.trans BF.out, fun hp => absurd hp hA2⟩
              · gi_wp2
                exact ⟨KF.out.from _, rfl, hkf.trans (KF.out.from _), hbl.trans BF.out, fun hp => absurd hp hA2⟩
            · have mI : ¬ (M : Int) < (N : Int) := by omega
              have mJ : (N : Int) ≤ (M : Int) := by omega
              gi_wp2
              have hYd := hY.past (Below.refl V.heap.size V).drew
              have hkd := hkb.kept (grown_of_below (Below.refl V.heap.size V).drew) (by simp)
              refine wpIn_region_heldR (S := fun U => Boxed U (q 3) 98 (.slice (some ⟨g, 0, none⟩) N c) ∧ Boxed U bk 3 (.int .i64 (M : Int)) ∧ WantAt g U ∧ Op7 U By (y.1 : Int) (nameT y.1) (immT y.1) (inT y.1) (outT y.1) (gasT y.1) (endsT y.1)) hmx (by simp) (fun ⟨_, _, h⟩ => h) ⟨hYd.bw, hkd, hYd.wa, hO.past (Below.refl _ _).drew⟩ (fun hF => ?_)
              have KD := KeepsOthers.drew V
              have BD : Below w.heap.size V V.drew := (Below.refl _ _).drew
              generalize V.drew = z0 at hF KD BD hYd hkd ⊢
              have cO := hYd.bo.cell
              have fO := hYd.bo.frozen
              refine wpAnyH_ready (rs := [0]) (by kernel_rfl) (by simp) ?_
              refine AllReadyH.cons op0 (fun K hK => ?_) AllReadyH.nil
              rw [if_pos (by rfl)]
              go_simp
              refine hK.out _ _ hF (fun _ => ?_)
              clear hK K
              (try simp only [Act.put, List.setIfInBounds_toArray, List.set_cons_zero, List.set_cons_succ])
              refine wpAnyH_take (i := 1) (v := .bool true) op1 (by kernel_rfl) (by kernel_rfl) (by kernel_rfl) (fun _ _ _ h => h) (Or.inl ⟨by rfl, fun V hS => ?_⟩) hF ?_
              · go_simp
              simp only [Act.put, List.setIfInBounds_toArray, List.set_cons_zero, List.set_cons_succ]
              refine wpAnyH_take (i := 2) (v := .int .i64 (M : Int)) op2 (by kernel_rfl) (by kernel_rfl) (by kernel_rfl) (fun _ _ _ h => h) (Or.inl ⟨by rfl, fun V hS => ?_⟩) hF ?_
              · have k1 := hS.2.1.cell
                go_simp
              simp only [Act.put, List.setIfInBounds_toArray, List.set_cons_zero, List.set_cons_succ]
              refine wpAnyH_take (i := 3) (v := .slice (some ⟨g, 0, none⟩) N c) op3 (by kernel_rfl) (by kernel_rfl) (by kernel_rfl) (fun _ _ _ h => h) (Or.inl ⟨by rfl, fun V hS => ?_⟩) hF ?_
              · have k1 := hS.1.cell
                go_simp
              simp only [Act.put, List.setIfInBounds_toArray, List.set_cons_zero, List.set_cons_succ]
              refine wpAnyH_take (i := 4) (v := .int .i64 (N : Int)) op4 (by kernel_rfl) (by kernel_rfl) (by kernel_rfl) (fun _ _ _ h => h) (Or.inl ⟨by rfl, fun V hS => ?_⟩) hF ?_
              · go_simp
              simp only [Act.put, List.setIfInBounds_toArray, List.set_cons_zero, List.set_cons_succ]
              refine wpAnyH_take (i := 5) (v := .bool false) op5 (by kernel_rfl) (by kernel_rfl) (by kernel_rfl) (fun _ _ _ h => h) (Or.inl ⟨by rfl, fun V hS => ?_⟩) hF ?_
              · go_simp
              simp only [Act.put, List.setIfInBounds_toArray, List.set_cons_zero, List.set_cons_succ]
              refine wpAnyH_take (i := 6) (v := .bool false) op6 (by kernel_rfl) (by kernel_rfl) (by kernel_rfl) (fun _ _ _ h => h) (Or.inl ⟨by rfl, fun V hS => ?_⟩) hF ?_
              · go_simp
              simp only [Act.put, List.setIfInBounds_toArray, List.set_cons_zero, List.set_cons_succ]
              refine wpAnyH_take (i := 7) (v := .bool false) op7 (by kernel_rfl) (by kernel_rfl) (by kernel_rfl) (fun _ _ _ h => h) (Or.inl ⟨by rfl, fun V hS => ?_⟩) hF ?_
              · go_simp
              simp only [Act.put, List.setIfInBounds_toArray, List.set_cons_zero, List.set_cons_succ]
              refine wpAnyH_take (i := 8) (v := undef) op8 (by kernel_rfl) (by kernel_rfl) (by kernel_rfl) (fun _ _ _ h => h) (Or.inr ⟨by rfl, rfl⟩) hF ?_
              simp only [Act.put, List.setIfInBounds_toArray, List.set_cons_zero, List.set_cons_succ]
              refine wpAnyH_take (i := 9) (v := undef) op9 (by kernel_rfl) (by kernel_rfl) (by kernel_rfl) (fun _ _ _ h => h) (Or.inr ⟨by rfl, rfl⟩) hF ?_
              simp only [Act.put, List.setIfInBounds_toArray, List.set_cons_zero, List.set_cons_succ]
              refine wpAnyH_take (i := 10) (v := undef) op10 (by kernel_rfl) (by kernel_rfl) (by kernel_rfl) (fun _ _ _ h => h) (Or.inr ⟨by rfl, rfl⟩) hF ?_
              simp only [Act.put, List.setIfInBounds_toArray, List.set_cons_zero, List.set_cons_succ]
              refine wpAnyH_take (i := 11) (v := undef) op11 (by kernel_rfl) (by kernel_rfl) (by kernel_rfl) (fun _ _ _ h => h) (Or.inr ⟨by rfl, rfl⟩) hF ?_
              simp only [Act.put, List.setIfInBounds_toArray, List.set_cons_zero, List.set_cons_succ]
              refine wpAnyH_take (i := 12) (v := undef) op12 (by kernel_rfl) (by kernel_rfl) (by kernel_rfl) (fun _ _ _ h => h) (Or.inr ⟨by rfl, rfl⟩) hF ?_
              simp only [Act.put, List.setIfInBounds_toArray, List.set_cons_zero, List.set_cons_succ]
              refine wpAnyH_take (i := 13) (v := undef) op13 (by kernel_rfl) (by kernel_rfl) (by kernel_rfl) (fun _ _ _ h => h) (Or.inr ⟨by rfl, rfl⟩) hF ?_
              simp only [Act.put, List.setIfInBounds_toArray, List.set_cons_zero, List.set_cons_succ]
              refine wpAnyH_take (i := 14) (v := .bool false) op14 (by kernel_rfl) (by kernel_rfl) (by kernel_rfl) (fun _ _ _ h => h) (Or.inl ⟨by rfl, fun V hS => ?_⟩) hF ?_
              · go_simp
              simp only [Act.put, List.setIfInBounds_toArray, List.set_cons_zero, List.set_cons_succ]
              obtain ⟨hF1, hF2, hF3, g0, g1, g2', g3, g4, g5, g6⟩ := hF
              have hF' : (fun U : World => Boxed U (q 3) 98 (.slice (some ⟨g, 0, none⟩) N c) ∧ Boxed U bk 3 (.int .i64 (M : Int)) ∧ WantAt g U ∧ Op7 U By (y.1 : Int) (nameT y.1) (immT y.1) (inT y.1) (outT y.1) (gasT y.1) (endsT y.1)) (z0.setCell ⟨q 6, 0, none⟩ (.bool false)) := by
                refine ⟨hF1.other (by omega) _, hF2.other (by omega) _, hF3.set (by omega) _, ?_⟩
                have e6 : ∀ o : Nat, (⟨By, o, none⟩ : Addr) ≠ ⟨q 6, 0, none⟩ := fun o e => by injection e with e1 _ _; omega
                exact ⟨(World.cell?_setCell_other _ _ _ _ (fun e => e6 _ e.symm)).trans g0, (World.cell?_setCell_other _ _ _ _ (fun e => e6 _ e.symm)).trans g1, (World.cell?_setCell_other _ _ _ _ (fun e => e6 _ e.symm)).trans g2', (World.cell?_setCell_other _ _ _ _ (fun e => e6 _ e.symm)).trans g3, (World.cell?_setCell_other _ _ _ _ (fun e => e6 _ e.symm)).trans g4, (World.cell?_setCell_other _ _ _ _ (fun e => e6 _ e.symm)).trans g5, (World.cell?_setCell_other _ _ _ _ (fun e => e6 _ e.symm)).trans g6⟩
              refine wpAnyH_ready (rs := [15]) (by kernel_rfl) (by simp) ?_
              refine AllReadyH.cons op15 (fun K hK => ?_) AllReadyH.nil
              rw [if_pos (by rfl)]
              go_simp
              refine hK.out _ _ hF' (fun _ => ?_)
              clear hK K
              (try simp only [Act.put, List.setIfInBounds_toArray, List.set_cons_zero, List.set_cons_succ])
              refine wpAnyH_done (by kernel_rfl) ?_ _
              have hY2 : BX w q g c N (L1 : Int) se (L1 : Int) false (z0.setCell ⟨q 6, 0, none⟩ (.bool false)) := hYd.setO hAp _
              have hk3 : Boxed (z0.setCell ⟨q 6, 0, none⟩ (.bool false)) bk 3 (.int .i64 (M : Int)) := hkd.other (by omega) _
              have KE : KeepsOthers V (z0.setCell ⟨q 6, 0, none⟩ (.bool false)) := KD.trans (KeepsOthers.setCell _ _ _)
              have BE : Below w.heap.size V (z0.setCell ⟨q 6, 0, none⟩ (.bool false)) := BD.setCell (p := ⟨q 6, 0, none⟩) (show w.heap.size ≤ q 6 by omega) _
              clear hF' hF1 hF2 hF3 g0 g1 g2' g3 g4 g5 g6 cO fO hYd hkd KD BD
              generalize z0.setCell ⟨q 6, 0, none⟩ (.bool false) = z1 at hY2 hk3 KE BE ⊢
              have cK := hk3.cell
              have fK := hk3.frozen
              have cS := hY2.bs.cell
              have cO := hY2.bo.cell
              have n1 : ¬ q 1 = bk := by omega
              have n2 : ¬ bk = q 1 := by omega
              have n3 : ¬ q 6 = bk := by omega
              have n4 : ¬ bk = q 6 := by omega
              have hY3 : Hid (BX w q g c N (L1 : Int) se (L1 : Int) false (z1.setCell ⟨bk, 0, none⟩ (.int .i64 (M1 : Int)))) := hY2.other hAp hbk _
              have hk4 : Hid (Boxed (z1.setCell ⟨bk, 0, none⟩ (.int .i64 (M1 : Int))) bk 3 (.int .i64 (M1 : Int))) := hk3.set _
              have KF : Hid (KeepsOthers V (z1.setCell ⟨bk, 0, none⟩ (.int .i64 (M1 : Int)))) := KE.trans (KeepsOthers.setCell _ _ _)
              have BF : Hid (Below w.heap.size V (z1.setCell ⟨bk, 0, none⟩ (.int .i64 (M1 : Int)))) := BE.setCell (p := ⟨bk, 0, none⟩) (show w.heap.size ≤ bk by omega) _
              clear hY2 hk3 KE BE
              by_cases hse : (M1 : Int) = se
              · subst hse
                gi_wp2
                exact ⟨KF.out.from _, rfl, hkf.trans (KF.out.from _), hbl.trans BF.out, fun hp => absurd hp hA2⟩
              · gi_wp2
                exact ⟨KF.out.from _, rfl, hkf.trans (KF.out.from _), hbl.trans BF.out, fun hp => absurd hp hA2⟩
        case done2 =>
          rintro xs V rfl ⟨⟨_, hne⟩, hY, hkb, hkf, hbl⟩
          have hlN : (opsUpto 256).length = N := EN.out
          rw [hlN] at hne hkb
          have cO := hY.bo.cell
          have cS := hY.bs.cell
          have cW := hY.bw.cell
          have cK := hkb.cell
          have HH : Hid (BX w q g c N (L1 : Int) se (L1 : Int) true V) := hY
          by_cases hs1 : se < 1
          · have hs2 : ¬ (1 : Int) ≤ se := by omega
            clear hY hne hlN
            gi_wp2
            exact ⟨hkf, hbl, HA.out, by rw [HL1.out]; exact HH.out⟩
          · have hs2 : (1 : Int) ≤ se := by omega
            have hs3 : ¬ se ≤ (N : Int) := fun h => hne se.toNat (by omega) (by omega) (by omega)
            clear hY hne hlN
            gi_wp2
            exact ⟨hkf, hbl, HA.out, by rw [HL1.out]; exact HH.out⟩
        case stop2 =>
          rintro cd p V hs ⟨rfl, hkf, hbl, himp⟩
          obtain ⟨⟨hY, hkb⟩, hse, h1p⟩ := himp hs
          have hpN : p.length ≤ N := by have := pre_le hs; rw [EN.out] at this; exact this
          have cO := hY.bo.cell
          have cS := hY.bs.cell
          have cW := hY.bw.cell
          rw [← hse] at hkb
          have cK := hkb.cell
          have HH : Hid (BX w q g c N (L1 : Int) se (L1 : Int) true V) := hY
          have hs1 : ¬ se < 1 := by omega
          have hs2 : (1 : Int) ≤ se := by omega
          have hs3 : se ≤ (N : Int) := by omega
          clear hY hse h1p hpN himp
          gi_wp2
          exact ⟨hkf, hbl, HA.out, by rw [HL1.out]; exact HH.out⟩
      · gi_wp2
        exact ⟨K1.out.from _, B1.out, HA.out, by rw [HL1.out]; exact hX1.out⟩
    · by_cases hLN : L < N
      · obtain ⟨y, hat⟩ : ∃ y, (opsUpto 256)[L]? = some y := ⟨_, List.getElem?_eq_getElem (by have := EN.out; unfold opsN at this; omega)⟩
        have hxy : (x.1 : Int) ≠ (y.1 : Int) := fun e => hA (pre_next HPR.out (by rw [HL.out, hat]; congr 1; exact Subtype.ext (by omega)))
        have lI : (L : Int) < (N : Int) := by omega
        gi_wp2
        refine wpIn_region_heldR (S := fun V => BX w q g c N fi se (L : Int) true V ∧ Op7 V Bx (x.1 : Int) (nameT x.1) (immT x.1) (inT x.1) (outT x.1) (gasT x.1) (endsT x.1)) hmx (by simp) (fun ⟨_, _, h⟩ => h) ⟨hX.past (Below.refl _ _).drew, hO.past (Below.refl _ _).drew⟩ (fun hF => ?_)
        have KD := KeepsOthers.drew W
        have BD : Below W.heap.size W W.drew := (Below.refl _ _).drew
        generalize W.drew = z0 at hF KD BD ⊢
        refine wpAnyH_take (i := 0) (v := .int .i64 (L : Int)) op0 (by kernel_rfl) (by kernel_rfl) (by kernel_rfl) (fun _ _ _ h => h) (Or.inl ⟨by rfl, fun V hS => ?_⟩) hF ?_
        · have k1 := hS.1.bn.cell
          go_simp
        simp only [Act.put, List.setIfInBounds_toArray, List.set_cons_zero, List.set_cons_succ]
        refine wpAnyH_take (i := 1) (v := .slice (some ⟨g, 0, none⟩) N c) op1 (by kernel_rfl) (by kernel_rfl) (by kernel_rfl) (fun _ _ _ h => h) (Or.inl ⟨by rfl, fun V hS => ?_⟩) hF ?_
        · have k1 := hS.1.bw.cell
          go_simp
        simp only [Act.put, List.setIfInBounds_toArray, List.set_cons_zero, List.set_cons_succ]
        refine wpAnyH_take (i := 2) (v := .int .i64 (N : Int)) op2 (by kernel_rfl) (by kernel_rfl) (by kernel_rfl) (fun _ _ _ h => h) (Or.inl ⟨by rfl, fun V hS => ?_⟩) hF ?_
        · go_simp
        simp only [Act.put, List.setIfInBounds_toArray, List.set_cons_zero, List.set_cons_succ]
        refine wpAnyH_take (i := 3) (v := .bool false) op3 (by kernel_rfl) (by kernel_rfl) (by kernel_rfl) (fun _ _ _ h => h) (Or.inl ⟨by rfl, fun V hS => ?_⟩) hF ?_
        · go_simp
        simp only [Act.put, List.setIfInBounds_toArray, List.set_cons_zero, List.set_cons_succ]
        refine wpAnyH_take (i := 4) (v := .bool false) op4 (by kernel_rfl) (by kernel_rfl) (by kernel_rfl) (fun _ _ _ h => h) (Or.inl ⟨by rfl, fun V hS => ?_⟩) hF ?_
        · go_simp
        simp only [Act.put, List.setIfInBounds_toArray, List.set_cons_zero, List.set_cons_succ]
        refine wpAnyH_take (i := 5) (v := .agg #[.int .i64 (x.1 : Int), .string (nameT x.1), .int .i64 (immT x.1), .int .i64 (inT x.1), .int .i64 (outT x.1), .int .i64 (gasT x.1), .bool (endsT x.1)]) op5 (by kernel_rfl) (by kernel_rfl) (by kernel_rfl) (fun _ _ _ h => h) (Or.inl ⟨by rfl, fun V hS => ?_⟩) hF ?_
        · obtain ⟨k0, k1, k2, k3, k4, k5, k6⟩ := hS.2
          go_simp
        simp only [Act.put, List.setIfInBounds_toArray, List.set_cons_zero, List.set_cons_succ]
        refine wpAnyH_take (i := 6) (v := .slice (some ⟨g, 0, none⟩) N c) op6 (by kernel_rfl) (by kernel_rfl) (by kernel_rfl) (fun _ _ _ h => h) (Or.inl ⟨by rfl, fun V hS => ?_⟩) hF ?_
        · have k1 := hS.1.bw.cell
          go_simp
        simp only [Act.put, List.setIfInBounds_toArray, List.set_cons_zero, List.set_cons_succ]
        refine wpAnyH_take (i := 7) (v := .int .i64 (L : Int)) op7 (by kernel_rfl) (by kernel_rfl) (by kernel_rfl) (fun _ _ _ h => h) (Or.inl ⟨by rfl, fun V hS => ?_⟩) hF ?_
        · have k1 := hS.1.bn.cell
          go_simp
        simp only [Act.put, List.setIfInBounds_toArray, List.set_cons_zero, List.set_cons_succ]
        refine wpAnyH_take (i := 8) (v := .pointer (some ⟨g, L * 7, none⟩)) op8 (by kernel_rfl) (by kernel_rfl) (by kernel_rfl) (fun _ _ _ h => h) (Or.inl ⟨by rfl, fun V hS => ?_⟩) hF ?_
        · go_simp
        simp only [Act.put, List.setIfInBounds_toArray, List.set_cons_zero, List.set_cons_succ]
        refine wpAnyH_take (i := 9) (v := .agg #[.int .i64 (y.1 : Int), .string (nameT y.1), .int .i64 (immT y.1), .int .i64 (inT y.1), .int .i64 (outT y.1), .int .i64 (gasT y.1), .bool (endsT y.1)]) op9 (by kernel_rfl) (by kernel_rfl) (by kernel_rfl) (fun _ _ _ h => h) (Or.inl ⟨by rfl, fun V hS => ?_⟩) hF ?_
        · obtain ⟨k0, k1, k2, k3, k4, k5, k6⟩ := hS.1.wa.row hat
          go_simp
        simp only [Act.put, List.setIfInBounds_toArray, List.set_cons_zero, List.set_cons_succ]
        refine wpAnyH_take (i := 10) (v := .bool true) op10 (by kernel_rfl) (by kernel_rfl) (by kernel_rfl) (fun _ _ _ h => h) (Or.inl ⟨by rfl, fun V hS => ?_⟩) hF ?_
        · have k1 := eq7_diff (x.1 : Int) (y.1 : Int) hxy
          go_simp
        simp only [Act.put, List.setIfInBounds_toArray, List.set_cons_zero, List.set_cons_succ]
        refine wpAnyH_take (i := 11) (v := .bool true) op11 (by kernel_rfl) (by kernel_rfl) (by kernel_rfl) (fun _ _ _ h => h) (Or.inl ⟨by rfl, fun V hS => ?_⟩) hF ?_
        · go_simp
        simp only [Act.put, List.setIfInBounds_toArray, List.set_cons_zero, List.set_cons_succ]
        refine wpAnyH_done (by kernel_rfl) ?_ _
        obtain ⟨hX0, _⟩ := hF
        have cR := hX0.br.cell
        have fR := hX0.br.frozen
        gi_wp2
        exact ⟨(KD.trans (KeepsOthers.setCell _ _ _)).from _, rfl, hA⟩
      · have lI : ¬ (L : Int) < (N : Int) := by omega
        have lJ : (N : Int) ≤ (L : Int) := by omega
        gi_wp2
        refine wpIn_region_heldR (S := fun V => BX w q g c N fi se (L : Int) true V ∧ Op7 V Bx (x.1 : Int) (nameT x.1) (immT x.1) (inT x.1) (outT x.1) (gasT x.1) (endsT x.1)) hmx (by simp) (fun ⟨_, _, h⟩ => h) ⟨hX.past (Below.refl _ _).drew, hO.past (Below.refl _ _).drew⟩ (fun hF => ?_)
        have KD := KeepsOthers.drew W
        have BD : Below W.heap.size W W.drew := (Below.refl _ _).drew
        generalize W.drew = z0 at hF KD BD ⊢
        refine wpAnyH_take (i := 0) (v := .int .i64 (L : Int)) op0 (by kernel_rfl) (by kernel_rfl) (by kernel_rfl) (fun _ _ _ h => h) (Or.inl ⟨by rfl, fun V hS => ?_⟩) hF ?_
        · have k1 := hS.1.bn.cell
          go_simp
        simp only [Act.put, List.setIfInBounds_toArray, List.set_cons_zero, List.set_cons_succ]
        refine wpAnyH_take (i := 1) (v := .slice (some ⟨g, 0, none⟩) N c) op1 (by kernel_rfl) (by kernel_rfl) (by kernel_rfl) (fun _ _ _ h => h) (Or.inl ⟨by rfl, fun V hS => ?_⟩) hF ?_
        · have k1 := hS.1.bw.cell
          go_simp
        simp only [Act.put, List.setIfInBounds_toArray, List.set_cons_zero, List.set_cons_succ]
        refine wpAnyH_take (i := 2) (v := .int .i64 (N : Int)) op2 (by kernel_rfl) (by kernel_rfl) (by kernel_rfl) (fun _ _ _ h => h) (Or.inl ⟨by rfl, fun V hS => ?_⟩) hF ?_
        · go_simp
        simp only [Act.put, List.setIfInBounds_toArray, List.set_cons_zero, List.set_cons_succ]
        refine wpAnyH_take (i := 3) (v := .bool true) op3 (by kernel_rfl) (by kernel_rfl) (by kernel_rfl) (fun _ _ _ h => h) (Or.inl ⟨by rfl, fun V hS => ?_⟩) hF ?_
        · go_simp
        simp only [Act.put, List.setIfInBounds_toArray, List.set_cons_zero, List.set_cons_succ]
        refine wpAnyH_take (i := 4) (v := .bool true) op4 (by kernel_rfl) (by kernel_rfl) (by kernel_rfl) (fun _ _ _ h => h) (Or.inl ⟨by rfl, fun V hS => ?_⟩) hF ?_
        · go_simp
        simp only [Act.put, List.setIfInBounds_toArray, List.set_cons_zero, List.set_cons_succ]
        refine wpAnyH_take (i := 5) (v := undef) op5 (by kernel_rfl) (by kernel_rfl) (by kernel_rfl) (fun _ _ _ h => h) (Or.inr ⟨by rfl, rfl⟩) hF ?_
        simp only [Act.put, List.setIfInBounds_toArray, List.set_cons_zero, List.set_cons_succ]
        refine wpAnyH_take (i := 6) (v := undef) op6 (by kernel_rfl) (by kernel_rfl) (by kernel_rfl) (fun _ _ _ h => h) (Or.inr ⟨by rfl, rfl⟩) hF ?_
        simp only [Act.put, List.setIfInBounds_toArray, List.set_cons_zero, List.set_cons_succ]
        refine wpAnyH_take (i := 7) (v := undef) op7 (by kernel_rfl) (by kernel_rfl) (by kernel_rfl) (fun _ _ _ h => h) (Or.inr ⟨by rfl, rfl⟩) hF ?_
        simp only [Act.put, List.setIfInBounds_toArray, List.set_cons_zero, List.set_cons_succ]
        refine wpAnyH_take (i := 8) (v := undef) op8 (by kernel_rfl) (by kernel_rfl) (by kernel_rfl) (fun _ _ _ h => h) (Or.inr ⟨by rfl, rfl⟩) hF ?_
        simp only [Act.put, List.setIfInBounds_toArray, List.set_cons_zero, List.set_cons_succ]
        refine wpAnyH_take (i := 9) (v := undef) op9 (by kernel_rfl) (by kernel_rfl) (by kernel_rfl) (fun _ _ _ h => h) (Or.inr ⟨by rfl, rfl⟩) hF ?_
        simp only [Act.put, List.setIfInBounds_toArray, List.set_cons_zero, List.set_cons_succ]
        refine wpAnyH_take (i := 10) (v := undef) op10 (by kernel_rfl) (by kernel_rfl) (by kernel_rfl) (fun _ _ _ h => h) (Or.inr ⟨by rfl, rfl⟩) hF ?_
        simp only [Act.put, List.setIfInBounds_toArray, List.set_cons_zero, List.set_cons_succ]
        refine wpAnyH_take (i := 11) (v := .bool true) op11 (by kernel_rfl) (by kernel_rfl) (by kernel_rfl) (fun _ _ _ h => h) (Or.inl ⟨by rfl, fun V hS => ?_⟩) hF ?_
        · go_simp
        simp only [Act.put, List.setIfInBounds_toArray, List.set_cons_zero, List.set_cons_succ]
        refine wpAnyH_done (by kernel_rfl) ?_ _
        obtain ⟨hX0, _⟩ := hF
        have cR := hX0.br.cell
        have fR := hX0.br.frozen
        gi_wp2
        exact ⟨(KD.trans (KeepsOthers.setCell _ _ _)).from _, rfl, hA⟩
  case done =>
    rintro D xs W hD rfl ⟨_, hX⟩ hd
    have hlN : (opsUpto 256).length = N := EN.out
    rw [hlN] at hX
    have cN := hX.bn.cell
    have cW := hX.bw.cell
    have hX2 : Hid (BX w q g c N fi se (N : Int) true (W.alloc (.cells #[.int .i64 0] 3))) := hX.past ((Below.refl _ _).alloc (Nat.le_refl _) _)
    have hk2 : Hid (Boxed (W.alloc (.cells #[.int .i64 0] 3)) W.heap.size 3 (.int .i64 0)) := Boxed.new _ _ _
    have hd2 : Hid ((W.alloc (.cells #[.int .i64 0] 3)).heap[D]? = some (.deferred (some []))) := (KeepsOthers.alloc _ _).same D _ hd rfl
    have cI := hX2.out.bi.cell
    have hbk : q 6 < W.heap.size := hX.bo.lt
    gi_wp2
    generalize W.alloc (.cells #[.int .i64 0] 3) = W2 at hX2 hk2 hd2 cI ⊢
    generalize W.heap.size = bk at hk2 hbk ⊢
    clear hX cN cW cI hd
    have hDl : D < W2.heap.size := (Array.getElem?_eq_some_iff.1 hd2.out).1
    have hB2 : Below w.heap.size w W2 := hX2.out.be
    have ownD : OwnFrom W2.heap.size (fun (_ : List OpC) (V : World) => V.heap[D]? = some (.deferred (some []))) := fun _ X Y row hs hg hr => (hg.block D (Array.getElem?_eq_some_iff.1 hs).1 (fun e => by have := (hr D e.symm).1; omega)).trans hs
    have ownB : ∀ b : Bool, OwnFrom W2.heap.size (fun (_ : List OpC) (V : World) => BX w q g c N fi se (N : Int) b V) := fun b => BX.own hB2.size (fun _ : List OpC => (N : Int)) (fun _ => b)
    have hmx : Tryd.prog.follows .mixedOrders = true := by kernel_rfl
    refine wpIn_rangeFunc_ownH (F := Fence.wide) rfl (by omega) (gf := 102) (lb := #[]) rfl trivial (enters_of Tryd.func102 (by kernel_rfl) rfl)
      (all_stops 9 (by omega) w.heap.size W2 (hN.past hB2) hnN) belowK_t (belowK_b hB2.size) (Below.refl _ _) (fun _ => rfl)
      (fun p V => Okd w q g c N fi se p V ∧ Boxed V bk 3 (.int .i64 (p.length : Int)) ∧ (∀ j : Nat, 1 ≤ j → j ≤ p.length → fi ≠ (j : Int)) ∧ V.heap[D]? = some (.deferred (some [])))
      (fun cd p V => cd = .exit 4 ∧ V.heap[D]? = some (.deferred (some [])) ∧ Okd w q g c N fi se p V)
      (fun p X Y row hs hg hr => by
        obtain ⟨⟨b, h1, h2⟩, h3, h4, h5⟩ := hs
        exact ⟨okd_mk b (ownB b p X Y row h1 hg hr) h2, Own.from (boxed_own _ _ (fun p : List OpC => .int .i64 (p.length : Int))) _ p X Y row h3 hg hr, h4, ownD p X Y row h5 hg hr⟩)
      (fun cd p X Y row hs hg hr => by
        obtain ⟨h0, h5, b, h1, h2⟩ := hs
        exact ⟨h0, ownD p X Y row h5 hg hr, okd_mk b (ownB b p X Y row h1 hg hr) h2⟩)
      ⟨okd_mk true hX2.out (fun _ => rfl), hk2.out, fun j h1 h2 => absurd h2 (by simp; omega), hd2.out⟩
      (fun y a' V => ∃ By, bk < By ∧ Op7 V By (y.1 : Int) (nameT y.1) (immT y.1) (inT y.1) (outT y.1) (gasT y.1) (endsT y.1) ∧ a' = { tmps := #[.int .i64 fi, .int .i64 se, .pointer (some ⟨q 0, 0, none⟩), .pointer (some ⟨q 1, 0, none⟩), .pointer (some ⟨q 2, 0, none⟩), .pointer (some ⟨q 3, 0, none⟩), .pointer (some ⟨q 4, 0, none⟩), .pointer (some ⟨q 5, 0, none⟩), .pointer (some ⟨q 6, 0, none⟩), undef, undef, undef, .pointer (some ⟨bk, 0, none⟩), .pointer (some ⟨By, 0, none⟩), .slice (some ⟨g, 0, none⟩) N c, .func (.func 102) #[] #[], .func (.func 102) #[] #[], .bool false, .func (.func 102) #[] #[], undef, undef, undef, undef, undef, undef, undef, undef, undef, undef, undef, undef, undef, undef, undef, undef, undef, undef, undef, undef, undef, undef, undef, undef, undef, undef, undef, undef, undef, undef, undef, undef, undef, undef, undef, undef, undef, undef, undef, undef, undef, undef, undef, undef, undef, undef, undef, undef, undef, undef, undef, undef, undef, undef, undef, undef, undef, undef, undef, undef, undef, undef, undef, undef, undef, undef, undef, undef, undef, undef, undef, .int .i64 (N : Int), .slice (some ⟨g, 0, none⟩) N c, .int .i64 (N : Int), .bool false, .func (.func 102) #[] #[], opv y.1, undef, undef, undef, undef, undef, undef, undef, undef, undef, undef, undef, undef, undef, undef, undef, undef, undef, undef, undef, undef, undef, undef], defers := [] })
      (fun x a' _ X Y row hs hg hr => by obtain ⟨Bx, h1, ⟨h0, g1, h2, h3, h4, h5, h6⟩, e⟩ := hs; have hr' : ∀ r, row = some r → ∃ o : Obj, X.heap[r]? = some o ∧ o.isCells = false := fun r e => (hr r e).2; exact ⟨Bx, h1, ⟨cell_kept h0 hg hr', cell_kept g1 hg hr', cell_kept h2 hg hr', cell_kept h3 hg hr', cell_kept h4 hg hr', cell_kept h5 hg hr', cell_kept h6 hg hr'⟩, e⟩)
      ?assign3 ?body3 ?done3 ?stop3
    case assign3 =>
      rintro l2 p y V K ⟨⟨b, hY, hb⟩, hkb, hne, hdd⟩ hK
      have hx : opv y.1 = .agg #[.int .i64 (y.1 : Int), .string (nameT y.1), .int .i64 (immT y.1), .int .i64 (inT y.1), .int .i64 (outT y.1), .int .i64 (gasT y.1), .bool (endsT y.1)] := rfl
      gi_wp2
      exact hK _ _ ((KeepsOthers.alloc _ _).from _) ((Below.refl _ V).alloc hY.be.size _) ⟨okd_mk b (hY.past ((Below.refl _ V).alloc (Nat.le_refl _) _)) hb, hkb.alloc _, hne, (KeepsOthers.alloc V _).same D _ hdd rfl⟩ ⟨V.heap.size, hkb.lt, Op7.new V _ _ _ _ _ _ _, rfl⟩
    case body3 =>
      rintro l2 p y a' V hl2 ⟨r2, hr3⟩ ⟨⟨b, hY, hb⟩, hkb, hne, hdd⟩ ⟨By, hBy, hO, rfl⟩ hlt2
      obtain ⟨M, eM⟩ : ∃ M : Nat, p.length = M := ⟨_, rfl⟩
      have HM : Hid (p.length = M) := eM
      rw [eM] at hkb hlt2
      obtain ⟨M1, eM1⟩ : ∃ M1 : Nat, M + 1 = M1 := ⟨_, rfl⟩
      have s2 : (M : Int) + 1 = (M1 : Int) := by omega
      have s3 : (M1 : Int) - 1 = (M : Int) := by omega
      have w2' : IntKind.i64.wrap (M1 : Int) = (M1 : Int) := by rw [IntKind.wrap_i64]; omega
      have w3' : IntKind.i64.wrap (M : Int) = (M : Int) := by rw [IntKind.wrap_i64]; omega
      have HM1 : Hid ((p ++ [y]).length = M1) := by unfold Hid; rw [List.length_append, HM.out, List.length_singleton]; omega
      have HNE : Hid (∀ j : Nat, 1 ≤ j → j ≤ M → fi ≠ (j : Int)) := by have := hne; rw [eM] at this; exact this
      have hMM : Hid (M + 1 = M1) := eM1
      have HB : Hid (p <+: opsUpto 256 → b = true) := hb
      have hY1 : Hid (BX w q g c N fi se (N : Int) b (V.setCell ⟨bk, 0, none⟩ (.int .i64 (M1 : Int)))) := hY.other hAp hbk _
      have hk1 : Hid (Boxed (V.setCell ⟨bk, 0, none⟩ (.int .i64 (M1 : Int))) bk 3 (.int .i64 (M1 : Int))) := hkb.set _
      have KF : Hid (KeepsOthers V (V.setCell ⟨bk, 0, none⟩ (.int .i64 (M1 : Int)))) := KeepsOthers.setCell _ _ _
      have BF : Hid (Below w.heap.size V (V.setCell ⟨bk, 0, none⟩ (.int .i64 (M1 : Int)))) := (Below.refl _ _).setCell (p := ⟨bk, 0, none⟩) (show w.heap.size ≤ bk by omega) _
      have hO1 : Hid (Op7 (V.setCell ⟨bk, 0, none⟩ (.int .i64 (M1 : Int))) By (y.1 : Int) (nameT y.1) (immT y.1) (inT y.1) (outT y.1) (gasT y.1) (endsT y.1)) := by
        obtain ⟨g0, g1, g2', g3, g4, g5, g6⟩ := hO
        have e6 : ∀ o : Nat, (⟨By, o, none⟩ : Addr) ≠ ⟨bk, 0, none⟩ := fun o e => by injection e with e1 _ _; omega
        exact ⟨(World.cell?_setCell_other _ _ _ _ (fun e => e6 _ e.symm)).trans g0, (World.cell?_setCell_other _ _ _ _ (fun e => e6 _ e.symm)).trans g1, (World.cell?_setCell_other _ _ _ _ (fun e => e6 _ e.symm)).trans g2', (World.cell?_setCell_other _ _ _ _ (fun e => e6 _ e.symm)).trans g3, (World.cell?_setCell_other _ _ _ _ (fun e => e6 _ e.symm)).trans g4, (World.cell?_setCell_other _ _ _ _ (fun e => e6 _ e.symm)).trans g5, (World.cell?_setCell_other _ _ _ _ (fun e => e6 _ e.symm)).trans g6⟩
      have cK := hkb.cell
      have fK := hkb.frozen
      have cF := hY.bf.cell
      have n1 : ¬ q 0 = bk := by omega
      have n2 : ¬ bk = q 0 := by omega
      clear eM eM1 hne hb
      by_cases hfi : (M1 : Int) = fi
      · subst hfi
        gi_wp2
        exact ⟨KF.out.from _, rfl, KF.out.same D _ hdd rfl, okd_mk b hY1.out (fun hp => HB.out ((List.prefix_append p [y]).trans hp))⟩
      · have HNE1 : Hid (∀ j : Nat, 1 ≤ j → j ≤ M1 → fi ≠ (j : Int)) := fun j h1 h2 e => by
          by_cases e2 : j = M1
          · subst e2; exact hfi e.symm
          · have := hMM.out; exact HNE.out j h1 (by omega) e
        gi_wp2
        clear cK fK cF
        generalize V.setCell ⟨bk, 0, none⟩ (.int .i64 (M1 : Int)) = V1 at hY1 hk1 KF BF hO1 ⊢
        cases b with
        | false =>
          have hA2 : ¬ (p ++ [y]) <+: opsUpto 256 := fun hp => by have := HB.out ((List.prefix_append p [y]).trans hp); cases this
          refine wpIn_region_heldR (S := fun U => Boxed U (q 3) 98 (.slice (some ⟨g, 0, none⟩) N c) ∧ Boxed U bk 3 (.int .i64 (M1 : Int)) ∧ WantAt g U ∧ Op7 U By (y.1 : Int) (nameT y.1) (immT y.1) (inT y.1) (outT y.1) (gasT y.1) (endsT y.1)) hmx (by simp) (fun ⟨_, _, h⟩ => h) ⟨(hY1.out.past (Below.refl _ _).drew).bw, hk1.out.kept (grown_of_below (Below.refl _ _).drew) (by simp), (hY1.out.past (Below.refl _ _).drew).wa, hO1.out.past (Below.refl _ _).drew⟩ (fun hF => ?_)
          have hYd := hY1.out.past (Below.refl V1.heap.size V1).drew
          have hkd := hk1.out.kept (grown_of_below (Below.refl V1.heap.size V1).drew) (by simp)
          have KD : KeepsOthers V V1.drew := KF.out.trans (KeepsOthers.drew V1)
          have BD : Below w.heap.size V V1.drew := BF.out.drew
          generalize V1.drew = z0 at hF KD BD hYd hkd ⊢
          have cO := hYd.bo.cell
          have fO := hYd.bo.frozen
          refine wpAnyH_ready (rs := [0]) (by kernel_rfl) (by simp) ?_
          refine AllReadyH.cons op0 (fun K hK => ?_) AllReadyH.nil
          rw [if_pos (by rfl)]
          go_simp
          refine hK.out _ _ hF (fun _ => ?_)
          clear hK K
          (try simp only [Act.put, List.setIfInBounds_toArray, List.set_cons_zero, List.set_cons_succ])
          refine wpAnyH_take (i := 1) (v := .bool false) op1 (by kernel_rfl) (by kernel_rfl) (by kernel_rfl) (fun _ _ _ h => h) (Or.inl ⟨by rfl, fun V hS => ?_⟩) hF ?_
          · go_simp
          simp only [Act.put, List.setIfInBounds_toArray, List.set_cons_zero, List.set_cons_succ]
          refine wpAnyH_take (i := 2) (v := undef) op2 (by kernel_rfl) (by kernel_rfl) (by kernel_rfl) (fun _ _ _ h => h) (Or.inr ⟨by rfl, rfl⟩) hF ?_
          simp only [Act.put, List.setIfInBounds_toArray, List.set_cons_zero, List.set_cons_succ]
          refine wpAnyH_take (i := 3) (v := undef) op3 (by kernel_rfl) (by kernel_rfl) (by kernel_rfl) (fun _ _ _ h => h) (Or.inr ⟨by rfl, rfl⟩) hF ?_
          simp only [Act.put, List.setIfInBounds_toArray, List.set_cons_zero, List.set_cons_succ]
          refine wpAnyH_take (i := 4) (v := undef) op4 (by kernel_rfl) (by kernel_rfl) (by kernel_rfl) (fun _ _ _ h => h) (Or.inr ⟨by rfl, rfl⟩) hF ?_
          simp only [Act.put, List.setIfInBounds_toArray, List.set_cons_zero, List.set_cons_succ]
          refine wpAnyH_take (i := 5) (v := undef) op5 (by kernel_rfl) (by kernel_rfl) (by kernel_rfl) (fun _ _ _ h => h) (Or.inr ⟨by rfl, rfl⟩) hF ?_
          simp only [Act.put, List.setIfInBounds_toArray, List.set_cons_zero, List.set_cons_succ]
          refine wpAnyH_take (i := 6) (v := .bool false) op6 (by kernel_rfl) (by kernel_rfl) (by kernel_rfl) (fun _ _ _ h => h) (Or.inl ⟨by rfl, fun V hS => ?_⟩) hF ?_
          · go_simp
          simp only [Act.put, List.setIfInBounds_toArray, List.set_cons_zero, List.set_cons_succ]
          refine wpAnyH_take (i := 7) (v := .bool false) op7 (by kernel_rfl) (by kernel_rfl) (by kernel_rfl) (fun _ _ _ h => h) (Or.inl ⟨by rfl, fun V hS => ?_⟩) hF ?_
          · go_simp
          simp only [Act.put, List.setIfInBounds_toArray, List.set_cons_zero, List.set_cons_succ]
          refine wpAnyH_take (i := 8) (v := undef) op8 (by kernel_rfl) (by kernel_rfl) (by kernel_rfl) (fun _ _ _ h => h) (Or.inr ⟨by rfl, rfl⟩) hF ?_
          simp only [Act.put, List.setIfInBounds_toArray, List.set_cons_zero, List.set_cons_succ]
          refine wpAnyH_take (i := 9) (v := undef) op9 (by kernel_rfl) (by kernel_rfl) (by kernel_rfl) (fun _ _ _ h => h) (Or.inr ⟨by rfl, rfl⟩) hF ?_
          simp only [Act.put, List.setIfInBounds_toArray, List.set_cons_zero, List.set_cons_succ]
          refine wpAnyH_take (i := 10) (v := undef) op10 (by kernel_rfl) (by kernel_rfl) (by kernel_rfl) (fun _ _ _ h => h) (Or.inr ⟨by rfl, rfl⟩) hF ?_
          simp only [Act.put, List.setIfInBounds_toArray, List.set_cons_zero, List.set_cons_succ]
          refine wpAnyH_take (i := 11) (v := undef) op11 (by kernel_rfl) (by kernel_rfl) (by kernel_rfl) (fun _ _ _ h => h) (Or.inr ⟨by rfl, rfl⟩) hF ?_
          simp only [Act.put, List.setIfInBounds_toArray, List.set_cons_zero, List.set_cons_succ]
          refine wpAnyH_take (i := 12) (v := undef) op12 (by kernel_rfl) (by kernel_rfl) (by kernel_rfl) (fun _ _ _ h => h) (Or.inr ⟨by rfl, rfl⟩) hF ?_
          simp only [Act.put, List.setIfInBounds_toArray, List.set_cons_zero, List.set_cons_succ]
          refine wpAnyH_take (i := 13) (v := undef) op13 (by kernel_rfl) (by kernel_rfl) (by kernel_rfl) (fun _ _ _ h => h) (Or.inr ⟨by rfl, rfl⟩) hF ?_
          simp only [Act.put, List.setIfInBounds_toArray, List.set_cons_zero, List.set_cons_succ]
          refine wpAnyH_take (i := 14) (v := undef) op14 (by kernel_rfl) (by kernel_rfl) (by kernel_rfl) (fun _ _ _ h => h) (Or.inr ⟨by rfl, rfl⟩) hF ?_
          simp only [Act.put, List.setIfInBounds_toArray, List.set_cons_zero, List.set_cons_succ]
          refine wpAnyH_take (i := 15) (v := .bool false) op15 (by kernel_rfl) (by kernel_rfl) (by kernel_rfl) (fun _ _ _ h => h) (Or.inl ⟨by rfl, fun V hS => ?_⟩) hF ?_
          · go_simp
          simp only [Act.put, List.setIfInBounds_toArray, List.set_cons_zero, List.set_cons_succ]
          obtain ⟨hF1, hF2, hF3, g0, g1, g2', g3, g4, g5, g6⟩ := hF
          have hF' : (fun U : World => Boxed U (q 3) 98 (.slice (some ⟨g, 0, none⟩) N c) ∧ Boxed U bk 3 (.int .i64 (M1 : Int)) ∧ WantAt g U ∧ Op7 U By (y.1 : Int) (nameT y.1) (immT y.1) (inT y.1) (outT y.1) (gasT y.1) (endsT y.1)) (z0.setCell ⟨q 6, 0, none⟩ (.bool false)) := by
            refine ⟨hF1.other (by omega) _, hF2.other (by omega) _, hF3.set (by omega) _, ?_⟩
            have e6 : ∀ o : Nat, (⟨By, o, none⟩ : Addr) ≠ ⟨q 6, 0, none⟩ := fun o e => by injection e with e1 _ _; omega
            exact ⟨(World.cell?_setCell_other _ _ _ _ (fun e => e6 _ e.symm)).trans g0, (World.cell?_setCell_other _ _ _ _ (fun e => e6 _ e.symm)).trans g1, (World.cell?_setCell_other _ _ _ _ (fun e => e6 _ e.symm)).trans g2', (World.cell?_setCell_other _ _ _ _ (fun e => e6 _ e.symm)).trans g3, (World.cell?_setCell_other _ _ _ _ (fun e => e6 _ e.symm)).trans g4, (World.cell?_setCell_other _ _ _ _ (fun e => e6 _ e.symm)).trans g5, (World.cell?_setCell_other _ _ _ _ (fun e => e6 _ e.symm)).trans g6⟩
          refine wpAnyH_ready (rs := [16]) (by kernel_rfl) (by simp) ?_
          refine AllReadyH.cons op16 (fun K hK => ?_) AllReadyH.nil
          rw [if_pos (by rfl)]
          go_simp
          refine hK.out _ _ hF' (fun _ => ?_)
          clear hK K
          (try simp only [Act.put, List.setIfInBounds_toArray, List.set_cons_zero, List.set_cons_succ])
          refine wpAnyH_done (by kernel_rfl) ?_ _
          have hY2 : Hid (BX w q g c N fi se (N : Int) false (z0.setCell ⟨q 6, 0, none⟩ (.bool false))) := hYd.setO hAp _
          have hk3 : Hid (Boxed (z0.setCell ⟨q 6, 0, none⟩ (.bool false)) bk 3 (.int .i64 (M1 : Int))) := hkd.other (by omega) _
          have KE : Hid (KeepsOthers V (z0.setCell ⟨q 6, 0, none⟩ (.bool false))) := KD.trans (KeepsOthers.setCell _ _ _)
          have BE : Hid (Below w.heap.size V (z0.setCell ⟨q 6, 0, none⟩ (.bool false))) := BD.setCell (p := ⟨q 6, 0, none⟩) (show w.heap.size ≤ q 6 by omega) _
          clear hF' hF1 hF2 hF3 g0 g1 g2' g3 g4 g5 g6 cO fO hYd hkd KD BD
          generalize z0.setCell ⟨q 6, 0, none⟩ (.bool false) = z1 at hY2 hk3 KE BE ⊢
          (try gi_wp2)
          exact ⟨KE.out.from _, BE.out, okd_mk false hY2.out (fun hp => absurd hp hA2), by rw [HM1.out]; exact hk3.out, by rw [HM1.out]; exact HNE1.out, (KE.out.same D _ hdd rfl)⟩
        | true =>
          by_cases hMN : M < N
          · obtain ⟨y2, hat⟩ : ∃ y2, (opsUpto 256)[M]? = some y2 := ⟨_, List.getElem?_eq_getElem (by have := EN.out; unfold opsN at this; omega)⟩
            have mI : (M1 : Int) ≤ (N : Int) := by have := hMM.out; omega
            have mK : (M : Int) < (N : Int) := by omega
            by_cases hyy : y = y2
            · subst hyy
              refine wpIn_region_heldR (S := fun U => Boxed U (q 3) 98 (.slice (some ⟨g, 0, none⟩) N c) ∧ Boxed U bk 3 (.int .i64 (M1 : Int)) ∧ WantAt g U ∧ Op7 U By (y.1 : Int) (nameT y.1) (immT y.1) (inT y.1) (outT y.1) (gasT y.1) (endsT y.1)) hmx (by simp) (fun ⟨_, _, h⟩ => h) ⟨(hY1.out.past (Below.refl _ _).drew).bw, hk1.out.kept (grown_of_below (Below.refl _ _).drew) (by simp), (hY1.out.past (Below.refl _ _).drew).wa, hO1.out.past (Below.refl _ _).drew⟩ (fun hF => ?_)
              have hYd := hY1.out.past (Below.refl V1.heap.size V1).drew
              have hkd := hk1.out.kept (grown_of_below (Below.refl V1.heap.size V1).drew) (by simp)
              have KD : KeepsOthers V V1.drew := KF.out.trans (KeepsOthers.drew V1)
              have BD : Below w.heap.size V V1.drew := BF.out.drew
              generalize V1.drew = z0 at hF KD BD hYd hkd ⊢
              have cO := hYd.bo.cell
              have fO := hYd.bo.frozen
              refine wpAnyH_ready (rs := [0]) (by kernel_rfl) (by simp) ?_
              refine AllReadyH.cons op0 (fun K hK => ?_) AllReadyH.nil
              rw [if_pos (by rfl)]
              go_simp
              refine hK.out _ _ hF (fun _ => ?_)
              clear hK K
              (try simp only [Act.put, List.setIfInBounds_toArray, List.set_cons_zero, List.set_cons_succ])
              refine wpAnyH_take (i := 1) (v := .bool true) op1 (by kernel_rfl) (by kernel_rfl) (by kernel_rfl) (fun _ _ _ h => h) (Or.inl ⟨by rfl, fun V hS => ?_⟩) hF ?_
              · go_simp
              simp only [Act.put, List.setIfInBounds_toArray, List.set_cons_zero, List.set_cons_succ]
              refine wpAnyH_take (i := 2) (v := .int .i64 (M1 : Int)) op2 (by kernel_rfl) (by kernel_rfl) (by kernel_rfl) (fun _ _ _ h => h) (Or.inl ⟨by rfl, fun V hS => ?_⟩) hF ?_
              · have k1 := hS.2.1.cell
                go_simp
              simp only [Act.put, List.setIfInBounds_toArray, List.set_cons_zero, List.set_cons_succ]
              refine wpAnyH_take (i := 3) (v := .slice (some ⟨g, 0, none⟩) N c) op3 (by kernel_rfl) (by kernel_rfl) (by kernel_rfl) (fun _ _ _ h => h) (Or.inl ⟨by rfl, fun V hS => ?_⟩) hF ?_
              · have k1 := hS.1.cell
                go_simp
              simp only [Act.put, List.setIfInBounds_toArray, List.set_cons_zero, List.set_cons_succ]
              refine wpAnyH_take (i := 4) (v := .int .i64 (N : Int)) op4 (by kernel_rfl) (by kernel_rfl) (by kernel_rfl) (fun _ _ _ h => h) (Or.inl ⟨by rfl, fun V hS => ?_⟩) hF ?_
              · go_simp
              simp only [Act.put, List.setIfInBounds_toArray, List.set_cons_zero, List.set_cons_succ]
              refine wpAnyH_take (i := 5) (v := .bool true) op5 (by kernel_rfl) (by kernel_rfl) (by kernel_rfl) (fun _ _ _ h => h) (Or.inl ⟨by rfl, fun V hS => ?_⟩) hF ?_
              · go_simp
              simp only [Act.put, List.setIfInBounds_toArray, List.set_cons_zero, List.set_cons_succ]
              refine wpAnyH_take (i := 6) (v := .bool true) op6 (by kernel_rfl) (by kernel_rfl) (by kernel_rfl) (fun _ _ _ h => h) (Or.inl ⟨by rfl, fun V hS => ?_⟩) hF ?_
              · go_simp
              simp only [Act.put, List.setIfInBounds_toArray, List.set_cons_zero, List.set_cons_succ]
              refine wpAnyH_take (i := 7) (v := .bool true) op7 (by kernel_rfl) (by kernel_rfl) (by kernel_rfl) (fun _ _ _ h => h) (Or.inl ⟨by rfl, fun V hS => ?_⟩) hF ?_
              · go_simp
              simp only [Act.put, List.setIfInBounds_toArray, List.set_cons_zero, List.set_cons_succ]
              refine wpAnyH_take (i := 8) (v := .agg #[.int .i64 (y.1 : Int), .string (nameT y.1), .int .i64 (immT y.1), .int .i64 (inT y.1), .int .i64 (outT y.1), .int .i64 (gasT y.1), .bool (endsT y.1)]) op8 (by kernel_rfl) (by kernel_rfl) (by kernel_rfl) (fun _ _ _ h => h) (Or.inl ⟨by rfl, fun V hS => ?_⟩) hF ?_
              · obtain ⟨k0, k1, k2, k3, k4, k5, k6⟩ := hS.2.2.2
                go_simp
              simp only [Act.put, List.setIfInBounds_toArray, List.set_cons_zero, List.set_cons_succ]
              refine wpAnyH_take (i := 9) (v := .slice (some ⟨g, 0, none⟩) N c) op9 (by kernel_rfl) (by kernel_rfl) (by kernel_rfl) (fun _ _ _ h => h) (Or.inl ⟨by rfl, fun V hS => ?_⟩) hF ?_
              · have k1 := hS.1.cell
                go_simp
              simp only [Act.put, List.setIfInBounds_toArray, List.set_cons_zero, List.set_cons_succ]
              refine wpAnyH_take (i := 10) (v := .int .i64 (M1 : Int)) op10 (by kernel_rfl) (by kernel_rfl) (by kernel_rfl) (fun _ _ _ h => h) (Or.inl ⟨by rfl, fun V hS => ?_⟩) hF ?_
              · have k1 := hS.2.1.cell
                go_simp
              simp only [Act.put, List.setIfInBounds_toArray, List.set_cons_zero, List.set_cons_succ]
              refine wpAnyH_take (i := 11) (v := .int .i64 (M : Int)) op11 (by kernel_rfl) (by kernel_rfl) (by kernel_rfl) (fun _ _ _ h => h) (Or.inl ⟨by rfl, fun V hS => ?_⟩) hF ?_
              · go_simp
              simp only [Act.put, List.setIfInBounds_toArray, List.set_cons_zero, List.set_cons_succ]
              refine wpAnyH_take (i := 12) (v := .pointer (some ⟨g, M * 7, none⟩)) op12 (by kernel_rfl) (by kernel_rfl) (by kernel_rfl) (fun _ _ _ h => h) (Or.inl ⟨by rfl, fun V hS => ?_⟩) hF ?_
              · go_simp
              simp only [Act.put, List.setIfInBounds_toArray, List.set_cons_zero, List.set_cons_succ]
              refine wpAnyH_take (i := 13) (v := .agg #[.int .i64 (y.1 : Int), .string (nameT y.1), .int .i64 (immT y.1), .int .i64 (inT y.1), .int .i64 (outT y.1), .int .i64 (gasT y.1), .bool (endsT y.1)]) op13 (by kernel_rfl) (by kernel_rfl) (by kernel_rfl) (fun _ _ _ h => h) (Or.inl ⟨by rfl, fun V hS => ?_⟩) hF ?_
              · obtain ⟨k0, k1, k2, k3, k4, k5, k6⟩ := hS.2.2.1.row hat
                go_simp
              simp only [Act.put, List.setIfInBounds_toArray, List.set_cons_zero, List.set_cons_succ]
              refine wpAnyH_take (i := 14) (v := .bool true) op14 (by kernel_rfl) (by kernel_rfl) (by kernel_rfl) (fun _ _ _ h => h) (Or.inl ⟨by rfl, fun V hS => ?_⟩) hF ?_
              · have k1 := eq7_same
                go_simp
              simp only [Act.put, List.setIfInBounds_toArray, List.set_cons_zero, List.set_cons_succ]
              refine wpAnyH_take (i := 15) (v := .bool true) op15 (by kernel_rfl) (by kernel_rfl) (by kernel_rfl) (fun _ _ _ h => h) (Or.inl ⟨by rfl, fun V hS => ?_⟩) hF ?_
              · go_simp
              simp only [Act.put, List.setIfInBounds_toArray, List.set_cons_zero, List.set_cons_succ]
              obtain ⟨hF1, hF2, hF3, g0, g1, g2', g3, g4, g5, g6⟩ := hF
              have hF' : (fun U : World => Boxed U (q 3) 98 (.slice (some ⟨g, 0, none⟩) N c) ∧ Boxed U bk 3 (.int .i64 (M1 : Int)) ∧ WantAt g U ∧ Op7 U By (y.1 : Int) (nameT y.1) (immT y.1) (inT y.1) (outT y.1) (gasT y.1) (endsT y.1)) (z0.setCell ⟨q 6, 0, none⟩ (.bool true)) := by
                refine ⟨hF1.other (by omega) _, hF2.other (by omega) _, hF3.set (by omega) _, ?_⟩
                have e6 : ∀ o : Nat, (⟨By, o, none⟩ : Addr) ≠ ⟨q 6, 0, none⟩ := fun o e => by injection e with e1 _ _; omega
                exact ⟨(World.cell?_setCell_other _ _ _ _ (fun e => e6 _ e.symm)).trans g0, (World.cell?_setCell_other _ _ _ _ (fun e => e6 _ e.symm)).trans g1, (World.cell?_setCell_other _ _ _ _ (fun e => e6 _ e.symm)).trans g2', (World.cell?_setCell_other _ _ _ _ (fun e => e6 _ e.symm)).trans g3, (World.cell?_setCell_other _ _ _ _ (fun e => e6 _ e.symm)).trans g4, (World.cell?_setCell_other _ _ _ _ (fun e => e6 _ e.symm)).trans g5, (World.cell?_setCell_other _ _ _ _ (fun e => e6 _ e.symm)).trans g6⟩
              refine wpAnyH_ready (rs := [16]) (by kernel_rfl) (by simp) ?_
              refine AllReadyH.cons op16 (fun K hK => ?_) AllReadyH.nil
              rw [if_pos (by rfl)]
              go_simp
              refine hK.out _ _ hF' (fun _ => ?_)
              clear hK K
              (try simp only [Act.put, List.setIfInBounds_toArray, List.set_cons_zero, List.set_cons_succ])
              refine wpAnyH_done (by kernel_rfl) ?_ _
              have hY2 : Hid (BX w q g c N fi se (N : Int) true (z0.setCell ⟨q 6, 0, none⟩ (.bool true))) := hYd.setO hAp _
              have hk3 : Hid (Boxed (z0.setCell ⟨q 6, 0, none⟩ (.bool true)) bk 3 (.int .i64 (M1 : Int))) := hkd.other (by omega) _
              have KE : Hid (KeepsOthers V (z0.setCell ⟨q 6, 0, none⟩ (.bool true))) := KD.trans (KeepsOthers.setCell _ _ _)
              have BE : Hid (Below w.heap.size V (z0.setCell ⟨q 6, 0, none⟩ (.bool true))) := BD.setCell (p := ⟨q 6, 0, none⟩) (show w.heap.size ≤ q 6 by omega) _
              clear hF' hF1 hF2 hF3 g0 g1 g2' g3 g4 g5 g6 cO fO hYd hkd KD BD
              generalize z0.setCell ⟨q 6, 0, none⟩ (.bool true) = z1 at hY2 hk3 KE BE ⊢
              (try gi_wp2)
              exact ⟨KE.out.from _, BE.out, okd_mk true hY2.out (fun _ => rfl), by rw [HM1.out]; exact hk3.out, by rw [HM1.out]; exact HNE1.out, (KE.out.same D _ hdd rfl)⟩
            · have hxy : (y.1 : Int) ≠ (y2.1 : Int) := fun e => hyy (Subtype.ext (by omega))
              have hA2 : ¬ (p ++ [y]) <+: opsUpto 256 := fun hp => by have := pre_same hp; rw [HM.out, hat] at this; exact hyy (Option.some.inj this).symm
              refine wpIn_region_heldR (S := fun U => Boxed U (q 3) 98 (.slice (some ⟨g, 0, none⟩) N c) ∧ Boxed U bk 3 (.int .i64 (M1 : Int)) ∧ WantAt g U ∧ Op7 U By (y.1 : Int) (nameT y.1) (immT y.1) (inT y.1) (outT y.1) (gasT y.1) (endsT y.1)) hmx (by simp) (fun ⟨_, _, h⟩ => h) ⟨(hY1.out.past (Below.refl _ _).drew).bw, hk1.out.kept (grown_of_below (Below.refl _ _).drew) (by simp), (hY1.out.past (Below.refl _ _).drew).wa, hO1.out.past (Below.refl _ _).drew⟩ (fun hF => ?_)
              have hYd := hY1.out.past (Below.refl V1.heap.size V1).drew
              have hkd := hk1.out.kept (grown_of_below (Below.refl V1.heap.size V1).drew) (by simp)
              have KD : KeepsOthers V V1.drew := KF.out.trans (KeepsOthers.drew V1)
              have BD : Below w.heap.size V V1.drew := BF.out.drew
              generalize V1.drew = z0 at hF KD BD hYd hkd ⊢
              have cO := hYd.bo.cell
              have fO := hYd.bo.frozen
              refine wpAnyH_ready (rs := [0]) (by kernel_rfl) (by simp) ?_
              refine AllReadyH.cons op0 (fun K hK => ?_) AllReadyH.nil
              rw [if_pos (by rfl)]
              go_simp
              refine hK.out _ _ hF (fun _ => ?_)
              clear hK K
              (try simp only [Act.put, List.setIfInBounds_toArray, List.set_cons_zero, List.set_cons_succ])
              refine wpAnyH_take (i := 1) (v := .bool true) op1 (by kernel_rfl) (by kernel_rfl) (by kernel_rfl) (fun _ _ _ h => h) (Or.inl ⟨by rfl, fun V hS => ?_⟩) hF ?_
              · go_simp
              simp only [Act.put, List.setIfInBounds_toArray, List.set_cons_zero, List.set_cons_succ]
              refine wpAnyH_take (i := 2) (v := .int .i64 (M1 : Int)) op2 (by kernel_rfl) (by kernel_rfl) (by kernel_rfl) (fun _ _ _ h => h) (Or.inl ⟨by rfl, fun V hS => ?_⟩) hF ?_
              · have k1 := hS.2.1.cell
                go_simp
              simp only [Act.put, List.setIfInBounds_toArray, List.set_cons_zero, List.set_cons_succ]
              refine wpAnyH_take (i := 3) (v := .slice (some ⟨g, 0, none⟩) N c) op3 (by kernel_rfl) (by kernel_rfl) (by kernel_rfl) (fun _ _ _ h => h) (Or.inl ⟨by rfl, fun V hS => ?_⟩) hF ?_
              · have k1 := hS.1.cell
                go_simp
              simp only [Act.put, List.setIfInBounds_toArray, List.set_cons_zero, List.set_cons_succ]
              refine wpAnyH_take (i := 4) (v := .int .i64 (N : Int)) op4 (by kernel_rfl) (by kernel_rfl) (by kernel_rfl) (fun _ _ _ h => h) (Or.inl ⟨by rfl, fun V hS => ?_⟩) hF ?_
              · go_simp
              simp only [Act.put, List.setIfInBounds_toArray, List.set_cons_zero, List.set_cons_succ]
              refine wpAnyH_take (i := 5) (v := .bool true) op5 (by kernel_rfl) (by kernel_rfl) (by kernel_rfl) (fun _ _ _ h => h) (Or.inl ⟨by rfl, fun V hS => ?_⟩) hF ?_
              · go_simp
              simp only [Act.put, List.setIfInBounds_toArray, List.set_cons_zero, List.set_cons_succ]
              refine wpAnyH_take (i := 6) (v := .bool true) op6 (by kernel_rfl) (by kernel_rfl) (by kernel_rfl) (fun _ _ _ h => h) (Or.inl ⟨by rfl, fun V hS => ?_⟩) hF ?_
              · go_simp
              simp only [Act.put, List.setIfInBounds_toArray, List.set_cons_zero, List.set_cons_succ]
              refine wpAnyH_take (i := 7) (v := .bool true) op7 (by kernel_rfl) (by kernel_rfl) (by kernel_rfl) (fun _ _ _ h => h) (Or.inl ⟨by rfl, fun V hS => ?_⟩) hF ?_
              · go_simp
              simp only [Act.put, List.setIfInBounds_toArray, List.set_cons_zero, List.set_cons_succ]
              refine wpAnyH_take (i := 8) (v := .agg #[.int .i64 (y.1 : Int), .string (nameT y.1), .int .i64 (immT y.1), .int .i64 (inT y.1), .int .i64 (outT y.1), .int .i64 (gasT y.1), .bool (endsT y.1)]) op8 (by kernel_rfl) (by kernel_rfl) (by kernel_rfl) (fun _ _ _ h => h) (Or.inl ⟨by rfl, fun V hS => ?_⟩) hF ?_
              · obtain ⟨k0, k1, k2, k3, k4, k5, k6⟩ := hS.2.2.2
                go_simp
              simp only [Act.put, List.setIfInBounds_toArray, List.set_cons_zero, List.set_cons_succ]
              refine wpAnyH_take (i := 9) (v := .slice (some ⟨g, 0, none⟩) N c) op9 (by kernel_rfl) (by kernel_rfl) (by kernel_rfl) (fun _ _ _ h => h) (Or.inl ⟨by rfl, fun V hS => ?_⟩) hF ?_
              · have k1 := hS.1.cell
                go_simp
              simp only [Act.put, List.setIfInBounds_toArray, List.set_cons_zero, List.set_cons_succ]
              refine wpAnyH_take (i := 10) (v := .int .i64 (M1 : Int)) op10 (by kernel_rfl) (by kernel_rfl) (by kernel_rfl) (fun _ _ _ h => h) (Or.inl ⟨by rfl, fun V hS => ?_⟩) hF ?_
              · have k1 := hS.2.1.cell
                go_simp
              simp only [Act.put, List.setIfInBounds_toArray, List.set_cons_zero, List.set_cons_succ]
              refine wpAnyH_take (i := 11) (v := .int .i64 (M : Int)) op11 (by kernel_rfl) (by kernel_rfl) (by kernel_rfl) (fun _ _ _ h => h) (Or.inl ⟨by rfl, fun V hS => ?_⟩) hF ?_
              · go_simp
              simp only [Act.put, List.setIfInBounds_toArray, List.set_cons_zero, List.set_cons_succ]
              refine wpAnyH_take (i := 12) (v := .pointer (some ⟨g, M * 7, none⟩)) op12 (by kernel_rfl) (by kernel_rfl) (by kernel_rfl) (fun _ _ _ h => h) (Or.inl ⟨by rfl, fun V hS => ?_⟩) hF ?_
              · go_simp
              simp only [Act.put, List.setIfInBounds_toArray, List.set_cons_zero, List.set_cons_succ]
              refine wpAnyH_take (i := 13) (v := .agg #[.int .i64 (y2.1 : Int), .string (nameT y2.1), .int .i64 (immT y2.1), .int .i64 (inT y2.1), .int .i64 (outT y2.1), .int .i64 (gasT y2.1), .bool (endsT y2.1)]) op13 (by kernel_rfl) (by kernel_rfl) (by kernel_rfl) (fun _ _ _ h => h) (Or.inl ⟨by rfl, fun V hS => ?_⟩) hF ?_
              · obtain ⟨k0, k1, k2, k3, k4, k5, k6⟩ := hS.2.2.1.row hat
                go_simp
              simp only [Act.put, List.setIfInBounds_toArray, List.set_cons_zero, List.set_cons_succ]
              refine wpAnyH_take (i := 14) (v := .bool false) op14 (by kernel_rfl) (by kernel_rfl) (by kernel_rfl) (fun _ _ _ h => h) (Or.inl ⟨by rfl, fun V hS => ?_⟩) hF ?_
              · have k1 := eq7_diff (y.1 : Int) (y2.1 : Int) hxy
                go_simp
              simp only [Act.put, List.setIfInBounds_toArray, List.set_cons_zero, List.set_cons_succ]
              refine wpAnyH_take (i := 15) (v := .bool false) op15 (by kernel_rfl) (by kernel_rfl) (by kernel_rfl) (fun _ _ _ h => h) (Or.inl ⟨by rfl, fun V hS => ?_⟩) hF ?_
              · go_simp
              simp only [Act.put, List.setIfInBounds_toArray, List.set_cons_zero, List.set_cons_succ]
              obtain ⟨hF1, hF2, hF3, g0, g1, g2', g3, g4, g5, g6⟩ := hF
              have hF' : (fun U : World => Boxed U (q 3) 98 (.slice (some ⟨g, 0, none⟩) N c) ∧ Boxed U bk 3 (.int .i64 (M1 : Int)) ∧ WantAt g U ∧ Op7 U By (y.1 : Int) (nameT y.1) (immT y.1) (inT y.1) (outT y.1) (gasT y.1) (endsT y.1)) (z0.setCell ⟨q 6, 0, none⟩ (.bool false)) := by
                refine ⟨hF1.other (by omega) _, hF2.other (by omega) _, hF3.set (by omega) _, ?_⟩
                have e6 : ∀ o : Nat, (⟨By, o, none⟩ : Addr) ≠ ⟨q 6, 0, none⟩ := fun o e => by injection e with e1 _ _; omega
                exact ⟨(World.cell?_setCell_other _ _ _ _ (fun e => e6 _ e.symm)).trans g0, (World.cell?_setCell_other _ _ _ _ (fun e => e6 _ e.symm)).trans g1, (World.cell?_setCell_other _ _ _ _ (fun e => e6 _ e.symm)).trans g2', (World.cell?_setCell_other _ _ _ _ (fun e => e6 _ e.symm)).trans g3, (World.cell?_setCell_other _ _ _ _ (fun e => e6 _ e.symm)).trans g4, (World.cell?_setCell_other _ _ _ _ (fun e => e6 _ e.symm)).trans g5, (World.cell?_setCell_other _ _ _ _ (fun e => e6 _ e.symm)).trans g6⟩
              refine wpAnyH_ready (rs := [16]) (by kernel_rfl) (by simp) ?_
              refine AllReadyH.cons op16 (fun K hK => ?_) AllReadyH.nil
              rw [if_pos (by rfl)]
              go_simp
              refine hK.out _ _ hF' (fun _ => ?_)
              clear hK K
              (try simp only [Act.put, List.setIfInBounds_toArray, List.set_cons_zero, List.set_cons_succ])
              refine wpAnyH_done (by kernel_rfl) ?_ _
              have hY2 : Hid (BX w q g c N fi se (N : Int) false (z0.setCell ⟨q 6, 0, none⟩ (.bool false))) := hYd.setO hAp _
              have hk3 : Hid (Boxed (z0.setCell ⟨q 6, 0, none⟩ (.bool false)) bk 3 (.int .i64 (M1 : Int))) := hkd.other (by omega) _
              have KE : Hid (KeepsOthers V (z0.setCell ⟨q 6, 0, none⟩ (.bool false))) := KD.trans (KeepsOthers.setCell _ _ _)
              have BE : Hid (Below w.heap.size V (z0.setCell ⟨q 6, 0, none⟩ (.bool false))) := BD.setCell (p := ⟨q 6, 0, none⟩) (show w.heap.size ≤ q 6 by omega) _
              clear hF' hF1 hF2 hF3 g0 g1 g2' g3 g4 g5 g6 cO fO hYd hkd KD BD
              generalize z0.setCell ⟨q 6, 0, none⟩ (.bool false) = z1 at hY2 hk3 KE BE ⊢
              (try gi_wp2)
              exact ⟨KE.out.from _, BE.out, okd_mk false hY2.out (fun hp => absurd hp hA2), by rw [HM1.out]; exact hk3.out, by rw [HM1.out]; exact HNE1.out, (KE.out.same D _ hdd rfl)⟩
          · have mI : ¬ (M1 : Int) ≤ (N : Int) := by have := hMM.out; omega
            have hA2 : ¬ (p ++ [y]) <+: opsUpto 256 := fun hp => by have := pre_le hp; rw [EN.out, HM1.out] at this; omega
            refine wpIn_region_heldR (S := fun U => Boxed U (q 3) 98 (.slice (some ⟨g, 0, none⟩) N c) ∧ Boxed U bk 3 (.int .i64 (M1 : Int)) ∧ WantAt g U ∧ Op7 U By (y.1 : Int) (nameT y.1) (immT y.1) (inT y.1) (outT y.1) (gasT y.1) (endsT y.1)) hmx (by simp) (fun ⟨_, _, h⟩ => h) ⟨(hY1.out.past (Below.refl _ _).drew).bw, hk1.out.kept (grown_of_below (Below.refl _ _).drew) (by simp), (hY1.out.past (Below.refl _ _).drew).wa, hO1.out.past (Below.refl _ _).drew⟩ (fun hF => ?_)
            have hYd := hY1.out.past (Below.refl V1.heap.size V1).drew
            have hkd := hk1.out.kept (grown_of_below (Below.refl V1.heap.size V1).drew) (by simp)
            have KD : KeepsOthers V V1.drew := KF.out.trans (KeepsOthers.drew V1)
            have BD : Below w.heap.size V V1.drew := BF.out.drew
            generalize V1.drew = z0 at hF KD BD hYd hkd ⊢
            have cO := hYd.bo.cell
            have fO := hYd.bo.frozen
            refine wpAnyH_ready (rs := [0]) (by kernel_rfl) (by simp) ?_
            refine AllReadyH.cons op0 (fun K hK => ?_) AllReadyH.nil
            rw [if_pos (by rfl)]
            go_simp
            refine hK.out _ _ hF (fun _ => ?_)
            clear hK K
            (try simp only [Act.put, List.setIfInBounds_toArray, List.set_cons_zero, List.set_cons_succ])
            refine wpAnyH_take (i := 1) (v := .bool true) op1 (by kernel_rfl) (by kernel_rfl) (by kernel_rfl) (fun _ _ _ h => h) (Or.inl ⟨by rfl, fun V hS => ?_⟩) hF ?_
            · go_simp
            simp only [Act.put, List.setIfInBounds_toArray, List.set_cons_zero, List.set_cons_succ]
            refine wpAnyH_take (i := 2) (v := .int .i64 (M1 : Int)) op2 (by kernel_rfl) (by kernel_rfl) (by kernel_rfl) (fun _ _ _ h => h) (Or.inl ⟨by rfl, fun V hS => ?_⟩) hF ?_
            · have k1 := hS.2.1.cell
              go_simp
            simp only [Act.put, List.setIfInBounds_toArray, List.set_cons_zero, List.set_cons_succ]
            refine wpAnyH_take (i := 3) (v := .slice (some ⟨g, 0, none⟩) N c) op3 (by kernel_rfl) (by kernel_rfl) (by kernel_rfl) (fun _ _ _ h => h) (Or.inl ⟨by rfl, fun V hS => ?_⟩) hF ?_
            · have k1 := hS.1.cell
              go_simp
            simp only [Act.put, List.setIfInBounds_toArray, List.set_cons_zero, List.set_cons_succ]
            refine wpAnyH_take (i := 4) (v := .int .i64 (N : Int)) op4 (by kernel_rfl) (by kernel_rfl) (by kernel_rfl) (fun _ _ _ h => h) (Or.inl ⟨by rfl, fun V hS => ?_⟩) hF ?_
            · go_simp
            simp only [Act.put, List.setIfInBounds_toArray, List.set_cons_zero, List.set_cons_succ]
            refine wpAnyH_take (i := 5) (v := .bool false) op5 (by kernel_rfl) (by kernel_rfl) (by kernel_rfl) (fun _ _ _ h => h) (Or.inl ⟨by rfl, fun V hS => ?_⟩) hF ?_
            · go_simp
            simp only [Act.put, List.setIfInBounds_toArray, List.set_cons_zero, List.set_cons_succ]
            refine wpAnyH_take (i := 6) (v := .bool false) op6 (by kernel_rfl) (by kernel_rfl) (by kernel_rfl) (fun _ _ _ h => h) (Or.inl ⟨by rfl, fun V hS => ?_⟩) hF ?_
            · go_simp
            simp only [Act.put, List.setIfInBounds_toArray, List.set_cons_zero, List.set_cons_succ]
            refine wpAnyH_take (i := 7) (v := .bool false) op7 (by kernel_rfl) (by kernel_rfl) (by kernel_rfl) (fun _ _ _ h => h) (Or.inl ⟨by rfl, fun V hS => ?_⟩) hF ?_
            · go_simp
            simp only [Act.put, List.setIfInBounds_toArray, List.set_cons_zero, List.set_cons_succ]
            refine wpAnyH_take (i := 8) (v := undef) op8 (by kernel_rfl) (by kernel_rfl) (by kernel_rfl) (fun _ _ _ h => h) (Or.inr ⟨by rfl, rfl⟩) hF ?_
            simp only [Act.put, List.setIfInBounds_toArray, List.set_cons_zero, List.set_cons_succ]
            refine wpAnyH_take (i := 9) (v := undef) op9 (by kernel_rfl) (by kernel_rfl) (by kernel_rfl) (fun _ _ _ h => h) (Or.inr ⟨by rfl, rfl⟩) hF ?_
            simp only [Act.put, List.setIfInBounds_toArray, List.set_cons_zero, List.set_cons_succ]
            refine wpAnyH_take (i := 10) (v := undef) op10 (by kernel_rfl) (by kernel_rfl) (by kernel_rfl) (fun _ _ _ h => h) (Or.inr ⟨by rfl, rfl⟩) hF ?_
            simp only [Act.put, List.setIfInBounds_toArray, List.set_cons_zero, List.set_cons_succ]
            refine wpAnyH_take (i := 11) (v := undef) op11 (by kernel_rfl) (by kernel_rfl) (by kernel_rfl) (fun _ _ _ h => h) (Or.inr ⟨by rfl, rfl⟩) hF ?_
            simp only [Act.put, List.setIfInBounds_toArray, List.set_cons_zero, List.set_cons_succ]
            refine wpAnyH_take (i := 12) (v := undef) op12 (by kernel_rfl) (by kernel_rfl) (by kernel_rfl) (fun _ _ _ h => h) (Or.inr ⟨by rfl, rfl⟩) hF ?_
            simp only [Act.put, List.setIfInBounds_toArray, List.set_cons_zero, List.set_cons_succ]
            refine wpAnyH_take (i := 13) (v := undef) op13 (by kernel_rfl) (by kernel_rfl) (by kernel_rfl) (fun _ _ _ h => h) (Or.inr ⟨by rfl, rfl⟩) hF ?_
            simp only [Act.put, List.setIfInBounds_toArray, List.set_cons_zero, List.set_cons_succ]
            refine wpAnyH_take (i := 14) (v := undef) op14 (by kernel_rfl) (by kernel_rfl) (by kernel_rfl) (fun _ _ _ h => h) (Or.inr ⟨by rfl, rfl⟩) hF ?_
            simp only [Act.put, List.setIfInBounds_toArray, List.set_cons_zero, List.set_cons_succ]
            refine wpAnyH_take (i := 15) (v := .bool false) op15 (by kernel_rfl) (by kernel_rfl) (by kernel_rfl) (fun _ _ _ h => h) (Or.inl ⟨by rfl, fun V hS => ?_⟩) hF ?_
            · go_simp
            simp only [Act.put, List.setIfInBounds_toArray, List.set_cons_zero, List.set_cons_succ]
            obtain ⟨hF1, hF2, hF3, g0, g1, g2', g3, g4, g5, g6⟩ := hF
            have hF' : (fun U : World => Boxed U (q 3) 98 (.slice (some ⟨g, 0, none⟩) N c) ∧ Boxed U bk 3 (.int .i64 (M1 : Int)) ∧ WantAt g U ∧ Op7 U By (y.1 : Int) (nameT y.1) (immT y.1) (inT y.1) (outT y.1) (gasT y.1) (endsT y.1)) (z0.setCell ⟨q 6, 0, none⟩ (.bool false)) := by
              refine ⟨hF1.other (by omega) _, hF2.other (by omega) _, hF3.set (by omega) _, ?_⟩
              have e6 : ∀ o : Nat, (⟨By, o, none⟩ : Addr) ≠ ⟨q 6, 0, none⟩ := fun o e => by injection e with e1 _ _; omega
              exact ⟨(World.cell?_setCell_other _ _ _ _ (fun e => e6 _ e.symm)).trans g0, (World.cell?_setCell_other _ _ _ _ (fun e => e6 _ e.symm)).trans g1, (World.cell?_setCell_other _ _ _ _ (fun e => e6 _ e.symm)).trans g2', (World.cell?_setCell_other _ _ _ _ (fun e => e6 _ e.symm)).trans g3, (World.cell?_setCell_other _ _ _ _ (fun e => e6 _ e.symm)).trans g4, (World.cell?_setCell_other _ _ _ _ (fun e => e6 _ e.symm)).trans g5, (World.cell?_setCell_other _ _ _ _ (fun e => e6 _ e.symm)).trans g6⟩
            refine wpAnyH_ready (rs := [16]) (by kernel_rfl) (by simp) ?_
            refine AllReadyH.cons op16 (fun K hK => ?_) AllReadyH.nil
            rw [if_pos (by rfl)]
            go_simp
            refine hK.out _ _ hF' (fun _ => ?_)
            clear hK K
            (try simp only [Act.put, List.setIfInBounds_toArray, List.set_cons_zero, List.set_cons_succ])
            refine wpAnyH_done (by kernel_rfl) ?_ _
            have hY2 : Hid (BX w q g c N fi se (N : Int) false (z0.setCell ⟨q 6, 0, none⟩ (.bool false))) := hYd.setO hAp _
            have hk3 : Hid (Boxed (z0.setCell ⟨q 6, 0, none⟩ (.bool false)) bk 3 (.int .i64 (M1 : Int))) := hkd.other (by omega) _
            have KE : Hid (KeepsOthers V (z0.setCell ⟨q 6, 0, none⟩ (.bool false))) := KD.trans (KeepsOthers.setCell _ _ _)
            have BE : Hid (Below w.heap.size V (z0.setCell ⟨q 6, 0, none⟩ (.bool false))) := BD.setCell (p := ⟨q 6, 0, none⟩) (show w.heap.size ≤ q 6 by omega) _
            clear hF' hF1 hF2 hF3 g0 g1 g2' g3 g4 g5 g6 cO fO hYd hkd KD BD
            generalize z0.setCell ⟨q 6, 0, none⟩ (.bool false) = z1 at hY2 hk3 KE BE ⊢
            (try gi_wp2)
            exact ⟨KE.out.from _, BE.out, okd_mk false hY2.out (fun hp => absurd hp hA2), by rw [HM1.out]; exact hk3.out, by rw [HM1.out]; exact HNE1.out, (KE.out.same D _ hdd rfl)⟩
    case done3 =>
      rintro D2 xs V hD2 rfl ⟨⟨b, hY, hb⟩, hkb, hne, hdd⟩ hdd2
      obtain rfl := hb (List.prefix_refl _)
      have cO := hY.bo.cell
      have cR := hY.br.cell
      have fR := hY.br.frozen
      gi_wp2
      have hBe : Below w.heap.size w (V.setCell ⟨q 2, 0, none⟩ (.bool true)) := hY.be.setCell (p := ⟨q 2, 0, none⟩) (show w.heap.size ≤ q 2 by omega) _
      have cE : (V.setCell ⟨q 2, 0, none⟩ (.bool true)).cell? ⟨q 2, 0, none⟩ = some (.bool true) := World.cell?_setCell_same' _ _ _ (by rw [cR]; rfl)
      have hd1 : (V.setCell ⟨q 2, 0, none⟩ (.bool true)).heap[D2]? = some (.deferred (some [])) := (KeepsOthers.setCell V _ _).same D2 _ hdd2 rfl
      have hd3 : (V.setCell ⟨q 2, 0, none⟩ (.bool true)).heap[D]? = some (.deferred (some [])) := (KeepsOthers.setCell V _ _).same D _ hdd rfl
      have hDw : w.heap.size ≤ D := Nat.le_trans hB0.size hD
      have hDv : w.heap.size ≤ D2 := Nat.le_trans hB2.size hD2
      have hDD : D ≠ D2 := by omega
      refine ⟨by simp, .inl ⟨_, _, rfl, run_takeDeferred hd1, ?_⟩⟩
      have cF := cell_kept cE (grownBy_putObj' _ D2 (.deferred none)) (fun r e => by cases e; exact ⟨_, hd1, rfl⟩)
      have hBf := hBe.trans (belowK_b (w := w) (Nat.le_refl _) _ D2 _ (.deferred none) hDv hd1 rfl rfl)
      have hd4 : ((V.setCell ⟨q 2, 0, none⟩ (.bool true)).putObj D2 (.deferred none)).heap[D]? = some (.deferred (some [])) := (World.putObj_heap_other hDD).trans hd3
      refine ⟨by simp, .inl ⟨_, _, rfl, run_takeDeferred hd4, ?_⟩⟩
      have cG := cell_kept cF (grownBy_putObj' _ D (.deferred none)) (fun r e => by cases e; exact ⟨_, hd4, rfl⟩)
      have hBg := hBf.trans (belowK_b (w := w) (Nat.le_refl _) _ D _ (.deferred none) hDw hd4 rfl rfl)
      exact ⟨_, results_one rfl _ _ _ ⟨q 2, 0, none⟩ rfl (by go_simp), rfl, hBg⟩
    case stop3 =>
      rintro D2 cd p V hD2 hs ⟨rfl, hdd, b, hY, hb⟩ hdd2
      obtain rfl := hb hs
      have cO := hY.bo.cell
      have cR := hY.br.cell
      have fR := hY.br.frozen
      gi_wp2
      have hBe : Below w.heap.size w (V.setCell ⟨q 2, 0, none⟩ (.bool true)) := hY.be.setCell (p := ⟨q 2, 0, none⟩) (show w.heap.size ≤ q 2 by omega) _
      have cE : (V.setCell ⟨q 2, 0, none⟩ (.bool true)).cell? ⟨q 2, 0, none⟩ = some (.bool true) := World.cell?_setCell_same' _ _ _ (by rw [cR]; rfl)
      have hd1 : (V.setCell ⟨q 2, 0, none⟩ (.bool true)).heap[D2]? = some (.deferred (some [])) := (KeepsOthers.setCell V _ _).same D2 _ hdd2 rfl
      have hd3 : (V.setCell ⟨q 2, 0, none⟩ (.bool true)).heap[D]? = some (.deferred (some [])) := (KeepsOthers.setCell V _ _).same D _ hdd rfl
      have hDw : w.heap.size ≤ D := Nat.le_trans hB0.size hD
      have hDv : w.heap.size ≤ D2 := Nat.le_trans hB2.size hD2
      have hDD : D ≠ D2 := by omega
      refine ⟨by simp, .inl ⟨_, _, rfl, run_takeDeferred hd1, ?_⟩⟩
      have cF := cell_kept cE (grownBy_putObj' _ D2 (.deferred none)) (fun r e => by cases e; exact ⟨_, hd1, rfl⟩)
      have hBf := hBe.trans (belowK_b (w := w) (Nat.le_refl _) _ D2 _ (.deferred none) hDv hd1 rfl rfl)
      have hd4 : ((V.setCell ⟨q 2, 0, none⟩ (.bool true)).putObj D2 (.deferred none)).heap[D]? = some (.deferred (some [])) := (World.putObj_heap_other hDD).trans hd3
      refine ⟨by simp, .inl ⟨_, _, rfl, run_takeDeferred hd4, ?_⟩⟩
      have cG := cell_kept cF (grownBy_putObj' _ D (.deferred none)) (fun r e => by cases e; exact ⟨_, hd4, rfl⟩)
      have hBg := hBf.trans (belowK_b (w := w) (Nat.le_refl _) _ D _ (.deferred none) hDw hd4 rfl rfl)
      exact ⟨_, results_one rfl _ _ _ ⟨q 2, 0, none⟩ rfl (by go_simp), rfl, hBg⟩
  case stop =>
    rintro D cd pre W hD hs ⟨_, hn⟩ hd
    exact absurd hs hn
theorem opAll_walk (w : World) (hN : Nms w) (fi se : Int) : Calls Tryd.prog 26 #[.int .i64 fi, .int .i64 se] w fun e w' => e = .returned (.bool true) ∧ Below w.heap.size w w' := callsIn_wide.1 (opAll_in w hN fi se)
end Go.Proofs.YtbhldmfnhlifpaaDoor
