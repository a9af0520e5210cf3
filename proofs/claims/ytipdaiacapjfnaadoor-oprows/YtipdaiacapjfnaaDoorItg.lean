/- OpRows: the walk. -/
import Derived.Test.YtipdaiacapjfnaaDoorItf
namespace Go.Proofs.YtipdaiacapjfnaaDoor
open Go.RowKit Go.Shelf
attribute [local go_sem] Oper.semAt_some
set_option maxRecDepth 100000 in
set_option maxHeartbeats 4000000 in
theorem opRows_in (w : World) (hN : Nms w) : CallsIn Fence.wide 10 Tryd.prog 7 #[] w fun e w' => e = .returned (.bool true) ∧ Below w.heap.size w w' := by
  have hnil : ∀ W : World, Sem.run Tryd.prog (binOp BinOp.eql 35 (.func (.func 29) #[] #[]) .nilFunc) W = .ok (.bool false) W := fun W => by kernel_rfl
  refine callsIn_of_wp_marks Tryd.func7 rfl trivial ?_ rfl
  simp only [Tryd.ntmps7, List.size_toArray, List.length_nil, Nat.reduceSub, Array.replicate_succ, Array.replicate_zero, List.push_toArray, List.append_toArray, List.nil_append, List.cons_append]
  gi_wp2_with (refine ⟨trivial, ?_⟩; gi_at_call 15; refine (callsIn_wide.2 (all_is _)).mono ?_; rintro e w' ⟨rfl, hw⟩; rw [hw]; clear hw)
  have hnN : ∀ k g, tabOf k = some g → g < w.heap.size := fun k g hk => World.block_lt_of_cell? w _ (hN k g hk 0 (by omega))
  have bR := ((Boxed.new w 4 (.bool false)).alloc (.cells #[.int .i64 0] 3)).alloc (.cells #[.int .i64 (-1)] 3)
  have bN := (Boxed.new (w.alloc (.cells #[.bool false] 4)) 3 (.int .i64 0)).alloc (.cells #[.int .i64 (-1)] 3)
  have bL := Boxed.new ((w.alloc (.cells #[.bool false] 4)).alloc (.cells #[.int .i64 0] 3)) 3 (.int .i64 (-1))
  simp only [World.size_alloc] at bN bL
  have hB0 : Below w.heap.size w (((w.alloc (.cells #[.bool false] 4)).alloc (.cells #[.int .i64 0] 3)).alloc (.cells #[.int .i64 (-1)] 3)) := (((Below.refl _ w).alloc (Nat.le_refl _) _).alloc (by simp) _).alloc (by simp; omega) _
  have hsz : (((w.alloc (.cells #[.bool false] 4)).alloc (.cells #[.int .i64 0] 3)).alloc (.cells #[.int .i64 (-1)] 3)).heap.size = w.heap.size + 3 := by simp
  obtain ⟨W0, hW0⟩ : ∃ W0, ((w.alloc (.cells #[.bool false] 4)).alloc (.cells #[.int .i64 0] 3)).alloc (.cells #[.int .i64 (-1)] 3) = W0 := ⟨_, rfl⟩
  rw [hW0] at bR bN bL hB0 hsz ⊢
  clear hW0
  refine wpIn_rangeFunc_ownH (F := Fence.wide) rfl (by omega) (gf := 29) (lb := #[]) rfl trivial (enters_of Tryd.func29 (by kernel_rfl) rfl)
    (all_stops 9 (by omega) w.heap.size W0 (hN.past hB0) hnN) belowK_t (belowK_b (by omega)) (Below.refl _ _) (fun _ => rfl)
    (fun pre W => ((Boxed W w.heap.size 4 (.bool false) ∧ Boxed W (w.heap.size + 1) 3 (.int .i64 (pre.length : Int))) ∧ Boxed W (w.heap.size + 1 + 1) 3 (.int .i64 (lastC pre))) ∧ Below w.heap.size w W)
    (fun cd pre _ => BackAt cd pre)
    (OwnFrom.and (OwnFrom.and (OwnFrom.and (Own.from (boxed_own _ _ _) _) (Own.from (boxed_own _ _ _) _)) (Own.from (boxed_own _ _ _) _)) (ownFrom_below (Nat.le_refl _) (by omega)))
    (fun _ _ _ _ _ hs _ _ => hs)
    ⟨⟨⟨bR, bN⟩, bL⟩, hB0⟩
    (fun x a' W => ∃ Bx, w.heap.size + 1 + 1 < Bx ∧ Op7 W Bx (x.1 : Int) (nameT x.1) (immT x.1) (inT x.1) (outT x.1) (gasT x.1) (endsT x.1) ∧ a' = { tmps := #[.pointer (some ⟨w.heap.size, 0, none⟩), .pointer (some ⟨w.heap.size + 1, 0, none⟩), .pointer (some ⟨w.heap.size + 1 + 1, 0, none⟩), .func (.func 29) #[] #[], .pointer (some ⟨Bx, 0, none⟩), undef, undef, undef, undef, undef, undef, .func (.func 29) #[] #[], .func (.func 29) #[] #[], .bool false, .func (.func 29) #[] #[], opv x.1, undef, undef, undef, undef, undef, undef, undef, undef, undef, undef, undef, undef, undef, undef, undef, undef, undef, undef, undef, undef, undef, undef, undef, undef, undef, undef, undef, undef, undef, undef, undef, undef, undef, undef, undef, undef, undef, undef, undef, undef, undef, undef, undef, undef, undef, undef, undef, undef, undef, undef, undef, undef, undef, undef, undef, undef, undef, undef, undef, undef, undef, undef, undef, undef, undef, undef, undef, undef, undef, undef, undef, undef, undef, undef, undef, undef, undef, undef, undef, undef, undef, undef, undef, undef, undef, undef, undef, undef, undef, undef, undef, undef, undef, undef, undef, undef, undef, undef, undef, undef, undef, undef, undef, undef, undef, undef, undef, undef, undef, undef], defers := [] })
    (fun x a' _ X Y row hs hg hr => by obtain ⟨Bx, h1, ⟨h0, g1, h2, h3, h4, h5, h6⟩, e⟩ := hs; have hr' : ∀ r, row = some r → ∃ o : Obj, X.heap[r]? = some o ∧ o.isCells = false := fun r e => (hr r e).2; exact ⟨Bx, h1, ⟨cell_kept h0 hg hr', cell_kept g1 hg hr', cell_kept h2 hg hr', cell_kept h3 hg hr', cell_kept h4 hg hr', cell_kept h5 hg hr', cell_kept h6 hg hr'⟩, e⟩)
    ?assign ?body ?done ?stop
  case assign =>
    rintro l pre x W K ⟨⟨⟨bR1, bN1⟩, bL1⟩, hB1⟩ hK
    have hx : opv x.1 = .agg #[.int .i64 (x.1 : Int), .string (nameT x.1), .int .i64 (immT x.1), .int .i64 (inT x.1), .int .i64 (outT x.1), .int .i64 (gasT x.1), .bool (endsT x.1)] := rfl
    gi_wp2
    exact hK _ _ ((KeepsOthers.alloc _ _).from _) ((Below.refl _ W).alloc hB1.size _) ⟨⟨⟨bR1.alloc _, bN1.alloc _⟩, bL1.alloc _⟩, hB1.alloc hB1.size _⟩ ⟨W.heap.size, bL1.lt, Op7.new W _ _ _ _ _ _ _, rfl⟩
  case body =>
    rintro l pre ⟨c, hc, hop⟩ a' W hl ⟨r, hr⟩ ⟨⟨⟨bR1, bN1⟩, bL1⟩, hB1⟩ ⟨Bx, hBx, ⟨x0, x1, x2, x3, x4, x5, x6⟩, rfl⟩ hlt
    have cN := bN1.cell
    have fN := bN1.frozen
    have cL := bL1.cell
    have fL := bL1.frozen
    have cR := bR1.cell
    have fR := bR1.frozen
    have hlen : (pre.length : Int) + 1 = ((pre ++ [(⟨c, hc, hop⟩ : OpC)]).length : Int) := by simp
    have hl1 : (pre.length : Int) < 256 := by omega
    have ne1 : ¬ Bx = w.heap.size + 1 := by omega
    have ne2 : ¬ Bx = w.heap.size + 1 + 1 := by omega
    have c255 : ¬ (255 : Int) < (c : Int) := by omega
    obtain ⟨q1, q2, q3, q4, q5, q7, q6⟩ := of_decide_eq_true (by have h := row_ok ⟨c, hc⟩; dsimp only at h; rw [hop, Bool.not_true, Bool.false_or] at h; exact h)
    have hnl : (nameT c).size = (nameL.getD c []).length := by unfold nameT; simp [ByteArray.size]
    have g1 : ¬ immT c < -1 := by omega
    have g2 : ¬ (32 : Int) < immT c := by omega
    have g3 : ¬ inT c < 0 := by omega
    have g4 : ¬ outT c < 0 := by omega
    have g5 : ¬ ((nameT c).size : Int) < 2 := by omega
    obtain ⟨L, eL⟩ : ∃ L, (pre.length : Int) = L := ⟨_, rfl⟩
    obtain ⟨L1, eL1⟩ : ∃ L1, L + 1 = L1 := ⟨_, rfl⟩
    have vL : IntKind.i64.wrap L1 = L1 := by rw [IntKind.wrap_i64]; omega
    rw [eL] at cN
    have HL : Hid ((pre.length : Int) = L) := eL
    obtain ⟨lc, elc⟩ : ∃ lc, lastC pre = lc := ⟨_, rfl⟩
    rw [elc] at cL
    have HC : Hid (lastC pre = lc) := elc
    have HQ : Hid (endsT c = true ∨ 1 ≤ gasT c) := q6
    have sB : ((nameT c).size : Int) ≤ 32 := by omega
    clear hlen hl1 eL elc q1 q2 q3 q4 q5 q6 q7 hnl
    have HB : Hid ((Boxed W w.heap.size 4 (.bool false) ∧ Boxed W (w.heap.size + 1) 3 (.int .i64 (pre.length : Int))) ∧ Boxed W (w.heap.size + 1 + 1) 3 (.int .i64 (lastC pre))) := ⟨⟨bR1, bN1⟩, bL1⟩
    by_cases hle : (c : Int) ≤ lc
    · gi_wp2
      refine ⟨KeepsOthers.from ?_ _, ?_⟩
      · repeat' (first | with_reducible exact KeepsOthers.setCell _ _ _ | with_reducible refine KeepsOthers.trans ?_ (KeepsOthers.setCell _ _ _))
      · exact BackAt.of rfl (by rw [HC.out]; exact hle)
    · cases hE : endsT c with
      | true =>
        rw [hE] at x6
        have OF : Hid (∀ V : World, Nms V → Calls Tryd.prog 10 #[.int .i64 (c : Int)] V fun e w' => e = .returned (.tuple #[.agg #[.int .i64 (c : Int), .string (nameT c), .int .i64 (immT c), .int .i64 (inT c), .int .i64 (outT c), .int .i64 (gasT c), .bool true], .bool true]) ∧ Below V.heap.size V w') := fun V hV => by have h := of_is c hc V hV hop; unfold opv at h; rw [hE] at h; exact h
        have BN : Hid (∀ V : World, Nms V → Calls Tryd.prog 13 #[.string (nameT c)] V fun e w' => e = .returned (.tuple #[.agg #[.int .i64 (c : Int), .string (nameT c), .int .i64 (immT c), .int .i64 (inT c), .int .i64 (outT c), .int .i64 (gasT c), .bool true], .bool true]) ∧ Below V.heap.size V w') := fun V hV => by have h := byName_row c hc hop V hV; unfold opv at h; rw [hE] at h; exact h
        have eqs := eq7_same
        have oW : Op7 ((W.setCell ⟨w.heap.size + 1, 0, none⟩ (.int .i64 L1)).setCell ⟨w.heap.size + 1 + 1, 0, none⟩ (.int .i64 (c : Int))) Bx (c : Int) (nameT c) (immT c) (inT c) (outT c) (gasT c) true := by refine ⟨?_, ?_, ?_, ?_, ?_, ?_, ?_⟩ <;> go_simp
        have kW : KeepsOthers W ((W.setCell ⟨w.heap.size + 1, 0, none⟩ (.int .i64 L1)).setCell ⟨w.heap.size + 1 + 1, 0, none⟩ (.int .i64 (c : Int))) := (KeepsOthers.setCell W _ _).trans (KeepsOthers.setCell _ _ _)
        have bW : Below w.heap.size W ((W.setCell ⟨w.heap.size + 1, 0, none⟩ (.int .i64 L1)).setCell ⟨w.heap.size + 1 + 1, 0, none⟩ (.int .i64 (c : Int))) := ((Below.refl w.heap.size W).setCell (p := ⟨w.heap.size + 1, 0, none⟩) (by simp) _).setCell (p := ⟨w.heap.size + 1 + 1, 0, none⟩) (by simp; omega) _
        have bN2 : Boxed ((W.setCell ⟨w.heap.size + 1, 0, none⟩ (.int .i64 L1)).setCell ⟨w.heap.size + 1 + 1, 0, none⟩ (.int .i64 (c : Int))) (w.heap.size + 1) 3 (.int .i64 L1) := (HB.out.1.2.set _).other (by omega) _
        have bL2 : Boxed ((W.setCell ⟨w.heap.size + 1, 0, none⟩ (.int .i64 L1)).setCell ⟨w.heap.size + 1 + 1, 0, none⟩ (.int .i64 (c : Int))) (w.heap.size + 1 + 1) 3 (.int .i64 (c : Int)) := (HB.out.2.other (by omega) _).set _
        have bR2 : Boxed ((W.setCell ⟨w.heap.size + 1, 0, none⟩ (.int .i64 L1)).setCell ⟨w.heap.size + 1 + 1, 0, none⟩ (.int .i64 (c : Int))) w.heap.size 4 (.bool false) := (HB.out.1.1.other (by omega) _).other (by omega) _
        gi_wp2
        generalize hW2 : ((W.setCell ⟨w.heap.size + 1, 0, none⟩ (.int .i64 L1)).setCell ⟨w.heap.size + 1 + 1, 0, none⟩ (.int .i64 (c : Int))) = W2 at oW bN2 bL2 bR2 kW bW ⊢
        have hN2 : Nms W2 := hN.past (hB1.trans bW)
        clear x0 x1 x2 x3 x4 x5 x6 cN fN cL fL cR fR g1 g2 g3 g4 hle
        refine ⟨trivial, (CallsIn.inRound l (callsIn_wide.2 (OF.out _ hN2))).mono ?_⟩
        rintro e w1 ⟨rfl, hB3⟩
        have o3 := (oW.past hB3).past ((Below.refl w1.heap.size w1).alloc (Nat.le_refl _) (.cells #[.int .i64 (c : Int), .string (nameT c), .int .i64 (immT c), .int .i64 (inT c), .int .i64 (outT c), .int .i64 (gasT c), .bool true] 24))
        have y3 := Op7.new w1 (c : Int) (nameT c) (immT c) (inT c) (outT c) (gasT c) true
        have b3 : Below W2.heap.size W2 (w1.alloc (.cells #[.int .i64 (c : Int), .string (nameT c), .int .i64 (immT c), .int .i64 (inT c), .int .i64 (outT c), .int .i64 (gasT c), .bool true] 24)) := hB3.alloc hB3.size _
        obtain ⟨x0, x1, x2, x3, x4, x5, x6⟩ := o3
        gi_wp2
        generalize w1.alloc (.cells #[.int .i64 (c : Int), .string (nameT c), .int .i64 (immT c), .int .i64 (inT c), .int .i64 (outT c), .int .i64 (gasT c), .bool true] 24) = V3 at x0 x1 x2 x3 x4 x5 x6 y3 b3 ⊢
        generalize w1.heap.size = qy at y3 ⊢
        clear hB3
        refine ⟨trivial, (CallsIn.inRound l (callsIn_wide.2 (BN.out _ (hN2.past b3)))).mono ?_⟩
        rintro e w2 ⟨rfl, hB4⟩
        have hA4 := (Below.refl w2.heap.size w2).alloc (Nat.le_refl _) (.cells #[.int .i64 (c : Int), .string (nameT c), .int .i64 (immT c), .int .i64 (inT c), .int .i64 (outT c), .int .i64 (gasT c), .bool true] 24)
        have o3b : Op7 V3 Bx (c : Int) (nameT c) (immT c) (inT c) (outT c) (gasT c) true := ⟨x0, x1, x2, x3, x4, x5, x6⟩
        have o4 := (o3b.past hB4).past hA4
        have y4 := (y3.past hB4).past hA4
        have z4 := Op7.new w2 (c : Int) (nameT c) (immT c) (inT c) (outT c) (gasT c) true
        have b4 : Below W2.heap.size W2 (w2.alloc (.cells #[.int .i64 (c : Int), .string (nameT c), .int .i64 (immT c), .int .i64 (inT c), .int .i64 (outT c), .int .i64 (gasT c), .bool true] 24)) := (b3.trans (hB4.mono b3.size)).alloc (b3.trans (hB4.mono b3.size)).size _
        clear x0 x1 x2 x3 x4 x5 x6 y3 b3 hB4 hA4
        have OO : Hid (Op7 (w2.alloc (.cells #[.int .i64 (c : Int), .string (nameT c), .int .i64 (immT c), .int .i64 (inT c), .int .i64 (outT c), .int .i64 (gasT c), .bool true] 24)) Bx (c : Int) (nameT c) (immT c) (inT c) (outT c) (gasT c) true) := o4
        obtain ⟨x0, x1, x2, x3, x4, x5, x6⟩ := o4
        obtain ⟨y0, y1, y2, y3, y4, y5, y6⟩ := y4
        obtain ⟨z0, z1, z2, z3, z4, z5, z6⟩ := z4
        gi_wp2
        clear y0 y1 y2 y3 y4 y5 y6 z0 z1 z2 z3 z4 z5 z6 x0 x2 x3 x4 x5 x6 OO eqs
        generalize w2.alloc (.cells #[.int .i64 (c : Int), .string (nameT c), .int .i64 (immT c), .int .i64 (inT c), .int .i64 (outT c), .int .i64 (gasT c), .bool true] 24) = V4 at x1 b4 ⊢
        gi_loopw [9] (fun si wx => ∃ i : Nat, i ≤ (nameT c).size ∧ si = .int .i64 (i : Int) ∧ wx = V4) (fun si _ => (nameT c).size - (intOf si).toNat)
        case atStart => exact ⟨0, by omega, rfl, rfl⟩
        case round =>
          obtain ⟨i, hi, rfl, rfl⟩ := hrel
          by_cases hlt2 : i < (nameT c).size
          · have iI : (i : Int) < ((nameT c).size : Int) := by omega
            obtain ⟨b, hix, hb⟩ := char_at c hc i hlt2
            rcases hb with ⟨b1, b2⟩ | ⟨b0, b1, b2⟩
            · have t1 : (65 : Int) ≤ (b : Int) := by omega
              have t2 : (b : Int) ≤ 90 := by omega
              gi_wp2
              go_roundw
              case rel => exact ⟨i + 1, by omega, by go_num, by first | rfl | trivial⟩
              case measure => first | go_num | (show _ < _; simp [intOf]; omega)
            · have t0 : (0 : Int) < (i : Int) := by omega
              have t1 : (48 : Int) ≤ (b : Int) := by omega
              have t2 : (b : Int) ≤ 57 := by omega
              have t3 : ¬ (65 : Int) ≤ (b : Int) := by omega
              gi_wp2
              go_roundw
              case rel => exact ⟨i + 1, by omega, by go_num, by first | rfl | trivial⟩
              case measure => first | go_num | (show _ < _; simp [intOf]; omega)
          · obtain rfl : i = (nameT c).size := by omega
            gi_wp2
            have hg4 := grown_of_below b4
            refine ⟨(kW.from _).trans (KeepsFrom.of_grownBy hg4 (fun j e => by cases e)), bW.trans (b4.mono (Nat.le_trans hB1.size bW.size)), ⟨⟨boxed_own _ _ (fun (_ : Unit) => Value.bool false) () W2 _ none bR2 hg4 (fun r e => by cases e), ?_⟩, ?_⟩, (hB1.trans bW).trans (b4.mono (Nat.le_trans hB1.size bW.size))⟩
            · have h := boxed_own _ _ (fun (_ : Unit) => Value.int .i64 L1) () W2 _ none bN2 hg4 (fun r e => by cases e)
              rw [show L1 = ((pre ++ [(⟨c, hc, hop⟩ : OpC)]).length : Int) by rw [← eL1, ← HL.out]; simp] at h
              exact h
            · have h := boxed_own _ _ (fun (_ : Unit) => Value.int .i64 (c : Int)) () W2 _ none bL2 hg4 (fun r e => by cases e)
              rw [lastC_snoc]
              exact h
      | false =>
        rw [hE] at x6
        have g6 : ¬ gasT c < 1 := by
          rcases HQ.out with h | h
          · rw [hE] at h; cases h
          · omega
        have OF : Hid (∀ V : World, Nms V → Calls Tryd.prog 10 #[.int .i64 (c : Int)] V fun e w' => e = .returned (.tuple #[.agg #[.int .i64 (c : Int), .string (nameT c), .int .i64 (immT c), .int .i64 (inT c), .int .i64 (outT c), .int .i64 (gasT c), .bool false], .bool true]) ∧ Below V.heap.size V w') := fun V hV => by have h := of_is c hc V hV hop; unfold opv at h; rw [hE] at h; exact h
        have BN : Hid (∀ V : World, Nms V → Calls Tryd.prog 13 #[.string (nameT c)] V fun e w' => e = .returned (.tuple #[.agg #[.int .i64 (c : Int), .string (nameT c), .int .i64 (immT c), .int .i64 (inT c), .int .i64 (outT c), .int .i64 (gasT c), .bool false], .bool true]) ∧ Below V.heap.size V w') := fun V hV => by have h := byName_row c hc hop V hV; unfold opv at h; rw [hE] at h; exact h
        have eqs := eq7_same
        have oW : Op7 ((W.setCell ⟨w.heap.size + 1, 0, none⟩ (.int .i64 L1)).setCell ⟨w.heap.size + 1 + 1, 0, none⟩ (.int .i64 (c : Int))) Bx (c : Int) (nameT c) (immT c) (inT c) (outT c) (gasT c) false := by refine ⟨?_, ?_, ?_, ?_, ?_, ?_, ?_⟩ <;> go_simp
        have kW : KeepsOthers W ((W.setCell ⟨w.heap.size + 1, 0, none⟩ (.int .i64 L1)).setCell ⟨w.heap.size + 1 + 1, 0, none⟩ (.int .i64 (c : Int))) := (KeepsOthers.setCell W _ _).trans (KeepsOthers.setCell _ _ _)
        have bW : Below w.heap.size W ((W.setCell ⟨w.heap.size + 1, 0, none⟩ (.int .i64 L1)).setCell ⟨w.heap.size + 1 + 1, 0, none⟩ (.int .i64 (c : Int))) := ((Below.refl w.heap.size W).setCell (p := ⟨w.heap.size + 1, 0, none⟩) (by simp) _).setCell (p := ⟨w.heap.size + 1 + 1, 0, none⟩) (by simp; omega) _
        have bN2 : Boxed ((W.setCell ⟨w.heap.size + 1, 0, none⟩ (.int .i64 L1)).setCell ⟨w.heap.size + 1 + 1, 0, none⟩ (.int .i64 (c : Int))) (w.heap.size + 1) 3 (.int .i64 L1) := (HB.out.1.2.set _).other (by omega) _
        have bL2 : Boxed ((W.setCell ⟨w.heap.size + 1, 0, none⟩ (.int .i64 L1)).setCell ⟨w.heap.size + 1 + 1, 0, none⟩ (.int .i64 (c : Int))) (w.heap.size + 1 + 1) 3 (.int .i64 (c : Int)) := (HB.out.2.other (by omega) _).set _
        have bR2 : Boxed ((W.setCell ⟨w.heap.size + 1, 0, none⟩ (.int .i64 L1)).setCell ⟨w.heap.size + 1 + 1, 0, none⟩ (.int .i64 (c : Int))) w.heap.size 4 (.bool false) := (HB.out.1.1.other (by omega) _).other (by omega) _
        gi_wp2
        generalize hW2 : ((W.setCell ⟨w.heap.size + 1, 0, none⟩ (.int .i64 L1)).setCell ⟨w.heap.size + 1 + 1, 0, none⟩ (.int .i64 (c : Int))) = W2 at oW bN2 bL2 bR2 kW bW ⊢
        have hN2 : Nms W2 := hN.past (hB1.trans bW)
        clear x0 x1 x2 x3 x4 x5 x6 cN fN cL fL cR fR g1 g2 g3 g4 hle
        refine ⟨trivial, (CallsIn.inRound l (callsIn_wide.2 (OF.out _ hN2))).mono ?_⟩
        rintro e w1 ⟨rfl, hB3⟩
        have o3 := (oW.past hB3).past ((Below.refl w1.heap.size w1).alloc (Nat.le_refl _) (.cells #[.int .i64 (c : Int), .string (nameT c), .int .i64 (immT c), .int .i64 (inT c), .int .i64 (outT c), .int .i64 (gasT c), .bool false] 24))
        have y3 := Op7.new w1 (c : Int) (nameT c) (immT c) (inT c) (outT c) (gasT c) false
        have b3 : Below W2.heap.size W2 (w1.alloc (.cells #[.int .i64 (c : Int), .string (nameT c), .int .i64 (immT c), .int .i64 (inT c), .int .i64 (outT c), .int .i64 (gasT c), .bool false] 24)) := hB3.alloc hB3.size _
        obtain ⟨x0, x1, x2, x3, x4, x5, x6⟩ := o3
        gi_wp2
        generalize w1.alloc (.cells #[.int .i64 (c : Int), .string (nameT c), .int .i64 (immT c), .int .i64 (inT c), .int .i64 (outT c), .int .i64 (gasT c), .bool false] 24) = V3 at x0 x1 x2 x3 x4 x5 x6 y3 b3 ⊢
        generalize w1.heap.size = qy at y3 ⊢
        clear hB3
        refine ⟨trivial, (CallsIn.inRound l (callsIn_wide.2 (BN.out _ (hN2.past b3)))).mono ?_⟩
        rintro e w2 ⟨rfl, hB4⟩
        have hA4 := (Below.refl w2.heap.size w2).alloc (Nat.le_refl _) (.cells #[.int .i64 (c : Int), .string (nameT c), .int .i64 (immT c), .int .i64 (inT c), .int .i64 (outT c), .int .i64 (gasT c), .bool false] 24)
        have o3b : Op7 V3 Bx (c : Int) (nameT c) (immT c) (inT c) (outT c) (gasT c) false := ⟨x0, x1, x2, x3, x4, x5, x6⟩
        have o4 := (o3b.past hB4).past hA4
        have y4 := (y3.past hB4).past hA4
        have z4 := Op7.new w2 (c : Int) (nameT c) (immT c) (inT c) (outT c) (gasT c) false
        have b4 : Below W2.heap.size W2 (w2.alloc (.cells #[.int .i64 (c : Int), .string (nameT c), .int .i64 (immT c), .int .i64 (inT c), .int .i64 (outT c), .int .i64 (gasT c), .bool false] 24)) := (b3.trans (hB4.mono b3.size)).alloc (b3.trans (hB4.mono b3.size)).size _
        clear x0 x1 x2 x3 x4 x5 x6 y3 b3 hB4 hA4
        have OO : Hid (Op7 (w2.alloc (.cells #[.int .i64 (c : Int), .string (nameT c), .int .i64 (immT c), .int .i64 (inT c), .int .i64 (outT c), .int .i64 (gasT c), .bool false] 24)) Bx (c : Int) (nameT c) (immT c) (inT c) (outT c) (gasT c) false) := o4
        obtain ⟨x0, x1, x2, x3, x4, x5, x6⟩ := o4
        obtain ⟨y0, y1, y2, y3, y4, y5, y6⟩ := y4
        obtain ⟨z0, z1, z2, z3, z4, z5, z6⟩ := z4
        gi_wp2
        clear y0 y1 y2 y3 y4 y5 y6 z0 z1 z2 z3 z4 z5 z6 x0 x2 x3 x4 x5 x6 OO eqs
        generalize w2.alloc (.cells #[.int .i64 (c : Int), .string (nameT c), .int .i64 (immT c), .int .i64 (inT c), .int .i64 (outT c), .int .i64 (gasT c), .bool false] 24) = V4 at x1 b4 ⊢
        gi_loopw [9] (fun si wx => ∃ i : Nat, i ≤ (nameT c).size ∧ si = .int .i64 (i : Int) ∧ wx = V4) (fun si _ => (nameT c).size - (intOf si).toNat)
        case atStart => exact ⟨0, by omega, rfl, rfl⟩
        case round =>
          obtain ⟨i, hi, rfl, rfl⟩ := hrel
          by_cases hlt2 : i < (nameT c).size
          · have iI : (i : Int) < ((nameT c).size : Int) := by omega
            obtain ⟨b, hix, hb⟩ := char_at c hc i hlt2
            rcases hb with ⟨b1, b2⟩ | ⟨b0, b1, b2⟩
            · have t1 : (65 : Int) ≤ (b : Int) := by omega
              have t2 : (b : Int) ≤ 90 := by omega
              gi_wp2
              go_roundw
              case rel => exact ⟨i + 1, by omega, by go_num, by first | rfl | trivial⟩
              case measure => first | go_num | (show _ < _; simp [intOf]; omega)
            · have t0 : (0 : Int) < (i : Int) := by omega
              have t1 : (48 : Int) ≤ (b : Int) := by omega
              have t2 : (b : Int) ≤ 57 := by omega
              have t3 : ¬ (65 : Int) ≤ (b : Int) := by omega
              gi_wp2
              go_roundw
              case rel => exact ⟨i + 1, by omega, by go_num, by first | rfl | trivial⟩
              case measure => first | go_num | (show _ < _; simp [intOf]; omega)
          · obtain rfl : i = (nameT c).size := by omega
            gi_wp2
            have hg4 := grown_of_below b4
            refine ⟨(kW.from _).trans (KeepsFrom.of_grownBy hg4 (fun j e => by cases e)), bW.trans (b4.mono (Nat.le_trans hB1.size bW.size)), ⟨⟨boxed_own _ _ (fun (_ : Unit) => Value.bool false) () W2 _ none bR2 hg4 (fun r e => by cases e), ?_⟩, ?_⟩, (hB1.trans bW).trans (b4.mono (Nat.le_trans hB1.size bW.size))⟩
            · have h := boxed_own _ _ (fun (_ : Unit) => Value.int .i64 L1) () W2 _ none bN2 hg4 (fun r e => by cases e)
              rw [show L1 = ((pre ++ [(⟨c, hc, hop⟩ : OpC)]).length : Int) by rw [← eL1, ← HL.out]; simp] at h
              exact h
            · have h := boxed_own _ _ (fun (_ : Unit) => Value.int .i64 (c : Int)) () W2 _ none bL2 hg4 (fun r e => by cases e)
              rw [lastC_snoc]
              exact h
  case done =>
    rintro D zs W hD rfl ⟨⟨⟨bR1, bN1⟩, bL1⟩, hB1⟩ hK
    have hDl : D < W.heap.size := (Array.getElem?_eq_some_iff.1 hK).1
    rw [ops_many] at bN1
    have cN := bN1.cell
    have cR := bR1.cell
    have fR := bR1.frozen
    gi_wp2
    have hK9 : (W.setCell ⟨w.heap.size, 0, none⟩ (.bool true)).heap[D]? = some (.deferred (some [])) := ((KeepsOthers.setCell W _ _).same D _ hK rfl)
    have cE : (W.setCell ⟨w.heap.size, 0, none⟩ (.bool true)).cell? ⟨w.heap.size, 0, none⟩ = some (.bool true) := World.cell?_setCell_same' _ _ _ (by rw [cR]; rfl)
    have hBe : Below w.heap.size w (W.setCell ⟨w.heap.size, 0, none⟩ (.bool true)) := hB1.setCell (p := ⟨w.heap.size, 0, none⟩) (by simp) _
    refine ⟨by simp, .inl ⟨_, _, rfl, run_takeDeferred hK9, ?_⟩⟩
    have cF := cell_kept cE (grownBy_putObj' _ D (.deferred none)) (fun r e => by cases e; exact ⟨_, hK9, rfl⟩)
    have hBf := hBe.trans (belowK_b (w := w) (Nat.le_refl _) _ D _ (.deferred none) (by omega) hK9 rfl rfl)
    exact ⟨_, results_one rfl _ _ _ ⟨w.heap.size, 0, none⟩ rfl (by go_simp), rfl, hBf⟩
  case stop =>
    rintro D c pre W _ hpre ⟨_, p, x, rfl, hle⟩ _
    have := next_above hpre
    omega
end Go.Proofs.YtipdaiacapjfnaaDoor
