/- Package container: checkTypes, Check. -/
import Derived.Test.YtndhabhlajldeaaBkc
namespace Go.Proofs.Ytndhabhlajldeaa
open Go.RowKit
/-- the boxes of checkTypes: the parts, and the type that is looked at -/
structure CkT (w V : World) (bp bt : Nat) (t : Ty) : Prop where
  bel : Below w.heap.size w V
  cp : CBox V bp 109 partsL
  ct : CBox V bt 77 [.int .i64 t.1, .int .i64 t.2.1, .int .i64 t.2.2]
theorem CBox.past {W W' : World} {B : Nat} {t : TypeId} {l : List Value} (h : CBox W B t l) (k : Below W.heap.size W W') : CBox W' B t l := h.but (below_but (S := fun _ => False) k) id
theorem CkT.past {w V V' : World} {bp bt : Nat} {t : Ty} (h : CkT w V bp bt t) (k : Below V.heap.size V V') : CkT w V' bp bt t := ⟨h.bel.trans (k.mono h.bel.size), h.cp.past k, h.ct.past k⟩
theorem below_drew {V : World} : Below V.heap.size V V.drew := (Below.refl _ _).drew
theorem below_alloc (V : World) (o : Obj) : Below V.heap.size V (V.alloc o) := (Below.refl _ _).alloc (Nat.le_refl _) _
/-- a box with a part -/
theorem tyBad_of {i : Nat} {t : Ty} (h0 : okIn i t.1 = true) (h1 : okOut i t.2.1 = true) (h2 : okMost t.2.2 = true) : tyBad i t = 3 := by unfold tyBad; simp [h0, h1, h2]
theorem ixp0 (W : World) : Sem.run Try.prog (Instr.index 109 (.agg #[.int .i64 1, .func (.func 106) #[] #[], .func (.func 107) #[] #[], .int .i64 1, .func (.func 108) #[] #[], .func (.func 109) #[] #[], .int .i64 2, .func (.func 110) #[] #[], .func (.func 111) #[] #[]]) (.int .i64 0)) W = .ok (.agg #[.int .i64 1, .func (.func 106) #[] #[], .func (.func 107) #[] #[]]) W := by kernel_rfl
theorem ixp1 (W : World) : Sem.run Try.prog (Instr.index 109 (.agg #[.int .i64 1, .func (.func 106) #[] #[], .func (.func 107) #[] #[], .int .i64 1, .func (.func 108) #[] #[], .func (.func 109) #[] #[], .int .i64 2, .func (.func 110) #[] #[], .func (.func 111) #[] #[]]) (.int .i64 1)) W = .ok (.agg #[.int .i64 1, .func (.func 108) #[] #[], .func (.func 109) #[] #[]]) W := by kernel_rfl
theorem ixp2 (W : World) : Sem.run Try.prog (Instr.index 109 (.agg #[.int .i64 1, .func (.func 106) #[] #[], .func (.func 107) #[] #[], .int .i64 1, .func (.func 108) #[] #[], .func (.func 109) #[] #[], .int .i64 2, .func (.func 110) #[] #[], .func (.func 111) #[] #[]]) (.int .i64 2)) W = .ok (.agg #[.int .i64 2, .func (.func 110) #[] #[], .func (.func 111) #[] #[]]) W := by kernel_rfl
set_option maxHeartbeats 4000000 in
set_option maxRecDepth 100000 in
theorem checkTypes_is {P : Nat → Prop} (w : World) (v : Value) (ts : List Ty) (h : TL P w v ts) : Calls Try.prog 57 #[v] w fun e w' => e = .returned (.int .i64 (chkT 0 ts)) ∧ Below w.heap.size w w' := by
  obtain ⟨ad, cap, rfl, hc0, hc1⟩ := h.len
  have HP : Hid (TL P w (.slice ad ts.length cap) ts) := h
  have HD : Hid (chkT 0 ts = chkT 0 (ts.drop 0)) := by unfold Hid; rw [List.drop_zero]
  have nI : (ts.length : Int) ≤ 1152921504606846976 := by omega
  generalize hn : ts.length = n at *
  have HN : Hid (ts.length = n) := hn
  clear h hc0 hc1 hn
  generalize hr : chkT 0 ts = r at *
  clear hr
  go_enter Try.func57, Try.ntmps57
  go_upto_region 2 with (go_at_call 87; refine (typeParts_is _).mono ?_; rintro e w1 ⟨rfl, hB1⟩; unfold partsV partsL pF)
  have C0 : Hid (Below w.heap.size w (w1.alloc (.cells partsL.toArray 109)) ∧ CBox (w1.alloc (.cells partsL.toArray 109)) w1.heap.size 109 partsL) := ⟨hB1.trans ((below_alloc _ _).mono hB1.size), CBox.new _ _ _⟩
  unfold partsL pF at C0
  clear hB1
  generalize w1.alloc _ = V0 at C0 ⊢
  generalize w1.heap.size = bp at C0 ⊢
  go_wp2
  go_loopw [11] (fun s11 wr => ∃ k : Nat, s11 = .int .i64 (k : Int) ∧ k ≤ n ∧ r = chkT k (ts.drop k) ∧ Below w.heap.size w wr ∧ CBox wr bp 109 partsL) (fun s11 _ => n - (intOf s11).toNat)
  case atStart => exact ⟨0, rfl, by omega, HD.out, C0.out⟩
  case round =>
    obtain ⟨k, rfl, hk, hr, hB, hC⟩ := hrel
    have HR : Hid (r = chkT k (ts.drop k)) := hr
    have HB : Hid (Below w.heap.size w wr ∧ CBox wr bp 109 partsL) := ⟨hB, hC⟩
    clear hr HD C0 hB hC
    by_cases e : k = n
    · subst e
      have E0 : Hid (r = 0) := by unfold Hid; rw [HR.out, List.drop_eq_nil_of_le (by have := HN.out; omega)]; rfl
      go_wp2
      go_ret
      exact ⟨by rw [E0.out]; rfl, HB.out.1⟩
    · have kn : k < n := by omega
      have knI : (k : Int) < (n : Int) := by omega
      obtain ⟨⟨t1, t2, t3⟩, hl⟩ : ∃ t, ts[k]? = some t := ⟨ts[k]'(by have := HN.out; omega), List.getElem?_eq_getElem _⟩
      obtain ⟨g, a, rfl, d0, d1, d2⟩ := HP.out.get hl
      have EL : Hid (chkT k (ts.drop k) = if tyBad k (t1, t2, t3) < 3 then 59 else chkT (k + 1) (ts.drop (k + 1))) := by unfold Hid; rw [drop_at hl]; rfl
      have f0 := (HB.out.1.cell (p := ⟨g, a + k * 3, none⟩) (World.block_lt_of_cell? w _ d0)).trans d0
      have f1 := (HB.out.1.cell (p := ⟨g, a + k * 3 + 1, none⟩) (World.block_lt_of_cell? w _ d1)).trans d1
      have f2 := (HB.out.1.cell (p := ⟨g, a + k * 3 + 2, none⟩) (World.block_lt_of_cell? w _ d2)).trans d2
      have CT : Hid (CkT w (wr.alloc (.cells #[.int .i64 t1, .int .i64 t2, .int .i64 t3] 77)) bp wr.heap.size (t1, t2, t3)) := ⟨HB.out.1.trans ((below_alloc _ _).mono HB.out.1.size), HB.out.2.past (below_alloc _ _), CBox.new _ _ [_, _, _]⟩
      clear hl d0 d1 d2
      go_upto_region 5 with fail
      generalize wr.alloc _ = V1 at CT ⊢
      generalize wr.heap.size = bt at CT ⊢
      clear f0 f1 f2
      have p0 : V1.cell? ⟨bp, 0, none⟩ = some (.int .i64 1) := CT.out.cp.cell 0
      have p1 : V1.cell? ⟨bp, 1, none⟩ = some (.func (.func 106) #[] #[]) := CT.out.cp.cell 1
      have p2 : V1.cell? ⟨bp, 2, none⟩ = some (.func (.func 107) #[] #[]) := CT.out.cp.cell 2
      have p3 : V1.cell? ⟨bp, 3, none⟩ = some (.int .i64 1) := CT.out.cp.cell 3
      have p4 : V1.cell? ⟨bp, 4, none⟩ = some (.func (.func 108) #[] #[]) := CT.out.cp.cell 4
      have p5 : V1.cell? ⟨bp, 5, none⟩ = some (.func (.func 109) #[] #[]) := CT.out.cp.cell 5
      have p6 : V1.cell? ⟨bp, 6, none⟩ = some (.int .i64 2) := CT.out.cp.cell 6
      have p7 : V1.cell? ⟨bp, 7, none⟩ = some (.func (.func 110) #[] #[]) := CT.out.cp.cell 7
      have p8 : V1.cell? ⟨bp, 8, none⟩ = some (.func (.func 111) #[] #[]) := CT.out.cp.cell 8
      go_wp2
      clear p0 p1 p2 p3 p4 p5 p6 p7 p8
      go_loopw [17] (fun s17 wq => ∃ j : Nat, s17 = .int .i64 (j : Int) ∧ j ≤ 3 ∧ CkT w wq bp bt (t1, t2, t3) ∧ (0 < j → okIn k t1 = true) ∧ (1 < j → okOut k t2 = true) ∧ (2 < j → okMost t3 = true)) (fun s17 _ => 3 - (intOf s17).toNat)
      case atStart => exact ⟨0, rfl, by omega, CT.out, fun h => absurd h (by omega), fun h => absurd h (by omega), fun h => absurd h (by omega)⟩
      case round =>
        obtain ⟨j, rfl, hj, hC, q0, q1, q2⟩ := hrel
        rename_i wr0 _ _ _ _ _ _
        have HC : Hid (CkT w wr bp bt (t1, t2, t3)) := hC
        have Q0 : Hid ((0 < j → okIn k t1 = true) ∧ (1 < j → okOut k t2 = true) ∧ (2 < j → okMost t3 = true)) := ⟨q0, q1, q2⟩
        clear hC q0 q1 q2 CT
        obtain rfl | rfl | rfl | rfl : j = 3 ∨ j = 0 ∨ j = 1 ∨ j = 2 := by omega
        · have E0 : Hid (r = chkT (k + 1) (ts.drop (k + 1))) := by unfold Hid; rw [HR.out, EL.out, tyBad_of (Q0.out.1 (by omega)) (Q0.out.2.1 (by omega)) (Q0.out.2.2 (by omega)), if_neg (by omega)]
          go_wp2
          go_roundw
          case rel => exact ⟨k + 1, by first | rfl | go_num, by omega, E0.out, HC.out.bel, HC.out.cp⟩
          case measure => simp [intOf]; omega
        · have C7 : Hid (CkT w (wr.alloc (.cells #[.int .i64 1, .func (.func 106) #[] #[], .func (.func 107) #[] #[]] 108)) bp bt (t1, t2, t3) ∧ CBox (wr.alloc (.cells #[.int .i64 1, .func (.func 106) #[] #[], .func (.func 107) #[] #[]] 108)) wr.heap.size 108 [.int .i64 1, .func (.func 106) #[] #[], .func (.func 107) #[] #[]]) := ⟨HC.out.past (below_alloc _ _), CBox.new _ _ [_, _, _]⟩
          have ix := ixp0 wr
          go_upto_region 8 with fail
          clear ix
          generalize wr.alloc _ = V7 at C7 ⊢
          generalize wr.heap.size = b7 at C7 ⊢
          have S7 : CkT w V7.drew bp bt (t1, t2, t3) ∧ CBox V7.drew b7 108 [.int .i64 1, .func (.func 106) #[] #[], .func (.func 107) #[] #[]] := ⟨C7.out.1.past below_drew, C7.out.2.past below_drew⟩
          cases ev : okIn k t1 with
          | true =>
            have EV : Hid (okIn k t1 = true) := ev
            clear ev
            refine wp_region_held_drew (S := fun V' => CkT w V' bp bt (t1, t2, t3) ∧ CBox V' b7 108 [.int .i64 1, pF 106, pF 107]) (by kernel_rfl) S7 (fun hHeld => ?_)
            generalize V7.drew = z0 at hHeld ⊢
            refine wpAnyH_take (i := 0) (v := .pointer (some ⟨b7, 2, none⟩)) ov0 (by kernel_rfl) (by kernel_rfl) (by kernel_rfl) (fun _ _ _ h => h) (Or.inl ⟨by rfl, fun V' hS => ?_⟩) hHeld ?_
            · go_simp
            simp only [Act.put, List.setIfInBounds_toArray, List.set_cons_zero, List.set_cons_succ]
            refine wpAnyH_take (i := 1) (v := .func (.func 107) #[] #[]) ov1 (by kernel_rfl) (by kernel_rfl) (by kernel_rfl) (fun _ _ _ h => h) (Or.inl ⟨by rfl, fun V' hS => ?_⟩) hHeld ?_
            · have c2 : V'.cell? ⟨b7, 2, none⟩ = some (.func (.func 107) #[] #[]) := hS.2.cell 2
              go_simp
            simp only [Act.put, List.setIfInBounds_toArray, List.set_cons_zero, List.set_cons_succ]
            refine wpAnyH_take (i := 2) (v := .int .i64 (k : Int)) ov2 (by kernel_rfl) (by kernel_rfl) (by kernel_rfl) (fun _ _ _ h => h) (Or.inl ⟨by rfl, fun V' hS => ?_⟩) hHeld ?_
            · go_simp
            simp only [Act.put, List.setIfInBounds_toArray, List.set_cons_zero, List.set_cons_succ]
            refine wpAnyH_take (i := 3) (v := .pointer (some ⟨b7, 1, none⟩)) ov3 (by kernel_rfl) (by kernel_rfl) (by kernel_rfl) (fun _ _ _ h => h) (Or.inl ⟨by rfl, fun V' hS => ?_⟩) hHeld ?_
            · go_simp
            simp only [Act.put, List.setIfInBounds_toArray, List.set_cons_zero, List.set_cons_succ]
            refine wpAnyH_take (i := 4) (v := .func (.func 106) #[] #[]) ov4 (by kernel_rfl) (by kernel_rfl) (by kernel_rfl) (fun _ _ _ h => h) (Or.inl ⟨by rfl, fun V' hS => ?_⟩) hHeld ?_
            · have c1 : V'.cell? ⟨b7, 1, none⟩ = some (.func (.func 106) #[] #[]) := hS.2.cell 1
              go_simp
            simp only [Act.put, List.setIfInBounds_toArray, List.set_cons_zero, List.set_cons_succ]
            refine wpAnyH_ready (rs := [5]) (by kernel_rfl) (by simp) ?_
            refine AllReadyH.cons ov5 (fun K hK => ?_) AllReadyH.nil
            rw [if_pos (by rfl)]
            go_simp
            refine (of0_is _ bt 0).mono ?_
            rintro e w' ⟨rfl, hw⟩
            have hw2 := hw.symm
            clear hw
            subst hw2
            (try go_wp2_with fail)
            refine hK.out _ _ hHeld (fun _ => ?_)
            clear hK K
            (try simp only [Act.put, List.setIfInBounds_toArray, List.set_cons_zero, List.set_cons_succ])
            refine wpAnyH_take (i := 6) (v := .pointer (some ⟨bt, 0, none⟩)) ov6 (by kernel_rfl) (by kernel_rfl) (by kernel_rfl) (fun _ _ _ h => h) (Or.inl ⟨by rfl, fun V' hS => ?_⟩) hHeld ?_
            · go_simp
            simp only [Act.put, List.setIfInBounds_toArray, List.set_cons_zero, List.set_cons_succ]
            refine wpAnyH_take (i := 7) (v := .int .i64 t1) ov7 (by kernel_rfl) (by kernel_rfl) (by kernel_rfl) (fun _ _ _ h => h) (Or.inl ⟨by rfl, fun V' hS => ?_⟩) hHeld ?_
            · have ct : V'.cell? ⟨bt, 0, none⟩ = some (.int .i64 t1) := hS.1.ct.cell 0
              go_simp
            simp only [Act.put, List.setIfInBounds_toArray, List.set_cons_zero, List.set_cons_succ]
            refine wpAnyH_ready (rs := [8]) (by kernel_rfl) (by simp) ?_
            refine AllReadyH.cons ov8 (fun K hK => ?_) AllReadyH.nil
            rw [if_pos (by rfl)]
            go_simp
            refine (right0_is _ k t1).mono ?_
            rintro e w' ⟨rfl, hw⟩
            have hw2 := hw.symm
            clear hw
            subst hw2
            rw [EV.out]
            (try go_wp2_with fail)
            refine hK.out _ _ hHeld (fun _ => ?_)
            clear hK K
            (try simp only [Act.put, List.setIfInBounds_toArray, List.set_cons_zero, List.set_cons_succ])
            refine wpAnyH_take (i := 9) (v := .bool false) ov9 (by kernel_rfl) (by kernel_rfl) (by kernel_rfl) (fun _ _ _ h => h) (Or.inl ⟨by rfl, fun V' hS => ?_⟩) hHeld ?_
            · go_simp
            simp only [Act.put, List.setIfInBounds_toArray, List.set_cons_zero, List.set_cons_succ]
            refine wpAnyH_done (by kernel_rfl) ?_ _
            go_wp2
            go_roundw
            case rel => exact ⟨1, by first | rfl | go_num, by omega, hHeld.1, fun _ => EV.out, fun h => absurd h (by omega), fun h => absurd h (by omega)⟩
            case measure => simp [intOf]
          | false =>
            have EV : Hid (okIn k t1 = false) := ev
            clear ev
            have E0 : Hid (r = 59) := by unfold Hid; rw [HR.out, EL.out, if_pos (by unfold tyBad; simp [EV.out])]
            refine wp_region_held_drew (S := fun V' => CkT w V' bp bt (t1, t2, t3) ∧ CBox V' b7 108 [.int .i64 1, pF 106, pF 107]) (by kernel_rfl) S7 (fun hHeld => ?_)
            generalize V7.drew = z0 at hHeld ⊢
            refine wpAnyH_take (i := 0) (v := .pointer (some ⟨b7, 2, none⟩)) ov0 (by kernel_rfl) (by kernel_rfl) (by kernel_rfl) (fun _ _ _ h => h) (Or.inl ⟨by rfl, fun V' hS => ?_⟩) hHeld ?_
            · go_simp
            simp only [Act.put, List.setIfInBounds_toArray, List.set_cons_zero, List.set_cons_succ]
            refine wpAnyH_take (i := 1) (v := .func (.func 107) #[] #[]) ov1 (by kernel_rfl) (by kernel_rfl) (by kernel_rfl) (fun _ _ _ h => h) (Or.inl ⟨by rfl, fun V' hS => ?_⟩) hHeld ?_
            · have c2 : V'.cell? ⟨b7, 2, none⟩ = some (.func (.func 107) #[] #[]) := hS.2.cell 2
              go_simp
            simp only [Act.put, List.setIfInBounds_toArray, List.set_cons_zero, List.set_cons_succ]
            refine wpAnyH_take (i := 2) (v := .int .i64 (k : Int)) ov2 (by kernel_rfl) (by kernel_rfl) (by kernel_rfl) (fun _ _ _ h => h) (Or.inl ⟨by rfl, fun V' hS => ?_⟩) hHeld ?_
            · go_simp
            simp only [Act.put, List.setIfInBounds_toArray, List.set_cons_zero, List.set_cons_succ]
            refine wpAnyH_take (i := 3) (v := .pointer (some ⟨b7, 1, none⟩)) ov3 (by kernel_rfl) (by kernel_rfl) (by kernel_rfl) (fun _ _ _ h => h) (Or.inl ⟨by rfl, fun V' hS => ?_⟩) hHeld ?_
            · go_simp
            simp only [Act.put, List.setIfInBounds_toArray, List.set_cons_zero, List.set_cons_succ]
            refine wpAnyH_take (i := 4) (v := .func (.func 106) #[] #[]) ov4 (by kernel_rfl) (by kernel_rfl) (by kernel_rfl) (fun _ _ _ h => h) (Or.inl ⟨by rfl, fun V' hS => ?_⟩) hHeld ?_
            · have c1 : V'.cell? ⟨b7, 1, none⟩ = some (.func (.func 106) #[] #[]) := hS.2.cell 1
              go_simp
            simp only [Act.put, List.setIfInBounds_toArray, List.set_cons_zero, List.set_cons_succ]
            refine wpAnyH_ready (rs := [5]) (by kernel_rfl) (by simp) ?_
            refine AllReadyH.cons ov5 (fun K hK => ?_) AllReadyH.nil
            rw [if_pos (by rfl)]
            go_simp
            refine (of0_is _ bt 0).mono ?_
            rintro e w' ⟨rfl, hw⟩
            have hw2 := hw.symm
            clear hw
            subst hw2
            (try go_wp2_with fail)
            refine hK.out _ _ hHeld (fun _ => ?_)
            clear hK K
            (try simp only [Act.put, List.setIfInBounds_toArray, List.set_cons_zero, List.set_cons_succ])
            refine wpAnyH_take (i := 6) (v := .pointer (some ⟨bt, 0, none⟩)) ov6 (by kernel_rfl) (by kernel_rfl) (by kernel_rfl) (fun _ _ _ h => h) (Or.inl ⟨by rfl, fun V' hS => ?_⟩) hHeld ?_
            · go_simp
            simp only [Act.put, List.setIfInBounds_toArray, List.set_cons_zero, List.set_cons_succ]
            refine wpAnyH_take (i := 7) (v := .int .i64 t1) ov7 (by kernel_rfl) (by kernel_rfl) (by kernel_rfl) (fun _ _ _ h => h) (Or.inl ⟨by rfl, fun V' hS => ?_⟩) hHeld ?_
            · have ct : V'.cell? ⟨bt, 0, none⟩ = some (.int .i64 t1) := hS.1.ct.cell 0
              go_simp
            simp only [Act.put, List.setIfInBounds_toArray, List.set_cons_zero, List.set_cons_succ]
            refine wpAnyH_ready (rs := [8]) (by kernel_rfl) (by simp) ?_
            refine AllReadyH.cons ov8 (fun K hK => ?_) AllReadyH.nil
            rw [if_pos (by rfl)]
            go_simp
            refine (right0_is _ k t1).mono ?_
            rintro e w' ⟨rfl, hw⟩
            have hw2 := hw.symm
            clear hw
            subst hw2
            rw [EV.out]
            (try go_wp2_with fail)
            refine hK.out _ _ hHeld (fun _ => ?_)
            clear hK K
            (try simp only [Act.put, List.setIfInBounds_toArray, List.set_cons_zero, List.set_cons_succ])
            refine wpAnyH_take (i := 9) (v := .bool true) ov9 (by kernel_rfl) (by kernel_rfl) (by kernel_rfl) (fun _ _ _ h => h) (Or.inl ⟨by rfl, fun V' hS => ?_⟩) hHeld ?_
            · go_simp
            simp only [Act.put, List.setIfInBounds_toArray, List.set_cons_zero, List.set_cons_succ]
            refine wpAnyH_done (by kernel_rfl) ?_ _
            go_wp2
            go_ret
            exact ⟨by rw [E0.out]; rfl, hHeld.1.bel⟩
        · have C7 : Hid (CkT w (wr.alloc (.cells #[.int .i64 1, .func (.func 108) #[] #[], .func (.func 109) #[] #[]] 108)) bp bt (t1, t2, t3) ∧ CBox (wr.alloc (.cells #[.int .i64 1, .func (.func 108) #[] #[], .func (.func 109) #[] #[]] 108)) wr.heap.size 108 [.int .i64 1, .func (.func 108) #[] #[], .func (.func 109) #[] #[]]) := ⟨HC.out.past (below_alloc _ _), CBox.new _ _ [_, _, _]⟩
          have ix := ixp1 wr
          go_upto_region 8 with fail
          clear ix
          generalize wr.alloc _ = V7 at C7 ⊢
          generalize wr.heap.size = b7 at C7 ⊢
          have S7 : CkT w V7.drew bp bt (t1, t2, t3) ∧ CBox V7.drew b7 108 [.int .i64 1, .func (.func 108) #[] #[], .func (.func 109) #[] #[]] := ⟨C7.out.1.past below_drew, C7.out.2.past below_drew⟩
          cases ev : okOut k t2 with
          | true =>
            have EV : Hid (okOut k t2 = true) := ev
            clear ev
            refine wp_region_held_drew (S := fun V' => CkT w V' bp bt (t1, t2, t3) ∧ CBox V' b7 108 [.int .i64 1, pF 108, pF 109]) (by kernel_rfl) S7 (fun hHeld => ?_)
            generalize V7.drew = z0 at hHeld ⊢
            refine wpAnyH_take (i := 0) (v := .pointer (some ⟨b7, 2, none⟩)) ov0 (by kernel_rfl) (by kernel_rfl) (by kernel_rfl) (fun _ _ _ h => h) (Or.inl ⟨by rfl, fun V' hS => ?_⟩) hHeld ?_
            · go_simp
            simp only [Act.put, List.setIfInBounds_toArray, List.set_cons_zero, List.set_cons_succ]
            refine wpAnyH_take (i := 1) (v := .func (.func 109) #[] #[]) ov1 (by kernel_rfl) (by kernel_rfl) (by kernel_rfl) (fun _ _ _ h => h) (Or.inl ⟨by rfl, fun V' hS => ?_⟩) hHeld ?_
            · have c2 : V'.cell? ⟨b7, 2, none⟩ = some (.func (.func 109) #[] #[]) := hS.2.cell 2
              go_simp
            simp only [Act.put, List.setIfInBounds_toArray, List.set_cons_zero, List.set_cons_succ]
            refine wpAnyH_take (i := 2) (v := .int .i64 (k : Int)) ov2 (by kernel_rfl) (by kernel_rfl) (by kernel_rfl) (fun _ _ _ h => h) (Or.inl ⟨by rfl, fun V' hS => ?_⟩) hHeld ?_
            · go_simp
            simp only [Act.put, List.setIfInBounds_toArray, List.set_cons_zero, List.set_cons_succ]
            refine wpAnyH_take (i := 3) (v := .pointer (some ⟨b7, 1, none⟩)) ov3 (by kernel_rfl) (by kernel_rfl) (by kernel_rfl) (fun _ _ _ h => h) (Or.inl ⟨by rfl, fun V' hS => ?_⟩) hHeld ?_
            · go_simp
            simp only [Act.put, List.setIfInBounds_toArray, List.set_cons_zero, List.set_cons_succ]
            refine wpAnyH_take (i := 4) (v := .func (.func 108) #[] #[]) ov4 (by kernel_rfl) (by kernel_rfl) (by kernel_rfl) (fun _ _ _ h => h) (Or.inl ⟨by rfl, fun V' hS => ?_⟩) hHeld ?_
            · have c1 : V'.cell? ⟨b7, 1, none⟩ = some (.func (.func 108) #[] #[]) := hS.2.cell 1
              go_simp
            simp only [Act.put, List.setIfInBounds_toArray, List.set_cons_zero, List.set_cons_succ]
            refine wpAnyH_ready (rs := [5]) (by kernel_rfl) (by simp) ?_
            refine AllReadyH.cons ov5 (fun K hK => ?_) AllReadyH.nil
            rw [if_pos (by rfl)]
            go_simp
            refine (of1_is _ bt 0).mono ?_
            rintro e w' ⟨rfl, hw⟩
            have hw2 := hw.symm
            clear hw
            subst hw2
            (try go_wp2_with fail)
            refine hK.out _ _ hHeld (fun _ => ?_)
            clear hK K
            (try simp only [Act.put, List.setIfInBounds_toArray, List.set_cons_zero, List.set_cons_succ])
            refine wpAnyH_take (i := 6) (v := .pointer (some ⟨bt, 1, none⟩)) ov6 (by kernel_rfl) (by kernel_rfl) (by kernel_rfl) (fun _ _ _ h => h) (Or.inl ⟨by rfl, fun V' hS => ?_⟩) hHeld ?_
            · go_simp
            simp only [Act.put, List.setIfInBounds_toArray, List.set_cons_zero, List.set_cons_succ]
            refine wpAnyH_take (i := 7) (v := .int .i64 t2) ov7 (by kernel_rfl) (by kernel_rfl) (by kernel_rfl) (fun _ _ _ h => h) (Or.inl ⟨by rfl, fun V' hS => ?_⟩) hHeld ?_
            · have ct : V'.cell? ⟨bt, 1, none⟩ = some (.int .i64 t2) := hS.1.ct.cell 1
              go_simp
            simp only [Act.put, List.setIfInBounds_toArray, List.set_cons_zero, List.set_cons_succ]
            refine wpAnyH_ready (rs := [8]) (by kernel_rfl) (by simp) ?_
            refine AllReadyH.cons ov8 (fun K hK => ?_) AllReadyH.nil
            rw [if_pos (by rfl)]
            go_simp
            refine (right1_is _ k t2).mono ?_
            rintro e w' ⟨rfl, hw⟩
            have hw2 := hw.symm
            clear hw
            subst hw2
            rw [EV.out]
            (try go_wp2_with fail)
            refine hK.out _ _ hHeld (fun _ => ?_)
            clear hK K
            (try simp only [Act.put, List.setIfInBounds_toArray, List.set_cons_zero, List.set_cons_succ])
            refine wpAnyH_take (i := 9) (v := .bool false) ov9 (by kernel_rfl) (by kernel_rfl) (by kernel_rfl) (fun _ _ _ h => h) (Or.inl ⟨by rfl, fun V' hS => ?_⟩) hHeld ?_
            · go_simp
            simp only [Act.put, List.setIfInBounds_toArray, List.set_cons_zero, List.set_cons_succ]
            refine wpAnyH_done (by kernel_rfl) ?_ _
            go_wp2
            go_roundw
            case rel => exact ⟨2, by first | rfl | go_num, by omega, hHeld.1, fun _ => Q0.out.1 (by omega), fun _ => EV.out, fun h => absurd h (by omega)⟩
            case measure => simp [intOf]
          | false =>
            have EV : Hid (okOut k t2 = false) := ev
            clear ev
            have E0 : Hid (r = 59) := by unfold Hid; rw [HR.out, EL.out, if_pos (by unfold tyBad; simp [Q0.out.1 (by omega), EV.out])]
            refine wp_region_held_drew (S := fun V' => CkT w V' bp bt (t1, t2, t3) ∧ CBox V' b7 108 [.int .i64 1, pF 108, pF 109]) (by kernel_rfl) S7 (fun hHeld => ?_)
            generalize V7.drew = z0 at hHeld ⊢
            refine wpAnyH_take (i := 0) (v := .pointer (some ⟨b7, 2, none⟩)) ov0 (by kernel_rfl) (by kernel_rfl) (by kernel_rfl) (fun _ _ _ h => h) (Or.inl ⟨by rfl, fun V' hS => ?_⟩) hHeld ?_
            · go_simp
            simp only [Act.put, List.setIfInBounds_toArray, List.set_cons_zero, List.set_cons_succ]
            refine wpAnyH_take (i := 1) (v := .func (.func 109) #[] #[]) ov1 (by kernel_rfl) (by kernel_rfl) (by kernel_rfl) (fun _ _ _ h => h) (Or.inl ⟨by rfl, fun V' hS => ?_⟩) hHeld ?_
            · have c2 : V'.cell? ⟨b7, 2, none⟩ = some (.func (.func 109) #[] #[]) := hS.2.cell 2
              go_simp
            simp only [Act.put, List.setIfInBounds_toArray, List.set_cons_zero, List.set_cons_succ]
            refine wpAnyH_take (i := 2) (v := .int .i64 (k : Int)) ov2 (by kernel_rfl) (by kernel_rfl) (by kernel_rfl) (fun _ _ _ h => h) (Or.inl ⟨by rfl, fun V' hS => ?_⟩) hHeld ?_
            · go_simp
            simp only [Act.put, List.setIfInBounds_toArray, List.set_cons_zero, List.set_cons_succ]
            refine wpAnyH_take (i := 3) (v := .pointer (some ⟨b7, 1, none⟩)) ov3 (by kernel_rfl) (by kernel_rfl) (by kernel_rfl) (fun _ _ _ h => h) (Or.inl ⟨by rfl, fun V' hS => ?_⟩) hHeld ?_
            · go_simp
            simp only [Act.put, List.setIfInBounds_toArray, List.set_cons_zero, List.set_cons_succ]
            refine wpAnyH_take (i := 4) (v := .func (.func 108) #[] #[]) ov4 (by kernel_rfl) (by kernel_rfl) (by kernel_rfl) (fun _ _ _ h => h) (Or.inl ⟨by rfl, fun V' hS => ?_⟩) hHeld ?_
            · have c1 : V'.cell? ⟨b7, 1, none⟩ = some (.func (.func 108) #[] #[]) := hS.2.cell 1
              go_simp
            simp only [Act.put, List.setIfInBounds_toArray, List.set_cons_zero, List.set_cons_succ]
            refine wpAnyH_ready (rs := [5]) (by kernel_rfl) (by simp) ?_
            refine AllReadyH.cons ov5 (fun K hK => ?_) AllReadyH.nil
            rw [if_pos (by rfl)]
            go_simp
            refine (of1_is _ bt 0).mono ?_
            rintro e w' ⟨rfl, hw⟩
            have hw2 := hw.symm
            clear hw
            subst hw2
            (try go_wp2_with fail)
            refine hK.out _ _ hHeld (fun _ => ?_)
            clear hK K
            (try simp only [Act.put, List.setIfInBounds_toArray, List.set_cons_zero, List.set_cons_succ])
            refine wpAnyH_take (i := 6) (v := .pointer (some ⟨bt, 1, none⟩)) ov6 (by kernel_rfl) (by kernel_rfl) (by kernel_rfl) (fun _ _ _ h => h) (Or.inl ⟨by rfl, fun V' hS => ?_⟩) hHeld ?_
            · go_simp
            simp only [Act.put, List.setIfInBounds_toArray, List.set_cons_zero, List.set_cons_succ]
            refine wpAnyH_take (i := 7) (v := .int .i64 t2) ov7 (by kernel_rfl) (by kernel_rfl) (by kernel_rfl) (fun _ _ _ h => h) (Or.inl ⟨by rfl, fun V' hS => ?_⟩) hHeld ?_
            · have ct : V'.cell? ⟨bt, 1, none⟩ = some (.int .i64 t2) := hS.1.ct.cell 1
              go_simp
            simp only [Act.put, List.setIfInBounds_toArray, List.set_cons_zero, List.set_cons_succ]
            refine wpAnyH_ready (rs := [8]) (by kernel_rfl) (by simp) ?_
            refine AllReadyH.cons ov8 (fun K hK => ?_) AllReadyH.nil
            rw [if_pos (by rfl)]
            go_simp
            refine (right1_is _ k t2).mono ?_
            rintro e w' ⟨rfl, hw⟩
            have hw2 := hw.symm
            clear hw
            subst hw2
            rw [EV.out]
            (try go_wp2_with fail)
            refine hK.out _ _ hHeld (fun _ => ?_)
            clear hK K
            (try simp only [Act.put, List.setIfInBounds_toArray, List.set_cons_zero, List.set_cons_succ])
            refine wpAnyH_take (i := 9) (v := .bool true) ov9 (by kernel_rfl) (by kernel_rfl) (by kernel_rfl) (fun _ _ _ h => h) (Or.inl ⟨by rfl, fun V' hS => ?_⟩) hHeld ?_
            · go_simp
            simp only [Act.put, List.setIfInBounds_toArray, List.set_cons_zero, List.set_cons_succ]
            refine wpAnyH_done (by kernel_rfl) ?_ _
            go_wp2
            go_ret
            exact ⟨by rw [E0.out]; rfl, hHeld.1.bel⟩
        · have C7 : Hid (CkT w (wr.alloc (.cells #[.int .i64 2, .func (.func 110) #[] #[], .func (.func 111) #[] #[]] 108)) bp bt (t1, t2, t3) ∧ CBox (wr.alloc (.cells #[.int .i64 2, .func (.func 110) #[] #[], .func (.func 111) #[] #[]] 108)) wr.heap.size 108 [.int .i64 2, .func (.func 110) #[] #[], .func (.func 111) #[] #[]]) := ⟨HC.out.past (below_alloc _ _), CBox.new _ _ [_, _, _]⟩
          have ix := ixp2 wr
          go_upto_region 8 with fail
          clear ix
          generalize wr.alloc _ = V7 at C7 ⊢
          generalize wr.heap.size = b7 at C7 ⊢
          have S7 : CkT w V7.drew bp bt (t1, t2, t3) ∧ CBox V7.drew b7 108 [.int .i64 2, .func (.func 110) #[] #[], .func (.func 111) #[] #[]] := ⟨C7.out.1.past below_drew, C7.out.2.past below_drew⟩
          cases ev : okMost t3 with
          | true =>
            have EV : Hid (okMost t3 = true) := ev
            clear ev
            refine wp_region_held_drew (S := fun V' => CkT w V' bp bt (t1, t2, t3) ∧ CBox V' b7 108 [.int .i64 2, pF 110, pF 111]) (by kernel_rfl) S7 (fun hHeld => ?_)
            generalize V7.drew = z0 at hHeld ⊢
            refine wpAnyH_take (i := 0) (v := .pointer (some ⟨b7, 2, none⟩)) ov0 (by kernel_rfl) (by kernel_rfl) (by kernel_rfl) (fun _ _ _ h => h) (Or.inl ⟨by rfl, fun V' hS => ?_⟩) hHeld ?_
            · go_simp
            simp only [Act.put, List.setIfInBounds_toArray, List.set_cons_zero, List.set_cons_succ]
            refine wpAnyH_take (i := 1) (v := .func (.func 111) #[] #[]) ov1 (by kernel_rfl) (by kernel_rfl) (by kernel_rfl) (fun _ _ _ h => h) (Or.inl ⟨by rfl, fun V' hS => ?_⟩) hHeld ?_
            · have c2 : V'.cell? ⟨b7, 2, none⟩ = some (.func (.func 111) #[] #[]) := hS.2.cell 2
              go_simp
            simp only [Act.put, List.setIfInBounds_toArray, List.set_cons_zero, List.set_cons_succ]
            refine wpAnyH_take (i := 2) (v := .int .i64 (k : Int)) ov2 (by kernel_rfl) (by kernel_rfl) (by kernel_rfl) (fun _ _ _ h => h) (Or.inl ⟨by rfl, fun V' hS => ?_⟩) hHeld ?_
            · go_simp
            simp only [Act.put, List.setIfInBounds_toArray, List.set_cons_zero, List.set_cons_succ]
            refine wpAnyH_take (i := 3) (v := .pointer (some ⟨b7, 1, none⟩)) ov3 (by kernel_rfl) (by kernel_rfl) (by kernel_rfl) (fun _ _ _ h => h) (Or.inl ⟨by rfl, fun V' hS => ?_⟩) hHeld ?_
            · go_simp
            simp only [Act.put, List.setIfInBounds_toArray, List.set_cons_zero, List.set_cons_succ]
            refine wpAnyH_take (i := 4) (v := .func (.func 110) #[] #[]) ov4 (by kernel_rfl) (by kernel_rfl) (by kernel_rfl) (fun _ _ _ h => h) (Or.inl ⟨by rfl, fun V' hS => ?_⟩) hHeld ?_
            · have c1 : V'.cell? ⟨b7, 1, none⟩ = some (.func (.func 110) #[] #[]) := hS.2.cell 1
              go_simp
            simp only [Act.put, List.setIfInBounds_toArray, List.set_cons_zero, List.set_cons_succ]
            refine wpAnyH_ready (rs := [5]) (by kernel_rfl) (by simp) ?_
            refine AllReadyH.cons ov5 (fun K hK => ?_) AllReadyH.nil
            rw [if_pos (by rfl)]
            go_simp
            refine (of2_is _ bt 0).mono ?_
            rintro e w' ⟨rfl, hw⟩
            have hw2 := hw.symm
            clear hw
            subst hw2
            (try go_wp2_with fail)
            refine hK.out _ _ hHeld (fun _ => ?_)
            clear hK K
            (try simp only [Act.put, List.setIfInBounds_toArray, List.set_cons_zero, List.set_cons_succ])
            refine wpAnyH_take (i := 6) (v := .pointer (some ⟨bt, 2, none⟩)) ov6 (by kernel_rfl) (by kernel_rfl) (by kernel_rfl) (fun _ _ _ h => h) (Or.inl ⟨by rfl, fun V' hS => ?_⟩) hHeld ?_
            · go_simp
            simp only [Act.put, List.setIfInBounds_toArray, List.set_cons_zero, List.set_cons_succ]
            refine wpAnyH_take (i := 7) (v := .int .i64 t3) ov7 (by kernel_rfl) (by kernel_rfl) (by kernel_rfl) (fun _ _ _ h => h) (Or.inl ⟨by rfl, fun V' hS => ?_⟩) hHeld ?_
            · have ct : V'.cell? ⟨bt, 2, none⟩ = some (.int .i64 t3) := hS.1.ct.cell 2
              go_simp
            simp only [Act.put, List.setIfInBounds_toArray, List.set_cons_zero, List.set_cons_succ]
            refine wpAnyH_ready (rs := [8]) (by kernel_rfl) (by simp) ?_
            refine AllReadyH.cons ov8 (fun K hK => ?_) AllReadyH.nil
            rw [if_pos (by rfl)]
            go_simp
            refine (right2_is _ k t3).mono ?_
            rintro e w' ⟨rfl, hw⟩
            have hw2 := hw.symm
            clear hw
            subst hw2
            rw [EV.out]
            (try go_wp2_with fail)
            refine hK.out _ _ hHeld (fun _ => ?_)
            clear hK K
            (try simp only [Act.put, List.setIfInBounds_toArray, List.set_cons_zero, List.set_cons_succ])
            refine wpAnyH_take (i := 9) (v := .bool false) ov9 (by kernel_rfl) (by kernel_rfl) (by kernel_rfl) (fun _ _ _ h => h) (Or.inl ⟨by rfl, fun V' hS => ?_⟩) hHeld ?_
            · go_simp
            simp only [Act.put, List.setIfInBounds_toArray, List.set_cons_zero, List.set_cons_succ]
            refine wpAnyH_done (by kernel_rfl) ?_ _
            go_wp2
            go_roundw
            case rel => exact ⟨3, by first | rfl | go_num, by omega, hHeld.1, fun _ => Q0.out.1 (by omega), fun _ => Q0.out.2.1 (by omega), fun _ => EV.out⟩
            case measure => simp [intOf]
          | false =>
            have EV : Hid (okMost t3 = false) := ev
            clear ev
            have E0 : Hid (r = 59) := by unfold Hid; rw [HR.out, EL.out, if_pos (by unfold tyBad; simp [Q0.out.1 (by omega), Q0.out.2.1 (by omega), EV.out])]
            refine wp_region_held_drew (S := fun V' => CkT w V' bp bt (t1, t2, t3) ∧ CBox V' b7 108 [.int .i64 2, pF 110, pF 111]) (by kernel_rfl) S7 (fun hHeld => ?_)
            generalize V7.drew = z0 at hHeld ⊢
            refine wpAnyH_take (i := 0) (v := .pointer (some ⟨b7, 2, none⟩)) ov0 (by kernel_rfl) (by kernel_rfl) (by kernel_rfl) (fun _ _ _ h => h) (Or.inl ⟨by rfl, fun V' hS => ?_⟩) hHeld ?_
            · go_simp
            simp only [Act.put, List.setIfInBounds_toArray, List.set_cons_zero, List.set_cons_succ]
            refine wpAnyH_take (i := 1) (v := .func (.func 111) #[] #[]) ov1 (by kernel_rfl) (by kernel_rfl) (by kernel_rfl) (fun _ _ _ h => h) (Or.inl ⟨by rfl, fun V' hS => ?_⟩) hHeld ?_
            · have c2 : V'.cell? ⟨b7, 2, none⟩ = some (.func (.func 111) #[] #[]) := hS.2.cell 2
              go_simp
            simp only [Act.put, List.setIfInBounds_toArray, List.set_cons_zero, List.set_cons_succ]
            refine wpAnyH_take (i := 2) (v := .int .i64 (k : Int)) ov2 (by kernel_rfl) (by kernel_rfl) (by kernel_rfl) (fun _ _ _ h => h) (Or.inl ⟨by rfl, fun V' hS => ?_⟩) hHeld ?_
            · go_simp
            simp only [Act.put, List.setIfInBounds_toArray, List.set_cons_zero, List.set_cons_succ]
            refine wpAnyH_take (i := 3) (v := .pointer (some ⟨b7, 1, none⟩)) ov3 (by kernel_rfl) (by kernel_rfl) (by kernel_rfl) (fun _ _ _ h => h) (Or.inl ⟨by rfl, fun V' hS => ?_⟩) hHeld ?_
            · go_simp
            simp only [Act.put, List.setIfInBounds_toArray, List.set_cons_zero, List.set_cons_succ]
            refine wpAnyH_take (i := 4) (v := .func (.func 110) #[] #[]) ov4 (by kernel_rfl) (by kernel_rfl) (by kernel_rfl) (fun _ _ _ h => h) (Or.inl ⟨by rfl, fun V' hS => ?_⟩) hHeld ?_
            · have c1 : V'.cell? ⟨b7, 1, none⟩ = some (.func (.func 110) #[] #[]) := hS.2.cell 1
              go_simp
            simp only [Act.put, List.setIfInBounds_toArray, List.set_cons_zero, List.set_cons_succ]
            refine wpAnyH_ready (rs := [5]) (by kernel_rfl) (by simp) ?_
            refine AllReadyH.cons ov5 (fun K hK => ?_) AllReadyH.nil
            rw [if_pos (by rfl)]
            go_simp
            refine (of2_is _ bt 0).mono ?_
            rintro e w' ⟨rfl, hw⟩
            have hw2 := hw.symm
            clear hw
            subst hw2
            (try go_wp2_with fail)
            refine hK.out _ _ hHeld (fun _ => ?_)
            clear hK K
            (try simp only [Act.put, List.setIfInBounds_toArray, List.set_cons_zero, List.set_cons_succ])
            refine wpAnyH_take (i := 6) (v := .pointer (some ⟨bt, 2, none⟩)) ov6 (by kernel_rfl) (by kernel_rfl) (by kernel_rfl) (fun _ _ _ h => h) (Or.inl ⟨by rfl, fun V' hS => ?_⟩) hHeld ?_
            · go_simp
            simp only [Act.put, List.setIfInBounds_toArray, List.set_cons_zero, List.set_cons_succ]
            refine wpAnyH_take (i := 7) (v := .int .i64 t3) ov7 (by kernel_rfl) (by kernel_rfl) (by kernel_rfl) (fun _ _ _ h => h) (Or.inl ⟨by rfl, fun V' hS => ?_⟩) hHeld ?_
            · have ct : V'.cell? ⟨bt, 2, none⟩ = some (.int .i64 t3) := hS.1.ct.cell 2
              go_simp
            simp only [Act.put, List.setIfInBounds_toArray, List.set_cons_zero, List.set_cons_succ]
            refine wpAnyH_ready (rs := [8]) (by kernel_rfl) (by simp) ?_
            refine AllReadyH.cons ov8 (fun K hK => ?_) AllReadyH.nil
            rw [if_pos (by rfl)]
            go_simp
            refine (right2_is _ k t3).mono ?_
            rintro e w' ⟨rfl, hw⟩
            have hw2 := hw.symm
            clear hw
            subst hw2
            rw [EV.out]
            (try go_wp2_with fail)
            refine hK.out _ _ hHeld (fun _ => ?_)
            clear hK K
            (try simp only [Act.put, List.setIfInBounds_toArray, List.set_cons_zero, List.set_cons_succ])
            refine wpAnyH_take (i := 9) (v := .bool true) ov9 (by kernel_rfl) (by kernel_rfl) (by kernel_rfl) (fun _ _ _ h => h) (Or.inl ⟨by rfl, fun V' hS => ?_⟩) hHeld ?_
            · go_simp
            simp only [Act.put, List.setIfInBounds_toArray, List.set_cons_zero, List.set_cons_succ]
            refine wpAnyH_done (by kernel_rfl) ?_ _
            go_wp2
            go_ret
            exact ⟨by rw [E0.out]; rfl, hHeld.1.bel⟩
end Go.Proofs.Ytndhabhlajldeaa
