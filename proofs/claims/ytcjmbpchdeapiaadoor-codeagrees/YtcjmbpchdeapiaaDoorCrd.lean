/- The document's Leads; both of any instruction. -/
import Derived.Test.YtcjmbpchdeapiaaDoorCrc
namespace Go.Proofs.YtcjmbpchdeapiaaDoor
open Go.RowKit
theorem infoN8 : (Tryd.prog.info? 3).map (fun i => (i.zero, i.size, i.bytes)) = some (some (.int .i64 0), 1, 8) := by kernel_rfl
def lgO (C : Int) : Nat := if C = 226 then 1 else 0
def lgN (s : Bool) (C : Int) (b0 : Nat) : Nat := if s = true then (if C = 224 ∨ C = 225 then 1 else if C = 226 then b0 + 1 else 0) else 0
theorem bytes_cap {W : World} {ad : Option Addr} {m cap : Nat} {b : Nat → Nat} (h : BytesOf W (.slice ad m cap) m b) : BytesOf W (.slice ad m cap) m b := h
set_option maxHeartbeats 4000000 in
set_option maxRecDepth 100000 in
theorem rleads_any (w : World) (x0 C x3 : Int) (v : Value) (m : Nat) (b : Nat → Nat) (hm : m ≤ 140737488355328) (hv : BytesOf w v m b) : Calls Tryd.prog 28 #[.agg #[.int .i64 x0, .int .i64 C, v, .int .i64 x3]] w fun e w' => ∃ pl, e = .returned pl ∧ w'.ownsRow w.heap.size 3 1 pl (lgN (standsV x0 C x3 m (b 0)) C (b 0)) (tgL x3 (fun j => b (lgO C + j)) (lgN (standsV x0 C x3 m (b 0)) C (b 0))) ∧ Below w.heap.size w w' := by
  obtain ⟨i0, hi, hz0, hz1, hz2⟩ := info_parts infoN8
  have HVV : Hid (BytesOf w v m b) := hv
  have HBB : Hid (∀ j, b j < 256) := by obtain ⟨_, _, _, h, _⟩ := hv; exact h
  have HST : Hid (∀ W, Below w.heap.size w W → Calls Tryd.prog 40 #[.agg #[.int .i64 x0, .int .i64 C, v, .int .i64 x3]] W fun e w' => e = .returned (.bool (standsV x0 C x3 m (b 0))) ∧ Below W.heap.size W w') := fun W hB => rstands_is W x0 C x3 v m b hm (hv.below rfl hB)
  obtain ⟨ad, cap, rfl, _⟩ := hv
  have I0 : Hid (Ins4 (w.alloc (.cells #[.int .i64 x0, .int .i64 C, .slice ad m cap, .int .i64 x3] 40)) w.heap.size x0 C (.slice ad m cap) x3) := Ins4.new w x0 C ad m cap x3
  have B0 : Hid (Below w.heap.size w (w.alloc (.cells #[.int .i64 x0, .int .i64 C, .slice ad m cap, .int .i64 x3] 40))) := (Below.refl _ w).alloc (Nat.le_refl _) _
  obtain ⟨c0, c1, c2, c3⟩ := I0.out
  cases hs : standsV x0 C x3 m (b 0) with
  | false =>
    rw [hs] at HST
    clear hs
    have e0 : lgN false C (b 0) = 0 := rfl
    rw [e0, show tgL x3 (fun j => b (lgO C + j)) 0 = [] from rfl]
    clear e0
    go_enter Tryd.func28, Tryd.ntmps28
    go_wp2_with (go_at_call 40; refine (HST.out _ B0.out).mono ?_; rintro e w1 ⟨rfl, hB⟩; (have B1 : Hid (Below w.heap.size w w1) := B0.out.trans (hB.mono B0.out.size)); clear hB)
    go_ret
    exact ⟨_, rfl, World.ownsRow_nil _ _ _ _, B1.out⟩
  | true =>
    obtain ⟨p0, p1, p2, p3, p4⟩ := stands_parts hs
    rw [hs] at HST
    have hmm : (C = 224 ∨ C = 225 → m = 2) ∧ (C = 226 → m = 1 + 2 * (b 0 + 1)) := by
      unfold fitsB at p4
      refine ⟨fun h => ?_, fun h => ?_⟩
      · rcases h with rfl | rfl
        · rw [show (224 : Int).toNat = 224 from rfl, imm_jumps.1, if_neg (by decide), decide_eq_true_eq] at p4; omega
        · rw [show (225 : Int).toNat = 225 from rfl, imm_jumps.2.1, if_neg (by decide), decide_eq_true_eq] at p4; omega
      · subst h
        rw [show (226 : Int).toNat = 226 from rfl, imm_jumps.2.2, if_pos rfl, decide_eq_true_eq] at p4; exact p4
    have b00 := HBB.out 0
    clear hs p3 p4
    obtain ⟨bo, hbo⟩ : ∃ bo : Nat → Nat, bo = fun j => b (lgO C + j) := ⟨_, rfl⟩
    rw [← hbo]
    have UP : Hid (∀ W, Below w.heap.size w W → Calls Tryd.prog 40 #[.agg #[.int .i64 x0, .int .i64 C, .slice ad m cap, .int .i64 x3]] W fun e w' => e = .returned (.bool true) ∧ Below W.heap.size W w') := HST.out
    clear HST
    by_cases h1 : C = 224 ∨ C = 225
    · obtain ⟨N, hN⟩ : ∃ N, N = lgN true C (b 0) := ⟨_, rfl⟩
      rw [← hN]
      have hN1 : N = 1 := by rw [hN]; unfold lgN; rw [if_pos rfl, if_pos h1]
      have HBO : Hid (∀ j, bo j = b (0 + j)) := fun j => by rw [hbo]; show b (lgO C + j) = _; unfold lgO; rw [if_neg (by omega)]
      rcases h1 with hC | hC
      · have h1 := hC
        have HX3 : Hid (-9 ≤ x3 ∧ x3 ≤ 2000000) := by unfold Hid; omega
        have mI : (m : Int) ≤ 1000 := by omega
        obtain ⟨T, hT⟩ : ∃ T, T = 2 := ⟨_, rfl⟩
        obtain ⟨o, ho⟩ : ∃ o, o = 0 := ⟨_, rfl⟩
        have HTT : Hid (T = o + 2 * N) := by unfold Hid; omega
        have HTM : Hid (T ≤ m) := by unfold Hid; omega
        have HB1 : Hid (∀ j, bo j = b (o + j)) := fun j => by rw [ho]; exact HBO.out j
        clear HBO
        have HBO : Hid (∀ j, bo j = b (o + j)) := HB1.out
        have HOO : Hid (o = 0 ∧ T = 2 ∧ N ≤ 300) := ⟨ho, hT, by omega⟩
        have nI : N ≤ 300 := by omega
        clear hN hN1 hmm hbo p0 p1 p2 HB1 ho hT
        subst hC
        clear h1
        go_enter Tryd.func28, Tryd.ntmps28
        go_upto_region 7 with (go_at_call 40; refine (UP.out _ B0.out).mono ?_; rintro e w1 ⟨rfl, hB⟩; (have R1 : Hid (Below w.heap.size w w1 ∧ Ins4 w1 w.heap.size x0 224 (.slice ad m cap) x3) := ⟨B0.out.trans (hB.mono B0.out.size), I0.out.past hB⟩); clear hB c0 c1 c2 c3)
        obtain ⟨c0, c1, c2, c3⟩ := R1.out.2
        go_wp2
        clear c0 c1 c2 c3
        go_loopw [3, 7] (fun sv si wr => ∃ j : Nat, j ≤ N ∧ si = .int .i64 ((o + 2 * j : Nat) : Int) ∧ wr.ownsRow (w.heap.size + 1) 3 1 sv j (tgL x3 bo j) ∧ Below w.heap.size w wr ∧ Ins4 wr w.heap.size x0 224 (.slice ad m cap) x3) (fun _ si _ => T + 2 - (intOf si).toNat)
        case atStart => exact ⟨0, by omega, by first | rfl | (have := HOO.out; simp; omega), World.ownsRow_nil _ _ _ _, R1.out⟩
        case round =>
          obtain ⟨j, hj, rfl, hR, hBr, hIr⟩ := hrel
          have HR : Hid (wr.ownsRow (w.heap.size + 1) 3 1 u3 j (tgL x3 bo j) ∧ Below w.heap.size w wr ∧ Ins4 wr w.heap.size x0 224 (.slice ad m cap) x3) := ⟨hR, hBr, hIr⟩
          obtain ⟨kk, hkk⟩ : ∃ kk, kk = o + 2 * j := ⟨_, rfl⟩
          rw [← hkk]
          have HKK : Hid (kk = o + 2 * j) := hkk
          clear hR hBr hIr hkk
          by_cases hlt : j < N
          · have k1 : (kk : Int) < 2 := by have := HKK.out; have := HTT.out; have := HOO.out; omega
            have k2 : (kk : Int) ≤ 1000000 := by have := HKK.out; have := HTT.out; have := HTM.out; omega
            have HDI : Hid (∀ W, Below w.heap.size w W → Calls Tryd.prog 41 #[.slice ad m cap, .int .i64 (kk : Int)] W fun e w' => e = .returned (.int .i64 (dist16 (b kk) (b (kk + 1)))) ∧ Below W.heap.size W w') := fun W hB => rdist_is W _ m b kk hm (HVV.out.below rfl hB) (by have := HKK.out; have := HTT.out; have := HTM.out; omega)
            have hd := dist16_in (b kk) (b (kk + 1)) (HBB.out _) (HBB.out _)
            have HTG0 := tgL_succ x3 bo j
            rw [HBO.out (2 * j), HBO.out (2 * j + 1), show o + 2 * j = kk from HKK.out.symm, show o + (2 * j + 1) = kk + 1 by have := HKK.out; omega] at HTG0
            generalize dist16 (b kk) (b (kk + 1)) = d at HDI hd HTG0
            obtain ⟨z, hz⟩ : ∃ z, z = x3 + d := ⟨_, rfl⟩
            rw [← hz] at HTG0
            have HTG : Hid (tgL x3 bo j ++ [.int .i64 z] = tgL x3 bo (j + 1)) := HTG0.symm
            have ez : x3 + d = z := hz.symm
            have zb : -9000000 ≤ z ∧ z ≤ 9000000 := by have := HX3.out; omega
            have zw : IntKind.i64.wrap z = z := Go.IntWalk.i64_in _ (by omega)
            clear hz HTG0
            go_upto_region 15 with fail
            refine wp_region_held_drew (S := fun V' => Below w.heap.size w V' ∧ Ins4 V' w.heap.size x0 224 (.slice ad m cap) x3) (by kernel_rfl) ⟨HR.out.2.1.drew, HR.out.2.2⟩ (fun hHeld => ?_)
            have OZ : Hid (wr.drew.ownsRow (w.heap.size + 1) 3 1 u3 j (tgL x3 bo j)) := HR.out.1
            generalize wr.drew = z0 at hHeld OZ ⊢
            clear HR
            refine wpAnyH_take (i := 0) (v := u3) op0 (by kernel_rfl) (by kernel_rfl) (by kernel_rfl) (fun _ _ _ h => h) (Or.inl ⟨by rfl, fun V' hS => ?_⟩) hHeld ?_
            · go_simp
            simp only [Act.put, List.setIfInBounds_toArray, List.set_cons_zero, List.set_cons_succ]
            refine wpAnyH_take (i := 1) (v := .pointer (some ⟨w.heap.size, 3, none⟩)) op1 (by kernel_rfl) (by kernel_rfl) (by kernel_rfl) (fun _ _ _ h => h) (Or.inl ⟨by rfl, fun V' hS => ?_⟩) hHeld ?_
            · go_simp
            simp only [Act.put, List.setIfInBounds_toArray, List.set_cons_zero, List.set_cons_succ]
            refine wpAnyH_take (i := 2) (v := .int .i64 x3) op2 (by kernel_rfl) (by kernel_rfl) (by kernel_rfl) (fun _ _ _ h => h) (Or.inl ⟨by rfl, fun V' hS => ?_⟩) hHeld ?_
            · have k3 := hS.2.2.2.2
              go_simp
            simp only [Act.put, List.setIfInBounds_toArray, List.set_cons_zero, List.set_cons_succ]
            refine wpAnyH_take (i := 3) (v := .pointer (some ⟨w.heap.size, 2, none⟩)) op3 (by kernel_rfl) (by kernel_rfl) (by kernel_rfl) (fun _ _ _ h => h) (Or.inl ⟨by rfl, fun V' hS => ?_⟩) hHeld ?_
            · go_simp
            simp only [Act.put, List.setIfInBounds_toArray, List.set_cons_zero, List.set_cons_succ]
            refine wpAnyH_take (i := 4) (v := .slice ad m cap) op4 (by kernel_rfl) (by kernel_rfl) (by kernel_rfl) (fun _ _ _ h => h) (Or.inl ⟨by rfl, fun V' hS => ?_⟩) hHeld ?_
            · have k2 := hS.2.2.2.1
              go_simp
            simp only [Act.put, List.setIfInBounds_toArray, List.set_cons_zero, List.set_cons_succ]
            refine wpAnyH_take (i := 5) (v := .int .i64 (kk : Int)) op5 (by kernel_rfl) (by kernel_rfl) (by kernel_rfl) (fun _ _ _ h => h) (Or.inl ⟨by rfl, fun V' hS => ?_⟩) hHeld ?_
            · go_simp
            simp only [Act.put, List.setIfInBounds_toArray, List.set_cons_zero, List.set_cons_succ]
            refine wpAnyH_ready (rs := [6]) (by kernel_rfl) (by simp) ?_
            refine AllReadyH.cons op6 (fun K hK => ?_) AllReadyH.nil
            rw [if_pos (by rfl)]
            go_simp
            refine (HDI.out z0 hHeld.1).mono ?_
            rintro e z1 ⟨rfl, hB⟩
            have hF : Below w.heap.size w z1 ∧ Ins4 z1 w.heap.size x0 224 (.slice ad m cap) x3 := ⟨hHeld.1.trans (hB.mono hHeld.1.size), hHeld.2.past hB⟩
            have O1 : Hid (z1.ownsRow (w.heap.size + 1) 3 1 u3 j (tgL x3 bo j)) := ownsRow_past OZ.out hB
            clear hB hHeld HDI OZ
            (try go_wp2_with fail)
            refine hK.out _ _ hF (fun _ => ?_)
            clear hK K
            (try simp only [Act.put, List.setIfInBounds_toArray, List.set_cons_zero, List.set_cons_succ])
            refine wpAnyH_take (i := 7) (v := .int .i64 z) op7 (by kernel_rfl) (by kernel_rfl) (by kernel_rfl) (fun _ _ _ h => h) (Or.inl ⟨by rfl, fun V' hS => ?_⟩) hF ?_
            · go_simp
            simp only [Act.put, List.setIfInBounds_toArray, List.set_cons_zero, List.set_cons_succ]
            refine wpAnyH_ready (rs := [8]) (by kernel_rfl) (by simp) ?_
            refine AllReadyH.cons op8 (fun K hK => ?_) AllReadyH.nil
            rw [if_pos (by rfl)]
            go_simp
            have BA : Below z1.heap.size z1 (z1.alloc (.cells #[.int .i64 z] 3)) := (Below.refl _ _).alloc (Nat.le_refl _) _
            have hF2 : Below w.heap.size w (z1.alloc (.cells #[.int .i64 z] 3)) ∧ Ins4 (z1.alloc (.cells #[.int .i64 z] 3)) w.heap.size x0 224 (.slice ad m cap) x3 := ⟨hF.1.trans (BA.mono hF.1.size), hF.2.past BA⟩
            refine hK.out _ _ hF2 (fun _ => ?_)
            clear hK K
            (try simp only [Act.put, List.setIfInBounds_toArray, List.set_cons_zero, List.set_cons_succ])
            refine wpAnyH_ready (rs := [9]) (by kernel_rfl) (by simp) ?_
            refine AllReadyH.cons op9 (fun K hK => ?_) AllReadyH.nil
            rw [if_pos (by rfl)]
            refine wp_append_own _ _ _ 60 rfl (w.heap.size + 1) 3 i0 (.int .i64 0) 1 8 Tryd.underlying60 hi hz0 hz1 hz2 rfl (by decide) _ _ _ rfl (O1.out.alloc _) ⟨z1.heap.size, 0, none⟩ 1 1 [.int .i64 z] rfl rfl (cells4_new z1 _ [.int .i64 z]) (fun u hu => by rw [List.mem_singleton.1 hu]; rfl) (by unfold maxLen; omega) (by omega) (by have := hF.1.size; have := World.block_lt_of_cell? z1 _ hF.2.1; simp; omega) ?_
            intro v5 w5 hown5 hgrow5 _
            have hrow : ∀ q, u3.ownBlock = some q → w.heap.size + 1 ≤ q := fun q h => (O1.out.lt q h).1
            have F5 : Below w.heap.size w w5 ∧ Ins4 w5 w.heap.size x0 224 (.slice ad m cap) x3 := ⟨Below.grown hF2.1 hgrow5 hF2.1.size (fun q h => by have := hrow q h; omega), by
              have hb5 : w5.heap[w.heap.size]? = (z1.alloc (.cells #[.int .i64 z] 3)).heap[w.heap.size]? := hgrow5.block _ (World.block_lt_of_cell? _ _ hF2.2.1) (fun h => by have := hrow _ h.symm; omega)
              obtain ⟨g0, g1, g2, g3⟩ := hF2.2
              exact ⟨by rw [← g0]; simp only [World.cell?, hb5], by rw [← g1]; simp only [World.cell?, hb5], by rw [← g2]; simp only [World.cell?, hb5], by rw [← g3]; simp only [World.cell?, hb5]⟩⟩
            have O5 : Hid (w5.ownsRow (w.heap.size + 1) 3 1 v5 (j + 1) (tgL x3 bo (j + 1)) ∧ Below w.heap.size w w5 ∧ Ins4 w5 w.heap.size x0 224 (.slice ad m cap) x3) := ⟨by rw [HTG.out] at hown5; exact hown5, F5⟩
            clear hown5 hgrow5 hrow hF2 BA hF O1
            refine hK.out _ _ F5 (fun _ => ?_)
            clear hK K
            (try simp only [Act.put, List.setIfInBounds_toArray, List.set_cons_zero, List.set_cons_succ])
            refine wpAnyH_take (i := 10) (v := v5) op10 (by kernel_rfl) (by kernel_rfl) (by kernel_rfl) (fun _ _ _ h => h) (Or.inl ⟨by rfl, fun V' hS => ?_⟩) F5 ?_
            · go_simp
            simp only [Act.put, List.setIfInBounds_toArray, List.set_cons_zero, List.set_cons_succ]
            refine wpAnyH_done (by kernel_rfl) ?_ _
            clear F5
            obtain ⟨av, cv, rfl, hav⟩ := own_slice O5.out.1
            clear hav
            go_wp2
            go_roundw
            case rel => exact ⟨j + 1, by omega, by simp; have := HKK.out; omega, O5.out⟩
            case measure => have := HKK.out; have := HTT.out; have := HOO.out; simp [intOf]; omega
          · obtain rfl : j = N := by omega
            have k1 : ¬ (kk : Int) < 2 := by have := HKK.out; have := HTT.out; have := HOO.out; omega
            obtain ⟨av, cv, rfl, hav⟩ := own_slice HR.out.1
            clear hav
            go_wp2
            go_ret
            exact ⟨_, rfl, owns_lower HR.out.1 (Nat.le_succ _), HR.out.2.1⟩
      · have h1 := hC
        have HX3 : Hid (-9 ≤ x3 ∧ x3 ≤ 2000000) := by unfold Hid; omega
        have mI : (m : Int) ≤ 1000 := by omega
        obtain ⟨T, hT⟩ : ∃ T, T = 2 := ⟨_, rfl⟩
        obtain ⟨o, ho⟩ : ∃ o, o = 0 := ⟨_, rfl⟩
        have HTT : Hid (T = o + 2 * N) := by unfold Hid; omega
        have HTM : Hid (T ≤ m) := by unfold Hid; omega
        have HB1 : Hid (∀ j, bo j = b (o + j)) := fun j => by rw [ho]; exact HBO.out j
        clear HBO
        have HBO : Hid (∀ j, bo j = b (o + j)) := HB1.out
        have HOO : Hid (o = 0 ∧ T = 2 ∧ N ≤ 300) := ⟨ho, hT, by omega⟩
        have nI : N ≤ 300 := by omega
        clear hN hN1 hmm hbo p0 p1 p2 HB1 ho hT
        subst hC
        clear h1
        go_enter Tryd.func28, Tryd.ntmps28
        go_upto_region 7 with (go_at_call 40; refine (UP.out _ B0.out).mono ?_; rintro e w1 ⟨rfl, hB⟩; (have R1 : Hid (Below w.heap.size w w1 ∧ Ins4 w1 w.heap.size x0 225 (.slice ad m cap) x3) := ⟨B0.out.trans (hB.mono B0.out.size), I0.out.past hB⟩); clear hB c0 c1 c2 c3)
        obtain ⟨c0, c1, c2, c3⟩ := R1.out.2
        go_wp2
        clear c0 c1 c2 c3
        go_loopw [3, 7] (fun sv si wr => ∃ j : Nat, j ≤ N ∧ si = .int .i64 ((o + 2 * j : Nat) : Int) ∧ wr.ownsRow (w.heap.size + 1) 3 1 sv j (tgL x3 bo j) ∧ Below w.heap.size w wr ∧ Ins4 wr w.heap.size x0 225 (.slice ad m cap) x3) (fun _ si _ => T + 2 - (intOf si).toNat)
        case atStart => exact ⟨0, by omega, by first | rfl | (have := HOO.out; simp; omega), World.ownsRow_nil _ _ _ _, R1.out⟩
        case round =>
          obtain ⟨j, hj, rfl, hR, hBr, hIr⟩ := hrel
          have HR : Hid (wr.ownsRow (w.heap.size + 1) 3 1 u3 j (tgL x3 bo j) ∧ Below w.heap.size w wr ∧ Ins4 wr w.heap.size x0 225 (.slice ad m cap) x3) := ⟨hR, hBr, hIr⟩
          obtain ⟨kk, hkk⟩ : ∃ kk, kk = o + 2 * j := ⟨_, rfl⟩
          rw [← hkk]
          have HKK : Hid (kk = o + 2 * j) := hkk
          clear hR hBr hIr hkk
          by_cases hlt : j < N
          · have k1 : (kk : Int) < 2 := by have := HKK.out; have := HTT.out; have := HOO.out; omega
            have k2 : (kk : Int) ≤ 1000000 := by have := HKK.out; have := HTT.out; have := HTM.out; omega
            have HDI : Hid (∀ W, Below w.heap.size w W → Calls Tryd.prog 41 #[.slice ad m cap, .int .i64 (kk : Int)] W fun e w' => e = .returned (.int .i64 (dist16 (b kk) (b (kk + 1)))) ∧ Below W.heap.size W w') := fun W hB => rdist_is W _ m b kk hm (HVV.out.below rfl hB) (by have := HKK.out; have := HTT.out; have := HTM.out; omega)
            have hd := dist16_in (b kk) (b (kk + 1)) (HBB.out _) (HBB.out _)
            have HTG0 := tgL_succ x3 bo j
            rw [HBO.out (2 * j), HBO.out (2 * j + 1), show o + 2 * j = kk from HKK.out.symm, show o + (2 * j + 1) = kk + 1 by have := HKK.out; omega] at HTG0
            generalize dist16 (b kk) (b (kk + 1)) = d at HDI hd HTG0
            obtain ⟨z, hz⟩ : ∃ z, z = x3 + d := ⟨_, rfl⟩
            rw [← hz] at HTG0
            have HTG : Hid (tgL x3 bo j ++ [.int .i64 z] = tgL x3 bo (j + 1)) := HTG0.symm
            have ez : x3 + d = z := hz.symm
            have zb : -9000000 ≤ z ∧ z ≤ 9000000 := by have := HX3.out; omega
            have zw : IntKind.i64.wrap z = z := Go.IntWalk.i64_in _ (by omega)
            clear hz HTG0
            go_upto_region 15 with fail
            refine wp_region_held_drew (S := fun V' => Below w.heap.size w V' ∧ Ins4 V' w.heap.size x0 225 (.slice ad m cap) x3) (by kernel_rfl) ⟨HR.out.2.1.drew, HR.out.2.2⟩ (fun hHeld => ?_)
            have OZ : Hid (wr.drew.ownsRow (w.heap.size + 1) 3 1 u3 j (tgL x3 bo j)) := HR.out.1
            generalize wr.drew = z0 at hHeld OZ ⊢
            clear HR
            refine wpAnyH_take (i := 0) (v := u3) op0 (by kernel_rfl) (by kernel_rfl) (by kernel_rfl) (fun _ _ _ h => h) (Or.inl ⟨by rfl, fun V' hS => ?_⟩) hHeld ?_
            · go_simp
            simp only [Act.put, List.setIfInBounds_toArray, List.set_cons_zero, List.set_cons_succ]
            refine wpAnyH_take (i := 1) (v := .pointer (some ⟨w.heap.size, 3, none⟩)) op1 (by kernel_rfl) (by kernel_rfl) (by kernel_rfl) (fun _ _ _ h => h) (Or.inl ⟨by rfl, fun V' hS => ?_⟩) hHeld ?_
            · go_simp
            simp only [Act.put, List.setIfInBounds_toArray, List.set_cons_zero, List.set_cons_succ]
            refine wpAnyH_take (i := 2) (v := .int .i64 x3) op2 (by kernel_rfl) (by kernel_rfl) (by kernel_rfl) (fun _ _ _ h => h) (Or.inl ⟨by rfl, fun V' hS => ?_⟩) hHeld ?_
            · have k3 := hS.2.2.2.2
              go_simp
            simp only [Act.put, List.setIfInBounds_toArray, List.set_cons_zero, List.set_cons_succ]
            refine wpAnyH_take (i := 3) (v := .pointer (some ⟨w.heap.size, 2, none⟩)) op3 (by kernel_rfl) (by kernel_rfl) (by kernel_rfl) (fun _ _ _ h => h) (Or.inl ⟨by rfl, fun V' hS => ?_⟩) hHeld ?_
            · go_simp
            simp only [Act.put, List.setIfInBounds_toArray, List.set_cons_zero, List.set_cons_succ]
            refine wpAnyH_take (i := 4) (v := .slice ad m cap) op4 (by kernel_rfl) (by kernel_rfl) (by kernel_rfl) (fun _ _ _ h => h) (Or.inl ⟨by rfl, fun V' hS => ?_⟩) hHeld ?_
            · have k2 := hS.2.2.2.1
              go_simp
            simp only [Act.put, List.setIfInBounds_toArray, List.set_cons_zero, List.set_cons_succ]
            refine wpAnyH_take (i := 5) (v := .int .i64 (kk : Int)) op5 (by kernel_rfl) (by kernel_rfl) (by kernel_rfl) (fun _ _ _ h => h) (Or.inl ⟨by rfl, fun V' hS => ?_⟩) hHeld ?_
            · go_simp
            simp only [Act.put, List.setIfInBounds_toArray, List.set_cons_zero, List.set_cons_succ]
            refine wpAnyH_ready (rs := [6]) (by kernel_rfl) (by simp) ?_
            refine AllReadyH.cons op6 (fun K hK => ?_) AllReadyH.nil
            rw [if_pos (by rfl)]
            go_simp
            refine (HDI.out z0 hHeld.1).mono ?_
            rintro e z1 ⟨rfl, hB⟩
            have hF : Below w.heap.size w z1 ∧ Ins4 z1 w.heap.size x0 225 (.slice ad m cap) x3 := ⟨hHeld.1.trans (hB.mono hHeld.1.size), hHeld.2.past hB⟩
            have O1 : Hid (z1.ownsRow (w.heap.size + 1) 3 1 u3 j (tgL x3 bo j)) := ownsRow_past OZ.out hB
            clear hB hHeld HDI OZ
            (try go_wp2_with fail)
            refine hK.out _ _ hF (fun _ => ?_)
            clear hK K
            (try simp only [Act.put, List.setIfInBounds_toArray, List.set_cons_zero, List.set_cons_succ])
            refine wpAnyH_take (i := 7) (v := .int .i64 z) op7 (by kernel_rfl) (by kernel_rfl) (by kernel_rfl) (fun _ _ _ h => h) (Or.inl ⟨by rfl, fun V' hS => ?_⟩) hF ?_
            · go_simp
            simp only [Act.put, List.setIfInBounds_toArray, List.set_cons_zero, List.set_cons_succ]
            refine wpAnyH_ready (rs := [8]) (by kernel_rfl) (by simp) ?_
            refine AllReadyH.cons op8 (fun K hK => ?_) AllReadyH.nil
            rw [if_pos (by rfl)]
            go_simp
            have BA : Below z1.heap.size z1 (z1.alloc (.cells #[.int .i64 z] 3)) := (Below.refl _ _).alloc (Nat.le_refl _) _
            have hF2 : Below w.heap.size w (z1.alloc (.cells #[.int .i64 z] 3)) ∧ Ins4 (z1.alloc (.cells #[.int .i64 z] 3)) w.heap.size x0 225 (.slice ad m cap) x3 := ⟨hF.1.trans (BA.mono hF.1.size), hF.2.past BA⟩
            refine hK.out _ _ hF2 (fun _ => ?_)
            clear hK K
            (try simp only [Act.put, List.setIfInBounds_toArray, List.set_cons_zero, List.set_cons_succ])
            refine wpAnyH_ready (rs := [9]) (by kernel_rfl) (by simp) ?_
            refine AllReadyH.cons op9 (fun K hK => ?_) AllReadyH.nil
            rw [if_pos (by rfl)]
            refine wp_append_own _ _ _ 60 rfl (w.heap.size + 1) 3 i0 (.int .i64 0) 1 8 Tryd.underlying60 hi hz0 hz1 hz2 rfl (by decide) _ _ _ rfl (O1.out.alloc _) ⟨z1.heap.size, 0, none⟩ 1 1 [.int .i64 z] rfl rfl (cells4_new z1 _ [.int .i64 z]) (fun u hu => by rw [List.mem_singleton.1 hu]; rfl) (by unfold maxLen; omega) (by omega) (by have := hF.1.size; have := World.block_lt_of_cell? z1 _ hF.2.1; simp; omega) ?_
            intro v5 w5 hown5 hgrow5 _
            have hrow : ∀ q, u3.ownBlock = some q → w.heap.size + 1 ≤ q := fun q h => (O1.out.lt q h).1
            have F5 : Below w.heap.size w w5 ∧ Ins4 w5 w.heap.size x0 225 (.slice ad m cap) x3 := ⟨Below.grown hF2.1 hgrow5 hF2.1.size (fun q h => by have := hrow q h; omega), by
              have hb5 : w5.heap[w.heap.size]? = (z1.alloc (.cells #[.int .i64 z] 3)).heap[w.heap.size]? := hgrow5.block _ (World.block_lt_of_cell? _ _ hF2.2.1) (fun h => by have := hrow _ h.symm; omega)
              obtain ⟨g0, g1, g2, g3⟩ := hF2.2
              exact ⟨by rw [← g0]; simp only [World.cell?, hb5], by rw [← g1]; simp only [World.cell?, hb5], by rw [← g2]; simp only [World.cell?, hb5], by rw [← g3]; simp only [World.cell?, hb5]⟩⟩
            have O5 : Hid (w5.ownsRow (w.heap.size + 1) 3 1 v5 (j + 1) (tgL x3 bo (j + 1)) ∧ Below w.heap.size w w5 ∧ Ins4 w5 w.heap.size x0 225 (.slice ad m cap) x3) := ⟨by rw [HTG.out] at hown5; exact hown5, F5⟩
            clear hown5 hgrow5 hrow hF2 BA hF O1
            refine hK.out _ _ F5 (fun _ => ?_)
            clear hK K
            (try simp only [Act.put, List.setIfInBounds_toArray, List.set_cons_zero, List.set_cons_succ])
            refine wpAnyH_take (i := 10) (v := v5) op10 (by kernel_rfl) (by kernel_rfl) (by kernel_rfl) (fun _ _ _ h => h) (Or.inl ⟨by rfl, fun V' hS => ?_⟩) F5 ?_
            · go_simp
            simp only [Act.put, List.setIfInBounds_toArray, List.set_cons_zero, List.set_cons_succ]
            refine wpAnyH_done (by kernel_rfl) ?_ _
            clear F5
            obtain ⟨av, cv, rfl, hav⟩ := own_slice O5.out.1
            clear hav
            go_wp2
            go_roundw
            case rel => exact ⟨j + 1, by omega, by simp; have := HKK.out; omega, O5.out⟩
            case measure => have := HKK.out; have := HTT.out; have := HOO.out; simp [intOf]; omega
          · obtain rfl : j = N := by omega
            have k1 : ¬ (kk : Int) < 2 := by have := HKK.out; have := HTT.out; have := HOO.out; omega
            obtain ⟨av, cv, rfl, hav⟩ := own_slice HR.out.1
            clear hav
            go_wp2
            go_ret
            exact ⟨_, rfl, owns_lower HR.out.1 (Nat.le_succ _), HR.out.2.1⟩
    · by_cases h2 : C = 226
      · obtain ⟨N, hN⟩ : ∃ N, N = lgN true C (b 0) := ⟨_, rfl⟩
        rw [← hN]
        have hN1 : N = b 0 + 1 := by rw [hN]; unfold lgN; rw [if_pos rfl, if_neg h1, if_pos h2]
        have HBO : Hid (∀ j, bo j = b (1 + j)) := fun j => by rw [hbo]; show b (lgO C + j) = _; unfold lgO; rw [if_pos h2]
        have hC := h2
        have HX3 : Hid (-9 ≤ x3 ∧ x3 ≤ 2000000) := by unfold Hid; omega
        have mI : (m : Int) ≤ 1000 := by omega
        obtain ⟨T, hT⟩ : ∃ T, T = m := ⟨_, rfl⟩
        obtain ⟨o, ho⟩ : ∃ o, o = 1 := ⟨_, rfl⟩
        have HTT : Hid (T = o + 2 * N) := by unfold Hid; omega
        have HTM : Hid (T ≤ m) := by unfold Hid; omega
        have HB1 : Hid (∀ j, bo j = b (o + j)) := fun j => by rw [ho]; exact HBO.out j
        clear HBO
        have HBO : Hid (∀ j, bo j = b (o + j)) := HB1.out
        have HOO : Hid (o = 1 ∧ T = m ∧ N ≤ 300) := ⟨ho, hT, by omega⟩
        have nI : N ≤ 300 := by omega
        clear hN hN1 hmm hbo p0 p1 p2 HB1 ho hT
        subst hC
        clear h1
        go_enter Tryd.func28, Tryd.ntmps28
        go_upto_region 7 with (go_at_call 40; refine (UP.out _ B0.out).mono ?_; rintro e w1 ⟨rfl, hB⟩; (have R1 : Hid (Below w.heap.size w w1 ∧ Ins4 w1 w.heap.size x0 226 (.slice ad m cap) x3) := ⟨B0.out.trans (hB.mono B0.out.size), I0.out.past hB⟩); clear hB c0 c1 c2 c3)
        obtain ⟨c0, c1, c2, c3⟩ := R1.out.2
        go_wp2
        clear c0 c1 c2 c3
        go_loopw [3, 7] (fun sv si wr => ∃ j : Nat, j ≤ N ∧ si = .int .i64 ((o + 2 * j : Nat) : Int) ∧ wr.ownsRow (w.heap.size + 1) 3 1 sv j (tgL x3 bo j) ∧ Below w.heap.size w wr ∧ Ins4 wr w.heap.size x0 226 (.slice ad m cap) x3) (fun _ si _ => T + 2 - (intOf si).toNat)
        case atStart => exact ⟨0, by omega, by first | rfl | (have := HOO.out; simp; omega), World.ownsRow_nil _ _ _ _, R1.out⟩
        case round =>
          obtain ⟨j, hj, rfl, hR, hBr, hIr⟩ := hrel
          have HR : Hid (wr.ownsRow (w.heap.size + 1) 3 1 u3 j (tgL x3 bo j) ∧ Below w.heap.size w wr ∧ Ins4 wr w.heap.size x0 226 (.slice ad m cap) x3) := ⟨hR, hBr, hIr⟩
          obtain ⟨kk, hkk⟩ : ∃ kk, kk = o + 2 * j := ⟨_, rfl⟩
          rw [← hkk]
          have HKK : Hid (kk = o + 2 * j) := hkk
          clear hR hBr hIr hkk
          by_cases hlt : j < N
          · have k1 : (kk : Int) < (m : Int) := by have := HKK.out; have := HTT.out; have := HOO.out; omega
            have k2 : (kk : Int) ≤ 1000000 := by have := HKK.out; have := HTT.out; have := HTM.out; omega
            have HDI : Hid (∀ W, Below w.heap.size w W → Calls Tryd.prog 41 #[.slice ad m cap, .int .i64 (kk : Int)] W fun e w' => e = .returned (.int .i64 (dist16 (b kk) (b (kk + 1)))) ∧ Below W.heap.size W w') := fun W hB => rdist_is W _ m b kk hm (HVV.out.below rfl hB) (by have := HKK.out; have := HTT.out; have := HTM.out; omega)
            have hd := dist16_in (b kk) (b (kk + 1)) (HBB.out _) (HBB.out _)
            have HTG0 := tgL_succ x3 bo j
            rw [HBO.out (2 * j), HBO.out (2 * j + 1), show o + 2 * j = kk from HKK.out.symm, show o + (2 * j + 1) = kk + 1 by have := HKK.out; omega] at HTG0
            generalize dist16 (b kk) (b (kk + 1)) = d at HDI hd HTG0
            obtain ⟨z, hz⟩ : ∃ z, z = x3 + d := ⟨_, rfl⟩
            rw [← hz] at HTG0
            have HTG : Hid (tgL x3 bo j ++ [.int .i64 z] = tgL x3 bo (j + 1)) := HTG0.symm
            have ez : x3 + d = z := hz.symm
            have zb : -9000000 ≤ z ∧ z ≤ 9000000 := by have := HX3.out; omega
            have zw : IntKind.i64.wrap z = z := Go.IntWalk.i64_in _ (by omega)
            clear hz HTG0
            go_upto_region 15 with fail
            refine wp_region_held_drew (S := fun V' => Below w.heap.size w V' ∧ Ins4 V' w.heap.size x0 226 (.slice ad m cap) x3) (by kernel_rfl) ⟨HR.out.2.1.drew, HR.out.2.2⟩ (fun hHeld => ?_)
            have OZ : Hid (wr.drew.ownsRow (w.heap.size + 1) 3 1 u3 j (tgL x3 bo j)) := HR.out.1
            generalize wr.drew = z0 at hHeld OZ ⊢
            clear HR
            refine wpAnyH_take (i := 0) (v := u3) op0 (by kernel_rfl) (by kernel_rfl) (by kernel_rfl) (fun _ _ _ h => h) (Or.inl ⟨by rfl, fun V' hS => ?_⟩) hHeld ?_
            · go_simp
            simp only [Act.put, List.setIfInBounds_toArray, List.set_cons_zero, List.set_cons_succ]
            refine wpAnyH_take (i := 1) (v := .pointer (some ⟨w.heap.size, 3, none⟩)) op1 (by kernel_rfl) (by kernel_rfl) (by kernel_rfl) (fun _ _ _ h => h) (Or.inl ⟨by rfl, fun V' hS => ?_⟩) hHeld ?_
            · go_simp
            simp only [Act.put, List.setIfInBounds_toArray, List.set_cons_zero, List.set_cons_succ]
            refine wpAnyH_take (i := 2) (v := .int .i64 x3) op2 (by kernel_rfl) (by kernel_rfl) (by kernel_rfl) (fun _ _ _ h => h) (Or.inl ⟨by rfl, fun V' hS => ?_⟩) hHeld ?_
            · have k3 := hS.2.2.2.2
              go_simp
            simp only [Act.put, List.setIfInBounds_toArray, List.set_cons_zero, List.set_cons_succ]
            refine wpAnyH_take (i := 3) (v := .pointer (some ⟨w.heap.size, 2, none⟩)) op3 (by kernel_rfl) (by kernel_rfl) (by kernel_rfl) (fun _ _ _ h => h) (Or.inl ⟨by rfl, fun V' hS => ?_⟩) hHeld ?_
            · go_simp
            simp only [Act.put, List.setIfInBounds_toArray, List.set_cons_zero, List.set_cons_succ]
            refine wpAnyH_take (i := 4) (v := .slice ad m cap) op4 (by kernel_rfl) (by kernel_rfl) (by kernel_rfl) (fun _ _ _ h => h) (Or.inl ⟨by rfl, fun V' hS => ?_⟩) hHeld ?_
            · have k2 := hS.2.2.2.1
              go_simp
            simp only [Act.put, List.setIfInBounds_toArray, List.set_cons_zero, List.set_cons_succ]
            refine wpAnyH_take (i := 5) (v := .int .i64 (kk : Int)) op5 (by kernel_rfl) (by kernel_rfl) (by kernel_rfl) (fun _ _ _ h => h) (Or.inl ⟨by rfl, fun V' hS => ?_⟩) hHeld ?_
            · go_simp
            simp only [Act.put, List.setIfInBounds_toArray, List.set_cons_zero, List.set_cons_succ]
            refine wpAnyH_ready (rs := [6]) (by kernel_rfl) (by simp) ?_
            refine AllReadyH.cons op6 (fun K hK => ?_) AllReadyH.nil
            rw [if_pos (by rfl)]
            go_simp
            refine (HDI.out z0 hHeld.1).mono ?_
            rintro e z1 ⟨rfl, hB⟩
            have hF : Below w.heap.size w z1 ∧ Ins4 z1 w.heap.size x0 226 (.slice ad m cap) x3 := ⟨hHeld.1.trans (hB.mono hHeld.1.size), hHeld.2.past hB⟩
            have O1 : Hid (z1.ownsRow (w.heap.size + 1) 3 1 u3 j (tgL x3 bo j)) := ownsRow_past OZ.out hB
            clear hB hHeld HDI OZ
            (try go_wp2_with fail)
            refine hK.out _ _ hF (fun _ => ?_)
            clear hK K
            (try simp only [Act.put, List.setIfInBounds_toArray, List.set_cons_zero, List.set_cons_succ])
            refine wpAnyH_take (i := 7) (v := .int .i64 z) op7 (by kernel_rfl) (by kernel_rfl) (by kernel_rfl) (fun _ _ _ h => h) (Or.inl ⟨by rfl, fun V' hS => ?_⟩) hF ?_
            · go_simp
            simp only [Act.put, List.setIfInBounds_toArray, List.set_cons_zero, List.set_cons_succ]
            refine wpAnyH_ready (rs := [8]) (by kernel_rfl) (by simp) ?_
            refine AllReadyH.cons op8 (fun K hK => ?_) AllReadyH.nil
            rw [if_pos (by rfl)]
            go_simp
            have BA : Below z1.heap.size z1 (z1.alloc (.cells #[.int .i64 z] 3)) := (Below.refl _ _).alloc (Nat.le_refl _) _
            have hF2 : Below w.heap.size w (z1.alloc (.cells #[.int .i64 z] 3)) ∧ Ins4 (z1.alloc (.cells #[.int .i64 z] 3)) w.heap.size x0 226 (.slice ad m cap) x3 := ⟨hF.1.trans (BA.mono hF.1.size), hF.2.past BA⟩
            refine hK.out _ _ hF2 (fun _ => ?_)
            clear hK K
            (try simp only [Act.put, List.setIfInBounds_toArray, List.set_cons_zero, List.set_cons_succ])
            refine wpAnyH_ready (rs := [9]) (by kernel_rfl) (by simp) ?_
            refine AllReadyH.cons op9 (fun K hK => ?_) AllReadyH.nil
            rw [if_pos (by rfl)]
            refine wp_append_own _ _ _ 60 rfl (w.heap.size + 1) 3 i0 (.int .i64 0) 1 8 Tryd.underlying60 hi hz0 hz1 hz2 rfl (by decide) _ _ _ rfl (O1.out.alloc _) ⟨z1.heap.size, 0, none⟩ 1 1 [.int .i64 z] rfl rfl (cells4_new z1 _ [.int .i64 z]) (fun u hu => by rw [List.mem_singleton.1 hu]; rfl) (by unfold maxLen; omega) (by omega) (by have := hF.1.size; have := World.block_lt_of_cell? z1 _ hF.2.1; simp; omega) ?_
            intro v5 w5 hown5 hgrow5 _
            have hrow : ∀ q, u3.ownBlock = some q → w.heap.size + 1 ≤ q := fun q h => (O1.out.lt q h).1
            have F5 : Below w.heap.size w w5 ∧ Ins4 w5 w.heap.size x0 226 (.slice ad m cap) x3 := ⟨Below.grown hF2.1 hgrow5 hF2.1.size (fun q h => by have := hrow q h; omega), by
              have hb5 : w5.heap[w.heap.size]? = (z1.alloc (.cells #[.int .i64 z] 3)).heap[w.heap.size]? := hgrow5.block _ (World.block_lt_of_cell? _ _ hF2.2.1) (fun h => by have := hrow _ h.symm; omega)
              obtain ⟨g0, g1, g2, g3⟩ := hF2.2
              exact ⟨by rw [← g0]; simp only [World.cell?, hb5], by rw [← g1]; simp only [World.cell?, hb5], by rw [← g2]; simp only [World.cell?, hb5], by rw [← g3]; simp only [World.cell?, hb5]⟩⟩
            have O5 : Hid (w5.ownsRow (w.heap.size + 1) 3 1 v5 (j + 1) (tgL x3 bo (j + 1)) ∧ Below w.heap.size w w5 ∧ Ins4 w5 w.heap.size x0 226 (.slice ad m cap) x3) := ⟨by rw [HTG.out] at hown5; exact hown5, F5⟩
            clear hown5 hgrow5 hrow hF2 BA hF O1
            refine hK.out _ _ F5 (fun _ => ?_)
            clear hK K
            (try simp only [Act.put, List.setIfInBounds_toArray, List.set_cons_zero, List.set_cons_succ])
            refine wpAnyH_take (i := 10) (v := v5) op10 (by kernel_rfl) (by kernel_rfl) (by kernel_rfl) (fun _ _ _ h => h) (Or.inl ⟨by rfl, fun V' hS => ?_⟩) F5 ?_
            · go_simp
            simp only [Act.put, List.setIfInBounds_toArray, List.set_cons_zero, List.set_cons_succ]
            refine wpAnyH_done (by kernel_rfl) ?_ _
            clear F5
            obtain ⟨av, cv, rfl, hav⟩ := own_slice O5.out.1
            clear hav
            go_wp2
            go_roundw
            case rel => exact ⟨j + 1, by omega, by simp; have := HKK.out; omega, O5.out⟩
            case measure => have := HKK.out; have := HTT.out; have := HOO.out; simp [intOf]; omega
          · obtain rfl : j = N := by omega
            have k1 : ¬ (kk : Int) < (m : Int) := by have := HKK.out; have := HTT.out; have := HOO.out; omega
            obtain ⟨av, cv, rfl, hav⟩ := own_slice HR.out.1
            clear hav
            go_wp2
            go_ret
            exact ⟨_, rfl, owns_lower HR.out.1 (Nat.le_succ _), HR.out.2.1⟩
      · have e0 : lgN true C (b 0) = 0 := by unfold lgN; rw [if_pos rfl, if_neg h1, if_neg h2]
        rw [e0, show tgL x3 bo 0 = [] from rfl]
        have n4 : (C == 224) = false := by rw [beq_eq_false_iff_ne]; omega
        have n5 : (C == 225) = false := by rw [beq_eq_false_iff_ne]; omega
        have n6 : (C == 226) = false := by rw [beq_eq_false_iff_ne]; omega
        clear h1 h2 hmm hbo e0 p0 p1 p2
        go_enter Tryd.func28, Tryd.ntmps28
        go_upto_region 7 with (go_at_call 40; refine (UP.out _ B0.out).mono ?_; rintro e w1 ⟨rfl, hB⟩; (have R1 : Hid (Below w.heap.size w w1 ∧ Ins4 w1 w.heap.size x0 C (.slice ad m cap) x3) := ⟨B0.out.trans (hB.mono B0.out.size), I0.out.past hB⟩); clear hB c0 c1 c2 c3)
        obtain ⟨c0, c1, c2, c3⟩ := R1.out.2
        go_wp2
        refine wp_loop_rounds 1 ?_
        rw [rounds_succ]
        go_wp2
        go_ret
        exact ⟨_, rfl, World.ownsRow_nil _ _ _ _, R1.out.1⟩
end Go.Proofs.YtcjmbpchdeapiaaDoor
