/- What code.Named answers. -/
import Derived.Test.YtbhldmfnhlifpaaDoorCdg
import Derived.Test.YtbhldmfnhlifpaaDoorCrc
namespace Go.Proofs.YtbhldmfnhlifpaaDoor
open Go.RowKit
theorem imm_named : immT 227 = 2 ∧ immT 229 = 2 ∧ immT 209 = 2 ∧ immT 236 = 1 ∧ immT 238 = 1 := by decide +kernel
/-- what an instruction names -/
def nmV (s : Bool) (C : Int) (b : Nat → Nat) : Value :=
  if s = true then
    if C = 227 ∨ C = 229 ∨ C = 209 then .tuple #[.int .i64 ((256 * b 0 + b 1 : Nat) : Int), .bool true]
    else if C = 236 ∨ C = 238 then .tuple #[.int .i64 (b 0 : Int), .bool true] else .tuple #[.int .i64 0, .bool false]
  else .tuple #[.int .i64 0, .bool false]
set_option maxHeartbeats 4000000 in
set_option maxRecDepth 100000 in
theorem named_is (w : World) (hN : Nms w) (x0 C x3 : Int) (v : Value) (m : Nat) (b : Nat → Nat) (hm : m ≤ 140737488355328) (hv : BytesOf w v m b) : Calls Tryd.prog 35 #[.agg #[.int .i64 x0, .int .i64 C, v, .int .i64 x3]] w fun e w' => e = .returned (nmV (standsV x0 C x3 m (b 0)) C b) ∧ Below w.heap.size w w' := by
  have HS : Hid (∀ W : World, Below w.heap.size w W → Calls Tryd.prog 73 #[.agg #[.int .i64 x0, .int .i64 C, v, .int .i64 x3]] W fun e w' => e = .returned (.bool (standsV x0 C x3 m (b 0))) ∧ Below W.heap.size W w') := fun W hB => stands_is W (hN.past hB) x0 C x3 v m b hm (hv.below rfl hB)
  obtain ⟨ad, cap, rfl, hb, _, hc⟩ := hv
  have B0 : Hid (Below w.heap.size w (w.alloc (.cells #[.int .i64 x0, .int .i64 C, .slice ad m cap, .int .i64 x3] 25))) := (Below.refl _ w).alloc (Nat.le_refl _) _
  have I0 : Hid (Ins4 (w.alloc (.cells #[.int .i64 x0, .int .i64 C, .slice ad m cap, .int .i64 x3] 25)) w.heap.size x0 C (.slice ad m cap) x3) := Ins4.new w x0 C ad m cap x3
  cases hs : standsV x0 C x3 m (b 0) with
  | false =>
    rw [hs] at HS
    clear hc hb
    obtain ⟨c0, c1, c2, c3⟩ := I0.out
    go_enter Tryd.func35, Tryd.ntmps35
    go_wp2_with (go_at_call 73; refine (HS.out _ B0.out).mono ?_; rintro e w1 ⟨rfl, hB⟩; (have B1 : Hid (Below w.heap.size w w1) := B0.out.trans (hB.mono B0.out.size)); clear hB)
    exact bodyPost_ret (results_tmp2 rfl _ _ _) rfl ⟨by unfold nmV; rw [if_neg (by simp)]; rfl, B1.out⟩
  | true =>
    rw [hs] at HS
    have p4 := (stands_parts hs).2.2.2.2
    by_cases hn : C = 227 ∨ C = 229 ∨ C = 209
    · have hm2 : m = 2 := by
        unfold fitsB at p4
        rcases hn with rfl | rfl | rfl
        · rw [show (227 : Int).toNat = 227 from rfl, imm_named.1, if_neg (by decide), decide_eq_true_eq] at p4; omega
        · rw [show (229 : Int).toNat = 229 from rfl, imm_named.2.1, if_neg (by decide), decide_eq_true_eq] at p4; omega
        · rw [show (209 : Int).toNat = 209 from rfl, imm_named.2.2.1, if_neg (by decide), decide_eq_true_eq] at p4; omega
      subst hm2
      obtain ⟨g, o, rfl, hcc⟩ := hc (by omega)
      have gl := World.block_lt_of_cell? w _ (hcc 0 (by omega))
      have EV : Hid (nmV true C b = .tuple #[.int .i64 ((256 * b 0 + b 1 : Nat) : Int), .bool true]) := by unfold nmV Hid; rw [if_pos rfl, if_pos hn]
      have PI : Hid (∀ W, Below w.heap.size w W → Calls Tryd.prog 77 #[.slice (some ⟨g, o, none⟩) 2 cap] W fun e w' => e = .returned (.int .u16 ((256 * b 0 + b 1 : Nat) : Int)) ∧ Below W.heap.size W w') := fun W hB => (pair_is W g o 2 cap (b 0) (b 1) ⟨by omega, by omega⟩ (hb 0) (hb 1) ((hB.cell (p := ⟨g, o, none⟩) gl).trans (hcc 0 (by omega))) ((hB.cell (p := ⟨g, o + 1, none⟩) gl).trans (hcc 1 (by omega)))).mono fun e w' ⟨he, n, hw⟩ => ⟨he, by rw [hw]; exact below_drewN (Below.refl _ _) n⟩
      have bp : 256 * b 0 + b 1 < 65536 := by have := hb 0; have := hb 1; omega
      generalize 256 * b 0 + b 1 = P at PI EV bp
      have PI1 : (P : Int) < 65536 := by omega
      clear hs p4 hc hcc hb bp
      rcases hn with rfl | rfl | rfl
      all_goals
        obtain ⟨c0, c1, c2, c3⟩ := I0.out
        go_enter Tryd.func35, Tryd.ntmps35
        go_upto_region 3 with (go_at_call 73; refine (HS.out _ B0.out).mono ?_; rintro e w1 ⟨rfl, hB⟩; (have B1 : Hid (Below w.heap.size w w1) := B0.out.trans (hB.mono B0.out.size)); (have I1 : Hid (Ins4 w1 w.heap.size x0 _ (.slice (some ⟨g, o, none⟩) 2 cap) x3) := I0.out.past hB); clear hB)
        clear c0 c1 c2 c3
        obtain ⟨c0, c1, c2, c3⟩ := I1.out
        go_wp2_with (go_at_call 77; refine (PI.out _ B1.out).mono ?_; rintro e w2 ⟨rfl, hB2⟩; (have B2 : Hid (Below w.heap.size w w2) := B1.out.trans (hB2.mono B1.out.size)); clear hB2)
        exact bodyPost_ret (results_tmp2 rfl _ _ _) rfl ⟨by rw [EV.out]; rfl, B2.out⟩
    · by_cases hn1 : C = 236 ∨ C = 238
      · have hm1 : m = 1 := by
          unfold fitsB at p4
          rcases hn1 with rfl | rfl
          · rw [show (236 : Int).toNat = 236 from rfl, imm_named.2.2.2.1, if_neg (by decide), decide_eq_true_eq] at p4; omega
          · rw [show (238 : Int).toNat = 238 from rfl, imm_named.2.2.2.2, if_neg (by decide), decide_eq_true_eq] at p4; omega
        subst hm1
        obtain ⟨g, o, rfl, hcc⟩ := hc (by omega)
        have k0 := hcc 0 (by omega)
        have gl := World.block_lt_of_cell? w _ k0
        have EV : Hid (nmV true C b = .tuple #[.int .i64 (b 0 : Int), .bool true]) := by unfold nmV Hid; rw [if_pos rfl, if_neg hn, if_pos hn1]
        have b0 := hb 0
        have HK : Hid (∀ W, Below w.heap.size w W → W.cell? ⟨g, o, none⟩ = some (.int .u8 (b 0 : Int))) := fun W hB => (hB.cell (p := ⟨g, o, none⟩) gl).trans k0
        generalize b 0 = P at HK EV b0 hs p4
        have PI1 : (P : Int) < 256 := by omega
        clear hs p4 hc hcc hb k0 hn
        rcases hn1 with rfl | rfl
        all_goals
          obtain ⟨c0, c1, c2, c3⟩ := I0.out
          go_enter Tryd.func35, Tryd.ntmps35
          go_upto_region 3 with (go_at_call 73; refine (HS.out _ B0.out).mono ?_; rintro e w1 ⟨rfl, hB⟩; (have B1 : Hid (Below w.heap.size w w1) := B0.out.trans (hB.mono B0.out.size)); (have I1 : Hid (Ins4 w1 w.heap.size x0 _ (.slice (some ⟨g, o, none⟩) 1 cap) x3) := I0.out.past hB); clear hB)
          clear c0 c1 c2 c3
          obtain ⟨c0, c1, c2, c3⟩ := I1.out
          have k1 := HK.out w1 B1.out
          go_wp2
          exact bodyPost_ret (results_tmp2 rfl _ _ _) rfl ⟨by rw [EV.out]; rfl, B1.out⟩
      · have EV : Hid (nmV true C b = .tuple #[.int .i64 0, .bool false]) := by unfold nmV Hid; rw [if_pos rfl, if_neg hn, if_neg hn1]
        have m1 : C ≠ 227 := fun h => hn (Or.inl h)
        have m2 : C ≠ 229 := fun h => hn (Or.inr (Or.inl h))
        have m3 : C ≠ 209 := fun h => hn (Or.inr (Or.inr h))
        have m4 : C ≠ 236 := fun h => hn1 (Or.inl h)
        have m5 : C ≠ 238 := fun h => hn1 (Or.inr h)
        clear hs p4 hc hb hn hn1
        obtain ⟨c0, c1, c2, c3⟩ := I0.out
        go_enter Tryd.func35, Tryd.ntmps35
        go_upto_region 3 with (go_at_call 73; refine (HS.out _ B0.out).mono ?_; rintro e w1 ⟨rfl, hB⟩; (have B1 : Hid (Below w.heap.size w w1) := B0.out.trans (hB.mono B0.out.size)); (have I1 : Hid (Ins4 w1 w.heap.size x0 C (.slice ad m cap) x3) := I0.out.past hB); clear hB)
        clear c0 c1 c2 c3
        obtain ⟨c0, c1, c2, c3⟩ := I1.out
        go_wp2
        exact bodyPost_ret (results_tmp2 rfl _ _ _) rfl ⟨by rw [EV.out]; rfl, B1.out⟩
end Go.Proofs.YtbhldmfnhlifpaaDoor
