/- The document's Scan. -/
import Derived.Test.YtcjmbpchdeapiaaDoorCre
import Derived.Test.YtcjmbpchdeapiaaDoorCrd
namespace Go.Proofs.YtcjmbpchdeapiaaDoor
open Go.RowKit
def RScanPost (w : World) (L : Nat) (b : Nat → Nat) (e : Ending) (w' : World) : Prop := ∃ k fv, FullA b L k ∧ e = .returned (.tuple #[fv, .int .i64 (scE b L k), .int .i64 (scP b L k : Int)]) ∧ Below w.heap.size w w' ∧ (scE b L k ≠ 0 → fv = .slice none 0 0) ∧ (scE b L k = 0 → RAll w.heap.size b k fv w')
set_option maxHeartbeats 4000000 in
set_option maxRecDepth 100000 in
theorem rscan_is (w : World) (v : Value) (L : Nat) (b : Nat → Nat) (hv : BytesOf w v L b) (hL : L ≤ 1000000) : Calls Tryd.prog 9 #[v] w (RScanPost w L b) := by
  have HBB : Hid (∀ j, b j < 256) := by obtain ⟨_, _, _, h, _⟩ := hv; exact h
  have HVV : Hid (BytesOf w v L b) := hv
  have HAL : Hid (Calls Tryd.prog 16 #[v] w fun e w' => ∃ k lv, FullA b L k ∧ e = .returned lv ∧ RAll w.heap.size b k lv w' ∧ Below w.heap.size w w') := rAll_is w v L b hv hL
  obtain ⟨ad, cap, rfl, _⟩ := hv
  have lI : (L : Int) ≤ 1000000 := by omega
  go_enter Tryd.func9, Tryd.ntmps9
  go_upto_region 2 with (go_at_call 16; refine HAL.out.mono ?_; rintro e w1 ⟨k, lv, hF, rfl, hA, hB⟩; (have R1 : Hid (RAll w.heap.size b k lv w1 ∧ Below w.heap.size w w1 ∧ FullA b L k) := ⟨hA, hB, hF⟩); clear hF hA hB HAL)
  obtain ⟨ga, ca, rfl, hga⟩ := R1.out.1.slice
  have kL := R1.out.2.2.1.count
  have kI : (k : Int) ≤ 1000000 := by omega
  have hle := R1.out.2.2.1.le_len
  by_cases hL0 : L = 0
  · subst hL0
    obtain rfl : k = 0 := by omega
    have HS : Hid (scE b 0 0 = 62 ∧ scP b 0 0 = 0) := ⟨rfl, rfl⟩
    go_wp2
    exact bodyPost_ret (results_tmp3 rfl _ _ _) rfl ⟨0, .slice none 0 0, R1.out.2.2, rfl, R1.out.2.1, fun _ => rfl, fun h => absurd h (by rw [HS.out.1]; decide)⟩
  · have L0 : ((L : Int) == 0) = false := by rw [beq_eq_false_iff_ne]; omega
    by_cases hp : posA b k < L
    · have HO : Hid (∀ W, Below w.heap.size w W → Calls Tryd.prog 25 #[.slice ad L cap, .int .i64 (posA b k : Int)] W fun e w' => e = .returned (.tuple #[.agg #[.int .i64 0, .int .i64 0, .slice none 0 0, .int .i64 0], .int .i64 (errA b L (posA b k))]) ∧ Below W.heap.size W w') := fun W hB => rone_no W _ L b (posA b k) (HVV.out.below rfl hB) hL R1.out.2.2.2
      have HS : Hid (scE b L k = errA b L (posA b k) ∧ scP b L k = posA b k ∧ errA b L (posA b k) ≠ 0) := ⟨by unfold scE; rw [if_neg hL0, if_pos hp], by unfold scP; rw [if_neg hL0, if_pos hp], by unfold errA; rw [if_neg (by omega)]; split <;> decide⟩
      by_cases hk : k = 0
      · subst hk
        have p0 : posA b 0 = 0 := rfl
        rw [p0] at HO HS
        generalize errA b L 0 = er at HO HS
        have l1 : (0 : Int) < (L : Int) := by omega
        clear hp p0 hga
        go_wp2_with (go_at_call 25; refine (HO.out _ R1.out.2.1).mono ?_; rintro e w2 ⟨rfl, hB⟩; (have B2 : Hid (Below w.heap.size w (w2.alloc (.cells #[.int .i64 0, .int .i64 0, .slice none 0 0, .int .i64 0] 40))) := (R1.out.2.1.trans (hB.mono R1.out.2.1.size)).alloc (Nat.le_trans R1.out.2.1.size hB.size) _); clear hB HO)
        exact bodyPost_ret (results_tmp3 rfl _ _ _) rfl ⟨0, .slice none 0 0, R1.out.2.2, by rw [HS.out.1, HS.out.2.1]; rfl, B2.out, fun _ => rfl, fun h => absurd h (by rw [HS.out.1]; exact HS.out.2.2)⟩
      · obtain ⟨kk, hkk⟩ : ∃ kk, k = kk + 1 := ⟨k - 1, by omega⟩
        obtain ⟨g, rfl⟩ := hga hk
        obtain ⟨ia, ic, d0, d1, d2, d3, dB⟩ := R1.out.1.at HBB.out kk (by omega)
        rw [← hkk] at d3
        have k0 : ((k : Int) == 0) = false := by rw [beq_eq_false_iff_ne]; omega
        have k1 : (0 : Int) < (k : Int) := by omega
        have ek : (k : Int) - 1 = (kk : Int) := by omega
        have k2 : (kk : Int) < (k : Int) := by omega
        have pI : ((posA b k : Nat) : Int) < (L : Int) := by omega
        clear d0 d1 d2 dB hga hk hkk hp
        generalize errA b L (posA b k) = er at HO HS
        generalize posA b k = p at HO HS d3 pI
        go_wp2_with (go_at_call 25; refine (HO.out _ R1.out.2.1).mono ?_; rintro e w2 ⟨rfl, hB⟩; (have B2 : Hid (Below w.heap.size w (w2.alloc (.cells #[.int .i64 0, .int .i64 0, .slice none 0 0, .int .i64 0] 40))) := (R1.out.2.1.trans (hB.mono R1.out.2.1.size)).alloc (Nat.le_trans R1.out.2.1.size hB.size) _); clear hB HO)
        exact bodyPost_ret (results_tmp3 rfl _ _ _) rfl ⟨k, .slice none 0 0, R1.out.2.2, by rw [HS.out.1, HS.out.2.1]; rfl, B2.out, fun _ => rfl, fun h => absurd h (by rw [HS.out.1]; exact HS.out.2.2)⟩
    · have hk : k ≠ 0 := by rintro rfl; exact hp (by show 0 < L; omega)
      obtain ⟨kk, hkk⟩ : ∃ kk, k = kk + 1 := ⟨k - 1, by omega⟩
      have HS : Hid (scE b L k = (if endsV (b (posA b kk) : Int) = true then 0 else 62) ∧ scP b L k = (if endsV (b (posA b kk) : Int) = true then 0 else posA b kk)) := ⟨by unfold scE; rw [if_neg hL0, if_neg hp, show k - 1 = kk by omega], by unfold scP; rw [if_neg hL0, if_neg hp, show k - 1 = kk by omega]⟩
      obtain ⟨g, rfl⟩ := hga hk
      obtain ⟨ia, ic, d0, d1, d2, d3, dB⟩ := R1.out.1.at HBB.out kk (by omega)
      rw [← hkk] at d3
      obtain ⟨ok1, ok2, ok3⟩ := okA_parts (R1.out.2.2.1 kk (by omega))
      have bA := HBB.out (posA b kk)
      have HO : Hid (∀ W : World, Calls Tryd.prog 26 #[.int .i64 (b (posA b kk) : Int)] W fun e w' => e = .returned (.tuple #[opv (b (posA b kk)), .bool true]) ∧ Below W.heap.size W w') := fun W => by
        have := rof_any (b (posA b kk) : Int) W; rw [(ofB (b (posA b kk)) bA ok2).1, (ofB (b (posA b kk)) bA ok2).2] at this; exact this
      have HEN : Hid (endsV (b (posA b kk) : Int) = endsT (b (posA b kk))) := by unfold Hid endsV; rw [(ofB (b (posA b kk)) bA ok2).2, Int.toNat_natCast, Bool.true_and]
      rw [HEN.out] at HS
      unfold opv at HO
      have k0 : ((k : Int) == 0) = false := by rw [beq_eq_false_iff_ne]; omega
      have k1 : (0 : Int) < (k : Int) := by omega
      have ek : (k : Int) - 1 = (kk : Int) := by omega
      have k2 : (kk : Int) < (k : Int) := by omega
      have pI : ¬ ((posA b k : Nat) : Int) < (L : Int) := by omega
      clear dB hga hk hkk hp HEN ok1 ok2 ok3
      generalize posA b k = p at d3 pI
      generalize immA b (posA b kk) = n at d2
      generalize b (posA b kk) = c at HO HS d1 bA
      generalize posA b kk = A at HS d0
      generalize nameT c = s at HO
      generalize immT c = i1 at HO
      generalize inT c = i2 at HO
      generalize outT c = i3 at HO
      generalize gasT c = i4 at HO
      generalize endsT c = b5 at HO HS
      go_upto_region 11 with fail
      have B2 : Below w1.heap.size w1 (w1.alloc (.cells #[.int .i64 (A : Int), .int .i64 (c : Int), .slice ia n ic, .int .i64 (p : Int)] 40)) := (Below.refl _ w1).alloc (Nat.le_refl _) _
      have X2 : CBox (w1.alloc (.cells #[.int .i64 (A : Int), .int .i64 (c : Int), .slice ia n ic, .int .i64 (p : Int)] 40)) w1.heap.size 40 [.int .i64 (A : Int), .int .i64 (c : Int), .slice ia n ic, .int .i64 (p : Int)] := CBox.new w1 _ _
      generalize w1.alloc (.cells #[.int .i64 (A : Int), .int .i64 (c : Int), .slice ia n ic, .int .i64 (p : Int)] 40) = w2 at B2 X2 ⊢
      have R2 : Hid (Below w.heap.size w w2 ∧ RAll w.heap.size b k (.slice (some ⟨g, 0, none⟩) k ca) w2 ∧ CBox w2 w1.heap.size 40 [.int .i64 (A : Int), .int .i64 (c : Int), .slice ia n ic, .int .i64 (p : Int)]) := ⟨R1.out.2.1.trans (B2.mono R1.out.2.1.size), R1.out.1.past B2, X2⟩
      clear B2
      generalize w1.heap.size = q1 at X2 R2 ⊢
      have x1 := X2.cell 1
      simp only [List.getElem?_cons_zero, List.getElem?_cons_succ] at x1
      clear X2 d0 d1 d2 d3
      have HFU : Hid (FullA b L k) := R1.out.2.2
      go_upto_region 12 with (go_at_call 26; refine (HO.out _).mono ?_; rintro e w3 ⟨rfl, hB⟩; (have R3 : Hid (Below w2.heap.size w2 (w3.alloc (.cells #[.int .i64 (c : Int), .string s, .int .i64 i1, .int .i64 i2, .int .i64 i3, .int .i64 i4, .bool b5] 56)) ∧ Op7 (w3.alloc (.cells #[.int .i64 (c : Int), .string s, .int .i64 i1, .int .i64 i2, .int .i64 i3, .int .i64 i4, .bool b5] 56)) w3.heap.size (c : Int) s i1 i2 i3 i4 b5) := ⟨hB.alloc hB.size _, Op7.new w3 _ s i1 i2 i3 i4 b5⟩); clear hB HO x1)
      generalize w3.alloc (.cells #[.int .i64 (c : Int), .string s, .int .i64 i1, .int .i64 i2, .int .i64 i3, .int .i64 i4, .bool b5] 56) = w4 at R3 ⊢
      generalize w3.heap.size = q3 at R3 ⊢
      obtain ⟨o0, o1, o2, o3, o4, o5, o6⟩ := R3.out.2
      have R4 : Hid (Below w.heap.size w w4 ∧ RAll w.heap.size b k (.slice (some ⟨g, 0, none⟩) k ca) w4) := ⟨R2.out.1.trans (R3.out.1.mono R2.out.1.size), R2.out.2.1.past R3.out.1⟩
      have y0 := (R2.out.2.2.past R3.out.1).cell 0
      simp only [List.getElem?_cons_zero] at y0
      clear R1 R2 R3
      cases b5 with
      | true =>
        rw [if_pos rfl, if_pos rfl] at HS
        go_wp2
        exact bodyPost_ret (results_tmp3 rfl _ _ _) rfl ⟨k, .slice (some ⟨g, 0, none⟩) k ca, HFU.out, by rw [HS.out.1, HS.out.2]; rfl, R4.out.1, fun h => absurd HS.out.1 h, fun _ => R4.out.2⟩
      | false =>
        rw [if_neg (by decide), if_neg (by decide)] at HS
        go_upto_region 13 with fail
        go_region
        go_wp2
        exact bodyPost_ret (results_tmp3 rfl _ _ _) rfl ⟨k, .slice none 0 0, HFU.out, by rw [HS.out.1, HS.out.2]; rfl, R4.out.1.drew, fun _ => rfl, fun h => absurd h (by rw [HS.out.1]; decide)⟩
end Go.Proofs.YtcjmbpchdeapiaaDoor
