/- The document's 'small' and 'upTo'. -/
import Derived.Test.YtpadpmkfhljiiaaGreatMp4
import Derived.Test.YtpadpmkfhljiiaaGreatMp1
import Derived.Laws.BitsAllLaws
namespace Go.Proofs.YtpadpmkfhljiiaaGreat
open Go.RowKit
theorem div_pow_succ (n k : Nat) : n / 256 ^ k / 256 = n / 256 ^ (k + 1) := by rw [Nat.pow_succ, Nat.div_div_eq_div_mul]
set_option maxHeartbeats 2000000 in
set_option maxRecDepth 100000 in
theorem small_is (n : Nat) (hn : n < 65536) (w : World) :
    Calls Tryz.prog 108 #[.int .i64 (n : Int)] w fun e w' => ∃ v, e = .returned v ∧ RowIs w' v 2 n ∧ Below w.heap.size w w' := by
  obtain ⟨i0, hi, hz0, hz1, hz2⟩ := info_parts Tryz.infoI
  have HN : Hid (n < 65536) := hn
  have DE : Hid (∀ k, n / 256 ^ k = 0 → ∀ i, k ≤ i → n / 256 ^ i = 0) := fun k h i hi => by
    have h1 : n < 256 ^ k := by
      rcases Nat.lt_or_ge n (256 ^ k) with h2 | h2
      · exact h2
      · have := Nat.div_pos h2 (Nat.pow_pos (by omega)); omega
    exact Nat.div_eq_of_lt (Nat.lt_of_lt_of_le h1 (Nat.pow_le_pow_right (by decide) hi))
  clear hn
  go_enter Tryz.func108, Tryz.ntmps108
  go_wp2
  go_loopw [0, 3] (fun s0 s3 wr => ∃ k m : Nat, k ≤ 2 ∧ m = n / 256 ^ k ∧ s0 = .int .i64 (m : Int) ∧ wr.ownsRow w.heap.size 3 1 s3 k (intsD (dig n) k) ∧ Below w.heap.size w wr) (fun s0 _ _ => (intOf s0).toNat)
  case atStart => exact ⟨0, n, by omega, by simp, rfl, World.ownsRow_nil _ _ _ _, Below.refl _ _⟩
  case round =>
    obtain ⟨k, m, hk, hm, rfl, hown, hB⟩ := hrel
    have HOW : Hid _ := hown
    have HB : Hid (Below w.heap.size w wr) := hB
    have HM : Hid (m = n / 256 ^ k) := hm
    have b0 := hB.size
    by_cases h0 : 0 < m
    · have mI : (0 : Int) < (m : Int) := by omega
      have mL : (m : Int) < 65536 := by
        have h2 := HN.out
        have h3 := Nat.div_le_self n (256 ^ k)
        omega
      have k2 : k < 2 := by
        rcases Nat.lt_or_ge k 2 with h | h
        · exact h
        · obtain rfl : k = 2 := by omega
          have := HN.out
          rw [Nat.div_eq_of_lt (by omega)] at hm; omega
      obtain ⟨r, er⟩ : ∃ r, r = m % 256 := ⟨_, rfl⟩
      obtain ⟨c, ec⟩ : ∃ c, c = m / 256 := ⟨_, rfl⟩
      have b6 : Int.tmod (m : Int) 256 = (r : Int) := by rw [Int.tmod_eq_emod_of_nonneg (by omega)]; omega
      have b7 : Int.tdiv (m : Int) 256 = (c : Int) := by rw [Int.tdiv_eq_ediv_of_nonneg (by omega)]; omega
      have t4 : (m : Int) % 256 = (r : Int) := by omega
      have b8 : IntKind.i64.wrap (r : Int) = (r : Int) := by rw [IntKind.wrap_i64]; omega
      have b9 : IntKind.i64.wrap (c : Int) = (c : Int) := by rw [IntKind.wrap_i64]; omega
      have r256 : r < 256 := by omega
      have ED : Hid (r = dig n k ∧ c = n / 256 ^ (k + 1) ∧ c < m) := ⟨by rw [er, hm, dig, if_pos (by omega)], by rw [ec, hm, div_pow_succ], by omega⟩
      clear er ec hown hB hm
      go_wp2_with (at_builtin; refine wpList_append_own _ rfl _ _ 61 rfl w.heap.size 3 i0 (.int .i64 0) 1 8 Tryz.underlying61 hi hz0 hz1 hz2 rfl (by decide) _ _ _ rfl (World.ownsRow.alloc HOW.out _) ⟨wr.heap.size, 0, none⟩ 1 1 [.int .i64 (r : Int)] rfl rfl (fun j u hj => (by have hj0 : j = 0 := (by have := (List.getElem?_eq_some_iff.1 hj).1; simpa using this); subst hj0; simp at hj; subst hj; (first | (simp [Addr.add]; done) | (simp [Addr.add]; first | exact t4 | omega)))) (fun u hu => (by rw [List.mem_singleton.1 hu]; rfl)) (by unfold maxLen; omega) (by omega) (by simp; omega) ?_; intro v' w1 hown' hgrow _)
      have R : Hid _ := of_step (ED.out.1) HOW.out HB.out hown' hgrow
      clear hown' hgrow
      go_wp2
      go_roundw
      case rel => exact ⟨k + 1, c, by omega, ED.out.2.1, rfl, R.out⟩
      case measure => have := ED.out.2.2; simp [intOf]; omega
    · obtain rfl : m = 0 := by omega
      clear hm hown hB
      go_wp2
      go_ret
      have hz := DE.out k HM.out.symm
      exact ⟨_, rfl, ⟨k, dig n, hk, RowAt.own HOW.out (dig_lt n) (fun i hi => by rw [dig]; split; rw [hz i hi]; rfl) (by omega), by rw [dig_sum n k (by omega)]; exact Nat.mod_eq_of_lt (by rcases Nat.lt_or_ge n (256 ^ k) with h2 | h2; exact h2; have := Nat.div_pos h2 (Nat.pow_pos (by omega)); have := HM.out; omega)⟩, HB.out⟩
set_option maxHeartbeats 2000000 in
set_option maxRecDepth 100000 in
theorem upTo_is (x : Int) (a0 a1 a2 a3 : Int) (w : World) (ha : IsW x a0 a1 a2 a3) (X : Nat) (hX : V a0 a1 a2 a3 = (X : Int)) (M : Nat) (hM : M < 65536) (r : Nat) (hr : r = min X M) :
    Calls Tryz.prog 106 #[.agg #[.int .u64 a0, .int .u64 a1, .int .u64 a2, .int .u64 a3], .int .i64 (M : Int)] w fun e w' => e = .returned (.int .i64 (r : Int)) ∧ Below w.heap.size w w' := by
  have OA : Hid (∀ W, Calls Tryz.prog 79 #[.agg #[.int .u64 a0, .int .u64 a1, .int .u64 a2, .int .u64 a3]] W fun e w' => ∃ v, e = .returned v ∧ RowAt w' v 32 (dig X) ∧ Below W.heap.size W w') := fun W => of_is x a0 a1 a2 a3 W ha X hX
  have LX : Hid (X < 256 ^ 32) := V_lt ha hX
  have HR : Hid (r = min X M ∧ M < 65536) := ⟨hr, hM⟩
  have SM : Hid (∀ W, Calls Tryz.prog 108 #[.int .i64 (M : Int)] W fun e w' => ∃ v, e = .returned v ∧ RowIs w' v 2 M ∧ Below W.heap.size W w') := small_is M hM
  have K0 : Hid (Bx w [(w.heap.size, a0, a1, a2, a3)] (w.alloc (.cells #[.int .u64 a0, .int .u64 a1, .int .u64 a2, .int .u64 a3] 24))) := (Bx.start w).alloc a0 a1 a2 a3
  clear ha hX hM hr
  go_enter Tryz.func106, Tryz.ntmps106
  go_upto_region 1 with fail
  generalize w.alloc (.cells #[.int .u64 a0, .int .u64 a1, .int .u64 a2, .int .u64 a3] 24) = W0 at K0 ⊢
  obtain ⟨c0, c1, c2, c3, _⟩ := K0.out.f0 mm0
  go_upto_region 2 with (go_at_call 79; refine (OA.out _).mono ?_; rintro e v1 ⟨rv, rfl, hrow, hB⟩)
  have K1 : Hid (Below w.heap.size w v1 ∧ RowAt v1 rv 32 (dig X)) := ⟨K0.out.bel.trans (hB.mono K0.out.bel.size), hrow⟩
  clear K0 hrow hB c0 c1 c2 c3 OA
  go_wp2_with fail
  refine (SM.out _).mono ?_
  rintro e v2 ⟨sv, rfl, hs, hB⟩
  have K2 : Hid (Below w.heap.size w v2 ∧ RowAt v2 rv 32 (dig X)) := ⟨K1.out.1.trans (hB.mono K1.out.1.size), K1.out.2.below hB⟩
  obtain ⟨cv, ecv⟩ : ∃ cv, cmpv (X : Int) (M : Int) = cv := ⟨_, rfl⟩
  have CM : Hid (Calls Tryz.prog 118 #[rv, sv] v2 fun e w' => e = .returned (.int .i64 cv) ∧ Below v2.heap.size v2 w') := ri_compare ⟨32, _, Nat.le_refl _, K2.out.2, dig_all X LX.out⟩ hs cv ecv
  clear K1 hs hB SM
  by_cases hge : M ≤ X
  · have hcv : (0 : Int) ≤ cv := by rw [← ecv]; unfold cmpv; rw [if_neg (by omega)]; split <;> omega
    have er : r = M := by have := HR.out; omega
    subst er
    clear ecv
    go_wp2_with (go_at_call 118; refine Calls.mono CM.out ?_; rintro e v3 ⟨rfl, hB⟩; (have K3 : Hid (Below w.heap.size w v3) := K2.out.1.trans (hB.mono K2.out.1.size)); clear hB)
    go_ret
    exact ⟨rfl, K3.out⟩
  · have hcv : ¬ (0 : Int) ≤ cv := by rw [← ecv]; unfold cmpv; rw [if_pos (by omega)]; omega
    have er : r = X := by have := HR.out; omega
    have XL : X < 65536 := by have := HR.out; omega
    subst er
    clear ecv hge
    go_wp2_with (go_at_call 118; refine Calls.mono CM.out ?_; rintro e v3 ⟨rfl, hB⟩; (have K3 : Hid (Below w.heap.size w v3 ∧ RowAt v3 rv 32 (dig r)) := ⟨K2.out.1.trans (hB.mono K2.out.1.size), K2.out.2.below hB⟩); clear hB)
    have K4 := K3.out.2
    obtain ⟨_, _, _, ad, cap, rfl, hc⟩ := K4
    obtain ⟨g, o, rfl, hc2⟩ := hc (by decide)
    have HC : Hid (∀ i, i < 32 → v3.cell? ⟨g, o + i, none⟩ = some (.int .i64 (dig r i : Int))) := hc2
    clear hc hc2 CM K2 hcv
    go_loopw [6, 7] (fun s6 s7 wr => ∃ j m : Nat, s7 = .int .i64 ((j : Int) - 1) ∧ s6 = .int .i64 (m : Int) ∧ m = r / 256 ^ j ∧ j ≤ 32 ∧ wr = v3) (fun _ s7 _ => (intOf s7 + 1).toNat)
    case atStart => exact ⟨32, 0, rfl, rfl, (Nat.div_eq_of_lt LX.out).symm, by omega, rfl⟩
    case round =>
      obtain ⟨j, m, rfl, rfl, hm, hj, hw⟩ := hrel
      have hw2 := hw.symm
      clear hw
      subst hw2
      rcases j with _ | j
      · obtain rfl : m = r := by rw [hm]; simp
        go_wp2
        go_ret
        exact ⟨rfl, K3.out.1⟩
      · rw [show ((j + 1 : Nat) : Int) - 1 = (j : Int) by omega]
        have jI : (0 : Int) ≤ (j : Int) := by omega
        have jL : (j : Int) < 32 := by omega
        have cz := HC.out j (by omega)
        obtain ⟨y, ey⟩ : ∃ y, y = dig r j := ⟨_, rfl⟩
        rw [← ey] at cz
        obtain ⟨u, eu⟩ : ∃ u, u = r / 256 ^ j := ⟨_, rfl⟩
        have hu : 256 * m + y = u := by
          rw [hm, ey, eu, dig, if_pos (by omega), ← div_pow_succ]; omega
        have ul : u ≤ r := by rw [eu]; exact Nat.div_le_self _ _
        obtain ⟨m2, em2⟩ : ∃ m2, m2 = 256 * m := ⟨_, rfl⟩
        have q1 : (256 : Int) * (m : Int) = (m2 : Int) := by omega
        have q2 : IntKind.i64.wrap (m2 : Int) = (m2 : Int) := by rw [IntKind.wrap_i64]; omega
        have q3 : (m2 : Int) + (y : Int) = (u : Int) := by omega
        have q4 : IntKind.i64.wrap (u : Int) = (u : Int) := by rw [IntKind.wrap_i64]; omega
        have EU : Hid (u = r / 256 ^ j) := eu
        clear hm ey eu hu ul em2
        go_wp2
        go_roundw
        case rel => exact ⟨j, u, by go_num, rfl, EU.out, by omega, trivial⟩
        case measure => simp [intOf]
end Go.Proofs.YtpadpmkfhljiiaaGreat
/- The document's And, Or, Xor, Not by its arrays of bits. -/
namespace Go.Proofs.YtpadpmkfhljiiaaGreat
open Go.RowKit
/-- the first k are f's, the others h's -/
def mixd (f h : Nat → Nat) (k i : Nat) : Nat := if i < k then f i else h i
theorem mixd_set (f h : Nat → Nat) (k : Nat) : setD (mixd f h k) k (f k) = mixd f h (k + 1) := by
  funext j
  unfold setD mixd
  by_cases h1 : j = k
  · subst h1; rw [if_pos rfl, if_pos (by omega)]
  · rw [if_neg h1]
    by_cases h2 : j < k
    · rw [if_pos h2, if_pos (by omega)]
    · rw [if_neg h2, if_neg (by omega)]
set_option maxHeartbeats 4000000 in
set_option maxRecDepth 100000 in
theorem rand_r (a0 a1 a2 a3 b0 b1 b2 b3 p0 p1 p2 p3 : Int) (X Y : Nat) (BA : ∀ W : World, Calls Tryz.prog 103 #[.agg #[.int .u64 a0, .int .u64 a1, .int .u64 a2, .int .u64 a3]] W fun e w' => e = .returned (.agg (intsD (bitf X) 256).toArray) ∧ Below W.heap.size W w') (BB : ∀ W : World, Calls Tryz.prog 103 #[.agg #[.int .u64 b0, .int .u64 b1, .int .u64 b2, .int .u64 b3]] W fun e w' => e = .returned (.agg (intsD (bitf Y) 256).toArray) ∧ Below W.heap.size W w') (f : Nat → Nat) (hf : ∀ i, f i = bitf X i * bitf Y i) (JO : ∀ W : World, Calls Tryz.prog 107 #[.agg (intsD f 256).toArray] W fun e w' => e = .returned (.agg #[.int .u64 p0, .int .u64 p1, .int .u64 p2, .int .u64 p3]) ∧ Below W.heap.size W w') (w : World) :
    Calls Tryz.prog 39 #[.agg #[.int .u64 a0, .int .u64 a1, .int .u64 a2, .int .u64 a3], .agg #[.int .u64 b0, .int .u64 b1, .int .u64 b2, .int .u64 b3]] w fun e w' => e = .returned (.agg #[.int .u64 p0, .int .u64 p1, .int .u64 p2, .int .u64 p3]) ∧ Below w.heap.size w w' := by
  have HBA : Hid _ := BA
  have HBB : Hid _ := BB
  have HJO : Hid _ := JO
  have HF : Hid (∀ i, f i = bitf X i * bitf Y i) := hf
  clear BA BB JO hf
  go_enter Tryz.func39, Tryz.ntmps39
  go_upto_region 1 with fail
  have K0 : Hid (Bx w [(w.heap.size + 1 + 1, 0, 0, 0, 0), (w.heap.size + 1, b0, b1, b2, b3), (w.heap.size, a0, a1, a2, a3)] (((w.alloc (.cells #[.int .u64 a0, .int .u64 a1, .int .u64 a2, .int .u64 a3] 24)).alloc (.cells #[.int .u64 b0, .int .u64 b1, .int .u64 b2, .int .u64 b3] 24)).alloc (.cells #[.int .u64 0, .int .u64 0, .int .u64 0, .int .u64 0] 24))) := by
    have h := (((Bx.start w).alloc a0 a1 a2 a3).alloc b0 b1 b2 b3).alloc 0 0 0 0
    (try simp only [World.size_alloc] at h)
    exact h
  generalize (((w.alloc (.cells #[.int .u64 a0, .int .u64 a1, .int .u64 a2, .int .u64 a3] 24)).alloc (.cells #[.int .u64 b0, .int .u64 b1, .int .u64 b2, .int .u64 b3] 24)).alloc (.cells #[.int .u64 0, .int .u64 0, .int .u64 0, .int .u64 0] 24)) = W0 at K0 ⊢
  obtain ⟨c0, c1, c2, c3, _⟩ := K0.out.f0 mm2
  go_upto_region 2 with (first
    | (go_at_call 103; refine (HBA.out _).mono ?_; rintro e g1 ⟨rfl, hB⟩; (have K1 : Hid _ := K0.out.past hB); clear hB c0 c1 c2 c3 K0)
    | (refine new256 (bitf X) rfl rfl _ rfl rfl _ rfl rfl rfl rfl ?_; intro W1 hW1))
  obtain ⟨bx, ebx⟩ : ∃ bx, g1.heap.size = bx := ⟨_, rfl⟩
  have X1 : Hid (RowI W1 bx 256 (bitf X) ∧ Below bx g1 W1 ∧ Bx w [(w.heap.size + 1 + 1, 0, 0, 0, 0), (w.heap.size + 1, b0, b1, b2, b3), (w.heap.size, a0, a1, a2, a3)] W1) := ⟨by rw [← ebx]; exact hW1.row, by rw [← ebx]; exact hW1.bel, K1.out.past hW1.bel⟩
  have EBX : Hid (g1.heap.size = bx) := ebx
  rw [ebx]
  clear hW1 ebx
  obtain ⟨c0, c1, c2, c3, _⟩ := X1.out.2.2.f0 mm1
  go_upto_region 3 with (first
    | (go_at_call 103; refine (HBB.out _).mono ?_; rintro e g2 ⟨rfl, hB⟩; (have X2 : Hid (RowI g2 bx 256 (bitf X) ∧ Below bx g1 g2) := ⟨X1.out.1.past hB, X1.out.2.1.trans (hB.mono (Nat.le_of_lt (RowI.lt X1.out.1 (by omega))))⟩); clear hB c0 c1 c2 c3 X1)
    | (refine new256 (bitf Y) rfl rfl _ rfl rfl _ rfl rfl rfl rfl ?_; intro W2 hW2))
  obtain ⟨bY, eby⟩ : ∃ bY, g2.heap.size = bY := ⟨_, rfl⟩
  have hxy : bx < bY := by rw [← eby]; exact RowI.lt X2.out.1 (by omega)
  have X3 : Hid (RowI W2 bx 256 (mixd f (bitf X) 0) ∧ RowI W2 bY 256 (bitf Y) ∧ Below bx g1 W2) := ⟨(X2.out.1.past hW2.bel).ext (fun i _ => by unfold mixd; rw [if_neg (by omega)]), by rw [← eby]; exact hW2.row, X2.out.2.trans (hW2.bel.mono (by omega))⟩
  rw [eby]
  clear hW2 eby X2
  go_wp2
  go_loopw [7] (fun s wr => ∃ k : Nat, s = .int .i64 (k : Int) ∧ k ≤ 256 ∧ RowI wr bx 256 (mixd f (bitf X) k) ∧ RowI wr bY 256 (bitf Y) ∧ Below bx g1 wr) (fun s _ => 256 - (intOf s).toNat)
  case atStart => exact ⟨0, rfl, by omega, X3.out.1, X3.out.2.1, X3.out.2.2⟩
  case round =>
    obtain ⟨k, rfl, hk, hR, hS, hB⟩ := hrel
    clear X3
    have HR : Hid (RowI wr bx 256 (mixd f (bitf X) k)) := hR
    have HS : Hid (RowI wr bY 256 (bitf Y)) := hS
    have HB : Hid (Below bx g1 wr) := hB
    clear hR hS hB
    by_cases hk5 : k < 256
    · have kI : (k : Int) < 256 := by omega
      have c1 := (HR.out k hk5).1
      have f1 := (HR.out k hk5).2
      have c2 := (HS.out k hk5).1
      rw [show mixd f (bitf X) k k = bitf X k by unfold mixd; rw [if_neg (by omega)]] at c1
      obtain ⟨x, ex⟩ : ∃ x, x = bitf X k := ⟨_, rfl⟩
      obtain ⟨y, ey⟩ : ∃ y, y = bitf Y k := ⟨_, rfl⟩
      obtain ⟨u, eu⟩ : ∃ u, u = f k := ⟨_, rfl⟩
      have hu := HF.out k
      have hx1 := bitf_le X k
      have hy1 := bitf_le Y k
      rw [← ex, ← ey, ← eu] at hu
      rw [← ex] at c1 hx1
      rw [← ey] at c2 hy1
      have m1 : (x : Int) * (y : Int) = (u : Int) := by rw [hu]; exact (Int.natCast_mul x y).symm
      have m0 : u ≤ 1 := by rw [hu]; exact Nat.mul_le_mul hx1 hy1
      have m2 : IntKind.i64.wrap (u : Int) = (u : Int) := by rw [IntKind.wrap_i64]; omega
      clear m0 hx1 hy1
      have N1 : Hid (RowI (wr.setCell ⟨bx, k, none⟩ (.int .i64 (u : Int))).drew bx 256 (mixd f (bitf X) (k + 1)) ∧ RowI (wr.setCell ⟨bx, k, none⟩ (.int .i64 (u : Int))).drew bY 256 (bitf Y) ∧ Below bx g1 (wr.setCell ⟨bx, k, none⟩ (.int .i64 (u : Int))).drew) := by
        refine ⟨?_, (HS.out.set_other _ _ (Nat.ne_of_lt hxy)).past (Below.refl _ _).drew, (HB.out.setCell (Nat.le_refl _) _).drew⟩
        rw [← mixd_set, ← eu]
        exact (RowI.set HR.out k u).past (Below.refl _ _).drew
      clear ex ey eu hu
      go_wp2
      go_region
      generalize (wr.setCell ⟨bx, k, none⟩ (.int .i64 (u : Int))).drew = x1 at N1 ⊢
      go_wp2
      go_roundw
      case rel => exact ⟨k + 1, by go_num, by omega, N1.out.1, N1.out.2.1, N1.out.2.2⟩
      case measure => simp [intOf]; omega
    · obtain rfl : k = 256 := by omega
      have R1 : Hid (RowI wr bx 256 f) := HR.out.ext (fun i hi => by unfold mixd; rw [if_pos hi])
      have K5 : Hid (Bx w [(w.heap.size + 1 + 1, 0, 0, 0, 0), (w.heap.size + 1, b0, b1, b2, b3), (w.heap.size, a0, a1, a2, a3)] wr) := K1.out.past (by rw [EBX.out]; exact HB.out)
      clear HR HS HB K1
      obtain ⟨r0, r1, r2, r3, f0, f1, f2, f3⟩ := K5.out.f0 mm0
      go_wp2_with (first
        | (go_at_call 107; refine (HJO.out _).mono ?_; rintro e x9 ⟨rfl, hB⟩; (have K9 : Hid _ := K5.out.past hB); clear hB r0 r1 r2 r3 f0 f1 f2 f3; obtain ⟨r0, r1, r2, r3, f0, f1, f2, f3⟩ := K9.out.f0 mm0)
        | (refine load256 f bx rfl _ rfl rfl R1.out ?_))
      exact bodyPost_ret (v := .agg #[.int .u64 p0, .int .u64 p1, .int .u64 p2, .int .u64 p3]) (by simp [results, Tryz.results39, go_sem, r0, r1, r2, r3]) rfl ⟨rfl, below_put K9.out.bel (by omega) _ _ _ _⟩
set_option maxHeartbeats 4000000 in
set_option maxRecDepth 100000 in
theorem ror_r (a0 a1 a2 a3 b0 b1 b2 b3 p0 p1 p2 p3 : Int) (X Y : Nat) (BA : ∀ W : World, Calls Tryz.prog 103 #[.agg #[.int .u64 a0, .int .u64 a1, .int .u64 a2, .int .u64 a3]] W fun e w' => e = .returned (.agg (intsD (bitf X) 256).toArray) ∧ Below W.heap.size W w') (BB : ∀ W : World, Calls Tryz.prog 103 #[.agg #[.int .u64 b0, .int .u64 b1, .int .u64 b2, .int .u64 b3]] W fun e w' => e = .returned (.agg (intsD (bitf Y) 256).toArray) ∧ Below W.heap.size W w') (f : Nat → Nat) (hf : ∀ i, f i = bitf X i + bitf Y i - bitf X i * bitf Y i) (JO : ∀ W : World, Calls Tryz.prog 107 #[.agg (intsD f 256).toArray] W fun e w' => e = .returned (.agg #[.int .u64 p0, .int .u64 p1, .int .u64 p2, .int .u64 p3]) ∧ Below W.heap.size W w') (w : World) :
    Calls Tryz.prog 41 #[.agg #[.int .u64 a0, .int .u64 a1, .int .u64 a2, .int .u64 a3], .agg #[.int .u64 b0, .int .u64 b1, .int .u64 b2, .int .u64 b3]] w fun e w' => e = .returned (.agg #[.int .u64 p0, .int .u64 p1, .int .u64 p2, .int .u64 p3]) ∧ Below w.heap.size w w' := by
  have HBA : Hid _ := BA
  have HBB : Hid _ := BB
  have HJO : Hid _ := JO
  have HF : Hid (∀ i, f i = bitf X i + bitf Y i - bitf X i * bitf Y i) := hf
  clear BA BB JO hf
  go_enter Tryz.func41, Tryz.ntmps41
  go_upto_region 1 with fail
  have K0 : Hid (Bx w [(w.heap.size + 1 + 1, 0, 0, 0, 0), (w.heap.size + 1, b0, b1, b2, b3), (w.heap.size, a0, a1, a2, a3)] (((w.alloc (.cells #[.int .u64 a0, .int .u64 a1, .int .u64 a2, .int .u64 a3] 24)).alloc (.cells #[.int .u64 b0, .int .u64 b1, .int .u64 b2, .int .u64 b3] 24)).alloc (.cells #[.int .u64 0, .int .u64 0, .int .u64 0, .int .u64 0] 24))) := by
    have h := (((Bx.start w).alloc a0 a1 a2 a3).alloc b0 b1 b2 b3).alloc 0 0 0 0
    (try simp only [World.size_alloc] at h)
    exact h
  generalize (((w.alloc (.cells #[.int .u64 a0, .int .u64 a1, .int .u64 a2, .int .u64 a3] 24)).alloc (.cells #[.int .u64 b0, .int .u64 b1, .int .u64 b2, .int .u64 b3] 24)).alloc (.cells #[.int .u64 0, .int .u64 0, .int .u64 0, .int .u64 0] 24)) = W0 at K0 ⊢
  obtain ⟨c0, c1, c2, c3, _⟩ := K0.out.f0 mm2
  go_upto_region 2 with (first
    | (go_at_call 103; refine (HBA.out _).mono ?_; rintro e g1 ⟨rfl, hB⟩; (have K1 : Hid _ := K0.out.past hB); clear hB c0 c1 c2 c3 K0)
    | (refine new256 (bitf X) rfl rfl _ rfl rfl _ rfl rfl rfl rfl ?_; intro W1 hW1))
  obtain ⟨bx, ebx⟩ : ∃ bx, g1.heap.size = bx := ⟨_, rfl⟩
  have X1 : Hid (RowI W1 bx 256 (bitf X) ∧ Below bx g1 W1 ∧ Bx w [(w.heap.size + 1 + 1, 0, 0, 0, 0), (w.heap.size + 1, b0, b1, b2, b3), (w.heap.size, a0, a1, a2, a3)] W1) := ⟨by rw [← ebx]; exact hW1.row, by rw [← ebx]; exact hW1.bel, K1.out.past hW1.bel⟩
  have EBX : Hid (g1.heap.size = bx) := ebx
  rw [ebx]
  clear hW1 ebx
  obtain ⟨c0, c1, c2, c3, _⟩ := X1.out.2.2.f0 mm1
  go_upto_region 3 with (first
    | (go_at_call 103; refine (HBB.out _).mono ?_; rintro e g2 ⟨rfl, hB⟩; (have X2 : Hid (RowI g2 bx 256 (bitf X) ∧ Below bx g1 g2) := ⟨X1.out.1.past hB, X1.out.2.1.trans (hB.mono (Nat.le_of_lt (RowI.lt X1.out.1 (by omega))))⟩); clear hB c0 c1 c2 c3 X1)
    | (refine new256 (bitf Y) rfl rfl _ rfl rfl _ rfl rfl rfl rfl ?_; intro W2 hW2))
  obtain ⟨bY, eby⟩ : ∃ bY, g2.heap.size = bY := ⟨_, rfl⟩
  have hxy : bx < bY := by rw [← eby]; exact RowI.lt X2.out.1 (by omega)
  have X3 : Hid (RowI W2 bx 256 (mixd f (bitf X) 0) ∧ RowI W2 bY 256 (bitf Y) ∧ Below bx g1 W2) := ⟨(X2.out.1.past hW2.bel).ext (fun i _ => by unfold mixd; rw [if_neg (by omega)]), by rw [← eby]; exact hW2.row, X2.out.2.trans (hW2.bel.mono (by omega))⟩
  rw [eby]
  clear hW2 eby X2
  go_wp2
  go_loopw [7] (fun s wr => ∃ k : Nat, s = .int .i64 (k : Int) ∧ k ≤ 256 ∧ RowI wr bx 256 (mixd f (bitf X) k) ∧ RowI wr bY 256 (bitf Y) ∧ Below bx g1 wr) (fun s _ => 256 - (intOf s).toNat)
  case atStart => exact ⟨0, rfl, by omega, X3.out.1, X3.out.2.1, X3.out.2.2⟩
  case round =>
    obtain ⟨k, rfl, hk, hR, hS, hB⟩ := hrel
    clear X3
    have HR : Hid (RowI wr bx 256 (mixd f (bitf X) k)) := hR
    have HS : Hid (RowI wr bY 256 (bitf Y)) := hS
    have HB : Hid (Below bx g1 wr) := hB
    clear hR hS hB
    by_cases hk5 : k < 256
    · have kI : (k : Int) < 256 := by omega
      have c1 := (HR.out k hk5).1
      have f1 := (HR.out k hk5).2
      have c2 := (HS.out k hk5).1
      rw [show mixd f (bitf X) k k = bitf X k by unfold mixd; rw [if_neg (by omega)]] at c1
      obtain ⟨x, ex⟩ : ∃ x, x = bitf X k := ⟨_, rfl⟩
      obtain ⟨y, ey⟩ : ∃ y, y = bitf Y k := ⟨_, rfl⟩
      obtain ⟨u, eu⟩ : ∃ u, u = f k := ⟨_, rfl⟩
      have hu := HF.out k
      have hx1 := bitf_le X k
      have hy1 := bitf_le Y k
      rw [← ex, ← ey, ← eu] at hu
      rw [← ex] at c1 hx1
      rw [← ey] at c2 hy1
      obtain ⟨q, eq⟩ : ∃ q, q = x * y := ⟨_, rfl⟩
      have q1 : q ≤ 1 ∧ q ≤ x + y := by rw [eq]; have := Nat.mul_le_mul hx1 hy1; have h2 : x * y ≤ x * 1 := Nat.mul_le_mul_left x hy1; omega
      have m1 : (x : Int) * (y : Int) = (q : Int) := by rw [eq]; exact (Int.natCast_mul x y).symm
      have m2 : IntKind.i64.wrap (q : Int) = (q : Int) := by rw [IntKind.wrap_i64]; omega
      obtain ⟨s, es⟩ : ∃ s, s = x + y := ⟨_, rfl⟩
      have m3 : (x : Int) + (y : Int) = (s : Int) := by omega
      have m4 : IntKind.i64.wrap (s : Int) = (s : Int) := by rw [IntKind.wrap_i64]; omega
      have m5 : (s : Int) - (q : Int) = (u : Int) := by rw [← eq] at hu; omega
      have m6 : IntKind.i64.wrap (u : Int) = (u : Int) := by rw [IntKind.wrap_i64]; omega
      clear eq q1 es hx1 hy1
      have N1 : Hid (RowI (wr.setCell ⟨bx, k, none⟩ (.int .i64 (u : Int))).drew bx 256 (mixd f (bitf X) (k + 1)) ∧ RowI (wr.setCell ⟨bx, k, none⟩ (.int .i64 (u : Int))).drew bY 256 (bitf Y) ∧ Below bx g1 (wr.setCell ⟨bx, k, none⟩ (.int .i64 (u : Int))).drew) := by
        refine ⟨?_, (HS.out.set_other _ _ (Nat.ne_of_lt hxy)).past (Below.refl _ _).drew, (HB.out.setCell (Nat.le_refl _) _).drew⟩
        rw [← mixd_set, ← eu]
        exact (RowI.set HR.out k u).past (Below.refl _ _).drew
      clear ex ey eu hu
      go_wp2
      go_region
      generalize (wr.setCell ⟨bx, k, none⟩ (.int .i64 (u : Int))).drew = x1 at N1 ⊢
      go_wp2
      go_roundw
      case rel => exact ⟨k + 1, by go_num, by omega, N1.out.1, N1.out.2.1, N1.out.2.2⟩
      case measure => simp [intOf]; omega
    · obtain rfl : k = 256 := by omega
      have R1 : Hid (RowI wr bx 256 f) := HR.out.ext (fun i hi => by unfold mixd; rw [if_pos hi])
      have K5 : Hid (Bx w [(w.heap.size + 1 + 1, 0, 0, 0, 0), (w.heap.size + 1, b0, b1, b2, b3), (w.heap.size, a0, a1, a2, a3)] wr) := K1.out.past (by rw [EBX.out]; exact HB.out)
      clear HR HS HB K1
      obtain ⟨r0, r1, r2, r3, f0, f1, f2, f3⟩ := K5.out.f0 mm0
      go_wp2_with (first
        | (go_at_call 107; refine (HJO.out _).mono ?_; rintro e x9 ⟨rfl, hB⟩; (have K9 : Hid _ := K5.out.past hB); clear hB r0 r1 r2 r3 f0 f1 f2 f3; obtain ⟨r0, r1, r2, r3, f0, f1, f2, f3⟩ := K9.out.f0 mm0)
        | (refine load256 f bx rfl _ rfl rfl R1.out ?_))
      exact bodyPost_ret (v := .agg #[.int .u64 p0, .int .u64 p1, .int .u64 p2, .int .u64 p3]) (by simp [results, Tryz.results41, go_sem, r0, r1, r2, r3]) rfl ⟨rfl, below_put K9.out.bel (by omega) _ _ _ _⟩
set_option maxHeartbeats 4000000 in
set_option maxRecDepth 100000 in
theorem rxor_r (a0 a1 a2 a3 b0 b1 b2 b3 p0 p1 p2 p3 : Int) (X Y : Nat) (BA : ∀ W : World, Calls Tryz.prog 103 #[.agg #[.int .u64 a0, .int .u64 a1, .int .u64 a2, .int .u64 a3]] W fun e w' => e = .returned (.agg (intsD (bitf X) 256).toArray) ∧ Below W.heap.size W w') (BB : ∀ W : World, Calls Tryz.prog 103 #[.agg #[.int .u64 b0, .int .u64 b1, .int .u64 b2, .int .u64 b3]] W fun e w' => e = .returned (.agg (intsD (bitf Y) 256).toArray) ∧ Below W.heap.size W w') (f : Nat → Nat) (hf : ∀ i, f i = (bitf X i + bitf Y i) % 2) (JO : ∀ W : World, Calls Tryz.prog 107 #[.agg (intsD f 256).toArray] W fun e w' => e = .returned (.agg #[.int .u64 p0, .int .u64 p1, .int .u64 p2, .int .u64 p3]) ∧ Below W.heap.size W w') (w : World) :
    Calls Tryz.prog 43 #[.agg #[.int .u64 a0, .int .u64 a1, .int .u64 a2, .int .u64 a3], .agg #[.int .u64 b0, .int .u64 b1, .int .u64 b2, .int .u64 b3]] w fun e w' => e = .returned (.agg #[.int .u64 p0, .int .u64 p1, .int .u64 p2, .int .u64 p3]) ∧ Below w.heap.size w w' := by
  have HBA : Hid _ := BA
  have HBB : Hid _ := BB
  have HJO : Hid _ := JO
  have HF : Hid (∀ i, f i = (bitf X i + bitf Y i) % 2) := hf
  clear BA BB JO hf
  go_enter Tryz.func43, Tryz.ntmps43
  go_upto_region 1 with fail
  have K0 : Hid (Bx w [(w.heap.size + 1 + 1, 0, 0, 0, 0), (w.heap.size + 1, b0, b1, b2, b3), (w.heap.size, a0, a1, a2, a3)] (((w.alloc (.cells #[.int .u64 a0, .int .u64 a1, .int .u64 a2, .int .u64 a3] 24)).alloc (.cells #[.int .u64 b0, .int .u64 b1, .int .u64 b2, .int .u64 b3] 24)).alloc (.cells #[.int .u64 0, .int .u64 0, .int .u64 0, .int .u64 0] 24))) := by
    have h := (((Bx.start w).alloc a0 a1 a2 a3).alloc b0 b1 b2 b3).alloc 0 0 0 0
    (try simp only [World.size_alloc] at h)
    exact h
  generalize (((w.alloc (.cells #[.int .u64 a0, .int .u64 a1, .int .u64 a2, .int .u64 a3] 24)).alloc (.cells #[.int .u64 b0, .int .u64 b1, .int .u64 b2, .int .u64 b3] 24)).alloc (.cells #[.int .u64 0, .int .u64 0, .int .u64 0, .int .u64 0] 24)) = W0 at K0 ⊢
  obtain ⟨c0, c1, c2, c3, _⟩ := K0.out.f0 mm2
  go_upto_region 2 with (first
    | (go_at_call 103; refine (HBA.out _).mono ?_; rintro e g1 ⟨rfl, hB⟩; (have K1 : Hid _ := K0.out.past hB); clear hB c0 c1 c2 c3 K0)
    | (refine new256 (bitf X) rfl rfl _ rfl rfl _ rfl rfl rfl rfl ?_; intro W1 hW1))
  obtain ⟨bx, ebx⟩ : ∃ bx, g1.heap.size = bx := ⟨_, rfl⟩
  have X1 : Hid (RowI W1 bx 256 (bitf X) ∧ Below bx g1 W1 ∧ Bx w [(w.heap.size + 1 + 1, 0, 0, 0, 0), (w.heap.size + 1, b0, b1, b2, b3), (w.heap.size, a0, a1, a2, a3)] W1) := ⟨by rw [← ebx]; exact hW1.row, by rw [← ebx]; exact hW1.bel, K1.out.past hW1.bel⟩
  have EBX : Hid (g1.heap.size = bx) := ebx
  rw [ebx]
  clear hW1 ebx
  obtain ⟨c0, c1, c2, c3, _⟩ := X1.out.2.2.f0 mm1
  go_upto_region 3 with (first
    | (go_at_call 103; refine (HBB.out _).mono ?_; rintro e g2 ⟨rfl, hB⟩; (have X2 : Hid (RowI g2 bx 256 (bitf X) ∧ Below bx g1 g2) := ⟨X1.out.1.past hB, X1.out.2.1.trans (hB.mono (Nat.le_of_lt (RowI.lt X1.out.1 (by omega))))⟩); clear hB c0 c1 c2 c3 X1)
    | (refine new256 (bitf Y) rfl rfl _ rfl rfl _ rfl rfl rfl rfl ?_; intro W2 hW2))
  obtain ⟨bY, eby⟩ : ∃ bY, g2.heap.size = bY := ⟨_, rfl⟩
  have hxy : bx < bY := by rw [← eby]; exact RowI.lt X2.out.1 (by omega)
  have X3 : Hid (RowI W2 bx 256 (mixd f (bitf X) 0) ∧ RowI W2 bY 256 (bitf Y) ∧ Below bx g1 W2) := ⟨(X2.out.1.past hW2.bel).ext (fun i _ => by unfold mixd; rw [if_neg (by omega)]), by rw [← eby]; exact hW2.row, X2.out.2.trans (hW2.bel.mono (by omega))⟩
  rw [eby]
  clear hW2 eby X2
  go_wp2
  go_loopw [7] (fun s wr => ∃ k : Nat, s = .int .i64 (k : Int) ∧ k ≤ 256 ∧ RowI wr bx 256 (mixd f (bitf X) k) ∧ RowI wr bY 256 (bitf Y) ∧ Below bx g1 wr) (fun s _ => 256 - (intOf s).toNat)
  case atStart => exact ⟨0, rfl, by omega, X3.out.1, X3.out.2.1, X3.out.2.2⟩
  case round =>
    obtain ⟨k, rfl, hk, hR, hS, hB⟩ := hrel
    clear X3
    have HR : Hid (RowI wr bx 256 (mixd f (bitf X) k)) := hR
    have HS : Hid (RowI wr bY 256 (bitf Y)) := hS
    have HB : Hid (Below bx g1 wr) := hB
    clear hR hS hB
    by_cases hk5 : k < 256
    · have kI : (k : Int) < 256 := by omega
      have c1 := (HR.out k hk5).1
      have f1 := (HR.out k hk5).2
      have c2 := (HS.out k hk5).1
      rw [show mixd f (bitf X) k k = bitf X k by unfold mixd; rw [if_neg (by omega)]] at c1
      obtain ⟨x, ex⟩ : ∃ x, x = bitf X k := ⟨_, rfl⟩
      obtain ⟨y, ey⟩ : ∃ y, y = bitf Y k := ⟨_, rfl⟩
      obtain ⟨u, eu⟩ : ∃ u, u = f k := ⟨_, rfl⟩
      have hu := HF.out k
      have hx1 := bitf_le X k
      have hy1 := bitf_le Y k
      rw [← ex, ← ey, ← eu] at hu
      rw [← ex] at c1 hx1
      rw [← ey] at c2 hy1
      obtain ⟨s, es⟩ : ∃ s, s = x + y := ⟨_, rfl⟩
      have m3 : (x : Int) + (y : Int) = (s : Int) := by omega
      have m4 : IntKind.i64.wrap (s : Int) = (s : Int) := by rw [IntKind.wrap_i64]; omega
      have m5 : Int.tmod (s : Int) 2 = (u : Int) := by rw [Int.tmod_eq_emod_of_nonneg (by omega)]; omega
      have m6 : IntKind.i64.wrap (u : Int) = (u : Int) := by rw [IntKind.wrap_i64]; omega
      have m7 : (s : Int) % 2 = (u : Int) := by omega
      have m8 : (0 : Int) ≤ (s : Int) := by omega
      clear es hx1 hy1
      have N1 : Hid (RowI (wr.setCell ⟨bx, k, none⟩ (.int .i64 (u : Int))).drew bx 256 (mixd f (bitf X) (k + 1)) ∧ RowI (wr.setCell ⟨bx, k, none⟩ (.int .i64 (u : Int))).drew bY 256 (bitf Y) ∧ Below bx g1 (wr.setCell ⟨bx, k, none⟩ (.int .i64 (u : Int))).drew) := by
        refine ⟨?_, (HS.out.set_other _ _ (Nat.ne_of_lt hxy)).past (Below.refl _ _).drew, (HB.out.setCell (Nat.le_refl _) _).drew⟩
        rw [← mixd_set, ← eu]
        exact (RowI.set HR.out k u).past (Below.refl _ _).drew
      clear ex ey eu hu
      go_wp2
      go_region
      generalize (wr.setCell ⟨bx, k, none⟩ (.int .i64 (u : Int))).drew = x1 at N1 ⊢
      go_wp2
      go_roundw
      case rel => exact ⟨k + 1, by go_num, by omega, N1.out.1, N1.out.2.1, N1.out.2.2⟩
      case measure => simp [intOf]; omega
    · obtain rfl : k = 256 := by omega
      have R1 : Hid (RowI wr bx 256 f) := HR.out.ext (fun i hi => by unfold mixd; rw [if_pos hi])
      have K5 : Hid (Bx w [(w.heap.size + 1 + 1, 0, 0, 0, 0), (w.heap.size + 1, b0, b1, b2, b3), (w.heap.size, a0, a1, a2, a3)] wr) := K1.out.past (by rw [EBX.out]; exact HB.out)
      clear HR HS HB K1
      obtain ⟨r0, r1, r2, r3, f0, f1, f2, f3⟩ := K5.out.f0 mm0
      go_wp2_with (first
        | (go_at_call 107; refine (HJO.out _).mono ?_; rintro e x9 ⟨rfl, hB⟩; (have K9 : Hid _ := K5.out.past hB); clear hB r0 r1 r2 r3 f0 f1 f2 f3; obtain ⟨r0, r1, r2, r3, f0, f1, f2, f3⟩ := K9.out.f0 mm0)
        | (refine load256 f bx rfl _ rfl rfl R1.out ?_))
      exact bodyPost_ret (v := .agg #[.int .u64 p0, .int .u64 p1, .int .u64 p2, .int .u64 p3]) (by simp [results, Tryz.results43, go_sem, r0, r1, r2, r3]) rfl ⟨rfl, below_put K9.out.bel (by omega) _ _ _ _⟩
end Go.Proofs.YtpadpmkfhljiiaaGreat
/- The document's Not, Shl, lowered, Shr, Sar, SignExtend by its arrays of bits. -/
namespace Go.Proofs.YtpadpmkfhljiiaaGreat
open Go.RowKit
set_option maxHeartbeats 4000000 in
set_option maxRecDepth 100000 in
theorem rnot_r (a0 a1 a2 a3 p0 p1 p2 p3 : Int) (X : Nat) (f : Nat → Nat) (BA : ∀ W : World, Calls Tryz.prog 103 #[.agg #[.int .u64 a0, .int .u64 a1, .int .u64 a2, .int .u64 a3]] W fun e w' => e = .returned (.agg (intsD (bitf X) 256).toArray) ∧ Below W.heap.size W w') (F : ∀ i, f i = 1 - bitf X i) (JO : ∀ W : World, Calls Tryz.prog 107 #[.agg (intsD f 256).toArray] W fun e w' => e = .returned (.agg #[.int .u64 p0, .int .u64 p1, .int .u64 p2, .int .u64 p3]) ∧ Below W.heap.size W w') (w : World) :
    Calls Tryz.prog 45 #[.agg #[.int .u64 a0, .int .u64 a1, .int .u64 a2, .int .u64 a3]] w fun e w' => e = .returned (.agg #[.int .u64 p0, .int .u64 p1, .int .u64 p2, .int .u64 p3]) ∧ Below w.heap.size w w' := by
  have HBA : Hid _ := BA
  have HF : Hid (∀ i, f i = 1 - bitf X i) := F
  have HJO : Hid _ := JO
  clear BA F JO
  go_enter Tryz.func45, Tryz.ntmps45
  go_upto_region 1 with fail
  have K0 : Hid (Bx w [(w.heap.size + 1, 0, 0, 0, 0), (w.heap.size, a0, a1, a2, a3)] ((w.alloc (.cells #[.int .u64 a0, .int .u64 a1, .int .u64 a2, .int .u64 a3] 24)).alloc (.cells #[.int .u64 0, .int .u64 0, .int .u64 0, .int .u64 0] 24))) := by
    have h := ((Bx.start w).alloc a0 a1 a2 a3).alloc 0 0 0 0
    (try simp only [World.size_alloc] at h)
    exact h
  generalize ((w.alloc (.cells #[.int .u64 a0, .int .u64 a1, .int .u64 a2, .int .u64 a3] 24)).alloc (.cells #[.int .u64 0, .int .u64 0, .int .u64 0, .int .u64 0] 24)) = W0 at K0 ⊢
  obtain ⟨c0, c1, c2, c3, _⟩ := K0.out.f0 mm1
  go_wp2_with (first
    | (go_at_call 103; refine (HBA.out _).mono ?_; rintro e g1 ⟨rfl, hB⟩; (have K1 : Hid _ := K0.out.past hB); clear hB c0 c1 c2 c3 K0)
    | (refine new256 (bitf X) rfl rfl _ rfl rfl _ rfl rfl rfl rfl ?_; intro W1 hW1))
  obtain ⟨bx, ebx⟩ : ∃ bx, g1.heap.size = bx := ⟨_, rfl⟩
  have X3 : Hid (RowI W1 bx 256 (mixd f (bitf X) 0) ∧ Below bx g1 W1) := ⟨by rw [← ebx]; exact hW1.row.ext (fun i _ => by unfold mixd; rw [if_neg (by omega)]), by rw [← ebx]; exact hW1.bel⟩
  have EBX : Hid (g1.heap.size = bx) := ebx
  rw [ebx]
  clear hW1 ebx
  go_loopw [4] (fun s wr => ∃ k : Nat, s = .int .i64 (k : Int) ∧ k ≤ 256 ∧ RowI wr bx 256 (mixd f (bitf X) k) ∧ Below bx g1 wr) (fun s _ => 256 - (intOf s).toNat)
  case atStart => exact ⟨0, rfl, by omega, X3.out.1, X3.out.2⟩
  case round =>
    obtain ⟨k, rfl, hk, hR, hB⟩ := hrel
    clear X3
    have HR : Hid (RowI wr bx 256 (mixd f (bitf X) k)) := hR
    have HB : Hid (Below bx g1 wr) := hB
    clear hR hB
    by_cases hk5 : k < 256
    · have kI : (k : Int) < 256 := by omega
      have c1 := (HR.out k hk5).1
      have f1 := (HR.out k hk5).2
      rw [show mixd f (bitf X) k k = bitf X k by unfold mixd; rw [if_neg (by omega)]] at c1
      obtain ⟨x, ex⟩ : ∃ x, x = bitf X k := ⟨_, rfl⟩
      obtain ⟨u, eu⟩ : ∃ u, u = f k := ⟨_, rfl⟩
      have hu := HF.out k
      have hx1 := bitf_le X k
      rw [← ex, ← eu] at hu
      rw [← ex] at c1 hx1
      have m1 : (1 : Int) - (x : Int) = (u : Int) := by omega
      have m2 : IntKind.i64.wrap (u : Int) = (u : Int) := by rw [IntKind.wrap_i64]; omega
      have N1 : Hid (RowI (wr.setCell ⟨bx, k, none⟩ (.int .i64 (u : Int))) bx 256 (mixd f (bitf X) (k + 1)) ∧ Below bx g1 (wr.setCell ⟨bx, k, none⟩ (.int .i64 (u : Int)))) := by
        refine ⟨?_, HB.out.setCell (Nat.le_refl _) _⟩
        rw [← mixd_set, ← eu]
        exact RowI.set HR.out k u
      clear ex eu hu hx1
      go_wp2
      go_roundw
      case rel => exact ⟨k + 1, by go_num, by omega, N1.out.1, N1.out.2⟩
      case measure => simp [intOf]; omega
    · obtain rfl : k = 256 := by omega
      have R1 : Hid (RowI wr bx 256 f) := HR.out.ext (fun i hi => by unfold mixd; rw [if_pos hi])
      have K5 : Hid (Bx w [(w.heap.size + 1, 0, 0, 0, 0), (w.heap.size, a0, a1, a2, a3)] wr) := K1.out.past (by rw [EBX.out]; exact HB.out)
      clear HR HB K1
      obtain ⟨r0, r1, r2, r3, f0, f1, f2, f3⟩ := K5.out.f0 mm0
      go_wp2_with (first
        | (go_at_call 107; refine (HJO.out _).mono ?_; rintro e x9 ⟨rfl, hB⟩; (have K9 : Hid _ := K5.out.past hB); clear hB r0 r1 r2 r3 f0 f1 f2 f3; obtain ⟨r0, r1, r2, r3, f0, f1, f2, f3⟩ := K9.out.f0 mm0)
        | (refine load256 f bx rfl _ rfl rfl R1.out ?_))
      exact bodyPost_ret (v := .agg #[.int .u64 p0, .int .u64 p1, .int .u64 p2, .int .u64 p3]) (by simp [results, Tryz.results45, go_sem, r0, r1, r2, r3]) rfl ⟨rfl, below_put K9.out.bel (by omega) _ _ _ _⟩
set_option maxHeartbeats 4000000 in
set_option maxRecDepth 100000 in
theorem rshl_r (a0 a1 a2 a3 b0 b1 b2 b3 p0 p1 p2 p3 : Int) (K Y : Nat) (f : Nat → Nat) (UP : ∀ W : World, Calls Tryz.prog 106 #[.agg #[.int .u64 a0, .int .u64 a1, .int .u64 a2, .int .u64 a3], .int .i64 256] W fun e w' => e = .returned (.int .i64 (K : Int)) ∧ Below W.heap.size W w') (BB : ∀ W : World, Calls Tryz.prog 103 #[.agg #[.int .u64 b0, .int .u64 b1, .int .u64 b2, .int .u64 b3]] W fun e w' => e = .returned (.agg (intsD (bitf Y) 256).toArray) ∧ Below W.heap.size W w') (KL : K ≤ 256) (F : ∀ i, f i = if i < K then 0 else bitf Y (i - K)) (JO : ∀ W : World, Calls Tryz.prog 107 #[.agg (intsD f 256).toArray] W fun e w' => e = .returned (.agg #[.int .u64 p0, .int .u64 p1, .int .u64 p2, .int .u64 p3]) ∧ Below W.heap.size W w') (w : World) :
    Calls Tryz.prog 49 #[.agg #[.int .u64 a0, .int .u64 a1, .int .u64 a2, .int .u64 a3], .agg #[.int .u64 b0, .int .u64 b1, .int .u64 b2, .int .u64 b3]] w fun e w' => e = .returned (.agg #[.int .u64 p0, .int .u64 p1, .int .u64 p2, .int .u64 p3]) ∧ Below w.heap.size w w' := by
  have HUP : Hid _ := UP
  have HBB : Hid _ := BB
  have HKL : Hid (K ≤ 256) := KL
  have HF : Hid (∀ i, f i = if i < K then 0 else bitf Y (i - K)) := F
  have HJO : Hid _ := JO
  clear UP BB KL F JO
  go_enter Tryz.func49, Tryz.ntmps49
  go_upto_region 1 with fail
  have K0 : Hid (Bx w [(w.heap.size + 1 + 1, 0, 0, 0, 0), (w.heap.size + 1, b0, b1, b2, b3), (w.heap.size, a0, a1, a2, a3)] (((w.alloc (.cells #[.int .u64 a0, .int .u64 a1, .int .u64 a2, .int .u64 a3] 24)).alloc (.cells #[.int .u64 b0, .int .u64 b1, .int .u64 b2, .int .u64 b3] 24)).alloc (.cells #[.int .u64 0, .int .u64 0, .int .u64 0, .int .u64 0] 24))) := by
    have h := (((Bx.start w).alloc a0 a1 a2 a3).alloc b0 b1 b2 b3).alloc 0 0 0 0
    (try simp only [World.size_alloc] at h)
    exact h
  generalize (((w.alloc (.cells #[.int .u64 a0, .int .u64 a1, .int .u64 a2, .int .u64 a3] 24)).alloc (.cells #[.int .u64 b0, .int .u64 b1, .int .u64 b2, .int .u64 b3] 24)).alloc (.cells #[.int .u64 0, .int .u64 0, .int .u64 0, .int .u64 0] 24)) = W0 at K0 ⊢
  obtain ⟨c0, c1, c2, c3, _⟩ := K0.out.f0 mm2
  go_upto_region 2 with (go_at_call 106; refine (HUP.out _).mono ?_; rintro e g0 ⟨rfl, hB⟩; (have K2 : Hid _ := K0.out.past hB); clear hB c0 c1 c2 c3 K0)
  obtain ⟨c0, c1, c2, c3, _⟩ := K2.out.f0 mm1
  go_upto_region 3 with (first
    | (go_at_call 103; refine (HBB.out _).mono ?_; rintro e g1 ⟨rfl, hB⟩; (have K1 : Hid _ := K2.out.past hB); clear hB c0 c1 c2 c3 K2)
    | (refine new256 (bitf Y) rfl rfl _ rfl rfl _ rfl rfl rfl rfl ?_; intro W1 hW1))
  obtain ⟨bl, ebl⟩ : ∃ bl, g1.heap.size = bl := ⟨_, rfl⟩
  have X1 : Hid (RowI W1 bl 256 (bitf Y) ∧ Below bl g1 W1) := ⟨by rw [← ebl]; exact hW1.row, by rw [← ebl]; exact hW1.bel⟩
  have EBL : Hid (g1.heap.size = bl) := ebl
  rw [ebl]
  clear hW1 ebl
  go_wp2_with (refine alloc256 rfl rfl ?_; intro W2 hW2)
  obtain ⟨bm, ebm⟩ : ∃ bm, W1.heap.size = bm := ⟨_, rfl⟩
  have hlm : bl < bm := by rw [← ebm]; exact RowI.lt X1.out.1 (by omega)
  have X3 : Hid (RowI W2 bl 256 (bitf Y) ∧ RowI W2 bm 256 (fun _ => 0) ∧ Below bl g1 W2) := ⟨X1.out.1.past hW2.bel, by rw [← ebm]; exact hW2.row, X1.out.2.trans (hW2.bel.mono (by omega))⟩
  rw [ebm]
  clear hW2 ebm X1
  go_loopw [8] (fun s wr => ∃ i : Nat, s = .int .i64 (i : Int) ∧ K ≤ i ∧ i ≤ 256 ∧ RowI wr bl 256 (bitf Y) ∧ RowI wr bm 256 (upto f i) ∧ Below bl g1 wr) (fun s _ => 256 - (intOf s).toNat)
  case atStart => exact ⟨K, rfl, by omega, HKL.out, X3.out.1, X3.out.2.1.ext (fun i _ => by unfold upto; split; rw [HF.out, if_pos (by assumption)]; rfl), X3.out.2.2⟩
  case round =>
    obtain ⟨i, rfl, hKi, hi, hR, hS, hB⟩ := hrel
    clear X3
    have HR : Hid (RowI wr bl 256 (bitf Y)) := hR
    have HS : Hid (RowI wr bm 256 (upto f i)) := hS
    have HB : Hid (Below bl g1 wr) := hB
    clear hR hS hB
    by_cases hi5 : i < 256
    · have iI : (i : Int) < 256 := by omega
      obtain ⟨d, ed⟩ : ∃ d, d = i - K := ⟨_, rfl⟩
      have m1 : (i : Int) - (K : Int) = (d : Int) := by omega
      have m2 : IntKind.i64.wrap (d : Int) = (d : Int) := by rw [IntKind.wrap_i64]; omega
      have dI : (d : Int) < 256 := by omega
      have c1 := (HR.out d (by omega)).1
      have c2 := (HS.out i hi5).1
      have f2 := (HS.out i hi5).2
      obtain ⟨u, eu⟩ : ∃ u, u = bitf Y d := ⟨_, rfl⟩
      rw [← eu] at c1
      have N1 : Hid (RowI (wr.setCell ⟨bm, i, none⟩ (.int .i64 (u : Int))) bl 256 (bitf Y) ∧ RowI (wr.setCell ⟨bm, i, none⟩ (.int .i64 (u : Int))) bm 256 (upto f (i + 1)) ∧ Below bl g1 (wr.setCell ⟨bm, i, none⟩ (.int .i64 (u : Int)))) := by
        refine ⟨HR.out.set_other _ _ (Nat.ne_of_gt hlm), ?_, HB.out.setCell (Nat.le_of_lt hlm) _⟩
        rw [← upto_set, HF.out, if_neg (by omega), ← ed, ← eu]
        exact RowI.set HS.out i u
      clear ed eu
      go_wp2
      go_roundw
      case rel => exact ⟨i + 1, by go_num, by omega, by omega, N1.out.1, N1.out.2.1, N1.out.2.2⟩
      case measure => simp [intOf]; omega
    · obtain rfl : i = 256 := by omega
      have R1 : Hid (RowI wr bm 256 f) := HS.out.ext (fun i hi => by unfold upto; rw [if_pos hi])
      have K5 : Hid (Bx w [(w.heap.size + 1 + 1, 0, 0, 0, 0), (w.heap.size + 1, b0, b1, b2, b3), (w.heap.size, a0, a1, a2, a3)] wr) := K1.out.past (by rw [EBL.out]; exact HB.out)
      clear HR HS HB K1
      obtain ⟨r0, r1, r2, r3, f0, f1, f2, f3⟩ := K5.out.f0 mm0
      go_wp2_with (first
        | (go_at_call 107; refine (HJO.out _).mono ?_; rintro e x9 ⟨rfl, hB⟩; (have K9 : Hid _ := K5.out.past hB); clear hB r0 r1 r2 r3 f0 f1 f2 f3; obtain ⟨r0, r1, r2, r3, f0, f1, f2, f3⟩ := K9.out.f0 mm0)
        | (refine load256 f bm rfl _ rfl rfl R1.out ?_))
      exact bodyPost_ret (v := .agg #[.int .u64 p0, .int .u64 p1, .int .u64 p2, .int .u64 p3]) (by simp [results, Tryz.results49, go_sem, r0, r1, r2, r3]) rfl ⟨rfl, below_put K9.out.bel (by omega) _ _ _ _⟩
set_option maxHeartbeats 4000000 in
set_option maxRecDepth 100000 in
theorem rlow_r (a0 a1 a2 a3 b0 b1 b2 b3 p0 p1 p2 p3 : Int) (K Y top : Nat) (f : Nat → Nat) (UP : ∀ W : World, Calls Tryz.prog 106 #[.agg #[.int .u64 a0, .int .u64 a1, .int .u64 a2, .int .u64 a3], .int .i64 256] W fun e w' => e = .returned (.int .i64 (K : Int)) ∧ Below W.heap.size W w') (BB : ∀ W : World, Calls Tryz.prog 103 #[.agg #[.int .u64 b0, .int .u64 b1, .int .u64 b2, .int .u64 b3]] W fun e w' => e = .returned (.agg (intsD (bitf Y) 256).toArray) ∧ Below W.heap.size W w') (KL : K ≤ 256) (F : ∀ i, f i = if i + K < 256 then bitf Y (i + K) else top) (JO : ∀ W : World, Calls Tryz.prog 107 #[.agg (intsD f 256).toArray] W fun e w' => e = .returned (.agg #[.int .u64 p0, .int .u64 p1, .int .u64 p2, .int .u64 p3]) ∧ Below W.heap.size W w') (w : World) :
    Calls Tryz.prog 104 #[.agg #[.int .u64 a0, .int .u64 a1, .int .u64 a2, .int .u64 a3], .agg #[.int .u64 b0, .int .u64 b1, .int .u64 b2, .int .u64 b3], .int .i64 (top : Int)] w fun e w' => e = .returned (.agg #[.int .u64 p0, .int .u64 p1, .int .u64 p2, .int .u64 p3]) ∧ Below w.heap.size w w' := by
  have HUP : Hid _ := UP
  have HBB : Hid _ := BB
  have HKL : Hid (K ≤ 256) := KL
  have HF : Hid (∀ i, f i = if i + K < 256 then bitf Y (i + K) else top) := F
  have HJO : Hid _ := JO
  clear UP BB KL F JO
  go_enter Tryz.func104, Tryz.ntmps104
  go_upto_region 1 with fail
  have K0 : Hid (Bx w [(w.heap.size + 1 + 1, 0, 0, 0, 0), (w.heap.size + 1, b0, b1, b2, b3), (w.heap.size, a0, a1, a2, a3)] (((w.alloc (.cells #[.int .u64 a0, .int .u64 a1, .int .u64 a2, .int .u64 a3] 24)).alloc (.cells #[.int .u64 b0, .int .u64 b1, .int .u64 b2, .int .u64 b3] 24)).alloc (.cells #[.int .u64 0, .int .u64 0, .int .u64 0, .int .u64 0] 24))) := by
    have h := (((Bx.start w).alloc a0 a1 a2 a3).alloc b0 b1 b2 b3).alloc 0 0 0 0
    (try simp only [World.size_alloc] at h)
    exact h
  generalize (((w.alloc (.cells #[.int .u64 a0, .int .u64 a1, .int .u64 a2, .int .u64 a3] 24)).alloc (.cells #[.int .u64 b0, .int .u64 b1, .int .u64 b2, .int .u64 b3] 24)).alloc (.cells #[.int .u64 0, .int .u64 0, .int .u64 0, .int .u64 0] 24)) = W0 at K0 ⊢
  obtain ⟨c0, c1, c2, c3, _⟩ := K0.out.f0 mm2
  go_upto_region 2 with (go_at_call 106; refine (HUP.out _).mono ?_; rintro e g0 ⟨rfl, hB⟩; (have K2 : Hid _ := K0.out.past hB); clear hB c0 c1 c2 c3 K0)
  obtain ⟨c0, c1, c2, c3, _⟩ := K2.out.f0 mm1
  go_upto_region 3 with (first
    | (go_at_call 103; refine (HBB.out _).mono ?_; rintro e g1 ⟨rfl, hB⟩; (have K1 : Hid _ := K2.out.past hB); clear hB c0 c1 c2 c3 K2)
    | (refine new256 (bitf Y) rfl rfl _ rfl rfl _ rfl rfl rfl rfl ?_; intro W1 hW1))
  obtain ⟨bl, ebl⟩ : ∃ bl, g1.heap.size = bl := ⟨_, rfl⟩
  have X1 : Hid (RowI W1 bl 256 (bitf Y) ∧ Below bl g1 W1) := ⟨by rw [← ebl]; exact hW1.row, by rw [← ebl]; exact hW1.bel⟩
  have EBL : Hid (g1.heap.size = bl) := ebl
  rw [ebl]
  clear hW1 ebl
  go_wp2_with (refine alloc256 rfl rfl ?_; intro W2 hW2)
  obtain ⟨bm, ebm⟩ : ∃ bm, W1.heap.size = bm := ⟨_, rfl⟩
  have hlm : bl < bm := by rw [← ebm]; exact RowI.lt X1.out.1 (by omega)
  have X3 : Hid (RowI W2 bl 256 (bitf Y) ∧ RowI W2 bm 256 (fun _ => 0) ∧ Below bl g1 W2) := ⟨X1.out.1.past hW2.bel, by rw [← ebm]; exact hW2.row, X1.out.2.trans (hW2.bel.mono (by omega))⟩
  rw [ebm]
  clear hW2 ebm X1
  go_loopw [10] (fun s wr => ∃ i : Nat, s = .int .i64 (i : Int) ∧ i ≤ 256 ∧ RowI wr bl 256 (bitf Y) ∧ RowI wr bm 256 (upto f i) ∧ Below bl g1 wr) (fun s _ => 256 - (intOf s).toNat)
  case atStart => exact ⟨0, rfl, by omega, X3.out.1, X3.out.2.1.ext (fun i _ => by unfold upto; rw [if_neg (by omega)]), X3.out.2.2⟩
  case round =>
    obtain ⟨i, rfl, hi, hR, hS, hB⟩ := hrel
    clear X3
    have HR : Hid (RowI wr bl 256 (bitf Y)) := hR
    have HS : Hid (RowI wr bm 256 (upto f i)) := hS
    have HB : Hid (Below bl g1 wr) := hB
    clear hR hS hB
    by_cases hi5 : i < 256
    · have iI : (i : Int) < 256 := by omega
      obtain ⟨d, ed⟩ : ∃ d, d = i + K := ⟨_, rfl⟩
      have m1 : (i : Int) + (K : Int) = (d : Int) := by omega
      have dk : d ≤ 512 := by have := HKL.out; omega
      have m2 : IntKind.i64.wrap (d : Int) = (d : Int) := by rw [IntKind.wrap_i64]; omega
      have c2 := (HS.out i hi5).1
      have f2 := (HS.out i hi5).2
      have N0 : Hid (RowI (wr.setCell ⟨bm, i, none⟩ (.int .i64 (top : Int))) bl 256 (bitf Y) ∧ RowI (wr.setCell ⟨bm, i, none⟩ (.int .i64 (top : Int))) bm 256 (setD (upto f i) i top) ∧ Below bl g1 (wr.setCell ⟨bm, i, none⟩ (.int .i64 (top : Int)))) := by
        refine ⟨HR.out.set_other _ _ (Nat.ne_of_gt hlm), RowI.set HS.out i top, HB.out.setCell (Nat.le_of_lt hlm) _⟩
      go_upto_region 8 with fail
      generalize wr.setCell ⟨bm, i, none⟩ (.int .i64 (top : Int)) = x0 at N0 ⊢
      clear HR HS HB c2 f2
      by_cases hd : d < 256
      · have dI : (d : Int) < 256 := by omega
        have c1 := (N0.out.1 d hd).1
        have c2 := (N0.out.2.1 i hi5).1
        have f2 := (N0.out.2.1 i hi5).2
        obtain ⟨u, eu⟩ : ∃ u, u = bitf Y d := ⟨_, rfl⟩
        rw [← eu] at c1
        have N1 : Hid (RowI (x0.setCell ⟨bm, i, none⟩ (.int .i64 (u : Int))) bl 256 (bitf Y) ∧ RowI (x0.setCell ⟨bm, i, none⟩ (.int .i64 (u : Int))) bm 256 (upto f (i + 1)) ∧ Below bl g1 (x0.setCell ⟨bm, i, none⟩ (.int .i64 (u : Int)))) := by
          refine ⟨N0.out.1.set_other _ _ (Nat.ne_of_gt hlm), ?_, N0.out.2.2.setCell (Nat.le_of_lt hlm) _⟩
          have e : upto f (i + 1) = setD (setD (upto f i) i top) i u := by
            rw [← upto_set, HF.out, if_pos (by omega), ← ed, ← eu]
            funext j; unfold setD; split <;> rfl
          rw [e]
          exact RowI.set N0.out.2.1 i u
        clear ed eu N0
        go_wp2
        go_roundw
        case rel => exact ⟨i + 1, by go_num, by omega, N1.out.1, N1.out.2.1, N1.out.2.2⟩
        case measure => simp [intOf]; omega
      · have dI : ¬ (d : Int) < 256 := by omega
        have N1 : Hid (RowI x0 bm 256 (upto f (i + 1))) := by
          have e : upto f (i + 1) = setD (upto f i) i top := by rw [← upto_set, HF.out, if_neg (by omega)]
          unfold Hid
          rw [e]; exact N0.out.2.1
        clear ed
        go_wp2
        go_roundw
        case rel => exact ⟨i + 1, by go_num, by omega, N0.out.1, N1.out, N0.out.2.2⟩
        case measure => simp [intOf]; omega
    · obtain rfl : i = 256 := by omega
      have R1 : Hid (RowI wr bm 256 f) := HS.out.ext (fun i hi => by unfold upto; rw [if_pos hi])
      have K5 : Hid (Bx w [(w.heap.size + 1 + 1, 0, 0, 0, 0), (w.heap.size + 1, b0, b1, b2, b3), (w.heap.size, a0, a1, a2, a3)] wr) := K1.out.past (by rw [EBL.out]; exact HB.out)
      clear HR HS HB K1
      obtain ⟨r0, r1, r2, r3, f0, f1, f2, f3⟩ := K5.out.f0 mm0
      go_wp2_with (first
        | (go_at_call 107; refine (HJO.out _).mono ?_; rintro e x9 ⟨rfl, hB⟩; (have K9 : Hid _ := K5.out.past hB); clear hB r0 r1 r2 r3 f0 f1 f2 f3; obtain ⟨r0, r1, r2, r3, f0, f1, f2, f3⟩ := K9.out.f0 mm0)
        | (refine load256 f bm rfl _ rfl rfl R1.out ?_))
      exact bodyPost_ret (v := .agg #[.int .u64 p0, .int .u64 p1, .int .u64 p2, .int .u64 p3]) (by simp [results, Tryz.results104, go_sem, r0, r1, r2, r3]) rfl ⟨rfl, below_put K9.out.bel (by omega) _ _ _ _⟩
set_option maxHeartbeats 4000000 in
set_option maxRecDepth 100000 in
theorem rsext_31 (a0 a1 a2 a3 b0 b1 b2 b3 : Int) (UP : ∀ W : World, Calls Tryz.prog 106 #[.agg #[.int .u64 a0, .int .u64 a1, .int .u64 a2, .int .u64 a3], .int .i64 31] W fun e w' => e = .returned (.int .i64 (31 : Int)) ∧ Below W.heap.size W w') (w : World) :
    Calls Tryz.prog 33 #[.agg #[.int .u64 a0, .int .u64 a1, .int .u64 a2, .int .u64 a3], .agg #[.int .u64 b0, .int .u64 b1, .int .u64 b2, .int .u64 b3]] w fun e w' => e = .returned (.agg #[.int .u64 b0, .int .u64 b1, .int .u64 b2, .int .u64 b3]) ∧ Below w.heap.size w w' := by
  have HUP : Hid _ := UP
  clear UP
  go_enter Tryz.func33, Tryz.ntmps33
  go_upto_region 1 with fail
  have K0 : Hid (Bx w [(w.heap.size + 1 + 1, 0, 0, 0, 0), (w.heap.size + 1, b0, b1, b2, b3), (w.heap.size, a0, a1, a2, a3)] (((w.alloc (.cells #[.int .u64 a0, .int .u64 a1, .int .u64 a2, .int .u64 a3] 24)).alloc (.cells #[.int .u64 b0, .int .u64 b1, .int .u64 b2, .int .u64 b3] 24)).alloc (.cells #[.int .u64 0, .int .u64 0, .int .u64 0, .int .u64 0] 24))) := by
    have h := (((Bx.start w).alloc a0 a1 a2 a3).alloc b0 b1 b2 b3).alloc 0 0 0 0
    (try simp only [World.size_alloc] at h)
    exact h
  generalize (((w.alloc (.cells #[.int .u64 a0, .int .u64 a1, .int .u64 a2, .int .u64 a3] 24)).alloc (.cells #[.int .u64 b0, .int .u64 b1, .int .u64 b2, .int .u64 b3] 24)).alloc (.cells #[.int .u64 0, .int .u64 0, .int .u64 0, .int .u64 0] 24)) = W0 at K0 ⊢
  obtain ⟨c0, c1, c2, c3, _⟩ := K0.out.f0 mm2
  go_upto_region 2 with (go_at_call 106; refine (HUP.out _).mono ?_; rintro e g0 ⟨rfl, hB⟩; (have K2 : Hid _ := K0.out.past hB); clear hB c0 c1 c2 c3 K0)
  obtain ⟨d0, d1, d2, d3, _⟩ := K2.out.f0 mm1
  obtain ⟨r0, r1, r2, r3, f0, f1, f2, f3⟩ := K2.out.f0 mm0
  go_wp2
  exact bodyPost_ret (v := .agg #[.int .u64 b0, .int .u64 b1, .int .u64 b2, .int .u64 b3]) (by simp [results, Tryz.results33, go_sem, r0, r1, r2, r3]) rfl ⟨rfl, below_put K2.out.bel (by omega) _ _ _ _⟩
set_option maxHeartbeats 4000000 in
set_option maxRecDepth 100000 in
theorem rsext_r (a0 a1 a2 a3 b0 b1 b2 b3 p0 p1 p2 p3 : Int) (n Y : Nat) (f : Nat → Nat) (UP : ∀ W : World, Calls Tryz.prog 106 #[.agg #[.int .u64 a0, .int .u64 a1, .int .u64 a2, .int .u64 a3], .int .i64 31] W fun e w' => e = .returned (.int .i64 (n : Int)) ∧ Below W.heap.size W w') (BB : ∀ W : World, Calls Tryz.prog 103 #[.agg #[.int .u64 b0, .int .u64 b1, .int .u64 b2, .int .u64 b3]] W fun e w' => e = .returned (.agg (intsD (bitf Y) 256).toArray) ∧ Below W.heap.size W w') (NL : n < 31) (F : ∀ i, f i = if i < 8 * n + 8 then bitf Y i else bitf Y (8 * n + 7)) (JO : ∀ W : World, Calls Tryz.prog 107 #[.agg (intsD f 256).toArray] W fun e w' => e = .returned (.agg #[.int .u64 p0, .int .u64 p1, .int .u64 p2, .int .u64 p3]) ∧ Below W.heap.size W w') (w : World) :
    Calls Tryz.prog 33 #[.agg #[.int .u64 a0, .int .u64 a1, .int .u64 a2, .int .u64 a3], .agg #[.int .u64 b0, .int .u64 b1, .int .u64 b2, .int .u64 b3]] w fun e w' => e = .returned (.agg #[.int .u64 p0, .int .u64 p1, .int .u64 p2, .int .u64 p3]) ∧ Below w.heap.size w w' := by
  have HUP : Hid _ := UP
  have HBB : Hid _ := BB
  have HNL : Hid (n < 31) := NL
  have HF : Hid (∀ i, f i = if i < 8 * n + 8 then bitf Y i else bitf Y (8 * n + 7)) := F
  have HJO : Hid _ := JO
  clear UP BB NL F JO
  obtain ⟨q, eq⟩ : ∃ q, q = 8 * n := ⟨_, rfl⟩
  obtain ⟨q7, eq7⟩ : ∃ q7, q7 = 8 * n + 7 := ⟨_, rfl⟩
  obtain ⟨q8, eq8⟩ : ∃ q8, q8 = 8 * n + 8 := ⟨_, rfl⟩
  have nl := HNL.out
  have n31 : (n : Int) ≠ 31 := by omega
  have n32 : ((n : Int) == 31) = false := by simpa using n31
  have w1 : (8 : Int) * (n : Int) = (q : Int) := by omega
  have w2 : IntKind.i64.wrap (q : Int) = (q : Int) := by rw [IntKind.wrap_i64]; omega
  have w3 : (q : Int) + 8 = (q8 : Int) := by omega
  have w4 : IntKind.i64.wrap (q8 : Int) = (q8 : Int) := by rw [IntKind.wrap_i64]; omega
  have w5 : (q : Int) + 7 = (q7 : Int) := by omega
  have w6 : IntKind.i64.wrap (q7 : Int) = (q7 : Int) := by rw [IntKind.wrap_i64]; omega
  have q7I : (q7 : Int) < 256 := by omega
  have EQ : Hid (q7 = 8 * n + 7 ∧ q8 = 8 * n + 8 ∧ n < 31) := ⟨eq7, eq8, nl⟩
  clear eq eq7 eq8 nl
  go_enter Tryz.func33, Tryz.ntmps33
  go_upto_region 1 with fail
  have K0 : Hid (Bx w [(w.heap.size + 1 + 1, 0, 0, 0, 0), (w.heap.size + 1, b0, b1, b2, b3), (w.heap.size, a0, a1, a2, a3)] (((w.alloc (.cells #[.int .u64 a0, .int .u64 a1, .int .u64 a2, .int .u64 a3] 24)).alloc (.cells #[.int .u64 b0, .int .u64 b1, .int .u64 b2, .int .u64 b3] 24)).alloc (.cells #[.int .u64 0, .int .u64 0, .int .u64 0, .int .u64 0] 24))) := by
    have h := (((Bx.start w).alloc a0 a1 a2 a3).alloc b0 b1 b2 b3).alloc 0 0 0 0
    (try simp only [World.size_alloc] at h)
    exact h
  generalize (((w.alloc (.cells #[.int .u64 a0, .int .u64 a1, .int .u64 a2, .int .u64 a3] 24)).alloc (.cells #[.int .u64 b0, .int .u64 b1, .int .u64 b2, .int .u64 b3] 24)).alloc (.cells #[.int .u64 0, .int .u64 0, .int .u64 0, .int .u64 0] 24)) = W0 at K0 ⊢
  obtain ⟨c0, c1, c2, c3, _⟩ := K0.out.f0 mm2
  go_upto_region 2 with (go_at_call 106; refine (HUP.out _).mono ?_; rintro e g0 ⟨rfl, hB⟩; (have K2 : Hid _ := K0.out.past hB); clear hB c0 c1 c2 c3 K0)
  go_upto_region 4 with fail
  obtain ⟨c0, c1, c2, c3, _⟩ := K2.out.f0 mm1
  go_upto_region 5 with (first
    | (go_at_call 103; refine (HBB.out _).mono ?_; rintro e g1 ⟨rfl, hB⟩; (have K1 : Hid _ := K2.out.past hB); clear hB c0 c1 c2 c3 K2)
    | (refine new256 (bitf Y) rfl rfl _ rfl rfl _ rfl rfl rfl rfl ?_; intro W1 hW1))
  obtain ⟨bl, ebl⟩ : ∃ bl, g1.heap.size = bl := ⟨_, rfl⟩
  have X1 : Hid (RowI W1 bl 256 (bitf Y) ∧ Below bl g1 W1) := ⟨by rw [← ebl]; exact hW1.row, by rw [← ebl]; exact hW1.bel⟩
  have EBL : Hid (g1.heap.size = bl) := ebl
  rw [ebl]
  clear hW1 ebl
  have X3 : Hid (RowI W1 bl 256 (mixd f (bitf Y) q8) ∧ Below bl g1 W1) := ⟨X1.out.1.ext (fun i _ => by unfold mixd; split; rw [HF.out, if_pos (by have := EQ.out; omega)]; rfl), X1.out.2⟩
  clear X1
  go_wp2
  go_loopw [7] (fun s wr => ∃ i : Nat, s = .int .i64 (i : Int) ∧ q8 ≤ i ∧ i ≤ 256 ∧ RowI wr bl 256 (mixd f (bitf Y) i) ∧ Below bl g1 wr) (fun s _ => 256 - (intOf s).toNat)
  case atStart => exact ⟨q8, rfl, by omega, by have := EQ.out; omega, X3.out.1, X3.out.2⟩
  case round =>
    obtain ⟨i, rfl, hqi, hi, hR, hB⟩ := hrel
    clear X3
    have HR : Hid (RowI wr bl 256 (mixd f (bitf Y) i)) := hR
    have HB : Hid (Below bl g1 wr) := hB
    clear hR hB
    by_cases hi5 : i < 256
    · have iI : (i : Int) < 256 := by omega
      have eq := EQ.out
      have c1 := (HR.out q7 (by omega)).1
      have c2 := (HR.out i hi5).1
      have f2 := (HR.out i hi5).2
      rw [show mixd f (bitf Y) i q7 = bitf Y q7 by unfold mixd; rw [if_pos (by omega), HF.out, if_pos (by omega)]] at c1
      obtain ⟨u, eu⟩ : ∃ u, u = bitf Y q7 := ⟨_, rfl⟩
      rw [← eu] at c1
      have N1 : Hid (RowI (wr.setCell ⟨bl, i, none⟩ (.int .i64 (u : Int))) bl 256 (mixd f (bitf Y) (i + 1)) ∧ Below bl g1 (wr.setCell ⟨bl, i, none⟩ (.int .i64 (u : Int)))) := by
        refine ⟨?_, HB.out.setCell (Nat.le_refl _) _⟩
        rw [← mixd_set, HF.out, if_neg (by omega), ← eq.1, ← eu]
        exact RowI.set HR.out i u
      clear eq eu
      go_wp2
      go_roundw
      case rel => exact ⟨i + 1, by go_num, by omega, by omega, N1.out.1, N1.out.2⟩
      case measure => simp [intOf]; omega
    · obtain rfl : i = 256 := by omega
      have R1 : Hid (RowI wr bl 256 f) := HR.out.ext (fun i hi => by unfold mixd; rw [if_pos hi])
      have K5 : Hid (Bx w [(w.heap.size + 1 + 1, 0, 0, 0, 0), (w.heap.size + 1, b0, b1, b2, b3), (w.heap.size, a0, a1, a2, a3)] wr) := K1.out.past (by rw [EBL.out]; exact HB.out)
      clear HR HB K1
      obtain ⟨r0, r1, r2, r3, f0, f1, f2, f3⟩ := K5.out.f0 mm0
      go_wp2_with (first
        | (go_at_call 107; refine (HJO.out _).mono ?_; rintro e x9 ⟨rfl, hB⟩; (have K9 : Hid _ := K5.out.past hB); clear hB r0 r1 r2 r3 f0 f1 f2 f3; obtain ⟨r0, r1, r2, r3, f0, f1, f2, f3⟩ := K9.out.f0 mm0)
        | (refine load256 f bl rfl _ rfl rfl R1.out ?_))
      exact bodyPost_ret (v := .agg #[.int .u64 p0, .int .u64 p1, .int .u64 p2, .int .u64 p3]) (by simp [results, Tryz.results33, go_sem, r0, r1, r2, r3]) rfl ⟨rfl, below_put K9.out.bel (by omega) _ _ _ _⟩
set_option maxHeartbeats 4000000 in
set_option maxRecDepth 100000 in
theorem rshr_r (a0 a1 a2 a3 b0 b1 b2 b3 p0 p1 p2 p3 : Int) (LO : ∀ W : World, Calls Tryz.prog 104 #[.agg #[.int .u64 a0, .int .u64 a1, .int .u64 a2, .int .u64 a3], .agg #[.int .u64 b0, .int .u64 b1, .int .u64 b2, .int .u64 b3], .int .i64 0] W fun e w' => e = .returned (.agg #[.int .u64 p0, .int .u64 p1, .int .u64 p2, .int .u64 p3]) ∧ Below W.heap.size W w') (w : World) :
    Calls Tryz.prog 51 #[.agg #[.int .u64 a0, .int .u64 a1, .int .u64 a2, .int .u64 a3], .agg #[.int .u64 b0, .int .u64 b1, .int .u64 b2, .int .u64 b3]] w fun e w' => e = .returned (.agg #[.int .u64 p0, .int .u64 p1, .int .u64 p2, .int .u64 p3]) ∧ Below w.heap.size w w' := by
  have HLO : Hid _ := LO
  clear LO
  go_enter Tryz.func51, Tryz.ntmps51
  go_upto_region 1 with fail
  have K0 : Hid (Bx w [(w.heap.size + 1 + 1, 0, 0, 0, 0), (w.heap.size + 1, b0, b1, b2, b3), (w.heap.size, a0, a1, a2, a3)] (((w.alloc (.cells #[.int .u64 a0, .int .u64 a1, .int .u64 a2, .int .u64 a3] 24)).alloc (.cells #[.int .u64 b0, .int .u64 b1, .int .u64 b2, .int .u64 b3] 24)).alloc (.cells #[.int .u64 0, .int .u64 0, .int .u64 0, .int .u64 0] 24))) := by
    have h := (((Bx.start w).alloc a0 a1 a2 a3).alloc b0 b1 b2 b3).alloc 0 0 0 0
    (try simp only [World.size_alloc] at h)
    exact h
  generalize (((w.alloc (.cells #[.int .u64 a0, .int .u64 a1, .int .u64 a2, .int .u64 a3] 24)).alloc (.cells #[.int .u64 b0, .int .u64 b1, .int .u64 b2, .int .u64 b3] 24)).alloc (.cells #[.int .u64 0, .int .u64 0, .int .u64 0, .int .u64 0] 24)) = W0 at K0 ⊢
  obtain ⟨c0, c1, c2, c3, _⟩ := K0.out.f0 mm2
  obtain ⟨d0, d1, d2, d3, _⟩ := K0.out.f0 mm1
  go_wp2_with (go_at_call 104; refine (HLO.out _).mono ?_; rintro e x9 ⟨rfl, hB⟩; (have K9 : Hid _ := K0.out.past hB); clear hB c0 c1 c2 c3 d0 d1 d2 d3; obtain ⟨r0, r1, r2, r3, f0, f1, f2, f3⟩ := K9.out.f0 mm0)
  exact bodyPost_ret (v := .agg #[.int .u64 p0, .int .u64 p1, .int .u64 p2, .int .u64 p3]) (by simp [results, Tryz.results51, go_sem, r0, r1, r2, r3]) rfl ⟨rfl, below_put K9.out.bel (by omega) _ _ _ _⟩
set_option maxHeartbeats 4000000 in
set_option maxRecDepth 100000 in
theorem rsar_r (a0 a1 a2 a3 b0 b1 b2 b3 p0 p1 p2 p3 : Int) (Y top : Nat) (BB : ∀ W : World, Calls Tryz.prog 103 #[.agg #[.int .u64 b0, .int .u64 b1, .int .u64 b2, .int .u64 b3]] W fun e w' => e = .returned (.agg (intsD (bitf Y) 256).toArray) ∧ Below W.heap.size W w') (LO : ∀ W : World, Calls Tryz.prog 104 #[.agg #[.int .u64 a0, .int .u64 a1, .int .u64 a2, .int .u64 a3], .agg #[.int .u64 b0, .int .u64 b1, .int .u64 b2, .int .u64 b3], .int .i64 (top : Int)] W fun e w' => e = .returned (.agg #[.int .u64 p0, .int .u64 p1, .int .u64 p2, .int .u64 p3]) ∧ Below W.heap.size W w') (TP : bitf Y 255 = top) (w : World) :
    Calls Tryz.prog 31 #[.agg #[.int .u64 a0, .int .u64 a1, .int .u64 a2, .int .u64 a3], .agg #[.int .u64 b0, .int .u64 b1, .int .u64 b2, .int .u64 b3]] w fun e w' => e = .returned (.agg #[.int .u64 p0, .int .u64 p1, .int .u64 p2, .int .u64 p3]) ∧ Below w.heap.size w w' := by
  have HBB : Hid _ := BB
  have HLO : Hid _ := LO
  have HTP : Hid (bitf Y 255 = top) := TP
  clear BB LO TP
  go_enter Tryz.func31, Tryz.ntmps31
  go_upto_region 1 with fail
  have K0 : Hid (Bx w [(w.heap.size + 1 + 1, 0, 0, 0, 0), (w.heap.size + 1, b0, b1, b2, b3), (w.heap.size, a0, a1, a2, a3)] (((w.alloc (.cells #[.int .u64 a0, .int .u64 a1, .int .u64 a2, .int .u64 a3] 24)).alloc (.cells #[.int .u64 b0, .int .u64 b1, .int .u64 b2, .int .u64 b3] 24)).alloc (.cells #[.int .u64 0, .int .u64 0, .int .u64 0, .int .u64 0] 24))) := by
    have h := (((Bx.start w).alloc a0 a1 a2 a3).alloc b0 b1 b2 b3).alloc 0 0 0 0
    (try simp only [World.size_alloc] at h)
    exact h
  generalize (((w.alloc (.cells #[.int .u64 a0, .int .u64 a1, .int .u64 a2, .int .u64 a3] 24)).alloc (.cells #[.int .u64 b0, .int .u64 b1, .int .u64 b2, .int .u64 b3] 24)).alloc (.cells #[.int .u64 0, .int .u64 0, .int .u64 0, .int .u64 0] 24)) = W0 at K0 ⊢
  obtain ⟨c0, c1, c2, c3, _⟩ := K0.out.f0 mm1
  go_upto_region 2 with (first
    | (go_at_call 103; refine (HBB.out _).mono ?_; rintro e g1 ⟨rfl, hB⟩; (have K1 : Hid _ := K0.out.past hB); clear hB c0 c1 c2 c3 K0)
    | (refine new256 (bitf Y) rfl rfl _ rfl rfl _ rfl rfl rfl rfl ?_; intro W1 hW1))
  obtain ⟨bl, ebl⟩ : ∃ bl, g1.heap.size = bl := ⟨_, rfl⟩
  have X1 : Hid (RowI W1 bl 256 (bitf Y) ∧ Below bl g1 W1) := ⟨by rw [← ebl]; exact hW1.row, by rw [← ebl]; exact hW1.bel⟩
  have EBL : Hid (g1.heap.size = bl) := ebl
  rw [ebl]
  clear hW1 ebl
  have K0 : Hid (Bx w [(w.heap.size + 1 + 1, 0, 0, 0, 0), (w.heap.size + 1, b0, b1, b2, b3), (w.heap.size, a0, a1, a2, a3)] W1) := K1.out.past (by rw [EBL.out]; exact X1.out.2)
  have cz := (X1.out.1 255 (by omega)).1
  rw [HTP.out] at cz
  obtain ⟨c0, c1, c2, c3, _⟩ := K0.out.f0 mm2
  obtain ⟨d0, d1, d2, d3, _⟩ := K0.out.f0 mm1
  go_wp2_with (go_at_call 104; refine (HLO.out _).mono ?_; rintro e x9 ⟨rfl, hB⟩; (have K9 : Hid _ := K0.out.past hB); clear hB c0 c1 c2 c3 d0 d1 d2 d3; obtain ⟨r0, r1, r2, r3, f0, f1, f2, f3⟩ := K9.out.f0 mm0)
  exact bodyPost_ret (v := .agg #[.int .u64 p0, .int .u64 p1, .int .u64 p2, .int .u64 p3]) (by simp [results, Tryz.results31, go_sem, r0, r1, r2, r3]) rfl ⟨rfl, below_put K9.out.bel (by omega) _ _ _ _⟩
end Go.Proofs.YtpadpmkfhljiiaaGreat
/- The document's negative, size, signed, Byte, zeros, Clz, Size; word.Clz, word.Size. -/
namespace Go.Proofs.YtpadpmkfhljiiaaGreat
open Go.RowKit
theorem RowIs.wide {W : World} {v : Value} {n m N : Nat} (h : RowIs W v n N) (k : n ≤ m) : RowIs W v m N := by
  obtain ⟨q, d, h1, h2, h3⟩ := h
  exact ⟨q, d, by omega, h2, h3⟩
theorem ri_cut32 {W : World} {v : Value} {n N : Nat} (h1 : RowIs W v n N) : Calls Tryz.prog 133 #[v, .int .i64 32] W fun e w' => ∃ x, e = .returned x ∧ RowIs w' x 32 (N % 256 ^ 32) ∧ Below W.heap.size W w' := by
  obtain ⟨k, d, a1, a2, a3⟩ := h1
  refine (cut_is W v k d a2 32 (by omega)).mono ?_
  rintro e w' ⟨x, rfl, x1, x3⟩
  refine ⟨x, rfl, ⟨_, _, by omega, x1, ?_⟩, x3⟩
  rw [← a3, ← cutD_sum a2.2.1]
  exact (dsum_more (fun i hi => x1.1 i (by omega)) k (by omega)).symm
set_option maxHeartbeats 4000000 in
set_option maxRecDepth 100000 in
theorem negative_t (a0 a1 a2 a3 : Int) (X : Nat) (OA : ∀ W : World, Calls Tryz.prog 79 #[.agg #[.int .u64 a0, .int .u64 a1, .int .u64 a2, .int .u64 a3]] W fun e w' => ∃ v, e = .returned v ∧ RowAt w' v 32 (dig X) ∧ Below W.heap.size W w') (Y : bitf X 255 = 1) (w : World) :
    Calls Tryz.prog 95 #[.agg #[.int .u64 a0, .int .u64 a1, .int .u64 a2, .int .u64 a3]] w fun e w' => e = .returned (.bool true) ∧ Below w.heap.size w w' := by
  have HOA : Hid _ := OA
  have HY : Hid (bitf X 255 = 1) := Y
  clear OA Y
  have K0 : Hid (Bx w [(w.heap.size, a0, a1, a2, a3)] (w.alloc (.cells #[.int .u64 a0, .int .u64 a1, .int .u64 a2, .int .u64 a3] 24))) := (Bx.start w).alloc a0 a1 a2 a3
  go_enter Tryz.func95, Tryz.ntmps95
  go_upto_region 1 with fail
  generalize (w.alloc (.cells #[.int .u64 a0, .int .u64 a1, .int .u64 a2, .int .u64 a3] 24)) = W0 at K0 ⊢
  obtain ⟨c0, c1, c2, c3, _⟩ := K0.out.f0 mm0
  go_wp2_with fail
  refine (HOA.out _).mono ?_
  rintro e v1 ⟨rv, rfl, hrow, hB⟩
  have BT : Hid (Calls Tryz.prog 132 #[rv, .int .i64 255] v1 fun e w' => e = .returned (.int .i64 1) ∧ w' = v1) := by
    have h := bit_is v1 rv 32 (dig X) hrow 255 (by omega)
    rw [dig_bitf X 255 (by omega), HY.out] at h
    exact h
  have K1 : Hid (Below w.heap.size w v1) := K0.out.bel.trans (hB.mono K0.out.bel.size)
  clear hrow hB K0 c0 c1 c2 c3
  go_wp2_with (go_at_call 132; refine Calls.mono BT.out ?_; rintro e w' ⟨rfl, hw⟩; (have hw2 := hw.symm); clear hw; subst hw2)
  go_ret
  exact ⟨rfl, K1.out⟩
set_option maxHeartbeats 4000000 in
set_option maxRecDepth 100000 in
theorem negative_f (a0 a1 a2 a3 : Int) (X : Nat) (OA : ∀ W : World, Calls Tryz.prog 79 #[.agg #[.int .u64 a0, .int .u64 a1, .int .u64 a2, .int .u64 a3]] W fun e w' => ∃ v, e = .returned v ∧ RowAt w' v 32 (dig X) ∧ Below W.heap.size W w') (Y : bitf X 255 = 0) (w : World) :
    Calls Tryz.prog 95 #[.agg #[.int .u64 a0, .int .u64 a1, .int .u64 a2, .int .u64 a3]] w fun e w' => e = .returned (.bool false) ∧ Below w.heap.size w w' := by
  have HOA : Hid _ := OA
  have HY : Hid (bitf X 255 = 0) := Y
  clear OA Y
  have K0 : Hid (Bx w [(w.heap.size, a0, a1, a2, a3)] (w.alloc (.cells #[.int .u64 a0, .int .u64 a1, .int .u64 a2, .int .u64 a3] 24))) := (Bx.start w).alloc a0 a1 a2 a3
  go_enter Tryz.func95, Tryz.ntmps95
  go_upto_region 1 with fail
  generalize (w.alloc (.cells #[.int .u64 a0, .int .u64 a1, .int .u64 a2, .int .u64 a3] 24)) = W0 at K0 ⊢
  obtain ⟨c0, c1, c2, c3, _⟩ := K0.out.f0 mm0
  go_wp2_with fail
  refine (HOA.out _).mono ?_
  rintro e v1 ⟨rv, rfl, hrow, hB⟩
  have BT : Hid (Calls Tryz.prog 132 #[rv, .int .i64 255] v1 fun e w' => e = .returned (.int .i64 0) ∧ w' = v1) := by
    have h := bit_is v1 rv 32 (dig X) hrow 255 (by omega)
    rw [dig_bitf X 255 (by omega), HY.out] at h
    exact h
  have K1 : Hid (Below w.heap.size w v1) := K0.out.bel.trans (hB.mono K0.out.bel.size)
  clear hrow hB K0 c0 c1 c2 c3
  go_wp2_with (go_at_call 132; refine Calls.mono BT.out ?_; rintro e w' ⟨rfl, hw⟩; (have hw2 := hw.symm); clear hw; subst hw2)
  go_ret
  exact ⟨rfl, K1.out⟩
set_option maxHeartbeats 4000000 in
set_option maxRecDepth 100000 in
theorem rsize_t (a0 a1 a2 a3 : Int) (X : Nat) (OA : ∀ W : World, Calls Tryz.prog 79 #[.agg #[.int .u64 a0, .int .u64 a1, .int .u64 a2, .int .u64 a3]] W fun e w' => ∃ v, e = .returned v ∧ RowIs w' v 32 X ∧ Below W.heap.size W w') (NE : ∀ W : World, Calls Tryz.prog 95 #[.agg #[.int .u64 a0, .int .u64 a1, .int .u64 a2, .int .u64 a3]] W fun e w' => e = .returned (.bool true) ∧ Below W.heap.size W w') (XL : X ≤ 256 ^ 32) (w : World) :
    Calls Tryz.prog 93 #[.agg #[.int .u64 a0, .int .u64 a1, .int .u64 a2, .int .u64 a3]] w fun e w' => ∃ v, e = .returned v ∧ RowIs w' v 33 (256 ^ 32 - X) ∧ Below w.heap.size w w' := by
  have HOA : Hid _ := OA
  have HNE : Hid _ := NE
  have HXL : Hid (X ≤ 256 ^ 32) := XL
  clear OA NE XL
  have K0 : Hid (Bx w [(w.heap.size, a0, a1, a2, a3)] (w.alloc (.cells #[.int .u64 a0, .int .u64 a1, .int .u64 a2, .int .u64 a3] 24))) := (Bx.start w).alloc a0 a1 a2 a3
  go_enter Tryz.func93, Tryz.ntmps93
  go_upto_region 1 with fail
  generalize (w.alloc (.cells #[.int .u64 a0, .int .u64 a1, .int .u64 a2, .int .u64 a3] 24)) = W0 at K0 ⊢
  obtain ⟨c0, c1, c2, c3, _⟩ := K0.out.f0 mm0
  go_upto_region 2 with (go_at_call 79; refine (HOA.out _).mono ?_; rintro e v1 ⟨rv, rfl, hrow, hB⟩; (have K1 : Hid (Bx w [(w.heap.size, a0, a1, a2, a3)] v1 ∧ RowIs v1 rv 32 X) := ⟨K0.out.past hB, hrow⟩); clear hB hrow c0 c1 c2 c3 K0; obtain ⟨c0, c1, c2, c3, _⟩ := K1.out.1.f0 mm0)
  go_upto_region 3 with (go_at_call 95; refine (HNE.out _).mono ?_; rintro e v2 ⟨rfl, hB⟩; (have K2 : Hid (Bx w [(w.heap.size, a0, a1, a2, a3)] v2 ∧ RowIs v2 rv 32 X) := ⟨K1.out.1.past hB, K1.out.2.below hB⟩); clear hB c0 c1 c2 c3 K1)
  go_wp2_with fail
  refine (ri_full _).mono ?_
  rintro e v3 ⟨fv, rfl, hF, hB⟩
  have K3 : Hid (Bx w [(w.heap.size, a0, a1, a2, a3)] v3 ∧ RowIs v3 rv 32 X ∧ RowIs v3 fv 33 (256 ^ 32)) := ⟨K2.out.1.past hB, K2.out.2.below hB, hF⟩
  clear hB hF K2
  go_wp2_with fail
  refine (ri_minus K3.out.2.2 K3.out.2.1 HXL.out 33 (by decide) (by decide)).mono ?_
  rintro e v4 ⟨mv, rfl, hM, hB⟩
  have K4 : Hid (Bx w [(w.heap.size, a0, a1, a2, a3)] v4 ∧ RowIs v4 mv 33 (256 ^ 32 - X)) := ⟨K3.out.1.past hB, hM⟩
  clear hB hM K3
  go_wp2
  go_ret
  exact ⟨_, rfl, K4.out.2, K4.out.1.bel⟩
set_option maxHeartbeats 4000000 in
set_option maxRecDepth 100000 in
theorem rsize_f (a0 a1 a2 a3 : Int) (X : Nat) (OA : ∀ W : World, Calls Tryz.prog 79 #[.agg #[.int .u64 a0, .int .u64 a1, .int .u64 a2, .int .u64 a3]] W fun e w' => ∃ v, e = .returned v ∧ RowIs w' v 32 X ∧ Below W.heap.size W w') (NE : ∀ W : World, Calls Tryz.prog 95 #[.agg #[.int .u64 a0, .int .u64 a1, .int .u64 a2, .int .u64 a3]] W fun e w' => e = .returned (.bool false) ∧ Below W.heap.size W w') (w : World) :
    Calls Tryz.prog 93 #[.agg #[.int .u64 a0, .int .u64 a1, .int .u64 a2, .int .u64 a3]] w fun e w' => ∃ v, e = .returned v ∧ RowIs w' v 33 X ∧ Below w.heap.size w w' := by
  have HOA : Hid _ := OA
  have HNE : Hid _ := NE
  clear OA NE
  have K0 : Hid (Bx w [(w.heap.size, a0, a1, a2, a3)] (w.alloc (.cells #[.int .u64 a0, .int .u64 a1, .int .u64 a2, .int .u64 a3] 24))) := (Bx.start w).alloc a0 a1 a2 a3
  go_enter Tryz.func93, Tryz.ntmps93
  go_upto_region 1 with fail
  generalize (w.alloc (.cells #[.int .u64 a0, .int .u64 a1, .int .u64 a2, .int .u64 a3] 24)) = W0 at K0 ⊢
  obtain ⟨c0, c1, c2, c3, _⟩ := K0.out.f0 mm0
  go_upto_region 2 with (go_at_call 79; refine (HOA.out _).mono ?_; rintro e v1 ⟨rv, rfl, hrow, hB⟩; (have K1 : Hid (Bx w [(w.heap.size, a0, a1, a2, a3)] v1 ∧ RowIs v1 rv 32 X) := ⟨K0.out.past hB, hrow⟩); clear hB hrow c0 c1 c2 c3 K0; obtain ⟨c0, c1, c2, c3, _⟩ := K1.out.1.f0 mm0)
  go_wp2_with (go_at_call 95; refine (HNE.out _).mono ?_; rintro e v2 ⟨rfl, hB⟩; (have K2 : Hid (Bx w [(w.heap.size, a0, a1, a2, a3)] v2 ∧ RowIs v2 rv 32 X) := ⟨K1.out.1.past hB, K1.out.2.below hB⟩); clear hB c0 c1 c2 c3 K1)
  go_ret
  exact ⟨_, rfl, K2.out.2.wide (by omega), K2.out.1.bel⟩
set_option maxHeartbeats 4000000 in
set_option maxRecDepth 100000 in
theorem signed_t {w : World} {v : Value} {n N : Nat} (hv : RowIs w v n N) (p0 p1 p2 p3 : Int) (PP : IsW (((256 ^ 32 - N % 256 ^ 32) : Nat) : Int) p0 p1 p2 p3) :
    Calls Tryz.prog 94 #[v, .bool true] w fun e w' => e = .returned (.agg #[.int .u64 p0, .int .u64 p1, .int .u64 p2, .int .u64 p3]) ∧ Below w.heap.size w w' := by
  have HPP : Hid (IsW (((256 ^ 32 - N % 256 ^ 32) : Nat) : Int) p0 p1 p2 p3) := PP
  clear PP
  have K0 : Hid (Bx w [(w.heap.size, 0, 0, 0, 0)] (w.alloc (.cells #[.int .u64 0, .int .u64 0, .int .u64 0, .int .u64 0] 24)) ∧ RowIs (w.alloc (.cells #[.int .u64 0, .int .u64 0, .int .u64 0, .int .u64 0] 24)) v n N) := ⟨(Bx.start w).alloc 0 0 0 0, hv.below ((Below.refl _ _).alloc (Nat.le_refl _) _)⟩
  clear hv
  go_enter Tryz.func94, Tryz.ntmps94
  go_upto_region 1 with fail
  generalize (w.alloc (.cells #[.int .u64 0, .int .u64 0, .int .u64 0, .int .u64 0] 24)) = W0 at K0 ⊢
  go_wp2_with fail
  refine (ri_full _).mono ?_
  rintro e v3 ⟨fv, rfl, hF, hB⟩
  have K3 : Hid (Bx w [(w.heap.size, 0, 0, 0, 0)] v3 ∧ RowIs v3 v n N ∧ RowIs v3 fv 33 (256 ^ 32)) := ⟨K0.out.1.past hB, K0.out.2.below hB, hF⟩
  clear hB hF K0
  go_wp2_with fail
  refine (ri_cut32 K3.out.2.1).mono ?_
  rintro e v4 ⟨cv, rfl, hC, hB⟩
  have K4 : Hid (Bx w [(w.heap.size, 0, 0, 0, 0)] v4 ∧ RowIs v4 cv 32 (N % 256 ^ 32) ∧ RowIs v4 fv 33 (256 ^ 32)) := ⟨K3.out.1.past hB, hC, K3.out.2.2.below hB⟩
  clear hB hC K3
  go_wp2_with fail
  refine (ri_minus K4.out.2.2 K4.out.2.1 (Nat.le_of_lt (Nat.mod_lt _ (by decide))) 33 (by decide) (by decide)).mono ?_
  rintro e v5 ⟨mv, rfl, hM, hB⟩
  have K5 : Hid (Bx w [(w.heap.size, 0, 0, 0, 0)] v5 ∧ RowIs v5 mv 33 (256 ^ 32 - N % 256 ^ 32)) := ⟨K4.out.1.past hB, hM⟩
  clear hB hM K4
  obtain ⟨r0, r1, r2, r3, f0, f1, f2, f3⟩ := K5.out.1.f0 mm0
  go_wp2_with (go_at_call 77; refine (ri_word K5.out.2 HPP.out).mono ?_; rintro e x9 ⟨rfl, hB⟩; (have K9 : Hid (Bx w [(w.heap.size, 0, 0, 0, 0)] x9) := K5.out.1.past hB); clear hB r0 r1 r2 r3 f0 f1 f2 f3; obtain ⟨r0, r1, r2, r3, f0, f1, f2, f3⟩ := K9.out.f0 mm0)
  exact bodyPost_ret (v := .agg #[.int .u64 p0, .int .u64 p1, .int .u64 p2, .int .u64 p3]) (by simp [results, Tryz.results94, go_sem, r0, r1, r2, r3]) rfl ⟨rfl, below_put K9.out.bel (by omega) _ _ _ _⟩
set_option maxHeartbeats 4000000 in
set_option maxRecDepth 100000 in
theorem signed_f {w : World} {v : Value} {n N : Nat} (hv : RowIs w v n N) (p0 p1 p2 p3 : Int) (PP : IsW ((N : Nat) : Int) p0 p1 p2 p3) :
    Calls Tryz.prog 94 #[v, .bool false] w fun e w' => e = .returned (.agg #[.int .u64 p0, .int .u64 p1, .int .u64 p2, .int .u64 p3]) ∧ Below w.heap.size w w' := by
  have HPP : Hid (IsW ((N : Nat) : Int) p0 p1 p2 p3) := PP
  clear PP
  have K0 : Hid (Bx w [(w.heap.size, 0, 0, 0, 0)] (w.alloc (.cells #[.int .u64 0, .int .u64 0, .int .u64 0, .int .u64 0] 24)) ∧ RowIs (w.alloc (.cells #[.int .u64 0, .int .u64 0, .int .u64 0, .int .u64 0] 24)) v n N) := ⟨(Bx.start w).alloc 0 0 0 0, hv.below ((Below.refl _ _).alloc (Nat.le_refl _) _)⟩
  clear hv
  go_enter Tryz.func94, Tryz.ntmps94
  go_upto_region 1 with fail
  generalize (w.alloc (.cells #[.int .u64 0, .int .u64 0, .int .u64 0, .int .u64 0] 24)) = W0 at K0 ⊢
  obtain ⟨r0, r1, r2, r3, f0, f1, f2, f3⟩ := K0.out.1.f0 mm0
  go_wp2_with (go_at_call 77; refine (ri_word K0.out.2 HPP.out).mono ?_; rintro e x9 ⟨rfl, hB⟩; (have K9 : Hid (Bx w [(w.heap.size, 0, 0, 0, 0)] x9) := K0.out.1.past hB); clear hB r0 r1 r2 r3 f0 f1 f2 f3; obtain ⟨r0, r1, r2, r3, f0, f1, f2, f3⟩ := K9.out.f0 mm0)
  exact bodyPost_ret (v := .agg #[.int .u64 p0, .int .u64 p1, .int .u64 p2, .int .u64 p3]) (by simp [results, Tryz.results94, go_sem, r0, r1, r2, r3]) rfl ⟨rfl, below_put K9.out.bel (by omega) _ _ _ _⟩
set_option maxHeartbeats 4000000 in
set_option maxRecDepth 100000 in
theorem rbyte_0 (a0 a1 a2 a3 b0 b1 b2 b3 : Int) (UP : ∀ W : World, Calls Tryz.prog 106 #[.agg #[.int .u64 a0, .int .u64 a1, .int .u64 a2, .int .u64 a3], .int .i64 32] W fun e w' => e = .returned (.int .i64 (32 : Int)) ∧ Below W.heap.size W w') (w : World) :
    Calls Tryz.prog 47 #[.agg #[.int .u64 a0, .int .u64 a1, .int .u64 a2, .int .u64 a3], .agg #[.int .u64 b0, .int .u64 b1, .int .u64 b2, .int .u64 b3]] w fun e w' => e = .returned (.agg #[.int .u64 0, .int .u64 0, .int .u64 0, .int .u64 0]) ∧ Below w.heap.size w w' := by
  have HUP : Hid _ := UP
  clear UP
  go_enter Tryz.func47, Tryz.ntmps47
  go_upto_region 1 with fail
  have K0 : Hid (Bx w [(w.heap.size + 1 + 1, 0, 0, 0, 0), (w.heap.size + 1, b0, b1, b2, b3), (w.heap.size, a0, a1, a2, a3)] (((w.alloc (.cells #[.int .u64 a0, .int .u64 a1, .int .u64 a2, .int .u64 a3] 24)).alloc (.cells #[.int .u64 b0, .int .u64 b1, .int .u64 b2, .int .u64 b3] 24)).alloc (.cells #[.int .u64 0, .int .u64 0, .int .u64 0, .int .u64 0] 24))) := by
    have h := (((Bx.start w).alloc a0 a1 a2 a3).alloc b0 b1 b2 b3).alloc 0 0 0 0
    (try simp only [World.size_alloc] at h)
    exact h
  generalize (((w.alloc (.cells #[.int .u64 a0, .int .u64 a1, .int .u64 a2, .int .u64 a3] 24)).alloc (.cells #[.int .u64 b0, .int .u64 b1, .int .u64 b2, .int .u64 b3] 24)).alloc (.cells #[.int .u64 0, .int .u64 0, .int .u64 0, .int .u64 0] 24)) = W0 at K0 ⊢
  obtain ⟨c0, c1, c2, c3, _⟩ := K0.out.f0 mm2
  go_upto_region 2 with (go_at_call 106; refine (HUP.out _).mono ?_; rintro e g0 ⟨rfl, hB⟩; (have K2 : Hid _ := K0.out.past hB); clear hB c0 c1 c2 c3 K0)
  obtain ⟨r0, r1, r2, r3, f0, f1, f2, f3⟩ := K2.out.f0 mm0
  go_wp2
  exact bodyPost_ret (v := .agg #[.int .u64 0, .int .u64 0, .int .u64 0, .int .u64 0]) (by simp [results, Tryz.results47, go_sem, r0, r1, r2, r3]) rfl ⟨rfl, below_put K2.out.bel (by omega) _ _ _ _⟩
set_option maxHeartbeats 4000000 in
set_option maxRecDepth 100000 in
theorem rbyte_r (a0 a1 a2 a3 b0 b1 b2 b3 p0 p1 p2 p3 : Int) (n Y d : Nat) (UP : ∀ W : World, Calls Tryz.prog 106 #[.agg #[.int .u64 a0, .int .u64 a1, .int .u64 a2, .int .u64 a3], .int .i64 32] W fun e w' => e = .returned (.int .i64 (n : Int)) ∧ Below W.heap.size W w') (OB : ∀ W : World, Calls Tryz.prog 79 #[.agg #[.int .u64 b0, .int .u64 b1, .int .u64 b2, .int .u64 b3]] W fun e w' => ∃ v, e = .returned v ∧ RowAt w' v 32 (dig Y) ∧ Below W.heap.size W w') (NL : n < 32) (SM : ∀ W : World, Calls Tryz.prog 108 #[.int .i64 (d : Int)] W fun e w' => ∃ v, e = .returned v ∧ RowIs w' v 2 d ∧ Below W.heap.size W w') (D : dig Y (31 - n) = d) (PP : IsW ((d : Nat) : Int) p0 p1 p2 p3) (w : World) :
    Calls Tryz.prog 47 #[.agg #[.int .u64 a0, .int .u64 a1, .int .u64 a2, .int .u64 a3], .agg #[.int .u64 b0, .int .u64 b1, .int .u64 b2, .int .u64 b3]] w fun e w' => e = .returned (.agg #[.int .u64 p0, .int .u64 p1, .int .u64 p2, .int .u64 p3]) ∧ Below w.heap.size w w' := by
  have HUP : Hid _ := UP
  have HOB : Hid _ := OB
  have HNL : Hid (n < 32) := NL
  have HSM : Hid _ := SM
  have HD : Hid (dig Y (31 - n) = d) := D
  have HPP : Hid (IsW ((d : Nat) : Int) p0 p1 p2 p3) := PP
  clear UP OB NL SM D PP
  obtain ⟨q, eq⟩ : ∃ q, q = 31 - n := ⟨_, rfl⟩
  have nl := HNL.out
  have n32 : ((n : Int) == 32) = false := by simp; omega
  have n31 : (n : Int) ≠ 32 := by omega
  have w1 : (31 : Int) - (n : Int) = (q : Int) := by omega
  have w2 : IntKind.i64.wrap (q : Int) = (q : Int) := by rw [IntKind.wrap_i64]; omega
  have qI : (q : Int) < 32 := by omega
  have EQ : Hid (q = 31 - n ∧ q < 32) := ⟨eq, by omega⟩
  clear eq nl
  go_enter Tryz.func47, Tryz.ntmps47
  go_upto_region 1 with fail
  have K0 : Hid (Bx w [(w.heap.size + 1 + 1, 0, 0, 0, 0), (w.heap.size + 1, b0, b1, b2, b3), (w.heap.size, a0, a1, a2, a3)] (((w.alloc (.cells #[.int .u64 a0, .int .u64 a1, .int .u64 a2, .int .u64 a3] 24)).alloc (.cells #[.int .u64 b0, .int .u64 b1, .int .u64 b2, .int .u64 b3] 24)).alloc (.cells #[.int .u64 0, .int .u64 0, .int .u64 0, .int .u64 0] 24))) := by
    have h := (((Bx.start w).alloc a0 a1 a2 a3).alloc b0 b1 b2 b3).alloc 0 0 0 0
    (try simp only [World.size_alloc] at h)
    exact h
  generalize (((w.alloc (.cells #[.int .u64 a0, .int .u64 a1, .int .u64 a2, .int .u64 a3] 24)).alloc (.cells #[.int .u64 b0, .int .u64 b1, .int .u64 b2, .int .u64 b3] 24)).alloc (.cells #[.int .u64 0, .int .u64 0, .int .u64 0, .int .u64 0] 24)) = W0 at K0 ⊢
  obtain ⟨c0, c1, c2, c3, _⟩ := K0.out.f0 mm2
  go_upto_region 2 with (go_at_call 106; refine (HUP.out _).mono ?_; rintro e g0 ⟨rfl, hB⟩; (have K2 : Hid _ := K0.out.past hB); clear hB c0 c1 c2 c3 K0)
  go_upto_region 4 with fail
  obtain ⟨c0, c1, c2, c3, _⟩ := K2.out.f0 mm1
  go_upto_region 5 with (go_at_call 79; refine (HOB.out _).mono ?_; rintro e v1 ⟨rv, rfl, hrow, hB⟩; (have K3 : Hid (Bx w [(w.heap.size + 1 + 1, 0, 0, 0, 0), (w.heap.size + 1, b0, b1, b2, b3), (w.heap.size, a0, a1, a2, a3)] v1 ∧ RowAt v1 rv 32 (dig Y)) := ⟨K2.out.past hB, hrow⟩); clear hB hrow c0 c1 c2 c3 K2)
  have K4 := K3.out.2
  obtain ⟨_, _, _, ad, cap, rfl, hc⟩ := K4
  obtain ⟨g, o, rfl, hc2⟩ := hc (by decide)
  have cz := hc2 q EQ.out.2
  rw [EQ.out.1, HD.out, ← EQ.out.1] at cz
  clear hc hc2
  go_wp2_with fail
  refine (HSM.out _).mono ?_
  rintro e v2 ⟨sv, rfl, hs, hB⟩
  have K5 : Hid (Bx w [(w.heap.size + 1 + 1, 0, 0, 0, 0), (w.heap.size + 1, b0, b1, b2, b3), (w.heap.size, a0, a1, a2, a3)] v2 ∧ RowIs v2 sv 2 d) := ⟨K3.out.1.past hB, hs⟩
  clear hB hs K3 cz
  obtain ⟨r0, r1, r2, r3, f0, f1, f2, f3⟩ := K5.out.1.f0 mm0
  go_wp2_with (go_at_call 77; refine (ri_word K5.out.2 HPP.out).mono ?_; rintro e x9 ⟨rfl, hB⟩; (have K9 : Hid (Bx w [(w.heap.size + 1 + 1, 0, 0, 0, 0), (w.heap.size + 1, b0, b1, b2, b3), (w.heap.size, a0, a1, a2, a3)] x9) := K5.out.1.past hB); clear hB r0 r1 r2 r3 f0 f1 f2 f3; obtain ⟨r0, r1, r2, r3, f0, f1, f2, f3⟩ := K9.out.f0 mm0)
  exact bodyPost_ret (v := .agg #[.int .u64 p0, .int .u64 p1, .int .u64 p2, .int .u64 p3]) (by simp [results, Tryz.results47, go_sem, r0, r1, r2, r3]) rfl ⟨rfl, below_put K9.out.bel (by omega) _ _ _ _⟩
set_option maxHeartbeats 4000000 in
set_option maxRecDepth 100000 in
theorem zeros_r (a0 a1 a2 a3 : Int) (X n : Nat) (BA : ∀ W : World, Calls Tryz.prog 103 #[.agg #[.int .u64 a0, .int .u64 a1, .int .u64 a2, .int .u64 a3]] W fun e w' => e = .returned (.agg (intsD (bitf X) 256).toArray) ∧ Below W.heap.size W w') (NL : n ≤ 256) (Z : ∀ j, j < n → bitf X (255 - j) = 0) (O : n < 256 → bitf X (255 - n) = 1) (w : World) :
    Calls Tryz.prog 110 #[.agg #[.int .u64 a0, .int .u64 a1, .int .u64 a2, .int .u64 a3]] w fun e w' => e = .returned (.int .i64 (n : Int)) ∧ Below w.heap.size w w' := by
  have HBA : Hid _ := BA
  have HNL : Hid (n ≤ 256) := NL
  have HZ : Hid (∀ j, j < n → bitf X (255 - j) = 0) := Z
  have HO : Hid (n < 256 → bitf X (255 - n) = 1) := O
  clear BA NL Z O
  have K0 : Hid (Bx w [(w.heap.size, a0, a1, a2, a3)] (w.alloc (.cells #[.int .u64 a0, .int .u64 a1, .int .u64 a2, .int .u64 a3] 24))) := (Bx.start w).alloc a0 a1 a2 a3
  go_enter Tryz.func110, Tryz.ntmps110
  go_upto_region 1 with fail
  generalize (w.alloc (.cells #[.int .u64 a0, .int .u64 a1, .int .u64 a2, .int .u64 a3] 24)) = W0 at K0 ⊢
  obtain ⟨c0, c1, c2, c3, _⟩ := K0.out.f0 mm0
  go_wp2_with (first
    | (go_at_call 103; refine (HBA.out _).mono ?_; rintro e g1 ⟨rfl, hB⟩; (have K1 : Hid (Below w.heap.size w g1) := K0.out.bel.trans (hB.mono K0.out.bel.size)); clear hB c0 c1 c2 c3 K0)
    | (refine new256 (bitf X) rfl rfl _ rfl rfl _ rfl rfl rfl rfl ?_; intro W1 hW1))
  obtain ⟨bx, ebx⟩ : ∃ bx, g1.heap.size = bx := ⟨_, rfl⟩
  have X3 : Hid (RowI W1 bx 256 (bitf X) ∧ Below w.heap.size w W1) := ⟨by rw [← ebx]; exact hW1.row, K1.out.trans (hW1.bel.mono K1.out.size)⟩
  rw [ebx]
  clear hW1 ebx
  go_loopw [4] (fun s wr => ∃ k : Nat, s = .int .i64 (k : Int) ∧ k ≤ n ∧ wr = W1) (fun s _ => 256 - (intOf s).toNat)
  case atStart => exact ⟨0, rfl, by omega, rfl⟩
  case round =>
    obtain ⟨k, rfl, hk, hw⟩ := hrel
    have hw2 := hw.symm
    clear hw
    subst hw2
    have nl := HNL.out
    by_cases hk5 : k < n
    · have kI : (k : Int) < 256 := by omega
      obtain ⟨q, eq⟩ : ∃ q, q = 255 - k := ⟨_, rfl⟩
      have w1 : (255 : Int) - (k : Int) = (q : Int) := by omega
      have w2 : IntKind.i64.wrap (q : Int) = (q : Int) := by rw [IntKind.wrap_i64]; omega
      have qI : (q : Int) < 256 := by omega
      have cz := (X3.out.1 q (by omega)).1
      rw [eq, HZ.out k hk5, ← eq] at cz
      clear eq
      go_wp2
      go_roundw
      case rel => exact ⟨k + 1, by go_num, by omega, trivial⟩
      case measure => simp [intOf]; omega
    · obtain rfl : k = n := by omega
      by_cases h6 : k < 256
      · have kI : (k : Int) < 256 := by omega
        obtain ⟨q, eq⟩ : ∃ q, q = 255 - k := ⟨_, rfl⟩
        have w1 : (255 : Int) - (k : Int) = (q : Int) := by omega
        have w2 : IntKind.i64.wrap (q : Int) = (q : Int) := by rw [IntKind.wrap_i64]; omega
        have qI : (q : Int) < 256 := by omega
        have cz := (X3.out.1 q (by omega)).1
        rw [eq, HO.out h6, ← eq] at cz
        clear eq
        go_wp2
        go_ret
        exact ⟨rfl, X3.out.2⟩
      · have kI : ¬ (k : Int) < 256 := by omega
        go_wp2
        go_ret
        exact ⟨rfl, X3.out.2⟩
set_option maxHeartbeats 4000000 in
set_option maxRecDepth 100000 in
theorem rclz_r (a0 a1 a2 a3 p0 p1 p2 p3 : Int) (n : Nat) (ZE : ∀ W : World, Calls Tryz.prog 110 #[.agg #[.int .u64 a0, .int .u64 a1, .int .u64 a2, .int .u64 a3]] W fun e w' => e = .returned (.int .i64 (n : Int)) ∧ Below W.heap.size W w') (SM : ∀ W : World, Calls Tryz.prog 108 #[.int .i64 (n : Int)] W fun e w' => ∃ v, e = .returned v ∧ RowIs w' v 2 n ∧ Below W.heap.size W w') (PP : IsW ((n : Nat) : Int) p0 p1 p2 p3) (w : World) :
    Calls Tryz.prog 53 #[.agg #[.int .u64 a0, .int .u64 a1, .int .u64 a2, .int .u64 a3]] w fun e w' => e = .returned (.agg #[.int .u64 p0, .int .u64 p1, .int .u64 p2, .int .u64 p3]) ∧ Below w.heap.size w w' := by
  have HZE : Hid _ := ZE
  have HSM : Hid _ := SM
  have HPP : Hid (IsW ((n : Nat) : Int) p0 p1 p2 p3) := PP
  clear ZE SM PP
  go_enter Tryz.func53, Tryz.ntmps53
  go_upto_region 1 with fail
  have K0 : Hid (Bx w [(w.heap.size + 1, 0, 0, 0, 0), (w.heap.size, a0, a1, a2, a3)] ((w.alloc (.cells #[.int .u64 a0, .int .u64 a1, .int .u64 a2, .int .u64 a3] 24)).alloc (.cells #[.int .u64 0, .int .u64 0, .int .u64 0, .int .u64 0] 24))) := by
    have h := ((Bx.start w).alloc a0 a1 a2 a3).alloc 0 0 0 0
    (try simp only [World.size_alloc] at h)
    exact h
  generalize ((w.alloc (.cells #[.int .u64 a0, .int .u64 a1, .int .u64 a2, .int .u64 a3] 24)).alloc (.cells #[.int .u64 0, .int .u64 0, .int .u64 0, .int .u64 0] 24)) = W0 at K0 ⊢
  obtain ⟨c0, c1, c2, c3, _⟩ := K0.out.f0 mm1
  go_wp2_with fail
  refine (HZE.out _).mono ?_
  rintro e v1 ⟨rfl, hB⟩
  have K1 : Hid _ := K0.out.past hB
  clear hB c0 c1 c2 c3 K0
  go_wp2_with fail
  refine (HSM.out _).mono ?_
  rintro e v2 ⟨sv, rfl, hs, hB⟩
  have K5 : Hid (Bx w [(w.heap.size + 1, 0, 0, 0, 0), (w.heap.size, a0, a1, a2, a3)] v2 ∧ RowIs v2 sv 2 n) := ⟨K1.out.past hB, hs⟩
  clear hB hs K1
  obtain ⟨r0, r1, r2, r3, f0, f1, f2, f3⟩ := K5.out.1.f0 mm0
  go_wp2_with (go_at_call 77; refine (ri_word K5.out.2 HPP.out).mono ?_; rintro e x9 ⟨rfl, hB⟩; (have K9 : Hid (Bx w [(w.heap.size + 1, 0, 0, 0, 0), (w.heap.size, a0, a1, a2, a3)] x9) := K5.out.1.past hB); clear hB r0 r1 r2 r3 f0 f1 f2 f3; obtain ⟨r0, r1, r2, r3, f0, f1, f2, f3⟩ := K9.out.f0 mm0)
  exact bodyPost_ret (v := .agg #[.int .u64 p0, .int .u64 p1, .int .u64 p2, .int .u64 p3]) (by simp [results, Tryz.results53, go_sem, r0, r1, r2, r3]) rfl ⟨rfl, below_put K9.out.bel (by omega) _ _ _ _⟩
set_option maxHeartbeats 4000000 in
set_option maxRecDepth 100000 in
theorem clz_r (a0 a1 a2 a3 : Int) (n : Nat) (ZA : ∀ W : World, Calls Tryz.prog 109 #[.agg #[.int .u64 a0, .int .u64 a1, .int .u64 a2, .int .u64 a3]] W fun e w' => e = .returned (.int .i64 (n : Int)) ∧ Below W.heap.size W w') (NL : n ≤ 256) (w : World) :
    Calls Tryz.prog 52 #[.agg #[.int .u64 a0, .int .u64 a1, .int .u64 a2, .int .u64 a3]] w fun e w' => e = .returned (.agg #[.int .u64 (n : Int), .int .u64 0, .int .u64 0, .int .u64 0]) ∧ Below w.heap.size w w' := by
  have HZA : Hid _ := ZA
  have HNL : Hid (n ≤ 256) := NL
  clear ZA NL
  have nl := HNL.out
  have nI : (n : Int) ≤ 256 := by omega
  have w1 : IntKind.u64.wrap (n : Int) = (n : Int) := by rw [IntKind.wrap_u64]; omega
  go_enter Tryz.func52, Tryz.ntmps52
  go_upto_region 1 with fail
  have K0 : Hid (Bx w [(w.heap.size + 1, 0, 0, 0, 0), (w.heap.size, a0, a1, a2, a3)] ((w.alloc (.cells #[.int .u64 a0, .int .u64 a1, .int .u64 a2, .int .u64 a3] 24)).alloc (.cells #[.int .u64 0, .int .u64 0, .int .u64 0, .int .u64 0] 24))) := by
    have h := ((Bx.start w).alloc a0 a1 a2 a3).alloc 0 0 0 0
    (try simp only [World.size_alloc] at h)
    exact h
  generalize ((w.alloc (.cells #[.int .u64 a0, .int .u64 a1, .int .u64 a2, .int .u64 a3] 24)).alloc (.cells #[.int .u64 0, .int .u64 0, .int .u64 0, .int .u64 0] 24)) = W0 at K0 ⊢
  obtain ⟨c0, c1, c2, c3, _⟩ := K0.out.f0 mm1
  go_wp2_with fail
  refine (HZA.out _).mono ?_
  rintro e v1 ⟨rfl, hB⟩
  have K1 : Hid _ := K0.out.past hB
  clear hB c0 c1 c2 c3 K0
  obtain ⟨r0, r1, r2, r3, f0, f1, f2, f3⟩ := K1.out.f0 mm0
  go_wp2_with (go_at_call 66; refine (fromUint_any _ _).mono ?_; rintro e x9 ⟨rfl, hB⟩; (have K9 : Hid _ := K1.out.past hB); clear hB r0 r1 r2 r3 f0 f1 f2 f3; obtain ⟨r0, r1, r2, r3, f0, f1, f2, f3⟩ := K9.out.f0 mm0)
  exact bodyPost_ret (v := .agg #[.int .u64 (n : Int), .int .u64 0, .int .u64 0, .int .u64 0]) (by simp [results, Tryz.results52, go_sem, r0, r1, r2, r3]) rfl ⟨rfl, below_put K9.out.bel (by omega) _ _ _ _⟩
end Go.Proofs.YtpadpmkfhljiiaaGreat
/- Numbers and their bits, as words. -/
namespace Go.Proofs.YtpadpmkfhljiiaaGreat
open Go.RowKit
theorem bitf_tb (X i : Nat) : bitf X i = (X.testBit i).toNat := by
  unfold bitf
  rw [Nat.testBit_eq_decide_div_mod_eq]
  by_cases h : X / 2 ^ i % 2 = 1
  · simp [h]
  · have h2 : X / 2 ^ i % 2 = 0 := by omega
    simp [h2]
theorem bitf_and (a b i : Nat) : bitf (a &&& b) i = bitf a i * bitf b i := by
  simp only [bitf_tb, Nat.testBit_and]
  cases a.testBit i <;> cases b.testBit i <;> rfl
theorem bitf_or (a b i : Nat) : bitf (a ||| b) i = bitf a i + bitf b i - bitf a i * bitf b i := by
  simp only [bitf_tb, Nat.testBit_or]
  cases a.testBit i <;> cases b.testBit i <;> rfl
theorem bitf_xor (a b i : Nat) : bitf (a ^^^ b) i = (bitf a i + bitf b i) % 2 := by
  simp only [bitf_tb, Nat.testBit_xor]
  cases a.testBit i <;> cases b.testBit i <;> rfl
theorem bitf_low (X m i : Nat) (h : i < m) : bitf (X % 2 ^ m) i = bitf X i := by rw [bitf_tb, bitf_tb, Nat.testBit_mod_two_pow]; simp [h]
theorem bitf_high (X m i : Nat) : bitf X (m + i) = bitf (X / 2 ^ m) i := by unfold bitf; rw [Nat.pow_add, Nat.div_div_eq_div_mul]
theorem bitf_zero {X i : Nat} (h : X < 2 ^ i) : bitf X i = 0 := by unfold bitf; rw [Nat.div_eq_of_lt h]
theorem p64 : (2 : Nat) ^ 64 = 18446744073709551616 := by decide
theorem p128 : (2 : Nat) ^ 128 = 340282366920938463463374607431768211456 := by decide
theorem p192 : (2 : Nat) ^ 192 = 6277101735386680763835789423207666416102355444464034512896 := by decide
theorem p256 : (2 : Nat) ^ 256 = 256 ^ 32 := by decide
theorem p256n : (256 : Nat) ^ 32 = 115792089237316195423570985008687907853269984665640564039457584007913129639936 := by decide
theorem isW_bits (f : Nat → Nat) (p0 p1 p2 p3 : Nat) (b0 : p0 < 18446744073709551616) (b1 : p1 < 18446744073709551616) (b2 : p2 < 18446744073709551616) (b3 : p3 < 18446744073709551616)
    (h0 : ∀ r, r < 64 → f r = bitf p0 r) (h1 : ∀ r, r < 64 → f (64 + r) = bitf p1 r) (h2 : ∀ r, r < 64 → f (128 + r) = bitf p2 r) (h3 : ∀ r, r < 64 → f (192 + r) = bitf p3 r) : IsW (bsum f 256 : Int) (p0 : Int) (p1 : Int) (p2 : Int) (p3 : Int) := by
  have one : ∀ (g : Nat → Nat) (p : Nat), p < 18446744073709551616 → (∀ r, r < 64 → g r = bitf p r) → bsum g 64 = p := fun g p hp h => by
    rw [bsum_ext 64 h, bsum_bitf, p64, Nat.mod_eq_of_lt hp]
  have e : bsum f 256 = p0 + 18446744073709551616 * (p1 + 18446744073709551616 * (p2 + 18446744073709551616 * p3)) := by
    have a1 := bsum_split f 64 192
    have a2 := bsum_split (fun r => f (64 + r)) 64 128
    have a3 := bsum_split (fun r => f (64 + (64 + r))) 64 64
    rw [one f p0 b0 h0, p64] at a1
    rw [one (fun r => f (64 + r)) p1 b1 h1, p64] at a2
    rw [one (fun r => f (64 + (64 + r))) p2 b2 (fun r hr => by rw [← h2 r hr]; congr 1; omega), one (fun r => f (64 + (64 + (64 + r)))) p3 b3 (fun r hr => by rw [← h3 r hr]; congr 1; omega), p64] at a3
    rw [show (256 : Nat) = 64 + 192 by rfl, a1, show (192 : Nat) = 64 + 128 by rfl, a2, show (128 : Nat) = 64 + 64 by rfl, a3]
  refine isW_of ⟨by omega, by unfold Bd; omega⟩ ⟨by omega, by unfold Bd; omega⟩ ⟨by omega, by unfold Bd; omega⟩ ⟨by omega, by unfold Bd; omega⟩ 0 ?_
  rw [e]; unfold V Bd; omega
/-- a word's limbs as numbers, and their bits -/
theorem limbs_nat {x a0 a1 a2 a3 : Int} (ha : IsW x a0 a1 a2 a3) {X : Nat} (hX : V a0 a1 a2 a3 = (X : Int)) : ∃ A0 A1 A2 A3 : Nat, a0 = (A0 : Int) ∧ a1 = (A1 : Int) ∧ a2 = (A2 : Int) ∧ a3 = (A3 : Int) ∧ (A0 < 18446744073709551616 ∧ A1 < 18446744073709551616 ∧ A2 < 18446744073709551616 ∧ A3 < 18446744073709551616) ∧
    (∀ r, r < 64 → bitf X r = bitf A0 r) ∧ (∀ r, r < 64 → bitf X (64 + r) = bitf A1 r) ∧ (∀ r, r < 64 → bitf X (128 + r) = bitf A2 r) ∧ (∀ r, r < 64 → bitf X (192 + r) = bitf A3 r) := by
  obtain ⟨u00, u01⟩ := ha.u0
  obtain ⟨u10, u11⟩ := ha.u1
  obtain ⟨u20, u21⟩ := ha.u2
  obtain ⟨u30, u31⟩ := ha.u3
  obtain ⟨A0, rfl⟩ := Int.eq_ofNat_of_zero_le u00
  obtain ⟨A1, rfl⟩ := Int.eq_ofNat_of_zero_le u10
  obtain ⟨A2, rfl⟩ := Int.eq_ofNat_of_zero_le u20
  obtain ⟨A3, rfl⟩ := Int.eq_ofNat_of_zero_le u30
  unfold Bd at u01 u11 u21 u31
  unfold V Bd at hX
  refine ⟨A0, A1, A2, A3, rfl, rfl, rfl, rfl, ⟨by omega, by omega, by omega, by omega⟩, fun r hr => ?_, fun r hr => ?_, fun r hr => ?_, fun r hr => ?_⟩
  · rw [← bitf_low X 64 r hr, p64]; congr 1; omega
  · rw [bitf_high, ← bitf_low _ 64 r hr, p64]; congr 1; omega
  · rw [bitf_high, ← bitf_low _ 64 r hr, p64, p128]; congr 1; omega
  · rw [bitf_high, ← bitf_low _ 64 r hr, p64, p192]; congr 1; omega
/-- bits one by one out of those of two words -/
theorem isW_bin {x y : Int} {a0 a1 a2 a3 b0 b1 b2 b3 : Int} (ha : IsW x a0 a1 a2 a3) (hb : IsW y b0 b1 b2 b3) {X Y : Nat} (hX : V a0 a1 a2 a3 = (X : Int)) (hY : V b0 b1 b2 b3 = (Y : Int)) (op nop : Nat → Nat → Nat) (z : Int → Int → Int) (hop : ∀ a b i, bitf (nop a b) i = op (bitf a i) (bitf b i)) (hlt : ∀ a b, a < 2 ^ 64 → b < 2 ^ 64 → nop a b < 2 ^ 64) (hz : ∀ a b : Nat, a < 18446744073709551616 → b < 18446744073709551616 → z (a : Int) (b : Int) = ((nop a b : Nat) : Int)) :
    IsW (bsum (fun i => op (bitf X i) (bitf Y i)) 256 : Int) (z a0 b0) (z a1 b1) (z a2 b2) (z a3 b3) := by
  obtain ⟨A0, A1, A2, A3, rfl, rfl, rfl, rfl, ⟨l0, l1, l2, l3⟩, f0, f1, f2, f3⟩ := limbs_nat ha hX
  obtain ⟨B0, B1, B2, B3, rfl, rfl, rfl, rfl, ⟨m0, m1, m2, m3⟩, g0, g1, g2, g3⟩ := limbs_nat hb hY
  rw [p64] at hlt
  rw [hz _ _ l0 m0, hz _ _ l1 m1, hz _ _ l2 m2, hz _ _ l3 m3]
  refine isW_bits _ _ _ _ _ (hlt _ _ l0 m0) (hlt _ _ l1 m1) (hlt _ _ l2 m2) (hlt _ _ l3 m3) (fun r hr => ?_) (fun r hr => ?_) (fun r hr => ?_) (fun r hr => ?_)
  · rw [f0 r hr, g0 r hr, hop]
  · rw [f1 r hr, g1 r hr, hop]
  · rw [f2 r hr, g2 r hr, hop]
  · rw [f3 r hr, g3 r hr, hop]
theorem bsum_compl {f g : Nat → Nat} (h : ∀ i, f i + g i = 1) : ∀ n, bsum f n + bsum g n + 1 = 2 ^ n
  | 0 => by simp [bsum]
  | n + 1 => by
    have ih := bsum_compl h n
    have e : f n * 2 ^ n + g n * 2 ^ n = 2 ^ n := by rw [← Nat.add_mul, h n, Nat.one_mul]
    rw [bsum, bsum, Nat.pow_succ]; omega
theorem bsum_zero {f : Nat → Nat} : ∀ n, (∀ i, i < n → f i = 0) → bsum f n = 0
  | 0, _ => rfl
  | n + 1, h => by rw [bsum, bsum_zero n (fun i hi => h i (by omega)), h n (by omega)]; simp
theorem bsum_bitf_all {X : Nat} (h : X < 256 ^ 32) : bsum (bitf X) 256 = X := by rw [bsum_bitf, p256, Nat.mod_eq_of_lt h]
theorem bsum_shl (Y K : Nat) (hK : K ≤ 256) : bsum (fun i => if i < K then 0 else bitf Y (i - K)) 256 = 2 ^ K * Y % 256 ^ 32 := by
  have e : (256 : Nat) = K + (256 - K) := by omega
  have h1 : bsum (fun i => if i < K then 0 else bitf Y (i - K)) 256 = 2 ^ K * (Y % 2 ^ (256 - K)) := by
    rw [show bsum (fun i => if i < K then 0 else bitf Y (i - K)) 256 = bsum (fun i => if i < K then 0 else bitf Y (i - K)) (K + (256 - K)) by rw [← e], bsum_split, bsum_zero K (fun i hi => by rw [if_pos hi]), Nat.zero_add, bsum_ext (g := bitf Y) (256 - K) (fun i _ => by rw [if_neg (by omega)]; congr 1; omega), bsum_bitf]
  rw [h1, ← p256, show (2 : Nat) ^ 256 = 2 ^ K * 2 ^ (256 - K) by rw [← Nat.pow_add]; congr 1, Nat.mul_mod_mul_left]
theorem bsum_shr (Y K : Nat) (hY : Y < 256 ^ 32) : bsum (fun i => if i + K < 256 then bitf Y (i + K) else 0) 256 = Y / 2 ^ K := by
  have h1 : Y / 2 ^ K < 256 ^ 32 := Nat.lt_of_le_of_lt (Nat.div_le_self _ _) hY
  rw [← bsum_bitf_all h1]
  refine bsum_ext 256 (fun i _ => ?_)
  rw [← bitf_high, Nat.add_comm K i]
  by_cases h : i + K < 256
  · rw [if_pos h]
  · rw [if_neg h, bitf_zero (Nat.lt_of_lt_of_le hY (by rw [← p256]; exact Nat.pow_le_pow_right (by decide) (by omega)))]
theorem bits_ex (X : Nat) : ∀ n, X < 2 ^ n → ∃ B, B ≤ n ∧ X < 2 ^ B ∧ (0 < B → 2 ^ (B - 1) ≤ X)
  | 0, h => ⟨0, by omega, h, by omega⟩
  | n + 1, h => by
    by_cases h1 : X < 2 ^ n
    · obtain ⟨B, b1, b2, b3⟩ := bits_ex X n h1
      exact ⟨B, by omega, b2, b3⟩
    · exact ⟨n + 1, by omega, h, fun _ => by rw [Nat.add_sub_cancel]; omega⟩
theorem natpow (B : Nat) : ((2 ^ B : Nat) : Int) = (2 : Int) ^ B := by rw [Int.natCast_pow]; rfl
theorem bitsOf_nat {X B : Nat} (h1 : X < 2 ^ B) (h2 : 0 < B → 2 ^ (B - 1) ≤ X) : BitsOf (X : Int) B := ⟨by rw [← natpow]; omega, fun h => by rw [← natpow]; have := h2 h; omega⟩
theorem bitsOf_inj {v : Int} {B C : Nat} (hb : BitsOf v B) (hc : BitsOf v C) : B = C := by
  have key : ∀ {B C : Nat}, BitsOf v B → BitsOf v C → B ≤ C := fun {B C} hb hc => by
    rcases Nat.lt_or_ge C B with h | h
    · have h1 := hb.2 (by omega)
      have h2 := hc.1
      rw [← natpow] at h1 h2
      have h3 : 2 ^ C ≤ 2 ^ (B - 1) := Nat.pow_le_pow_right (by decide) (by omega)
      omega
    · exact h
  exact Nat.le_antisymm (key hb hc) (key hc hb)
theorem zerosAhead_is {x : Int} {a0 a1 a2 a3 : Int} (ha : IsW x a0 a1 a2 a3) {X B : Nat} (hX : V a0 a1 a2 a3 = (X : Int)) (hB : BitsOf (X : Int) B) (w : World) :
    Calls Tryz.prog 109 #[.agg #[.int .u64 a0, .int .u64 a1, .int .u64 a2, .int .u64 a3]] w fun e w' => e = .returned (.int .i64 (256 - (B : Int))) ∧ Below w.heap.size w w' := by
  refine (zerosAhead_any x a0 a1 a2 a3 w ha).mono ?_
  rintro e w' ⟨C, rfl, _, hC, hBe⟩
  rw [hX] at hC
  rw [bitsOf_inj hB hC]
  exact ⟨rfl, hBe⟩
end Go.Proofs.YtpadpmkfhljiiaaGreat
