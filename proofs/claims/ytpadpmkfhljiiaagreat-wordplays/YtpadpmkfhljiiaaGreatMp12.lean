/- Word by word: the program's Sar and SignExtend and the document's give the same. -/
import Derived.Test.YtpadpmkfhljiiaaGreatMp11
import Derived.Test.YtpadpmkfhljiiaaGreatMp4
import Derived.Test.YtpadpmkfhljiiaaGreatMp6
import Derived.Test.YtpadpmkfhljiiaaGreatMp8
import Derived.Test.YtpadpmkfhljiiaaGreatMp3
namespace Go.Proofs.YtpadpmkfhljiiaaGreat
open Go.RowKit
theorem bsum_const (t : Nat) : ∀ n, bsum (fun _ => t) n + t = t * 2 ^ n
  | 0 => by simp [bsum]
  | n + 1 => by
    have := bsum_const t n
    rw [bsum, Nat.pow_succ, ← Nat.mul_assoc]; omega
/-- the lower m bits of Z, and t above them -/
theorem bsum_low (Z t m : Nat) (hm : m ≤ 256) (f : Nat → Nat) (h0 : ∀ i, i < m → f i = bitf Z i) (h1 : ∀ i, m ≤ i → i < 256 → f i = t) : bsum f 256 + t * 2 ^ m = Z % 2 ^ m + t * 256 ^ 32 := by
  have e : (256 : Nat) = m + (256 - m) := by omega
  have h2 : bsum f 256 = bsum f (m + (256 - m)) := by rw [← e]
  have h3 := bsum_const t (256 - m)
  rw [h2, bsum_split, bsum_ext m h0, bsum_bitf, bsum_ext (g := fun _ => t) (256 - m) (fun i hi => h1 _ (by omega) (by omega)), ← p256, show (2 : Nat) ^ 256 = 2 ^ m * 2 ^ (256 - m) by rw [← Nat.pow_add]; congr 1]
  have h4 : 2 ^ m * (bsum (fun _ => t) (256 - m) + t) = 2 ^ m * (t * 2 ^ (256 - m)) := by rw [h3]
  rw [Nat.mul_add] at h4
  have h5 : 2 ^ m * (t * 2 ^ (256 - m)) = t * (2 ^ m * 2 ^ (256 - m)) := Nat.mul_left_comm _ _ _
  have h6 : 2 ^ m * t = t * 2 ^ m := Nat.mul_comm _ _
  omega
/-- (Z - t MM) / 2^K, laid out in bits -/
theorem sar_num {Y K : Nat} (_hY : Y < 256 ^ 32) (hK : K ≤ 256) (t : Nat) : ((Y : Int) - (t : Int) * MM) / 2 ^ K = ((Y / 2 ^ K : Nat) : Int) - (t : Int) * ((2 ^ (256 - K) : Nat) : Int) := by
  have e : MM = ((2 ^ (256 - K) : Nat) : Int) * (2 : Int) ^ K := by
    rw [← natpow, ← Int.natCast_mul, ← Nat.pow_add, show 256 - K + K = 256 by omega, p256, MM_nat]
  rw [e, ← Int.mul_assoc, Int.sub_eq_add_neg, ← Int.neg_mul, Int.add_mul_ediv_right _ _ (by have := two_pos K; omega), Int.natCast_ediv, natpow K, ← Int.sub_eq_add_neg]
theorem bsum_cong {A B t : Nat} {S : Nat} (h : S + t * B = A + t * 256 ^ 32) : (S : Int) % MM = ((A : Int) - (t : Int) * (B : Int)) % MM := by
  have h2 : (S : Int) = ((A : Int) - (t : Int) * (B : Int)) + (t : Int) * MM := by
    rw [← MM_nat, ← Int.natCast_mul, ← Int.natCast_mul]
    have h3 : ((S + t * B : Nat) : Int) = ((A + t * 256 ^ 32 : Nat) : Int) := by rw [h]
    rw [Int.natCast_add, Int.natCast_add] at h3
    omega
  rw [h2, Int.add_mul_emod_self_right]
theorem pair_sar {x y : Int} {a0 a1 a2 a3 b0 b1 b2 b3 : Int} (ha : IsW x a0 a1 a2 a3) (hb : IsW y b0 b1 b2 b3) : Pair 30 31 #[.agg #[.int .u64 a0, .int .u64 a1, .int .u64 a2, .int .u64 a3], .agg #[.int .u64 b0, .int .u64 b1, .int .u64 b2, .int .u64 b3]] := by
  obtain ⟨A, hA, eA, lA⟩ := mod_nat ha
  obtain ⟨Y, T, s, v0, v1, v2, v3, hY, eY, iT, lT, sT, sF, ds, _, _, _, _⟩ := sgn hb
  have lY : Y < 256 ^ 32 := V_lt hb hY
  have h256 : (256 : Int) % MM = 256 := by unfold MM; omega
  obtain ⟨t, ht, et⟩ : ∃ t : Nat, bitf Y 255 = t ∧ (if s then MM else 0) = (t : Int) * MM := by
    cases s
    · exact ⟨0, (sF rfl).2, by simp⟩
    · exact ⟨1, (sT rfl).2.2, by simp⟩
  have t1 : t ≤ 1 := by rw [← ht]; exact bitf_le _ _
  have SB : ∀ w : World, Calls Tryz.prog 102 #[.agg #[.int .u64 b0, .int .u64 b1, .int .u64 b2, .int .u64 b3]] w fun e w' => e = .returned (.int .u64 (if s then 18446744073709551615 else 0)) ∧ Below w.heap.size w w' := fun w => by
    have h := signBits_any y b0 b1 b2 b3 w hb
    have e : (if MM / 2 ≤ y % MM then (18446744073709551615 : Int) else 0) = if s then 18446744073709551615 else 0 := by rw [← ds]; simp
    rw [e] at h; exact h
  have BY := fun W => bits_is y b0 b1 b2 b3 W hb Y hY
  -- what the document gives, of a shift by K places
  have REF : ∀ (K : Nat), K ≤ 256 → (∀ W : World, Calls Tryz.prog 106 #[.agg #[.int .u64 a0, .int .u64 a1, .int .u64 a2, .int .u64 a3], .int .i64 256] W fun e w' => e = .returned (.int .i64 (K : Int)) ∧ Below W.heap.size W w') → ∀ z0 z1 z2 z3 : Int, IsW (((Y : Int) - (t : Int) * MM) / 2 ^ K) z0 z1 z2 z3 → ∀ w : World, Calls Tryz.prog 31 #[.agg #[.int .u64 a0, .int .u64 a1, .int .u64 a2, .int .u64 a3], .agg #[.int .u64 b0, .int .u64 b1, .int .u64 b2, .int .u64 b3]] w fun e w' => e = .returned (.agg #[.int .u64 z0, .int .u64 z1, .int .u64 z2, .int .u64 z3]) ∧ Below w.heap.size w w' := by
    intro K hK UP z0 z1 z2 z3 iz w
    refine rsar_r a0 a1 a2 a3 b0 b1 b2 b3 z0 z1 z2 z3 Y t BY (fun w => ?_) ht w
    refine rlow_r a0 a1 a2 a3 b0 b1 b2 b3 z0 z1 z2 z3 K Y t (fun i => if i + K < 256 then bitf Y (i + K) else t) UP BY hK (fun _ => rfl) (fun W => joined_is _ (fun i => by split; exact bitf_le _ _; exact t1) W _ _ _ _ (iz.cong ?_)) w
    have hb := bsum_low (Y / 2 ^ K) t (256 - K) (by omega) (fun i => if i + K < 256 then bitf Y (i + K) else t) (fun i hi => by rw [if_pos (by omega), ← bitf_high, Nat.add_comm]) (fun i h1 h2 => by rw [if_neg (by omega)])
    have hl : Y / 2 ^ K < 2 ^ (256 - K) := by
      rw [Nat.div_lt_iff_lt_mul (Nat.pow_pos (by decide)), ← Nat.pow_add, show 256 - K + K = 256 by omega, p256]; exact lY
    rw [Nat.mod_eq_of_lt hl] at hb
    rw [bsum_cong hb, sar_num lY hK]
  by_cases h : A < 256
  · have hA2 : IsW (A : Int) a0 a1 a2 a3 := ha.cong (mod_lit eA)
    obtain ⟨rfl, rfl, rfl, rfl⟩ := small_limbs _ _ _ _ hA2 (by omega) (by omega)
    obtain ⟨z0, z1, z2, z3, SD, iz⟩ := shiftDown_ex y (A : Int) s b0 b1 b2 b3 hb (by omega) (by omega)
    rw [show ((A : Int)).toNat = A by omega, et, ← eY] at iz
    exact ⟨z0, z1, z2, z3, fun w => sar_lt (A : Int) _ b0 b1 b2 b3 z0 z1 z2 z3 w (by omega) (by omega) SB SD, REF A (by omega) (fun W => upTo_is _ _ _ _ _ W hA2 A (by unfold V Bd; omega) 256 (by omega) A (by omega)) z0 z1 z2 z3 iz⟩
  · obtain ⟨z0, z1, z2, z3, SD, iz⟩ := shiftDown_ex y 255 s b0 b1 b2 b3 hb (by omega) (by omega)
    rw [show ((255 : Int)).toNat = 255 by rfl, et, ← eY, sar_num lY (by omega)] at iz
    have BL : ∀ w : World, Calls Tryz.prog 100 #[.agg #[.int .u64 a0, .int .u64 a1, .int .u64 a2, .int .u64 a3], .int .u64 256] w fun e w' => e = .returned (.tuple #[.int .u64 0, .bool false]) ∧ Below w.heap.size w w' := fun w => below_ge x 256 a0 a1 a2 a3 w ha (isW_lit 256 (by omega) (by omega)) (by rw [← eA, h256]; omega)
    refine ⟨z0, z1, z2, z3, sar_ge a0 a1 a2 a3 b0 b1 b2 b3 z0 z1 z2 z3 _ BL SB SD, REF 256 (by omega) (fun W => upTo_is x a0 a1 a2 a3 W ha A hA 256 (by omega) 256 (by omega)) z0 z1 z2 z3 (iz.cong ?_)⟩
    congr 1
    rw [sar_num lY (by omega), p256, Nat.div_eq_of_lt lY]
    have e : Y / 2 ^ 255 = t := by
      rw [← ht]; unfold bitf
      have : Y / 2 ^ 255 < 2 := by rw [Nat.div_lt_iff_lt_mul (by decide)]; rw [p256n] at lY; rw [p255]; omega
      omega
    rw [e, show 256 - 255 = 1 by rfl, show 256 - 256 = 0 by rfl]
    simp; omega
theorem pair_signExtend {x y : Int} {a0 a1 a2 a3 b0 b1 b2 b3 : Int} (ha : IsW x a0 a1 a2 a3) (hb : IsW y b0 b1 b2 b3) : Pair 32 33 #[.agg #[.int .u64 a0, .int .u64 a1, .int .u64 a2, .int .u64 a3], .agg #[.int .u64 b0, .int .u64 b1, .int .u64 b2, .int .u64 b3]] := by
  obtain ⟨A, hA, eA, lA⟩ := mod_nat ha
  obtain ⟨Y, hY, eY, lY⟩ := mod_nat hb
  by_cases h : A < 31
  · have hA2 : IsW (A : Int) a0 a1 a2 a3 := ha.cong (mod_lit eA)
    obtain ⟨c, ec⟩ : ∃ c, c = 8 * A + 8 := ⟨_, rfl⟩
    obtain ⟨m, em⟩ : ∃ m, m + c = 256 := ⟨256 - c, by omega⟩
    obtain ⟨z0, z1, z2, z3, SU, iz⟩ := shiftUp_ex y (m : Int) b0 b1 b2 b3 hb (by omega) (by omega)
    rw [show ((m : Int)).toNat = m by omega] at iz
    obtain ⟨Z, U, s, u0, u1, u2, u3, hZ, eZ, _, _, sT, sF, ds, _, _, _, _⟩ := sgn iz
    have lZ : Z < 256 ^ 32 := V_lt iz hZ
    have pe : (256 : Nat) ^ 32 = 2 ^ m * 2 ^ c := by rw [← Nat.pow_add, em, p256]
    have vZ : Z = 2 ^ m * (Y % 2 ^ c) := by
      have h1 : (Z : Int) = ((2 ^ m * Y % 256 ^ 32 : Nat) : Int) := by
        rw [eZ, Int.natCast_emod, MM_nat, Int.natCast_mul, natpow, eY, Int.mul_comm y, Int.mul_emod, Int.mul_emod (2 ^ m) (y % MM), Int.emod_emod_of_dvd _ (Int.dvd_refl _)]
      rw [pe, Nat.mul_mod_mul_left] at h1
      omega
    obtain ⟨t, ht, et⟩ : ∃ t : Nat, bitf Z 255 = t ∧ (if s then MM else 0) = (t : Int) * MM := by
      cases s
      · exact ⟨0, (sF rfl).2, by simp⟩
      · exact ⟨1, (sT rfl).2.2, by simp⟩
    have t1 : t ≤ 1 := by rw [← ht]; exact bitf_le _ _
    have tY : bitf Y (8 * A + 7) = t := by
      rw [← ht, show 255 = m + (8 * A + 7) by omega, bitf_high Z m, vZ, Nat.mul_div_cancel_left _ (Nat.pow_pos (by decide)), bitf_low Y c _ (by omega)]
    have SB : ∀ w : World, Calls Tryz.prog 102 #[.agg #[.int .u64 z0, .int .u64 z1, .int .u64 z2, .int .u64 z3]] w fun e w' => e = .returned (.int .u64 (if s then 18446744073709551615 else 0)) ∧ Below w.heap.size w w' := fun w => by
      have h := signBits_any _ z0 z1 z2 z3 w iz
      have e : (if MM / 2 ≤ (y * 2 ^ m) % MM then (18446744073709551615 : Int) else 0) = if s then 18446744073709551615 else 0 := by rw [← ds]; simp
      rw [e] at h; exact h
    obtain ⟨q0, q1, q2, q3, SD, iq⟩ := shiftDown_ex (y * 2 ^ m) (m : Int) s z0 z1 z2 z3 iz (by omega) (by omega)
    rw [show ((m : Int)).toNat = m by omega, et, ← eZ, sar_num lZ (by omega), vZ, Nat.mul_div_cancel_left _ (Nat.pow_pos (by decide)), show 256 - m = c by omega] at iq
    refine ⟨q0, q1, q2, q3, signExtend_is (A : Int) (m : Int) _ a0 a1 a2 a3 b0 b1 b2 b3 z0 z1 z2 z3 q0 q1 q2 q3 hA2 (by omega) (by omega) (by omega) SU SB SD, fun w => ?_⟩
    refine rsext_r a0 a1 a2 a3 b0 b1 b2 b3 q0 q1 q2 q3 A Y _ (fun W => upTo_is x a0 a1 a2 a3 W ha A hA 31 (by omega) A (by omega)) (fun W => bits_is y b0 b1 b2 b3 W hb Y hY) h (fun _ => rfl) (fun W => joined_is _ (fun i => by split; exact bitf_le _ _; exact bitf_le _ _) W _ _ _ _ (iq.cong ?_)) w
    have hb := bsum_low Y t c (by omega) (fun i => if i < 8 * A + 8 then bitf Y i else bitf Y (8 * A + 7)) (fun i hi => by rw [if_pos (by omega)]) (fun i h1 h2 => by rw [if_neg (by omega), tY])
    rw [bsum_cong hb]
  · refine ⟨b0, b1, b2, b3, fun w => signExtend_ge x a0 a1 a2 a3 b0 b1 b2 b3 w ha (by rw [← eA]; omega), rsext_31 a0 a1 a2 a3 b0 b1 b2 b3 (fun W => upTo_is x a0 a1 a2 a3 W ha A hA 31 (by omega) 31 (by omega))⟩
end Go.Proofs.YtpadpmkfhljiiaaGreat
/- The document's Add, Sub, Mul, Div, Mod, AddMod, MulMod, by the numbers of their rows. -/
namespace Go.Proofs.YtpadpmkfhljiiaaGreat
open Go.RowKit
set_option maxHeartbeats 4000000 in
set_option maxRecDepth 100000 in
theorem radd_r (a0 a1 a2 a3 b0 b1 b2 b3 p0 p1 p2 p3 : Int) (A B : Nat) (Oa : ∀ W : World, Calls Tryz.prog 79 #[.agg #[.int .u64 a0, .int .u64 a1, .int .u64 a2, .int .u64 a3]] W fun e w' => ∃ v, e = .returned v ∧ RowIs w' v 32 A ∧ Below W.heap.size W w') (Ob : ∀ W : World, Calls Tryz.prog 79 #[.agg #[.int .u64 b0, .int .u64 b1, .int .u64 b2, .int .u64 b3]] W fun e w' => ∃ v, e = .returned v ∧ RowIs w' v 32 B ∧ Below W.heap.size W w') (HPP : IsW (((A + B) : Nat) : Int) p0 p1 p2 p3) (w : World) :
    Calls Tryz.prog 12 #[.agg #[.int .u64 a0, .int .u64 a1, .int .u64 a2, .int .u64 a3], .agg #[.int .u64 b0, .int .u64 b1, .int .u64 b2, .int .u64 b3]] w fun e w' => e = .returned (.agg #[.int .u64 p0, .int .u64 p1, .int .u64 p2, .int .u64 p3]) ∧ Below w.heap.size w w' := by
  have Oa' : Hid _ := Oa
  have Ob' : Hid _ := Ob
  have HPP' : Hid (IsW (((A + B) : Nat) : Int) p0 p1 p2 p3) := HPP
  clear Oa Ob HPP
  go_enter Tryz.func12, Tryz.ntmps12
  go_upto_region 1 with fail
  have X1 : Hid (Bw w [(w.heap.size + 1 + 1, 0, 0, 0, 0), (w.heap.size + 1, b0, b1, b2, b3), (w.heap.size, a0, a1, a2, a3)] [] (((w.alloc (.cells #[.int .u64 a0, .int .u64 a1, .int .u64 a2, .int .u64 a3] 24)).alloc (.cells #[.int .u64 b0, .int .u64 b1, .int .u64 b2, .int .u64 b3] 24)).alloc (.cells #[.int .u64 0, .int .u64 0, .int .u64 0, .int .u64 0] 24))) := by
    have h := (((Bx.start w).alloc a0 a1 a2 a3).alloc b0 b1 b2 b3).alloc 0 0 0 0
    (try simp only [World.size_alloc] at h)
    exact Bw.of h
  generalize (((w.alloc (.cells #[.int .u64 a0, .int .u64 a1, .int .u64 a2, .int .u64 a3] 24)).alloc (.cells #[.int .u64 b0, .int .u64 b1, .int .u64 b2, .int .u64 b3] 24)).alloc (.cells #[.int .u64 0, .int .u64 0, .int .u64 0, .int .u64 0] 24)) = g2 at X1 ⊢
  refine wp_region_held_drew (S := fun w' => Bx w [(w.heap.size + 1, b0, b1, b2, b3), (w.heap.size, a0, a1, a2, a3)] w') (by kernel_rfl) (Bx.sub X1.out.bx.drew (l := [(w.heap.size + 1 + 1, 0, 0, 0, 0), (w.heap.size + 1, b0, b1, b2, b3), (w.heap.size, a0, a1, a2, a3)]) (m := [(w.heap.size + 1, b0, b1, b2, b3), (w.heap.size, a0, a1, a2, a3)]) (by intro p hp; simp only [List.mem_cons, List.not_mem_nil, or_false] at hp ⊢; rcases hp with rfl | rfl <;> simp)) (fun _ => ?_)
  have hHeld : Bw w [(w.heap.size + 1 + 1, 0, 0, 0, 0), (w.heap.size + 1, b0, b1, b2, b3), (w.heap.size, a0, a1, a2, a3)] [] g2.drew := ⟨(Bx.sub X1.out.bx.drew (l := [(w.heap.size + 1 + 1, 0, 0, 0, 0), (w.heap.size + 1, b0, b1, b2, b3), (w.heap.size, a0, a1, a2, a3)]) (m := [(w.heap.size + 1 + 1, 0, 0, 0, 0), (w.heap.size + 1, b0, b1, b2, b3), (w.heap.size, a0, a1, a2, a3)]) (by intro p hp; simp only [List.mem_cons, List.not_mem_nil, or_false] at hp ⊢; rcases hp with rfl | rfl | rfl <;> simp)), X1.out.drew.rows⟩
  generalize g2.drew = g3 at hHeld ⊢
  clear X1
  refine wpAnyH_take (i := 0) (v := .agg #[.int .u64 a0, .int .u64 a1, .int .u64 a2, .int .u64 a3]) op0 (by kernel_rfl) (by kernel_rfl) (by kernel_rfl) (fun _ _ _ h => h) (Or.inl ⟨by rfl, fun W hS => ?_⟩) (Bx.sub hHeld.bx (fun p hp => List.Mem.tail _ hp)) ?_
  · obtain ⟨c0, c1, c2, c3, _⟩ := hS.f0 mm1
    go_simp
  simp only [Act.put, List.setIfInBounds_toArray, List.set_cons_zero, List.set_cons_succ]
  refine wpAnyH_take (i := 2) (v := .agg #[.int .u64 b0, .int .u64 b1, .int .u64 b2, .int .u64 b3]) op2 (by kernel_rfl) (by kernel_rfl) (by kernel_rfl) (fun _ _ _ h => h) (Or.inl ⟨by rfl, fun W hS => ?_⟩) (Bx.sub hHeld.bx (fun p hp => List.Mem.tail _ hp)) ?_
  · obtain ⟨c0, c1, c2, c3, _⟩ := hS.f0 mm0
    go_simp
  simp only [Act.put, List.setIfInBounds_toArray, List.set_cons_zero, List.set_cons_succ]
  refine wpAnyH_ready (rs := [1]) (by kernel_rfl) (by simp) ?_
  refine AllReadyH.cons op1 (fun K hK => ?_) AllReadyH.nil
  rw [if_pos (by rfl)]
  go_simp
  refine (Oa'.out _).mono ?_
  rintro e g6 ⟨x4, rfl, hR5, hB⟩
  have x7 := ((hHeld.past hB).row hR5)
  clear hB hR5 hHeld
  (try go_wp2_with fail)
  refine hK.out _ _ (Bx.sub x7.bx (fun p hp => List.Mem.tail _ hp)) (fun _ => ?_)
  clear hK K
  refine wpAnyH_ready (rs := [3]) (by kernel_rfl) (by simp) ?_
  refine AllReadyH.cons op3 (fun K hK => ?_) AllReadyH.nil
  rw [if_pos (by rfl)]
  go_simp
  refine (Ob'.out _).mono ?_
  rintro e g10 ⟨x8, rfl, hR9, hB⟩
  have x11 := ((x7.past hB).row hR9)
  clear hB hR9 x7
  (try go_wp2_with fail)
  refine hK.out _ _ (Bx.sub x11.bx (fun p hp => List.Mem.tail _ hp)) (fun _ => ?_)
  clear hK K
  refine wpAnyH_ready (rs := [4]) (by kernel_rfl) (by simp) ?_
  refine AllReadyH.cons op4 (fun K hK => ?_) AllReadyH.nil
  rw [if_pos (by rfl)]
  go_simp
  refine (ri_plus (Bw.at (v := x4) (n := 32) (N := A) x11 mm1) (Bw.at (v := x8) (n := 32) (N := B) x11 mm0) 33 (by decide) (by decide)).mono ?_
  rintro e g14 ⟨x12, rfl, hR13, hB⟩
  have x15 := ((x11.past hB).row hR13)
  clear hB hR13 x11
  (try go_wp2_with fail)
  refine hK.out _ _ (Bx.sub x15.bx (fun p hp => List.Mem.tail _ hp)) (fun _ => ?_)
  clear hK K
  refine wpAnyH_ready (rs := [5]) (by kernel_rfl) (by simp) ?_
  refine AllReadyH.cons op5 (fun K hK => ?_) AllReadyH.nil
  rw [if_pos (by rfl)]
  go_simp
  refine (ri_word (Bw.at (v := x12) (n := 33) (N := (A + B)) x15 mm0) HPP'.out).mono ?_
  rintro e g16 ⟨rfl, hB⟩
  have x17 := (x15.past hB)
  clear hB  x15
  (try go_wp2_with fail)
  refine hK.out _ _ (Bx.sub x17.bx (fun p hp => List.Mem.tail _ hp)) (fun _ => ?_)
  clear hK K
  refine wpAnyH_ready (rs := [6]) (by kernel_rfl) (by simp) ?_
  refine AllReadyH.cons op6 (fun K hK => ?_) AllReadyH.nil
  rw [if_pos (by rfl)]
  obtain ⟨cc0, cc1, cc2, cc3, ff0, ff1, ff2, ff3⟩ := x17.bx.f0 mm0
  go_simp
  have x19 : Bw w ((w.heap.size + 1 + 1, p0, p1, p2, p3) :: [(w.heap.size + 1, b0, b1, b2, b3), (w.heap.size, a0, a1, a2, a3)]) [] ((((g16.setCell ⟨w.heap.size + 1 + 1, 0, none⟩ (.int .u64 p0)).setCell ⟨w.heap.size + 1 + 1, 1, none⟩ (.int .u64 p1)).setCell ⟨w.heap.size + 1 + 1, 2, none⟩ (.int .u64 p2)).setCell ⟨w.heap.size + 1 + 1, 3, none⟩ (.int .u64 p3)) := Bw.of (Bx.put x17.bx (by intro p hp; simp only [List.mem_cons, List.not_mem_nil, or_false] at hp; rcases hp with rfl | rfl <;> simp <;> omega) p0 p1 p2 p3)
  refine hK.out _ _ (Bx.sub x19.bx (fun p hp => List.Mem.tail _ hp)) (fun _ => ?_)
  clear hK K cc0 cc1 cc2 cc3 ff0 ff1 ff2 ff3 x17
  generalize ((((g16.setCell ⟨w.heap.size + 1 + 1, 0, none⟩ (.int .u64 p0)).setCell ⟨w.heap.size + 1 + 1, 1, none⟩ (.int .u64 p1)).setCell ⟨w.heap.size + 1 + 1, 2, none⟩ (.int .u64 p2)).setCell ⟨w.heap.size + 1 + 1, 3, none⟩ (.int .u64 p3)) = g18 at x19 ⊢
  (try simp only [Act.put])
  refine wpAnyH_done (by kernel_rfl) ?_ _
  have X20 : Hid (Bw w [(w.heap.size + 1 + 1, p0, p1, p2, p3), (w.heap.size + 1, b0, b1, b2, b3), (w.heap.size, a0, a1, a2, a3)] [] g18) := x19
  clear x19
  go_wp2
  refine bodyPost_ret (v := .agg #[.int .u64 p0, .int .u64 p1, .int .u64 p2, .int .u64 p3]) ?_ rfl ⟨rfl, X20.out.bx.bel⟩
  exact results_c Tryz.results12 _ _ _ ⟨w.heap.size + 1 + 1, 0, none⟩ rfl (loadVar4 (X20.out.bx.box _ mm0))
set_option maxHeartbeats 4000000 in
set_option maxRecDepth 100000 in
theorem rsub_r (a0 a1 a2 a3 b0 b1 b2 b3 p0 p1 p2 p3 : Int) (A B : Nat) (Oa : ∀ W : World, Calls Tryz.prog 79 #[.agg #[.int .u64 a0, .int .u64 a1, .int .u64 a2, .int .u64 a3]] W fun e w' => ∃ v, e = .returned v ∧ RowIs w' v 32 A ∧ Below W.heap.size W w') (Ob : ∀ W : World, Calls Tryz.prog 79 #[.agg #[.int .u64 b0, .int .u64 b1, .int .u64 b2, .int .u64 b3]] W fun e w' => ∃ v, e = .returned v ∧ RowIs w' v 32 B ∧ Below W.heap.size W w') (HLE : B ≤ (A + (256 ^ 32))) (HPP : IsW ((((A + (256 ^ 32)) - B) : Nat) : Int) p0 p1 p2 p3) (w : World) :
    Calls Tryz.prog 14 #[.agg #[.int .u64 a0, .int .u64 a1, .int .u64 a2, .int .u64 a3], .agg #[.int .u64 b0, .int .u64 b1, .int .u64 b2, .int .u64 b3]] w fun e w' => e = .returned (.agg #[.int .u64 p0, .int .u64 p1, .int .u64 p2, .int .u64 p3]) ∧ Below w.heap.size w w' := by
  have Oa' : Hid _ := Oa
  have Ob' : Hid _ := Ob
  have HLE' : Hid (B ≤ (A + (256 ^ 32))) := HLE
  have HPP' : Hid (IsW ((((A + (256 ^ 32)) - B) : Nat) : Int) p0 p1 p2 p3) := HPP
  clear Oa Ob HLE HPP
  go_enter Tryz.func14, Tryz.ntmps14
  go_upto_region 1 with fail
  have X1 : Hid (Bw w [(w.heap.size + 1 + 1, 0, 0, 0, 0), (w.heap.size + 1, b0, b1, b2, b3), (w.heap.size, a0, a1, a2, a3)] [] (((w.alloc (.cells #[.int .u64 a0, .int .u64 a1, .int .u64 a2, .int .u64 a3] 24)).alloc (.cells #[.int .u64 b0, .int .u64 b1, .int .u64 b2, .int .u64 b3] 24)).alloc (.cells #[.int .u64 0, .int .u64 0, .int .u64 0, .int .u64 0] 24))) := by
    have h := (((Bx.start w).alloc a0 a1 a2 a3).alloc b0 b1 b2 b3).alloc 0 0 0 0
    (try simp only [World.size_alloc] at h)
    exact Bw.of h
  generalize (((w.alloc (.cells #[.int .u64 a0, .int .u64 a1, .int .u64 a2, .int .u64 a3] 24)).alloc (.cells #[.int .u64 b0, .int .u64 b1, .int .u64 b2, .int .u64 b3] 24)).alloc (.cells #[.int .u64 0, .int .u64 0, .int .u64 0, .int .u64 0] 24)) = g2 at X1 ⊢
  refine wp_region_held_drew (S := fun w' => Bx w [(w.heap.size + 1, b0, b1, b2, b3), (w.heap.size, a0, a1, a2, a3)] w') (by kernel_rfl) (Bx.sub X1.out.bx.drew (l := [(w.heap.size + 1 + 1, 0, 0, 0, 0), (w.heap.size + 1, b0, b1, b2, b3), (w.heap.size, a0, a1, a2, a3)]) (m := [(w.heap.size + 1, b0, b1, b2, b3), (w.heap.size, a0, a1, a2, a3)]) (by intro p hp; simp only [List.mem_cons, List.not_mem_nil, or_false] at hp ⊢; rcases hp with rfl | rfl <;> simp)) (fun _ => ?_)
  have hHeld : Bw w [(w.heap.size + 1 + 1, 0, 0, 0, 0), (w.heap.size + 1, b0, b1, b2, b3), (w.heap.size, a0, a1, a2, a3)] [] g2.drew := ⟨(Bx.sub X1.out.bx.drew (l := [(w.heap.size + 1 + 1, 0, 0, 0, 0), (w.heap.size + 1, b0, b1, b2, b3), (w.heap.size, a0, a1, a2, a3)]) (m := [(w.heap.size + 1 + 1, 0, 0, 0, 0), (w.heap.size + 1, b0, b1, b2, b3), (w.heap.size, a0, a1, a2, a3)]) (by intro p hp; simp only [List.mem_cons, List.not_mem_nil, or_false] at hp ⊢; rcases hp with rfl | rfl | rfl <;> simp)), X1.out.drew.rows⟩
  generalize g2.drew = g3 at hHeld ⊢
  clear X1
  refine wpAnyH_take (i := 0) (v := .agg #[.int .u64 a0, .int .u64 a1, .int .u64 a2, .int .u64 a3]) op0 (by kernel_rfl) (by kernel_rfl) (by kernel_rfl) (fun _ _ _ h => h) (Or.inl ⟨by rfl, fun W hS => ?_⟩) (Bx.sub hHeld.bx (fun p hp => List.Mem.tail _ hp)) ?_
  · obtain ⟨c0, c1, c2, c3, _⟩ := hS.f0 mm1
    go_simp
  simp only [Act.put, List.setIfInBounds_toArray, List.set_cons_zero, List.set_cons_succ]
  refine wpAnyH_take (i := 4) (v := .agg #[.int .u64 b0, .int .u64 b1, .int .u64 b2, .int .u64 b3]) op4 (by kernel_rfl) (by kernel_rfl) (by kernel_rfl) (fun _ _ _ h => h) (Or.inl ⟨by rfl, fun W hS => ?_⟩) (Bx.sub hHeld.bx (fun p hp => List.Mem.tail _ hp)) ?_
  · obtain ⟨c0, c1, c2, c3, _⟩ := hS.f0 mm0
    go_simp
  simp only [Act.put, List.setIfInBounds_toArray, List.set_cons_zero, List.set_cons_succ]
  refine wpAnyH_ready (rs := [1]) (by kernel_rfl) (by simp) ?_
  refine AllReadyH.cons op1 (fun K hK => ?_) AllReadyH.nil
  rw [if_pos (by rfl)]
  go_simp
  refine (Oa'.out _).mono ?_
  rintro e g6 ⟨x4, rfl, hR5, hB⟩
  have x7 := ((hHeld.past hB).row hR5)
  clear hB hR5 hHeld
  (try go_wp2_with fail)
  refine hK.out _ _ (Bx.sub x7.bx (fun p hp => List.Mem.tail _ hp)) (fun _ => ?_)
  clear hK K
  refine wpAnyH_ready (rs := [2]) (by kernel_rfl) (by simp) ?_
  refine AllReadyH.cons op2 (fun K hK => ?_) AllReadyH.nil
  rw [if_pos (by rfl)]
  go_simp
  refine (ri_full _).mono ?_
  rintro e g10 ⟨x8, rfl, hR9, hB⟩
  have x11 := ((x7.past hB).row hR9)
  clear hB hR9 x7
  (try go_wp2_with fail)
  refine hK.out _ _ (Bx.sub x11.bx (fun p hp => List.Mem.tail _ hp)) (fun _ => ?_)
  clear hK K
  refine wpAnyH_ready (rs := [3]) (by kernel_rfl) (by simp) ?_
  refine AllReadyH.cons op3 (fun K hK => ?_) AllReadyH.nil
  rw [if_pos (by rfl)]
  go_simp
  refine (ri_plus (Bw.at (v := x4) (n := 32) (N := A) x11 mm1) (Bw.at (v := x8) (n := 33) (N := (256 ^ 32)) x11 mm0) 34 (by decide) (by decide)).mono ?_
  rintro e g14 ⟨x12, rfl, hR13, hB⟩
  have x15 := ((x11.past hB).row hR13)
  clear hB hR13 x11
  (try go_wp2_with fail)
  refine hK.out _ _ (Bx.sub x15.bx (fun p hp => List.Mem.tail _ hp)) (fun _ => ?_)
  clear hK K
  refine wpAnyH_ready (rs := [5]) (by kernel_rfl) (by simp) ?_
  refine AllReadyH.cons op5 (fun K hK => ?_) AllReadyH.nil
  rw [if_pos (by rfl)]
  go_simp
  refine (Ob'.out _).mono ?_
  rintro e g18 ⟨x16, rfl, hR17, hB⟩
  have x19 := ((x15.past hB).row hR17)
  clear hB hR17 x15
  (try go_wp2_with fail)
  refine hK.out _ _ (Bx.sub x19.bx (fun p hp => List.Mem.tail _ hp)) (fun _ => ?_)
  clear hK K
  refine wpAnyH_ready (rs := [6]) (by kernel_rfl) (by simp) ?_
  refine AllReadyH.cons op6 (fun K hK => ?_) AllReadyH.nil
  rw [if_pos (by rfl)]
  go_simp
  refine (ri_minus (Bw.at (v := x12) (n := 34) (N := (A + (256 ^ 32))) x19 mm1) (Bw.at (v := x16) (n := 32) (N := B) x19 mm0) HLE'.out 34 (by decide) (by decide)).mono ?_
  rintro e g22 ⟨x20, rfl, hR21, hB⟩
  have x23 := ((x19.past hB).row hR21)
  clear hB hR21 x19
  (try go_wp2_with fail)
  refine hK.out _ _ (Bx.sub x23.bx (fun p hp => List.Mem.tail _ hp)) (fun _ => ?_)
  clear hK K
  refine wpAnyH_ready (rs := [7]) (by kernel_rfl) (by simp) ?_
  refine AllReadyH.cons op7 (fun K hK => ?_) AllReadyH.nil
  rw [if_pos (by rfl)]
  go_simp
  refine (ri_word (Bw.at (v := x20) (n := 34) (N := ((A + (256 ^ 32)) - B)) x23 mm0) HPP'.out).mono ?_
  rintro e g24 ⟨rfl, hB⟩
  have x25 := (x23.past hB)
  clear hB  x23
  (try go_wp2_with fail)
  refine hK.out _ _ (Bx.sub x25.bx (fun p hp => List.Mem.tail _ hp)) (fun _ => ?_)
  clear hK K
  refine wpAnyH_ready (rs := [8]) (by kernel_rfl) (by simp) ?_
  refine AllReadyH.cons op8 (fun K hK => ?_) AllReadyH.nil
  rw [if_pos (by rfl)]
  obtain ⟨cc0, cc1, cc2, cc3, ff0, ff1, ff2, ff3⟩ := x25.bx.f0 mm0
  go_simp
  have x27 : Bw w ((w.heap.size + 1 + 1, p0, p1, p2, p3) :: [(w.heap.size + 1, b0, b1, b2, b3), (w.heap.size, a0, a1, a2, a3)]) [] ((((g24.setCell ⟨w.heap.size + 1 + 1, 0, none⟩ (.int .u64 p0)).setCell ⟨w.heap.size + 1 + 1, 1, none⟩ (.int .u64 p1)).setCell ⟨w.heap.size + 1 + 1, 2, none⟩ (.int .u64 p2)).setCell ⟨w.heap.size + 1 + 1, 3, none⟩ (.int .u64 p3)) := Bw.of (Bx.put x25.bx (by intro p hp; simp only [List.mem_cons, List.not_mem_nil, or_false] at hp; rcases hp with rfl | rfl <;> simp <;> omega) p0 p1 p2 p3)
  refine hK.out _ _ (Bx.sub x27.bx (fun p hp => List.Mem.tail _ hp)) (fun _ => ?_)
  clear hK K cc0 cc1 cc2 cc3 ff0 ff1 ff2 ff3 x25
  generalize ((((g24.setCell ⟨w.heap.size + 1 + 1, 0, none⟩ (.int .u64 p0)).setCell ⟨w.heap.size + 1 + 1, 1, none⟩ (.int .u64 p1)).setCell ⟨w.heap.size + 1 + 1, 2, none⟩ (.int .u64 p2)).setCell ⟨w.heap.size + 1 + 1, 3, none⟩ (.int .u64 p3)) = g26 at x27 ⊢
  (try simp only [Act.put])
  refine wpAnyH_done (by kernel_rfl) ?_ _
  have X28 : Hid (Bw w [(w.heap.size + 1 + 1, p0, p1, p2, p3), (w.heap.size + 1, b0, b1, b2, b3), (w.heap.size, a0, a1, a2, a3)] [] g26) := x27
  clear x27
  go_wp2
  refine bodyPost_ret (v := .agg #[.int .u64 p0, .int .u64 p1, .int .u64 p2, .int .u64 p3]) ?_ rfl ⟨rfl, X28.out.bx.bel⟩
  exact results_c Tryz.results14 _ _ _ ⟨w.heap.size + 1 + 1, 0, none⟩ rfl (loadVar4 (X28.out.bx.box _ mm0))
set_option maxHeartbeats 4000000 in
set_option maxRecDepth 100000 in
theorem rmul_r (a0 a1 a2 a3 b0 b1 b2 b3 p0 p1 p2 p3 : Int) (A B : Nat) (Oa : ∀ W : World, Calls Tryz.prog 79 #[.agg #[.int .u64 a0, .int .u64 a1, .int .u64 a2, .int .u64 a3]] W fun e w' => ∃ v, e = .returned v ∧ RowIs w' v 32 A ∧ Below W.heap.size W w') (Ob : ∀ W : World, Calls Tryz.prog 79 #[.agg #[.int .u64 b0, .int .u64 b1, .int .u64 b2, .int .u64 b3]] W fun e w' => ∃ v, e = .returned v ∧ RowIs w' v 32 B ∧ Below W.heap.size W w') (HPP : IsW (((A * B) : Nat) : Int) p0 p1 p2 p3) (w : World) :
    Calls Tryz.prog 16 #[.agg #[.int .u64 a0, .int .u64 a1, .int .u64 a2, .int .u64 a3], .agg #[.int .u64 b0, .int .u64 b1, .int .u64 b2, .int .u64 b3]] w fun e w' => e = .returned (.agg #[.int .u64 p0, .int .u64 p1, .int .u64 p2, .int .u64 p3]) ∧ Below w.heap.size w w' := by
  have Oa' : Hid _ := Oa
  have Ob' : Hid _ := Ob
  have HPP' : Hid (IsW (((A * B) : Nat) : Int) p0 p1 p2 p3) := HPP
  clear Oa Ob HPP
  go_enter Tryz.func16, Tryz.ntmps16
  go_upto_region 1 with fail
  have X1 : Hid (Bw w [(w.heap.size + 1 + 1, 0, 0, 0, 0), (w.heap.size + 1, b0, b1, b2, b3), (w.heap.size, a0, a1, a2, a3)] [] (((w.alloc (.cells #[.int .u64 a0, .int .u64 a1, .int .u64 a2, .int .u64 a3] 24)).alloc (.cells #[.int .u64 b0, .int .u64 b1, .int .u64 b2, .int .u64 b3] 24)).alloc (.cells #[.int .u64 0, .int .u64 0, .int .u64 0, .int .u64 0] 24))) := by
    have h := (((Bx.start w).alloc a0 a1 a2 a3).alloc b0 b1 b2 b3).alloc 0 0 0 0
    (try simp only [World.size_alloc] at h)
    exact Bw.of h
  generalize (((w.alloc (.cells #[.int .u64 a0, .int .u64 a1, .int .u64 a2, .int .u64 a3] 24)).alloc (.cells #[.int .u64 b0, .int .u64 b1, .int .u64 b2, .int .u64 b3] 24)).alloc (.cells #[.int .u64 0, .int .u64 0, .int .u64 0, .int .u64 0] 24)) = g2 at X1 ⊢
  refine wp_region_held_drew (S := fun w' => Bx w [(w.heap.size + 1, b0, b1, b2, b3), (w.heap.size, a0, a1, a2, a3)] w') (by kernel_rfl) (Bx.sub X1.out.bx.drew (l := [(w.heap.size + 1 + 1, 0, 0, 0, 0), (w.heap.size + 1, b0, b1, b2, b3), (w.heap.size, a0, a1, a2, a3)]) (m := [(w.heap.size + 1, b0, b1, b2, b3), (w.heap.size, a0, a1, a2, a3)]) (by intro p hp; simp only [List.mem_cons, List.not_mem_nil, or_false] at hp ⊢; rcases hp with rfl | rfl <;> simp)) (fun _ => ?_)
  have hHeld : Bw w [(w.heap.size + 1 + 1, 0, 0, 0, 0), (w.heap.size + 1, b0, b1, b2, b3), (w.heap.size, a0, a1, a2, a3)] [] g2.drew := ⟨(Bx.sub X1.out.bx.drew (l := [(w.heap.size + 1 + 1, 0, 0, 0, 0), (w.heap.size + 1, b0, b1, b2, b3), (w.heap.size, a0, a1, a2, a3)]) (m := [(w.heap.size + 1 + 1, 0, 0, 0, 0), (w.heap.size + 1, b0, b1, b2, b3), (w.heap.size, a0, a1, a2, a3)]) (by intro p hp; simp only [List.mem_cons, List.not_mem_nil, or_false] at hp ⊢; rcases hp with rfl | rfl | rfl <;> simp)), X1.out.drew.rows⟩
  generalize g2.drew = g3 at hHeld ⊢
  clear X1
  refine wpAnyH_take (i := 0) (v := .agg #[.int .u64 a0, .int .u64 a1, .int .u64 a2, .int .u64 a3]) op0 (by kernel_rfl) (by kernel_rfl) (by kernel_rfl) (fun _ _ _ h => h) (Or.inl ⟨by rfl, fun W hS => ?_⟩) (Bx.sub hHeld.bx (fun p hp => List.Mem.tail _ hp)) ?_
  · obtain ⟨c0, c1, c2, c3, _⟩ := hS.f0 mm1
    go_simp
  simp only [Act.put, List.setIfInBounds_toArray, List.set_cons_zero, List.set_cons_succ]
  refine wpAnyH_take (i := 2) (v := .agg #[.int .u64 b0, .int .u64 b1, .int .u64 b2, .int .u64 b3]) op2 (by kernel_rfl) (by kernel_rfl) (by kernel_rfl) (fun _ _ _ h => h) (Or.inl ⟨by rfl, fun W hS => ?_⟩) (Bx.sub hHeld.bx (fun p hp => List.Mem.tail _ hp)) ?_
  · obtain ⟨c0, c1, c2, c3, _⟩ := hS.f0 mm0
    go_simp
  simp only [Act.put, List.setIfInBounds_toArray, List.set_cons_zero, List.set_cons_succ]
  refine wpAnyH_ready (rs := [1]) (by kernel_rfl) (by simp) ?_
  refine AllReadyH.cons op1 (fun K hK => ?_) AllReadyH.nil
  rw [if_pos (by rfl)]
  go_simp
  refine (Oa'.out _).mono ?_
  rintro e g6 ⟨x4, rfl, hR5, hB⟩
  have x7 := ((hHeld.past hB).row hR5)
  clear hB hR5 hHeld
  (try go_wp2_with fail)
  refine hK.out _ _ (Bx.sub x7.bx (fun p hp => List.Mem.tail _ hp)) (fun _ => ?_)
  clear hK K
  refine wpAnyH_ready (rs := [3]) (by kernel_rfl) (by simp) ?_
  refine AllReadyH.cons op3 (fun K hK => ?_) AllReadyH.nil
  rw [if_pos (by rfl)]
  go_simp
  refine (Ob'.out _).mono ?_
  rintro e g10 ⟨x8, rfl, hR9, hB⟩
  have x11 := ((x7.past hB).row hR9)
  clear hB hR9 x7
  (try go_wp2_with fail)
  refine hK.out _ _ (Bx.sub x11.bx (fun p hp => List.Mem.tail _ hp)) (fun _ => ?_)
  clear hK K
  refine wpAnyH_ready (rs := [4]) (by kernel_rfl) (by simp) ?_
  refine AllReadyH.cons op4 (fun K hK => ?_) AllReadyH.nil
  rw [if_pos (by rfl)]
  go_simp
  refine (ri_times (Bw.at (v := x4) (n := 32) (N := A) x11 mm1) (Bw.at (v := x8) (n := 32) (N := B) x11 mm0) 65 (by decide) (by decide)).mono ?_
  rintro e g14 ⟨x12, rfl, hR13, hB⟩
  have x15 := ((x11.past hB).row hR13)
  clear hB hR13 x11
  (try go_wp2_with fail)
  refine hK.out _ _ (Bx.sub x15.bx (fun p hp => List.Mem.tail _ hp)) (fun _ => ?_)
  clear hK K
  refine wpAnyH_ready (rs := [5]) (by kernel_rfl) (by simp) ?_
  refine AllReadyH.cons op5 (fun K hK => ?_) AllReadyH.nil
  rw [if_pos (by rfl)]
  go_simp
  refine (ri_word (Bw.at (v := x12) (n := 65) (N := (A * B)) x15 mm0) HPP'.out).mono ?_
  rintro e g16 ⟨rfl, hB⟩
  have x17 := (x15.past hB)
  clear hB  x15
  (try go_wp2_with fail)
  refine hK.out _ _ (Bx.sub x17.bx (fun p hp => List.Mem.tail _ hp)) (fun _ => ?_)
  clear hK K
  refine wpAnyH_ready (rs := [6]) (by kernel_rfl) (by simp) ?_
  refine AllReadyH.cons op6 (fun K hK => ?_) AllReadyH.nil
  rw [if_pos (by rfl)]
  obtain ⟨cc0, cc1, cc2, cc3, ff0, ff1, ff2, ff3⟩ := x17.bx.f0 mm0
  go_simp
  have x19 : Bw w ((w.heap.size + 1 + 1, p0, p1, p2, p3) :: [(w.heap.size + 1, b0, b1, b2, b3), (w.heap.size, a0, a1, a2, a3)]) [] ((((g16.setCell ⟨w.heap.size + 1 + 1, 0, none⟩ (.int .u64 p0)).setCell ⟨w.heap.size + 1 + 1, 1, none⟩ (.int .u64 p1)).setCell ⟨w.heap.size + 1 + 1, 2, none⟩ (.int .u64 p2)).setCell ⟨w.heap.size + 1 + 1, 3, none⟩ (.int .u64 p3)) := Bw.of (Bx.put x17.bx (by intro p hp; simp only [List.mem_cons, List.not_mem_nil, or_false] at hp; rcases hp with rfl | rfl <;> simp <;> omega) p0 p1 p2 p3)
  refine hK.out _ _ (Bx.sub x19.bx (fun p hp => List.Mem.tail _ hp)) (fun _ => ?_)
  clear hK K cc0 cc1 cc2 cc3 ff0 ff1 ff2 ff3 x17
  generalize ((((g16.setCell ⟨w.heap.size + 1 + 1, 0, none⟩ (.int .u64 p0)).setCell ⟨w.heap.size + 1 + 1, 1, none⟩ (.int .u64 p1)).setCell ⟨w.heap.size + 1 + 1, 2, none⟩ (.int .u64 p2)).setCell ⟨w.heap.size + 1 + 1, 3, none⟩ (.int .u64 p3)) = g18 at x19 ⊢
  (try simp only [Act.put])
  refine wpAnyH_done (by kernel_rfl) ?_ _
  have X20 : Hid (Bw w [(w.heap.size + 1 + 1, p0, p1, p2, p3), (w.heap.size + 1, b0, b1, b2, b3), (w.heap.size, a0, a1, a2, a3)] [] g18) := x19
  clear x19
  go_wp2
  refine bodyPost_ret (v := .agg #[.int .u64 p0, .int .u64 p1, .int .u64 p2, .int .u64 p3]) ?_ rfl ⟨rfl, X20.out.bx.bel⟩
  exact results_c Tryz.results16 _ _ _ ⟨w.heap.size + 1 + 1, 0, none⟩ rfl (loadVar4 (X20.out.bx.box _ mm0))
set_option maxHeartbeats 4000000 in
set_option maxRecDepth 100000 in
theorem rdiv_0 (a0 a1 a2 a3 b0 b1 b2 b3 : Int) (A B : Nat) (Oa : ∀ W : World, Calls Tryz.prog 79 #[.agg #[.int .u64 a0, .int .u64 a1, .int .u64 a2, .int .u64 a3]] W fun e w' => ∃ v, e = .returned v ∧ RowIs w' v 32 A ∧ Below W.heap.size W w') (Ob : ∀ W : World, Calls Tryz.prog 79 #[.agg #[.int .u64 b0, .int .u64 b1, .int .u64 b2, .int .u64 b3]] W fun e w' => ∃ v, e = .returned v ∧ RowIs w' v 32 B ∧ Below W.heap.size W w') (HNO : decide (B = 0) = true) (w : World) :
    Calls Tryz.prog 18 #[.agg #[.int .u64 a0, .int .u64 a1, .int .u64 a2, .int .u64 a3], .agg #[.int .u64 b0, .int .u64 b1, .int .u64 b2, .int .u64 b3]] w fun e w' => e = .returned (.agg #[.int .u64 0, .int .u64 0, .int .u64 0, .int .u64 0]) ∧ Below w.heap.size w w' := by
  have Oa' : Hid _ := Oa
  have Ob' : Hid _ := Ob
  have HNO' : Hid (decide (B = 0) = true) := HNO
  clear Oa Ob HNO
  go_enter Tryz.func18, Tryz.ntmps18
  go_upto_region 1 with fail
  have X1 : Hid (Bw w [(w.heap.size + 1 + 1, 0, 0, 0, 0), (w.heap.size + 1, b0, b1, b2, b3), (w.heap.size, a0, a1, a2, a3)] [] (((w.alloc (.cells #[.int .u64 a0, .int .u64 a1, .int .u64 a2, .int .u64 a3] 24)).alloc (.cells #[.int .u64 b0, .int .u64 b1, .int .u64 b2, .int .u64 b3] 24)).alloc (.cells #[.int .u64 0, .int .u64 0, .int .u64 0, .int .u64 0] 24))) := by
    have h := (((Bx.start w).alloc a0 a1 a2 a3).alloc b0 b1 b2 b3).alloc 0 0 0 0
    (try simp only [World.size_alloc] at h)
    exact Bw.of h
  generalize (((w.alloc (.cells #[.int .u64 a0, .int .u64 a1, .int .u64 a2, .int .u64 a3] 24)).alloc (.cells #[.int .u64 b0, .int .u64 b1, .int .u64 b2, .int .u64 b3] 24)).alloc (.cells #[.int .u64 0, .int .u64 0, .int .u64 0, .int .u64 0] 24)) = g2 at X1 ⊢
  obtain ⟨k3_1_0, k3_1_1, k3_1_2, k3_1_3, k3_1_4, k3_1_5, k3_1_6, k3_1_7⟩ := X1.out.bx.f0 mm1
  go_upto_region 2 with (first | (go_at_call 79; refine (Ob'.out _).mono ?_; rintro e g7 ⟨x4, rfl, hR5, hB⟩; (have X6 : Hid _ := ((X1.out.past hB).row hR5)); clear hB hR5 X1 k3_1_0 k3_1_1 k3_1_2 k3_1_3 k3_1_4 k3_1_5 k3_1_6 k3_1_7; obtain ⟨k8_1_0, k8_1_1, k8_1_2, k8_1_3, k8_1_4, k8_1_5, k8_1_6, k8_1_7⟩ := X6.out.bx.f0 mm1))
  clear k8_1_0 k8_1_1 k8_1_2 k8_1_3 k8_1_4 k8_1_5 k8_1_6 k8_1_7
  go_upto_region 3 with (first | (go_at_call 88; refine (ri_none (Bw.at (v := x4) (n := 32) (N := B) X6.out mm0) true HNO'.out).mono ?_; rintro e g11 ⟨rfl, hB⟩; (have X10 : Hid _ := (X6.out.past hB)); clear hB  X6 ))
  obtain ⟨k13_0_0, k13_0_1, k13_0_2, k13_0_3, k13_0_4, k13_0_5, k13_0_6, k13_0_7⟩ := X10.out.bx.f0 mm0
  go_wp2
  clear k13_0_0 k13_0_1 k13_0_2 k13_0_3 k13_0_4 k13_0_5 k13_0_6 k13_0_7
  have X14 : Hid (Bw w ((w.heap.size + 1 + 1, 0, 0, 0, 0) :: [(w.heap.size + 1, b0, b1, b2, b3), (w.heap.size, a0, a1, a2, a3)]) [] ((((g11.setCell ⟨w.heap.size + 1 + 1, 0, none⟩ (.int .u64 0)).setCell ⟨w.heap.size + 1 + 1, 1, none⟩ (.int .u64 0)).setCell ⟨w.heap.size + 1 + 1, 2, none⟩ (.int .u64 0)).setCell ⟨w.heap.size + 1 + 1, 3, none⟩ (.int .u64 0))) := Bw.of (Bx.put (Bx.sub X10.out.bx (l := [(w.heap.size + 1 + 1, 0, 0, 0, 0), (w.heap.size + 1, b0, b1, b2, b3), (w.heap.size, a0, a1, a2, a3)]) (m := [(w.heap.size + 1 + 1, 0, 0, 0, 0), (w.heap.size + 1, b0, b1, b2, b3), (w.heap.size, a0, a1, a2, a3)]) (by intro p hp; simp only [List.mem_cons, List.not_mem_nil, or_false] at hp ⊢; rcases hp with rfl | rfl | rfl <;> simp)) (by intro p hp; simp only [List.mem_cons, List.not_mem_nil, or_false] at hp; rcases hp with rfl | rfl <;> simp <;> omega) 0 0 0 0)
  generalize ((((g11.setCell ⟨w.heap.size + 1 + 1, 0, none⟩ (.int .u64 0)).setCell ⟨w.heap.size + 1 + 1, 1, none⟩ (.int .u64 0)).setCell ⟨w.heap.size + 1 + 1, 2, none⟩ (.int .u64 0)).setCell ⟨w.heap.size + 1 + 1, 3, none⟩ (.int .u64 0)) = g15 at X14 ⊢
  clear X10
  refine bodyPost_ret (v := .agg #[.int .u64 0, .int .u64 0, .int .u64 0, .int .u64 0]) ?_ rfl ⟨rfl, X14.out.bx.bel⟩
  exact results_c Tryz.results18 _ _ _ ⟨w.heap.size + 1 + 1, 0, none⟩ rfl (loadVar4 (X14.out.bx.box _ mm0))
set_option maxHeartbeats 4000000 in
set_option maxRecDepth 100000 in
theorem rdiv_r (a0 a1 a2 a3 b0 b1 b2 b3 p0 p1 p2 p3 : Int) (A B : Nat) (Oa : ∀ W : World, Calls Tryz.prog 79 #[.agg #[.int .u64 a0, .int .u64 a1, .int .u64 a2, .int .u64 a3]] W fun e w' => ∃ v, e = .returned v ∧ RowIs w' v 32 A ∧ Below W.heap.size W w') (Ob : ∀ W : World, Calls Tryz.prog 79 #[.agg #[.int .u64 b0, .int .u64 b1, .int .u64 b2, .int .u64 b3]] W fun e w' => ∃ v, e = .returned v ∧ RowIs w' v 32 B ∧ Below W.heap.size W w') (HNO : decide (B = 0) = false) (HPOS : 0 < B) (HPP : IsW (((A / B) : Nat) : Int) p0 p1 p2 p3) (w : World) :
    Calls Tryz.prog 18 #[.agg #[.int .u64 a0, .int .u64 a1, .int .u64 a2, .int .u64 a3], .agg #[.int .u64 b0, .int .u64 b1, .int .u64 b2, .int .u64 b3]] w fun e w' => e = .returned (.agg #[.int .u64 p0, .int .u64 p1, .int .u64 p2, .int .u64 p3]) ∧ Below w.heap.size w w' := by
  have Oa' : Hid _ := Oa
  have Ob' : Hid _ := Ob
  have HNO' : Hid (decide (B = 0) = false) := HNO
  have HPOS' : Hid (0 < B) := HPOS
  have HPP' : Hid (IsW (((A / B) : Nat) : Int) p0 p1 p2 p3) := HPP
  clear Oa Ob HNO HPOS HPP
  go_enter Tryz.func18, Tryz.ntmps18
  go_upto_region 1 with fail
  have X1 : Hid (Bw w [(w.heap.size + 1 + 1, 0, 0, 0, 0), (w.heap.size + 1, b0, b1, b2, b3), (w.heap.size, a0, a1, a2, a3)] [] (((w.alloc (.cells #[.int .u64 a0, .int .u64 a1, .int .u64 a2, .int .u64 a3] 24)).alloc (.cells #[.int .u64 b0, .int .u64 b1, .int .u64 b2, .int .u64 b3] 24)).alloc (.cells #[.int .u64 0, .int .u64 0, .int .u64 0, .int .u64 0] 24))) := by
    have h := (((Bx.start w).alloc a0 a1 a2 a3).alloc b0 b1 b2 b3).alloc 0 0 0 0
    (try simp only [World.size_alloc] at h)
    exact Bw.of h
  generalize (((w.alloc (.cells #[.int .u64 a0, .int .u64 a1, .int .u64 a2, .int .u64 a3] 24)).alloc (.cells #[.int .u64 b0, .int .u64 b1, .int .u64 b2, .int .u64 b3] 24)).alloc (.cells #[.int .u64 0, .int .u64 0, .int .u64 0, .int .u64 0] 24)) = g2 at X1 ⊢
  obtain ⟨k3_1_0, k3_1_1, k3_1_2, k3_1_3, k3_1_4, k3_1_5, k3_1_6, k3_1_7⟩ := X1.out.bx.f0 mm1
  go_upto_region 2 with (first | (go_at_call 79; refine (Ob'.out _).mono ?_; rintro e g7 ⟨x4, rfl, hR5, hB⟩; (have X6 : Hid _ := ((X1.out.past hB).row hR5)); clear hB hR5 X1 k3_1_0 k3_1_1 k3_1_2 k3_1_3 k3_1_4 k3_1_5 k3_1_6 k3_1_7; obtain ⟨k8_1_0, k8_1_1, k8_1_2, k8_1_3, k8_1_4, k8_1_5, k8_1_6, k8_1_7⟩ := X6.out.bx.f0 mm1))
  clear k8_1_0 k8_1_1 k8_1_2 k8_1_3 k8_1_4 k8_1_5 k8_1_6 k8_1_7
  go_upto_region 4 with (first | (go_at_call 88; refine (ri_none (Bw.at (v := x4) (n := 32) (N := B) X6.out mm0) false HNO'.out).mono ?_; rintro e g11 ⟨rfl, hB⟩; (have X10 : Hid _ := (X6.out.past hB)); clear hB  X6 ))
  obtain ⟨k13_2_0, k13_2_1, k13_2_2, k13_2_3, k13_2_4, k13_2_5, k13_2_6, k13_2_7⟩ := X10.out.bx.f0 mm2
  go_upto_region 5 with (first | (go_at_call 79; refine (Oa'.out _).mono ?_; rintro e g17 ⟨x14, rfl, hR15, hB⟩; (have X16 : Hid _ := ((X10.out.past hB).row hR15)); clear hB hR15 X10 k13_2_0 k13_2_1 k13_2_2 k13_2_3 k13_2_4 k13_2_5 k13_2_6 k13_2_7; obtain ⟨k18_2_0, k18_2_1, k18_2_2, k18_2_3, k18_2_4, k18_2_5, k18_2_6, k18_2_7⟩ := X16.out.bx.f0 mm2) | (go_at_call 89; refine (ri_div (Bw.at (v := x14) (n := 32) (N := A) X16.out mm0) (Bw.at (v := x4) (n := 32) (N := B) X16.out mm1) HPOS'.out 34 (by decide) (by decide) (by decide)).mono ?_; rintro e g24 ⟨x19, x20, rfl, hR21, hR22, hB⟩; (have X23 : Hid _ := (((X16.out.past hB).row hR21).row hR22)); clear hB hR21 hR22 X16 k18_2_0 k18_2_1 k18_2_2 k18_2_3 k18_2_4 k18_2_5 k18_2_6 k18_2_7; obtain ⟨k25_2_0, k25_2_1, k25_2_2, k25_2_3, k25_2_4, k25_2_5, k25_2_6, k25_2_7⟩ := X23.out.bx.f0 mm2))
  clear k25_2_0 k25_2_1 k25_2_2 k25_2_3 k25_2_4 k25_2_5 k25_2_6 k25_2_7
  obtain ⟨k26_0_0, k26_0_1, k26_0_2, k26_0_3, k26_0_4, k26_0_5, k26_0_6, k26_0_7⟩ := X23.out.bx.f0 mm0
  go_wp2_with (first | (go_at_call 77; refine (ri_word (Bw.at (v := x19) (n := 32) (N := (A / B)) X23.out mm1) HPP'.out).mono ?_; rintro e g28 ⟨rfl, hB⟩; (have X27 : Hid _ := (X23.out.past hB)); clear hB  X23 k26_0_0 k26_0_1 k26_0_2 k26_0_3 k26_0_4 k26_0_5 k26_0_6 k26_0_7; obtain ⟨k29_0_0, k29_0_1, k29_0_2, k29_0_3, k29_0_4, k29_0_5, k29_0_6, k29_0_7⟩ := X27.out.bx.f0 mm0))
  clear k29_0_0 k29_0_1 k29_0_2 k29_0_3 k29_0_4 k29_0_5 k29_0_6 k29_0_7
  have X30 : Hid (Bw w ((w.heap.size + 1 + 1, p0, p1, p2, p3) :: [(w.heap.size + 1, b0, b1, b2, b3), (w.heap.size, a0, a1, a2, a3)]) [] ((((g28.setCell ⟨w.heap.size + 1 + 1, 0, none⟩ (.int .u64 p0)).setCell ⟨w.heap.size + 1 + 1, 1, none⟩ (.int .u64 p1)).setCell ⟨w.heap.size + 1 + 1, 2, none⟩ (.int .u64 p2)).setCell ⟨w.heap.size + 1 + 1, 3, none⟩ (.int .u64 p3))) := Bw.of (Bx.put (Bx.sub X27.out.bx (l := [(w.heap.size + 1 + 1, 0, 0, 0, 0), (w.heap.size + 1, b0, b1, b2, b3), (w.heap.size, a0, a1, a2, a3)]) (m := [(w.heap.size + 1 + 1, 0, 0, 0, 0), (w.heap.size + 1, b0, b1, b2, b3), (w.heap.size, a0, a1, a2, a3)]) (by intro p hp; simp only [List.mem_cons, List.not_mem_nil, or_false] at hp ⊢; rcases hp with rfl | rfl | rfl <;> simp)) (by intro p hp; simp only [List.mem_cons, List.not_mem_nil, or_false] at hp; rcases hp with rfl | rfl <;> simp <;> omega) p0 p1 p2 p3)
  generalize ((((g28.setCell ⟨w.heap.size + 1 + 1, 0, none⟩ (.int .u64 p0)).setCell ⟨w.heap.size + 1 + 1, 1, none⟩ (.int .u64 p1)).setCell ⟨w.heap.size + 1 + 1, 2, none⟩ (.int .u64 p2)).setCell ⟨w.heap.size + 1 + 1, 3, none⟩ (.int .u64 p3)) = g31 at X30 ⊢
  clear X27
  refine bodyPost_ret (v := .agg #[.int .u64 p0, .int .u64 p1, .int .u64 p2, .int .u64 p3]) ?_ rfl ⟨rfl, X30.out.bx.bel⟩
  exact results_c Tryz.results18 _ _ _ ⟨w.heap.size + 1 + 1, 0, none⟩ rfl (loadVar4 (X30.out.bx.box _ mm0))
set_option maxHeartbeats 4000000 in
set_option maxRecDepth 100000 in
theorem rmod_0 (a0 a1 a2 a3 b0 b1 b2 b3 : Int) (A B : Nat) (Oa : ∀ W : World, Calls Tryz.prog 79 #[.agg #[.int .u64 a0, .int .u64 a1, .int .u64 a2, .int .u64 a3]] W fun e w' => ∃ v, e = .returned v ∧ RowIs w' v 32 A ∧ Below W.heap.size W w') (Ob : ∀ W : World, Calls Tryz.prog 79 #[.agg #[.int .u64 b0, .int .u64 b1, .int .u64 b2, .int .u64 b3]] W fun e w' => ∃ v, e = .returned v ∧ RowIs w' v 32 B ∧ Below W.heap.size W w') (HNO : decide (B = 0) = true) (w : World) :
    Calls Tryz.prog 20 #[.agg #[.int .u64 a0, .int .u64 a1, .int .u64 a2, .int .u64 a3], .agg #[.int .u64 b0, .int .u64 b1, .int .u64 b2, .int .u64 b3]] w fun e w' => e = .returned (.agg #[.int .u64 0, .int .u64 0, .int .u64 0, .int .u64 0]) ∧ Below w.heap.size w w' := by
  have Oa' : Hid _ := Oa
  have Ob' : Hid _ := Ob
  have HNO' : Hid (decide (B = 0) = true) := HNO
  clear Oa Ob HNO
  go_enter Tryz.func20, Tryz.ntmps20
  go_upto_region 1 with fail
  have X1 : Hid (Bw w [(w.heap.size + 1 + 1, 0, 0, 0, 0), (w.heap.size + 1, b0, b1, b2, b3), (w.heap.size, a0, a1, a2, a3)] [] (((w.alloc (.cells #[.int .u64 a0, .int .u64 a1, .int .u64 a2, .int .u64 a3] 24)).alloc (.cells #[.int .u64 b0, .int .u64 b1, .int .u64 b2, .int .u64 b3] 24)).alloc (.cells #[.int .u64 0, .int .u64 0, .int .u64 0, .int .u64 0] 24))) := by
    have h := (((Bx.start w).alloc a0 a1 a2 a3).alloc b0 b1 b2 b3).alloc 0 0 0 0
    (try simp only [World.size_alloc] at h)
    exact Bw.of h
  generalize (((w.alloc (.cells #[.int .u64 a0, .int .u64 a1, .int .u64 a2, .int .u64 a3] 24)).alloc (.cells #[.int .u64 b0, .int .u64 b1, .int .u64 b2, .int .u64 b3] 24)).alloc (.cells #[.int .u64 0, .int .u64 0, .int .u64 0, .int .u64 0] 24)) = g2 at X1 ⊢
  obtain ⟨k3_1_0, k3_1_1, k3_1_2, k3_1_3, k3_1_4, k3_1_5, k3_1_6, k3_1_7⟩ := X1.out.bx.f0 mm1
  go_upto_region 2 with (first | (go_at_call 79; refine (Ob'.out _).mono ?_; rintro e g7 ⟨x4, rfl, hR5, hB⟩; (have X6 : Hid _ := ((X1.out.past hB).row hR5)); clear hB hR5 X1 k3_1_0 k3_1_1 k3_1_2 k3_1_3 k3_1_4 k3_1_5 k3_1_6 k3_1_7; obtain ⟨k8_1_0, k8_1_1, k8_1_2, k8_1_3, k8_1_4, k8_1_5, k8_1_6, k8_1_7⟩ := X6.out.bx.f0 mm1))
  clear k8_1_0 k8_1_1 k8_1_2 k8_1_3 k8_1_4 k8_1_5 k8_1_6 k8_1_7
  go_upto_region 3 with (first | (go_at_call 88; refine (ri_none (Bw.at (v := x4) (n := 32) (N := B) X6.out mm0) true HNO'.out).mono ?_; rintro e g11 ⟨rfl, hB⟩; (have X10 : Hid _ := (X6.out.past hB)); clear hB  X6 ))
  obtain ⟨k13_0_0, k13_0_1, k13_0_2, k13_0_3, k13_0_4, k13_0_5, k13_0_6, k13_0_7⟩ := X10.out.bx.f0 mm0
  go_wp2
  clear k13_0_0 k13_0_1 k13_0_2 k13_0_3 k13_0_4 k13_0_5 k13_0_6 k13_0_7
  have X14 : Hid (Bw w ((w.heap.size + 1 + 1, 0, 0, 0, 0) :: [(w.heap.size + 1, b0, b1, b2, b3), (w.heap.size, a0, a1, a2, a3)]) [] ((((g11.setCell ⟨w.heap.size + 1 + 1, 0, none⟩ (.int .u64 0)).setCell ⟨w.heap.size + 1 + 1, 1, none⟩ (.int .u64 0)).setCell ⟨w.heap.size + 1 + 1, 2, none⟩ (.int .u64 0)).setCell ⟨w.heap.size + 1 + 1, 3, none⟩ (.int .u64 0))) := Bw.of (Bx.put (Bx.sub X10.out.bx (l := [(w.heap.size + 1 + 1, 0, 0, 0, 0), (w.heap.size + 1, b0, b1, b2, b3), (w.heap.size, a0, a1, a2, a3)]) (m := [(w.heap.size + 1 + 1, 0, 0, 0, 0), (w.heap.size + 1, b0, b1, b2, b3), (w.heap.size, a0, a1, a2, a3)]) (by intro p hp; simp only [List.mem_cons, List.not_mem_nil, or_false] at hp ⊢; rcases hp with rfl | rfl | rfl <;> simp)) (by intro p hp; simp only [List.mem_cons, List.not_mem_nil, or_false] at hp; rcases hp with rfl | rfl <;> simp <;> omega) 0 0 0 0)
  generalize ((((g11.setCell ⟨w.heap.size + 1 + 1, 0, none⟩ (.int .u64 0)).setCell ⟨w.heap.size + 1 + 1, 1, none⟩ (.int .u64 0)).setCell ⟨w.heap.size + 1 + 1, 2, none⟩ (.int .u64 0)).setCell ⟨w.heap.size + 1 + 1, 3, none⟩ (.int .u64 0)) = g15 at X14 ⊢
  clear X10
  refine bodyPost_ret (v := .agg #[.int .u64 0, .int .u64 0, .int .u64 0, .int .u64 0]) ?_ rfl ⟨rfl, X14.out.bx.bel⟩
  exact results_c Tryz.results20 _ _ _ ⟨w.heap.size + 1 + 1, 0, none⟩ rfl (loadVar4 (X14.out.bx.box _ mm0))
set_option maxHeartbeats 4000000 in
set_option maxRecDepth 100000 in
theorem rmod_r (a0 a1 a2 a3 b0 b1 b2 b3 p0 p1 p2 p3 : Int) (A B : Nat) (Oa : ∀ W : World, Calls Tryz.prog 79 #[.agg #[.int .u64 a0, .int .u64 a1, .int .u64 a2, .int .u64 a3]] W fun e w' => ∃ v, e = .returned v ∧ RowIs w' v 32 A ∧ Below W.heap.size W w') (Ob : ∀ W : World, Calls Tryz.prog 79 #[.agg #[.int .u64 b0, .int .u64 b1, .int .u64 b2, .int .u64 b3]] W fun e w' => ∃ v, e = .returned v ∧ RowIs w' v 32 B ∧ Below W.heap.size W w') (HNO : decide (B = 0) = false) (HPOS : 0 < B) (HPP : IsW (((A % B) : Nat) : Int) p0 p1 p2 p3) (w : World) :
    Calls Tryz.prog 20 #[.agg #[.int .u64 a0, .int .u64 a1, .int .u64 a2, .int .u64 a3], .agg #[.int .u64 b0, .int .u64 b1, .int .u64 b2, .int .u64 b3]] w fun e w' => e = .returned (.agg #[.int .u64 p0, .int .u64 p1, .int .u64 p2, .int .u64 p3]) ∧ Below w.heap.size w w' := by
  have Oa' : Hid _ := Oa
  have Ob' : Hid _ := Ob
  have HNO' : Hid (decide (B = 0) = false) := HNO
  have HPOS' : Hid (0 < B) := HPOS
  have HPP' : Hid (IsW (((A % B) : Nat) : Int) p0 p1 p2 p3) := HPP
  clear Oa Ob HNO HPOS HPP
  go_enter Tryz.func20, Tryz.ntmps20
  go_upto_region 1 with fail
  have X1 : Hid (Bw w [(w.heap.size + 1 + 1, 0, 0, 0, 0), (w.heap.size + 1, b0, b1, b2, b3), (w.heap.size, a0, a1, a2, a3)] [] (((w.alloc (.cells #[.int .u64 a0, .int .u64 a1, .int .u64 a2, .int .u64 a3] 24)).alloc (.cells #[.int .u64 b0, .int .u64 b1, .int .u64 b2, .int .u64 b3] 24)).alloc (.cells #[.int .u64 0, .int .u64 0, .int .u64 0, .int .u64 0] 24))) := by
    have h := (((Bx.start w).alloc a0 a1 a2 a3).alloc b0 b1 b2 b3).alloc 0 0 0 0
    (try simp only [World.size_alloc] at h)
    exact Bw.of h
  generalize (((w.alloc (.cells #[.int .u64 a0, .int .u64 a1, .int .u64 a2, .int .u64 a3] 24)).alloc (.cells #[.int .u64 b0, .int .u64 b1, .int .u64 b2, .int .u64 b3] 24)).alloc (.cells #[.int .u64 0, .int .u64 0, .int .u64 0, .int .u64 0] 24)) = g2 at X1 ⊢
  obtain ⟨k3_1_0, k3_1_1, k3_1_2, k3_1_3, k3_1_4, k3_1_5, k3_1_6, k3_1_7⟩ := X1.out.bx.f0 mm1
  go_upto_region 2 with (first | (go_at_call 79; refine (Ob'.out _).mono ?_; rintro e g7 ⟨x4, rfl, hR5, hB⟩; (have X6 : Hid _ := ((X1.out.past hB).row hR5)); clear hB hR5 X1 k3_1_0 k3_1_1 k3_1_2 k3_1_3 k3_1_4 k3_1_5 k3_1_6 k3_1_7; obtain ⟨k8_1_0, k8_1_1, k8_1_2, k8_1_3, k8_1_4, k8_1_5, k8_1_6, k8_1_7⟩ := X6.out.bx.f0 mm1))
  clear k8_1_0 k8_1_1 k8_1_2 k8_1_3 k8_1_4 k8_1_5 k8_1_6 k8_1_7
  go_upto_region 4 with (first | (go_at_call 88; refine (ri_none (Bw.at (v := x4) (n := 32) (N := B) X6.out mm0) false HNO'.out).mono ?_; rintro e g11 ⟨rfl, hB⟩; (have X10 : Hid _ := (X6.out.past hB)); clear hB  X6 ))
  obtain ⟨k13_2_0, k13_2_1, k13_2_2, k13_2_3, k13_2_4, k13_2_5, k13_2_6, k13_2_7⟩ := X10.out.bx.f0 mm2
  go_upto_region 5 with (first | (go_at_call 79; refine (Oa'.out _).mono ?_; rintro e g17 ⟨x14, rfl, hR15, hB⟩; (have X16 : Hid _ := ((X10.out.past hB).row hR15)); clear hB hR15 X10 k13_2_0 k13_2_1 k13_2_2 k13_2_3 k13_2_4 k13_2_5 k13_2_6 k13_2_7; obtain ⟨k18_2_0, k18_2_1, k18_2_2, k18_2_3, k18_2_4, k18_2_5, k18_2_6, k18_2_7⟩ := X16.out.bx.f0 mm2) | (go_at_call 89; refine (ri_div (Bw.at (v := x14) (n := 32) (N := A) X16.out mm0) (Bw.at (v := x4) (n := 32) (N := B) X16.out mm1) HPOS'.out 34 (by decide) (by decide) (by decide)).mono ?_; rintro e g24 ⟨x19, x20, rfl, hR21, hR22, hB⟩; (have X23 : Hid _ := (((X16.out.past hB).row hR21).row hR22)); clear hB hR21 hR22 X16 k18_2_0 k18_2_1 k18_2_2 k18_2_3 k18_2_4 k18_2_5 k18_2_6 k18_2_7; obtain ⟨k25_2_0, k25_2_1, k25_2_2, k25_2_3, k25_2_4, k25_2_5, k25_2_6, k25_2_7⟩ := X23.out.bx.f0 mm2))
  clear k25_2_0 k25_2_1 k25_2_2 k25_2_3 k25_2_4 k25_2_5 k25_2_6 k25_2_7
  obtain ⟨k26_0_0, k26_0_1, k26_0_2, k26_0_3, k26_0_4, k26_0_5, k26_0_6, k26_0_7⟩ := X23.out.bx.f0 mm0
  go_wp2_with (first | (go_at_call 77; refine (ri_word (Bw.at (v := x20) (n := 34) (N := (A % B)) X23.out mm0) HPP'.out).mono ?_; rintro e g28 ⟨rfl, hB⟩; (have X27 : Hid _ := (X23.out.past hB)); clear hB  X23 k26_0_0 k26_0_1 k26_0_2 k26_0_3 k26_0_4 k26_0_5 k26_0_6 k26_0_7; obtain ⟨k29_0_0, k29_0_1, k29_0_2, k29_0_3, k29_0_4, k29_0_5, k29_0_6, k29_0_7⟩ := X27.out.bx.f0 mm0))
  clear k29_0_0 k29_0_1 k29_0_2 k29_0_3 k29_0_4 k29_0_5 k29_0_6 k29_0_7
  have X30 : Hid (Bw w ((w.heap.size + 1 + 1, p0, p1, p2, p3) :: [(w.heap.size + 1, b0, b1, b2, b3), (w.heap.size, a0, a1, a2, a3)]) [] ((((g28.setCell ⟨w.heap.size + 1 + 1, 0, none⟩ (.int .u64 p0)).setCell ⟨w.heap.size + 1 + 1, 1, none⟩ (.int .u64 p1)).setCell ⟨w.heap.size + 1 + 1, 2, none⟩ (.int .u64 p2)).setCell ⟨w.heap.size + 1 + 1, 3, none⟩ (.int .u64 p3))) := Bw.of (Bx.put (Bx.sub X27.out.bx (l := [(w.heap.size + 1 + 1, 0, 0, 0, 0), (w.heap.size + 1, b0, b1, b2, b3), (w.heap.size, a0, a1, a2, a3)]) (m := [(w.heap.size + 1 + 1, 0, 0, 0, 0), (w.heap.size + 1, b0, b1, b2, b3), (w.heap.size, a0, a1, a2, a3)]) (by intro p hp; simp only [List.mem_cons, List.not_mem_nil, or_false] at hp ⊢; rcases hp with rfl | rfl | rfl <;> simp)) (by intro p hp; simp only [List.mem_cons, List.not_mem_nil, or_false] at hp; rcases hp with rfl | rfl <;> simp <;> omega) p0 p1 p2 p3)
  generalize ((((g28.setCell ⟨w.heap.size + 1 + 1, 0, none⟩ (.int .u64 p0)).setCell ⟨w.heap.size + 1 + 1, 1, none⟩ (.int .u64 p1)).setCell ⟨w.heap.size + 1 + 1, 2, none⟩ (.int .u64 p2)).setCell ⟨w.heap.size + 1 + 1, 3, none⟩ (.int .u64 p3)) = g31 at X30 ⊢
  clear X27
  refine bodyPost_ret (v := .agg #[.int .u64 p0, .int .u64 p1, .int .u64 p2, .int .u64 p3]) ?_ rfl ⟨rfl, X30.out.bx.bel⟩
  exact results_c Tryz.results20 _ _ _ ⟨w.heap.size + 1 + 1, 0, none⟩ rfl (loadVar4 (X30.out.bx.box _ mm0))
set_option maxHeartbeats 4000000 in
set_option maxRecDepth 100000 in
theorem raddmod_0 (a0 a1 a2 a3 b0 b1 b2 b3 m0 m1 m2 m3 : Int) (A B M : Nat) (Oa : ∀ W : World, Calls Tryz.prog 79 #[.agg #[.int .u64 a0, .int .u64 a1, .int .u64 a2, .int .u64 a3]] W fun e w' => ∃ v, e = .returned v ∧ RowIs w' v 32 A ∧ Below W.heap.size W w') (Ob : ∀ W : World, Calls Tryz.prog 79 #[.agg #[.int .u64 b0, .int .u64 b1, .int .u64 b2, .int .u64 b3]] W fun e w' => ∃ v, e = .returned v ∧ RowIs w' v 32 B ∧ Below W.heap.size W w') (Om : ∀ W : World, Calls Tryz.prog 79 #[.agg #[.int .u64 m0, .int .u64 m1, .int .u64 m2, .int .u64 m3]] W fun e w' => ∃ v, e = .returned v ∧ RowIs w' v 32 M ∧ Below W.heap.size W w') (HNO : decide (M = 0) = true) (w : World) :
    Calls Tryz.prog 35 #[.agg #[.int .u64 a0, .int .u64 a1, .int .u64 a2, .int .u64 a3], .agg #[.int .u64 b0, .int .u64 b1, .int .u64 b2, .int .u64 b3], .agg #[.int .u64 m0, .int .u64 m1, .int .u64 m2, .int .u64 m3]] w fun e w' => e = .returned (.agg #[.int .u64 0, .int .u64 0, .int .u64 0, .int .u64 0]) ∧ Below w.heap.size w w' := by
  have Oa' : Hid _ := Oa
  have Ob' : Hid _ := Ob
  have Om' : Hid _ := Om
  have HNO' : Hid (decide (M = 0) = true) := HNO
  clear Oa Ob Om HNO
  go_enter Tryz.func35, Tryz.ntmps35
  go_upto_region 1 with fail
  have X1 : Hid (Bw w [(w.heap.size + 1 + 1 + 1, 0, 0, 0, 0), (w.heap.size + 1 + 1, m0, m1, m2, m3), (w.heap.size + 1, b0, b1, b2, b3), (w.heap.size, a0, a1, a2, a3)] [] ((((w.alloc (.cells #[.int .u64 a0, .int .u64 a1, .int .u64 a2, .int .u64 a3] 24)).alloc (.cells #[.int .u64 b0, .int .u64 b1, .int .u64 b2, .int .u64 b3] 24)).alloc (.cells #[.int .u64 m0, .int .u64 m1, .int .u64 m2, .int .u64 m3] 24)).alloc (.cells #[.int .u64 0, .int .u64 0, .int .u64 0, .int .u64 0] 24))) := by
    have h := ((((Bx.start w).alloc a0 a1 a2 a3).alloc b0 b1 b2 b3).alloc m0 m1 m2 m3).alloc 0 0 0 0
    (try simp only [World.size_alloc] at h)
    exact Bw.of h
  generalize ((((w.alloc (.cells #[.int .u64 a0, .int .u64 a1, .int .u64 a2, .int .u64 a3] 24)).alloc (.cells #[.int .u64 b0, .int .u64 b1, .int .u64 b2, .int .u64 b3] 24)).alloc (.cells #[.int .u64 m0, .int .u64 m1, .int .u64 m2, .int .u64 m3] 24)).alloc (.cells #[.int .u64 0, .int .u64 0, .int .u64 0, .int .u64 0] 24)) = g2 at X1 ⊢
  obtain ⟨k3_1_0, k3_1_1, k3_1_2, k3_1_3, k3_1_4, k3_1_5, k3_1_6, k3_1_7⟩ := X1.out.bx.f0 mm1
  go_upto_region 2 with (first | (go_at_call 79; refine (Om'.out _).mono ?_; rintro e g7 ⟨x4, rfl, hR5, hB⟩; (have X6 : Hid _ := ((X1.out.past hB).row hR5)); clear hB hR5 X1 k3_1_0 k3_1_1 k3_1_2 k3_1_3 k3_1_4 k3_1_5 k3_1_6 k3_1_7; obtain ⟨k8_1_0, k8_1_1, k8_1_2, k8_1_3, k8_1_4, k8_1_5, k8_1_6, k8_1_7⟩ := X6.out.bx.f0 mm1))
  clear k8_1_0 k8_1_1 k8_1_2 k8_1_3 k8_1_4 k8_1_5 k8_1_6 k8_1_7
  go_upto_region 3 with (first | (go_at_call 88; refine (ri_none (Bw.at (v := x4) (n := 32) (N := M) X6.out mm0) true HNO'.out).mono ?_; rintro e g11 ⟨rfl, hB⟩; (have X10 : Hid _ := (X6.out.past hB)); clear hB  X6 ))
  obtain ⟨k13_0_0, k13_0_1, k13_0_2, k13_0_3, k13_0_4, k13_0_5, k13_0_6, k13_0_7⟩ := X10.out.bx.f0 mm0
  go_wp2
  clear k13_0_0 k13_0_1 k13_0_2 k13_0_3 k13_0_4 k13_0_5 k13_0_6 k13_0_7
  have X14 : Hid (Bw w ((w.heap.size + 1 + 1 + 1, 0, 0, 0, 0) :: [(w.heap.size + 1 + 1, m0, m1, m2, m3), (w.heap.size + 1, b0, b1, b2, b3), (w.heap.size, a0, a1, a2, a3)]) [] ((((g11.setCell ⟨w.heap.size + 1 + 1 + 1, 0, none⟩ (.int .u64 0)).setCell ⟨w.heap.size + 1 + 1 + 1, 1, none⟩ (.int .u64 0)).setCell ⟨w.heap.size + 1 + 1 + 1, 2, none⟩ (.int .u64 0)).setCell ⟨w.heap.size + 1 + 1 + 1, 3, none⟩ (.int .u64 0))) := Bw.of (Bx.put (Bx.sub X10.out.bx (l := [(w.heap.size + 1 + 1 + 1, 0, 0, 0, 0), (w.heap.size + 1 + 1, m0, m1, m2, m3), (w.heap.size + 1, b0, b1, b2, b3), (w.heap.size, a0, a1, a2, a3)]) (m := [(w.heap.size + 1 + 1 + 1, 0, 0, 0, 0), (w.heap.size + 1 + 1, m0, m1, m2, m3), (w.heap.size + 1, b0, b1, b2, b3), (w.heap.size, a0, a1, a2, a3)]) (by intro p hp; simp only [List.mem_cons, List.not_mem_nil, or_false] at hp ⊢; rcases hp with rfl | rfl | rfl | rfl <;> simp)) (by intro p hp; simp only [List.mem_cons, List.not_mem_nil, or_false] at hp; rcases hp with rfl | rfl | rfl <;> simp <;> omega) 0 0 0 0)
  generalize ((((g11.setCell ⟨w.heap.size + 1 + 1 + 1, 0, none⟩ (.int .u64 0)).setCell ⟨w.heap.size + 1 + 1 + 1, 1, none⟩ (.int .u64 0)).setCell ⟨w.heap.size + 1 + 1 + 1, 2, none⟩ (.int .u64 0)).setCell ⟨w.heap.size + 1 + 1 + 1, 3, none⟩ (.int .u64 0)) = g15 at X14 ⊢
  clear X10
  refine bodyPost_ret (v := .agg #[.int .u64 0, .int .u64 0, .int .u64 0, .int .u64 0]) ?_ rfl ⟨rfl, X14.out.bx.bel⟩
  exact results_c Tryz.results35 _ _ _ ⟨w.heap.size + 1 + 1 + 1, 0, none⟩ rfl (loadVar4 (X14.out.bx.box _ mm0))
set_option maxHeartbeats 4000000 in
set_option maxRecDepth 100000 in
theorem raddmod_r (a0 a1 a2 a3 b0 b1 b2 b3 m0 m1 m2 m3 p0 p1 p2 p3 : Int) (A B M : Nat) (Oa : ∀ W : World, Calls Tryz.prog 79 #[.agg #[.int .u64 a0, .int .u64 a1, .int .u64 a2, .int .u64 a3]] W fun e w' => ∃ v, e = .returned v ∧ RowIs w' v 32 A ∧ Below W.heap.size W w') (Ob : ∀ W : World, Calls Tryz.prog 79 #[.agg #[.int .u64 b0, .int .u64 b1, .int .u64 b2, .int .u64 b3]] W fun e w' => ∃ v, e = .returned v ∧ RowIs w' v 32 B ∧ Below W.heap.size W w') (Om : ∀ W : World, Calls Tryz.prog 79 #[.agg #[.int .u64 m0, .int .u64 m1, .int .u64 m2, .int .u64 m3]] W fun e w' => ∃ v, e = .returned v ∧ RowIs w' v 32 M ∧ Below W.heap.size W w') (HNO : decide (M = 0) = false) (HPOS : 0 < M) (HPP : IsW ((((A + B) % M) : Nat) : Int) p0 p1 p2 p3) (w : World) :
    Calls Tryz.prog 35 #[.agg #[.int .u64 a0, .int .u64 a1, .int .u64 a2, .int .u64 a3], .agg #[.int .u64 b0, .int .u64 b1, .int .u64 b2, .int .u64 b3], .agg #[.int .u64 m0, .int .u64 m1, .int .u64 m2, .int .u64 m3]] w fun e w' => e = .returned (.agg #[.int .u64 p0, .int .u64 p1, .int .u64 p2, .int .u64 p3]) ∧ Below w.heap.size w w' := by
  have Oa' : Hid _ := Oa
  have Ob' : Hid _ := Ob
  have Om' : Hid _ := Om
  have HNO' : Hid (decide (M = 0) = false) := HNO
  have HPOS' : Hid (0 < M) := HPOS
  have HPP' : Hid (IsW ((((A + B) % M) : Nat) : Int) p0 p1 p2 p3) := HPP
  clear Oa Ob Om HNO HPOS HPP
  go_enter Tryz.func35, Tryz.ntmps35
  go_upto_region 1 with fail
  have X1 : Hid (Bw w [(w.heap.size + 1 + 1 + 1, 0, 0, 0, 0), (w.heap.size + 1 + 1, m0, m1, m2, m3), (w.heap.size + 1, b0, b1, b2, b3), (w.heap.size, a0, a1, a2, a3)] [] ((((w.alloc (.cells #[.int .u64 a0, .int .u64 a1, .int .u64 a2, .int .u64 a3] 24)).alloc (.cells #[.int .u64 b0, .int .u64 b1, .int .u64 b2, .int .u64 b3] 24)).alloc (.cells #[.int .u64 m0, .int .u64 m1, .int .u64 m2, .int .u64 m3] 24)).alloc (.cells #[.int .u64 0, .int .u64 0, .int .u64 0, .int .u64 0] 24))) := by
    have h := ((((Bx.start w).alloc a0 a1 a2 a3).alloc b0 b1 b2 b3).alloc m0 m1 m2 m3).alloc 0 0 0 0
    (try simp only [World.size_alloc] at h)
    exact Bw.of h
  generalize ((((w.alloc (.cells #[.int .u64 a0, .int .u64 a1, .int .u64 a2, .int .u64 a3] 24)).alloc (.cells #[.int .u64 b0, .int .u64 b1, .int .u64 b2, .int .u64 b3] 24)).alloc (.cells #[.int .u64 m0, .int .u64 m1, .int .u64 m2, .int .u64 m3] 24)).alloc (.cells #[.int .u64 0, .int .u64 0, .int .u64 0, .int .u64 0] 24)) = g2 at X1 ⊢
  obtain ⟨k3_1_0, k3_1_1, k3_1_2, k3_1_3, k3_1_4, k3_1_5, k3_1_6, k3_1_7⟩ := X1.out.bx.f0 mm1
  go_upto_region 2 with (first | (go_at_call 79; refine (Om'.out _).mono ?_; rintro e g7 ⟨x4, rfl, hR5, hB⟩; (have X6 : Hid _ := ((X1.out.past hB).row hR5)); clear hB hR5 X1 k3_1_0 k3_1_1 k3_1_2 k3_1_3 k3_1_4 k3_1_5 k3_1_6 k3_1_7; obtain ⟨k8_1_0, k8_1_1, k8_1_2, k8_1_3, k8_1_4, k8_1_5, k8_1_6, k8_1_7⟩ := X6.out.bx.f0 mm1))
  clear k8_1_0 k8_1_1 k8_1_2 k8_1_3 k8_1_4 k8_1_5 k8_1_6 k8_1_7
  go_upto_region 4 with (first | (go_at_call 88; refine (ri_none (Bw.at (v := x4) (n := 32) (N := M) X6.out mm0) false HNO'.out).mono ?_; rintro e g11 ⟨rfl, hB⟩; (have X10 : Hid _ := (X6.out.past hB)); clear hB  X6 ))
  refine wp_region_held_drew (S := fun w' => Bx w [(w.heap.size + 1 + 1 + 1, 0, 0, 0, 0), (w.heap.size + 1 + 1, m0, m1, m2, m3), (w.heap.size + 1, b0, b1, b2, b3), (w.heap.size, a0, a1, a2, a3)] w') (by kernel_rfl) X10.out.bx.drew (fun _ => ?_)
  have hHeld : Bw w [(w.heap.size + 1 + 1 + 1, 0, 0, 0, 0), (w.heap.size + 1 + 1, m0, m1, m2, m3), (w.heap.size + 1, b0, b1, b2, b3), (w.heap.size, a0, a1, a2, a3)] [(x4, 32, M)] g11.drew := X10.out.drew
  generalize g11.drew = g13 at hHeld ⊢
  clear X10
  refine wpAnyH_take (i := 0) (v := .agg #[.int .u64 a0, .int .u64 a1, .int .u64 a2, .int .u64 a3]) op0 (by kernel_rfl) (by kernel_rfl) (by kernel_rfl) (fun _ _ _ h => h) (Or.inl ⟨by rfl, fun W hS => ?_⟩) hHeld.bx ?_
  · obtain ⟨c0, c1, c2, c3, _⟩ := hS.f0 mm3
    go_simp
  simp only [Act.put, List.setIfInBounds_toArray, List.set_cons_zero, List.set_cons_succ]
  refine wpAnyH_take (i := 2) (v := .agg #[.int .u64 b0, .int .u64 b1, .int .u64 b2, .int .u64 b3]) op2 (by kernel_rfl) (by kernel_rfl) (by kernel_rfl) (fun _ _ _ h => h) (Or.inl ⟨by rfl, fun W hS => ?_⟩) hHeld.bx ?_
  · obtain ⟨c0, c1, c2, c3, _⟩ := hS.f0 mm2
    go_simp
  simp only [Act.put, List.setIfInBounds_toArray, List.set_cons_zero, List.set_cons_succ]
  refine wpAnyH_take (i := 5) (v := x4) op5 (by kernel_rfl) (by kernel_rfl) (by kernel_rfl) (fun _ _ _ h => h) (Or.inl ⟨by rfl, fun W hS => ?_⟩) hHeld.bx ?_
  · go_simp
  simp only [Act.put, List.setIfInBounds_toArray, List.set_cons_zero, List.set_cons_succ]
  refine wpAnyH_ready (rs := [1]) (by kernel_rfl) (by simp) ?_
  refine AllReadyH.cons op1 (fun K hK => ?_) AllReadyH.nil
  rw [if_pos (by rfl)]
  go_simp
  refine (Oa'.out _).mono ?_
  rintro e g16 ⟨x14, rfl, hR15, hB⟩
  have x17 := ((hHeld.past hB).row hR15)
  clear hB hR15 hHeld
  (try go_wp2_with fail)
  refine hK.out _ _ x17.bx (fun _ => ?_)
  clear hK K
  refine wpAnyH_ready (rs := [3]) (by kernel_rfl) (by simp) ?_
  refine AllReadyH.cons op3 (fun K hK => ?_) AllReadyH.nil
  rw [if_pos (by rfl)]
  go_simp
  refine (Ob'.out _).mono ?_
  rintro e g20 ⟨x18, rfl, hR19, hB⟩
  have x21 := ((x17.past hB).row hR19)
  clear hB hR19 x17
  (try go_wp2_with fail)
  refine hK.out _ _ x21.bx (fun _ => ?_)
  clear hK K
  refine wpAnyH_ready (rs := [4]) (by kernel_rfl) (by simp) ?_
  refine AllReadyH.cons op4 (fun K hK => ?_) AllReadyH.nil
  rw [if_pos (by rfl)]
  go_simp
  refine (ri_plus (Bw.at (v := x14) (n := 32) (N := A) x21 mm1) (Bw.at (v := x18) (n := 32) (N := B) x21 mm0) 33 (by decide) (by decide)).mono ?_
  rintro e g24 ⟨x22, rfl, hR23, hB⟩
  have x25 := ((x21.past hB).row hR23)
  clear hB hR23 x21
  (try go_wp2_with fail)
  refine hK.out _ _ x25.bx (fun _ => ?_)
  clear hK K
  refine wpAnyH_ready (rs := [6]) (by kernel_rfl) (by simp) ?_
  refine AllReadyH.cons op6 (fun K hK => ?_) AllReadyH.nil
  rw [if_pos (by rfl)]
  go_simp
  refine (ri_div (Bw.at (v := x22) (n := 33) (N := (A + B)) x25 mm0) (Bw.at (v := x4) (n := 32) (N := M) x25 mm3) HPOS'.out 34 (by decide) (by decide) (by decide)).mono ?_
  rintro e g30 ⟨x26, x27, rfl, hR28, hR29, hB⟩
  have x31 := (((x25.past hB).row hR28).row hR29)
  clear hB hR28 hR29 x25
  (try go_wp2_with fail)
  refine hK.out _ _ x31.bx (fun _ => ?_)
  clear hK K
  refine wpAnyH_take (i := 7) (v := .tuple #[x26, x27]) op7 (by kernel_rfl) (by kernel_rfl) (by kernel_rfl) (fun _ _ _ h => h) (Or.inl ⟨by rfl, fun W hS => ?_⟩) x31.bx ?_
  · go_simp
  simp only [Act.put, List.setIfInBounds_toArray, List.set_cons_zero, List.set_cons_succ]
  refine wpAnyH_take (i := 8) (v := x26) op8 (by kernel_rfl) (by kernel_rfl) (by kernel_rfl) (fun _ _ _ h => h) (Or.inl ⟨by rfl, fun W hS => ?_⟩) x31.bx ?_
  · go_simp
  simp only [Act.put, List.setIfInBounds_toArray, List.set_cons_zero, List.set_cons_succ]
  refine wpAnyH_take (i := 9) (v := x27) op9 (by kernel_rfl) (by kernel_rfl) (by kernel_rfl) (fun _ _ _ h => h) (Or.inl ⟨by rfl, fun W hS => ?_⟩) x31.bx ?_
  · go_simp
  simp only [Act.put, List.setIfInBounds_toArray, List.set_cons_zero, List.set_cons_succ]
  refine wpAnyH_take (i := 10) (v := x26) op10 (by kernel_rfl) (by kernel_rfl) (by kernel_rfl) (fun _ _ _ h => h) (Or.inl ⟨by rfl, fun W hS => ?_⟩) x31.bx ?_
  · go_simp
  simp only [Act.put, List.setIfInBounds_toArray, List.set_cons_zero, List.set_cons_succ]
  refine wpAnyH_take (i := 11) (v := x27) op11 (by kernel_rfl) (by kernel_rfl) (by kernel_rfl) (fun _ _ _ h => h) (Or.inl ⟨by rfl, fun W hS => ?_⟩) x31.bx ?_
  · go_simp
  simp only [Act.put, List.setIfInBounds_toArray, List.set_cons_zero, List.set_cons_succ]
  refine wpAnyH_done (by kernel_rfl) ?_ _
  have X32 : Hid (Bw w [(w.heap.size + 1 + 1 + 1, 0, 0, 0, 0), (w.heap.size + 1 + 1, m0, m1, m2, m3), (w.heap.size + 1, b0, b1, b2, b3), (w.heap.size, a0, a1, a2, a3)] [(x27, 34, ((A + B) % M)), (x26, 33, ((A + B) / M)), (x22, 33, (A + B)), (x18, 32, B), (x14, 32, A), (x4, 32, M)] g30) := x31
  clear x31
  go_upto_region 5 with fail
  obtain ⟨k33_0_0, k33_0_1, k33_0_2, k33_0_3, k33_0_4, k33_0_5, k33_0_6, k33_0_7⟩ := X32.out.bx.f0 mm0
  go_wp2_with (first | (go_at_call 77; refine (ri_word (Bw.at (v := x27) (n := 34) (N := ((A + B) % M)) X32.out mm0) HPP'.out).mono ?_; rintro e g35 ⟨rfl, hB⟩; (have X34 : Hid _ := (X32.out.past hB)); clear hB  X32 k33_0_0 k33_0_1 k33_0_2 k33_0_3 k33_0_4 k33_0_5 k33_0_6 k33_0_7; obtain ⟨k36_0_0, k36_0_1, k36_0_2, k36_0_3, k36_0_4, k36_0_5, k36_0_6, k36_0_7⟩ := X34.out.bx.f0 mm0))
  clear k36_0_0 k36_0_1 k36_0_2 k36_0_3 k36_0_4 k36_0_5 k36_0_6 k36_0_7
  have X37 : Hid (Bw w ((w.heap.size + 1 + 1 + 1, p0, p1, p2, p3) :: [(w.heap.size + 1 + 1, m0, m1, m2, m3), (w.heap.size + 1, b0, b1, b2, b3), (w.heap.size, a0, a1, a2, a3)]) [] ((((g35.setCell ⟨w.heap.size + 1 + 1 + 1, 0, none⟩ (.int .u64 p0)).setCell ⟨w.heap.size + 1 + 1 + 1, 1, none⟩ (.int .u64 p1)).setCell ⟨w.heap.size + 1 + 1 + 1, 2, none⟩ (.int .u64 p2)).setCell ⟨w.heap.size + 1 + 1 + 1, 3, none⟩ (.int .u64 p3))) := Bw.of (Bx.put (Bx.sub X34.out.bx (l := [(w.heap.size + 1 + 1 + 1, 0, 0, 0, 0), (w.heap.size + 1 + 1, m0, m1, m2, m3), (w.heap.size + 1, b0, b1, b2, b3), (w.heap.size, a0, a1, a2, a3)]) (m := [(w.heap.size + 1 + 1 + 1, 0, 0, 0, 0), (w.heap.size + 1 + 1, m0, m1, m2, m3), (w.heap.size + 1, b0, b1, b2, b3), (w.heap.size, a0, a1, a2, a3)]) (by intro p hp; simp only [List.mem_cons, List.not_mem_nil, or_false] at hp ⊢; rcases hp with rfl | rfl | rfl | rfl <;> simp)) (by intro p hp; simp only [List.mem_cons, List.not_mem_nil, or_false] at hp; rcases hp with rfl | rfl | rfl <;> simp <;> omega) p0 p1 p2 p3)
  generalize ((((g35.setCell ⟨w.heap.size + 1 + 1 + 1, 0, none⟩ (.int .u64 p0)).setCell ⟨w.heap.size + 1 + 1 + 1, 1, none⟩ (.int .u64 p1)).setCell ⟨w.heap.size + 1 + 1 + 1, 2, none⟩ (.int .u64 p2)).setCell ⟨w.heap.size + 1 + 1 + 1, 3, none⟩ (.int .u64 p3)) = g38 at X37 ⊢
  clear X34
  refine bodyPost_ret (v := .agg #[.int .u64 p0, .int .u64 p1, .int .u64 p2, .int .u64 p3]) ?_ rfl ⟨rfl, X37.out.bx.bel⟩
  exact results_c Tryz.results35 _ _ _ ⟨w.heap.size + 1 + 1 + 1, 0, none⟩ rfl (loadVar4 (X37.out.bx.box _ mm0))
set_option maxHeartbeats 4000000 in
set_option maxRecDepth 100000 in
theorem rmulmod_0 (a0 a1 a2 a3 b0 b1 b2 b3 m0 m1 m2 m3 : Int) (A B M : Nat) (Oa : ∀ W : World, Calls Tryz.prog 79 #[.agg #[.int .u64 a0, .int .u64 a1, .int .u64 a2, .int .u64 a3]] W fun e w' => ∃ v, e = .returned v ∧ RowIs w' v 32 A ∧ Below W.heap.size W w') (Ob : ∀ W : World, Calls Tryz.prog 79 #[.agg #[.int .u64 b0, .int .u64 b1, .int .u64 b2, .int .u64 b3]] W fun e w' => ∃ v, e = .returned v ∧ RowIs w' v 32 B ∧ Below W.heap.size W w') (Om : ∀ W : World, Calls Tryz.prog 79 #[.agg #[.int .u64 m0, .int .u64 m1, .int .u64 m2, .int .u64 m3]] W fun e w' => ∃ v, e = .returned v ∧ RowIs w' v 32 M ∧ Below W.heap.size W w') (HNO : decide (M = 0) = true) (w : World) :
    Calls Tryz.prog 37 #[.agg #[.int .u64 a0, .int .u64 a1, .int .u64 a2, .int .u64 a3], .agg #[.int .u64 b0, .int .u64 b1, .int .u64 b2, .int .u64 b3], .agg #[.int .u64 m0, .int .u64 m1, .int .u64 m2, .int .u64 m3]] w fun e w' => e = .returned (.agg #[.int .u64 0, .int .u64 0, .int .u64 0, .int .u64 0]) ∧ Below w.heap.size w w' := by
  have Oa' : Hid _ := Oa
  have Ob' : Hid _ := Ob
  have Om' : Hid _ := Om
  have HNO' : Hid (decide (M = 0) = true) := HNO
  clear Oa Ob Om HNO
  go_enter Tryz.func37, Tryz.ntmps37
  go_upto_region 1 with fail
  have X1 : Hid (Bw w [(w.heap.size + 1 + 1 + 1, 0, 0, 0, 0), (w.heap.size + 1 + 1, m0, m1, m2, m3), (w.heap.size + 1, b0, b1, b2, b3), (w.heap.size, a0, a1, a2, a3)] [] ((((w.alloc (.cells #[.int .u64 a0, .int .u64 a1, .int .u64 a2, .int .u64 a3] 24)).alloc (.cells #[.int .u64 b0, .int .u64 b1, .int .u64 b2, .int .u64 b3] 24)).alloc (.cells #[.int .u64 m0, .int .u64 m1, .int .u64 m2, .int .u64 m3] 24)).alloc (.cells #[.int .u64 0, .int .u64 0, .int .u64 0, .int .u64 0] 24))) := by
    have h := ((((Bx.start w).alloc a0 a1 a2 a3).alloc b0 b1 b2 b3).alloc m0 m1 m2 m3).alloc 0 0 0 0
    (try simp only [World.size_alloc] at h)
    exact Bw.of h
  generalize ((((w.alloc (.cells #[.int .u64 a0, .int .u64 a1, .int .u64 a2, .int .u64 a3] 24)).alloc (.cells #[.int .u64 b0, .int .u64 b1, .int .u64 b2, .int .u64 b3] 24)).alloc (.cells #[.int .u64 m0, .int .u64 m1, .int .u64 m2, .int .u64 m3] 24)).alloc (.cells #[.int .u64 0, .int .u64 0, .int .u64 0, .int .u64 0] 24)) = g2 at X1 ⊢
  obtain ⟨k3_1_0, k3_1_1, k3_1_2, k3_1_3, k3_1_4, k3_1_5, k3_1_6, k3_1_7⟩ := X1.out.bx.f0 mm1
  go_upto_region 2 with (first | (go_at_call 79; refine (Om'.out _).mono ?_; rintro e g7 ⟨x4, rfl, hR5, hB⟩; (have X6 : Hid _ := ((X1.out.past hB).row hR5)); clear hB hR5 X1 k3_1_0 k3_1_1 k3_1_2 k3_1_3 k3_1_4 k3_1_5 k3_1_6 k3_1_7; obtain ⟨k8_1_0, k8_1_1, k8_1_2, k8_1_3, k8_1_4, k8_1_5, k8_1_6, k8_1_7⟩ := X6.out.bx.f0 mm1))
  clear k8_1_0 k8_1_1 k8_1_2 k8_1_3 k8_1_4 k8_1_5 k8_1_6 k8_1_7
  go_upto_region 3 with (first | (go_at_call 88; refine (ri_none (Bw.at (v := x4) (n := 32) (N := M) X6.out mm0) true HNO'.out).mono ?_; rintro e g11 ⟨rfl, hB⟩; (have X10 : Hid _ := (X6.out.past hB)); clear hB  X6 ))
  obtain ⟨k13_0_0, k13_0_1, k13_0_2, k13_0_3, k13_0_4, k13_0_5, k13_0_6, k13_0_7⟩ := X10.out.bx.f0 mm0
  go_wp2
  clear k13_0_0 k13_0_1 k13_0_2 k13_0_3 k13_0_4 k13_0_5 k13_0_6 k13_0_7
  have X14 : Hid (Bw w ((w.heap.size + 1 + 1 + 1, 0, 0, 0, 0) :: [(w.heap.size + 1 + 1, m0, m1, m2, m3), (w.heap.size + 1, b0, b1, b2, b3), (w.heap.size, a0, a1, a2, a3)]) [] ((((g11.setCell ⟨w.heap.size + 1 + 1 + 1, 0, none⟩ (.int .u64 0)).setCell ⟨w.heap.size + 1 + 1 + 1, 1, none⟩ (.int .u64 0)).setCell ⟨w.heap.size + 1 + 1 + 1, 2, none⟩ (.int .u64 0)).setCell ⟨w.heap.size + 1 + 1 + 1, 3, none⟩ (.int .u64 0))) := Bw.of (Bx.put (Bx.sub X10.out.bx (l := [(w.heap.size + 1 + 1 + 1, 0, 0, 0, 0), (w.heap.size + 1 + 1, m0, m1, m2, m3), (w.heap.size + 1, b0, b1, b2, b3), (w.heap.size, a0, a1, a2, a3)]) (m := [(w.heap.size + 1 + 1 + 1, 0, 0, 0, 0), (w.heap.size + 1 + 1, m0, m1, m2, m3), (w.heap.size + 1, b0, b1, b2, b3), (w.heap.size, a0, a1, a2, a3)]) (by intro p hp; simp only [List.mem_cons, List.not_mem_nil, or_false] at hp ⊢; rcases hp with rfl | rfl | rfl | rfl <;> simp)) (by intro p hp; simp only [List.mem_cons, List.not_mem_nil, or_false] at hp; rcases hp with rfl | rfl | rfl <;> simp <;> omega) 0 0 0 0)
  generalize ((((g11.setCell ⟨w.heap.size + 1 + 1 + 1, 0, none⟩ (.int .u64 0)).setCell ⟨w.heap.size + 1 + 1 + 1, 1, none⟩ (.int .u64 0)).setCell ⟨w.heap.size + 1 + 1 + 1, 2, none⟩ (.int .u64 0)).setCell ⟨w.heap.size + 1 + 1 + 1, 3, none⟩ (.int .u64 0)) = g15 at X14 ⊢
  clear X10
  refine bodyPost_ret (v := .agg #[.int .u64 0, .int .u64 0, .int .u64 0, .int .u64 0]) ?_ rfl ⟨rfl, X14.out.bx.bel⟩
  exact results_c Tryz.results37 _ _ _ ⟨w.heap.size + 1 + 1 + 1, 0, none⟩ rfl (loadVar4 (X14.out.bx.box _ mm0))
set_option maxHeartbeats 4000000 in
set_option maxRecDepth 100000 in
theorem rmulmod_r (a0 a1 a2 a3 b0 b1 b2 b3 m0 m1 m2 m3 p0 p1 p2 p3 : Int) (A B M : Nat) (Oa : ∀ W : World, Calls Tryz.prog 79 #[.agg #[.int .u64 a0, .int .u64 a1, .int .u64 a2, .int .u64 a3]] W fun e w' => ∃ v, e = .returned v ∧ RowIs w' v 32 A ∧ Below W.heap.size W w') (Ob : ∀ W : World, Calls Tryz.prog 79 #[.agg #[.int .u64 b0, .int .u64 b1, .int .u64 b2, .int .u64 b3]] W fun e w' => ∃ v, e = .returned v ∧ RowIs w' v 32 B ∧ Below W.heap.size W w') (Om : ∀ W : World, Calls Tryz.prog 79 #[.agg #[.int .u64 m0, .int .u64 m1, .int .u64 m2, .int .u64 m3]] W fun e w' => ∃ v, e = .returned v ∧ RowIs w' v 32 M ∧ Below W.heap.size W w') (HNO : decide (M = 0) = false) (HPOS : 0 < M) (HPP : IsW ((((A * B) % M) : Nat) : Int) p0 p1 p2 p3) (w : World) :
    Calls Tryz.prog 37 #[.agg #[.int .u64 a0, .int .u64 a1, .int .u64 a2, .int .u64 a3], .agg #[.int .u64 b0, .int .u64 b1, .int .u64 b2, .int .u64 b3], .agg #[.int .u64 m0, .int .u64 m1, .int .u64 m2, .int .u64 m3]] w fun e w' => e = .returned (.agg #[.int .u64 p0, .int .u64 p1, .int .u64 p2, .int .u64 p3]) ∧ Below w.heap.size w w' := by
  have Oa' : Hid _ := Oa
  have Ob' : Hid _ := Ob
  have Om' : Hid _ := Om
  have HNO' : Hid (decide (M = 0) = false) := HNO
  have HPOS' : Hid (0 < M) := HPOS
  have HPP' : Hid (IsW ((((A * B) % M) : Nat) : Int) p0 p1 p2 p3) := HPP
  clear Oa Ob Om HNO HPOS HPP
  go_enter Tryz.func37, Tryz.ntmps37
  go_upto_region 1 with fail
  have X1 : Hid (Bw w [(w.heap.size + 1 + 1 + 1, 0, 0, 0, 0), (w.heap.size + 1 + 1, m0, m1, m2, m3), (w.heap.size + 1, b0, b1, b2, b3), (w.heap.size, a0, a1, a2, a3)] [] ((((w.alloc (.cells #[.int .u64 a0, .int .u64 a1, .int .u64 a2, .int .u64 a3] 24)).alloc (.cells #[.int .u64 b0, .int .u64 b1, .int .u64 b2, .int .u64 b3] 24)).alloc (.cells #[.int .u64 m0, .int .u64 m1, .int .u64 m2, .int .u64 m3] 24)).alloc (.cells #[.int .u64 0, .int .u64 0, .int .u64 0, .int .u64 0] 24))) := by
    have h := ((((Bx.start w).alloc a0 a1 a2 a3).alloc b0 b1 b2 b3).alloc m0 m1 m2 m3).alloc 0 0 0 0
    (try simp only [World.size_alloc] at h)
    exact Bw.of h
  generalize ((((w.alloc (.cells #[.int .u64 a0, .int .u64 a1, .int .u64 a2, .int .u64 a3] 24)).alloc (.cells #[.int .u64 b0, .int .u64 b1, .int .u64 b2, .int .u64 b3] 24)).alloc (.cells #[.int .u64 m0, .int .u64 m1, .int .u64 m2, .int .u64 m3] 24)).alloc (.cells #[.int .u64 0, .int .u64 0, .int .u64 0, .int .u64 0] 24)) = g2 at X1 ⊢
  obtain ⟨k3_1_0, k3_1_1, k3_1_2, k3_1_3, k3_1_4, k3_1_5, k3_1_6, k3_1_7⟩ := X1.out.bx.f0 mm1
  go_upto_region 2 with (first | (go_at_call 79; refine (Om'.out _).mono ?_; rintro e g7 ⟨x4, rfl, hR5, hB⟩; (have X6 : Hid _ := ((X1.out.past hB).row hR5)); clear hB hR5 X1 k3_1_0 k3_1_1 k3_1_2 k3_1_3 k3_1_4 k3_1_5 k3_1_6 k3_1_7; obtain ⟨k8_1_0, k8_1_1, k8_1_2, k8_1_3, k8_1_4, k8_1_5, k8_1_6, k8_1_7⟩ := X6.out.bx.f0 mm1))
  clear k8_1_0 k8_1_1 k8_1_2 k8_1_3 k8_1_4 k8_1_5 k8_1_6 k8_1_7
  go_upto_region 4 with (first | (go_at_call 88; refine (ri_none (Bw.at (v := x4) (n := 32) (N := M) X6.out mm0) false HNO'.out).mono ?_; rintro e g11 ⟨rfl, hB⟩; (have X10 : Hid _ := (X6.out.past hB)); clear hB  X6 ))
  refine wp_region_held_drew (S := fun w' => Bx w [(w.heap.size + 1 + 1 + 1, 0, 0, 0, 0), (w.heap.size + 1 + 1, m0, m1, m2, m3), (w.heap.size + 1, b0, b1, b2, b3), (w.heap.size, a0, a1, a2, a3)] w') (by kernel_rfl) X10.out.bx.drew (fun _ => ?_)
  have hHeld : Bw w [(w.heap.size + 1 + 1 + 1, 0, 0, 0, 0), (w.heap.size + 1 + 1, m0, m1, m2, m3), (w.heap.size + 1, b0, b1, b2, b3), (w.heap.size, a0, a1, a2, a3)] [(x4, 32, M)] g11.drew := X10.out.drew
  generalize g11.drew = g13 at hHeld ⊢
  clear X10
  refine wpAnyH_take (i := 0) (v := .agg #[.int .u64 a0, .int .u64 a1, .int .u64 a2, .int .u64 a3]) op0 (by kernel_rfl) (by kernel_rfl) (by kernel_rfl) (fun _ _ _ h => h) (Or.inl ⟨by rfl, fun W hS => ?_⟩) hHeld.bx ?_
  · obtain ⟨c0, c1, c2, c3, _⟩ := hS.f0 mm3
    go_simp
  simp only [Act.put, List.setIfInBounds_toArray, List.set_cons_zero, List.set_cons_succ]
  refine wpAnyH_take (i := 2) (v := .agg #[.int .u64 b0, .int .u64 b1, .int .u64 b2, .int .u64 b3]) op2 (by kernel_rfl) (by kernel_rfl) (by kernel_rfl) (fun _ _ _ h => h) (Or.inl ⟨by rfl, fun W hS => ?_⟩) hHeld.bx ?_
  · obtain ⟨c0, c1, c2, c3, _⟩ := hS.f0 mm2
    go_simp
  simp only [Act.put, List.setIfInBounds_toArray, List.set_cons_zero, List.set_cons_succ]
  refine wpAnyH_take (i := 5) (v := x4) op5 (by kernel_rfl) (by kernel_rfl) (by kernel_rfl) (fun _ _ _ h => h) (Or.inl ⟨by rfl, fun W hS => ?_⟩) hHeld.bx ?_
  · go_simp
  simp only [Act.put, List.setIfInBounds_toArray, List.set_cons_zero, List.set_cons_succ]
  refine wpAnyH_ready (rs := [1]) (by kernel_rfl) (by simp) ?_
  refine AllReadyH.cons op1 (fun K hK => ?_) AllReadyH.nil
  rw [if_pos (by rfl)]
  go_simp
  refine (Oa'.out _).mono ?_
  rintro e g16 ⟨x14, rfl, hR15, hB⟩
  have x17 := ((hHeld.past hB).row hR15)
  clear hB hR15 hHeld
  (try go_wp2_with fail)
  refine hK.out _ _ x17.bx (fun _ => ?_)
  clear hK K
  refine wpAnyH_ready (rs := [3]) (by kernel_rfl) (by simp) ?_
  refine AllReadyH.cons op3 (fun K hK => ?_) AllReadyH.nil
  rw [if_pos (by rfl)]
  go_simp
  refine (Ob'.out _).mono ?_
  rintro e g20 ⟨x18, rfl, hR19, hB⟩
  have x21 := ((x17.past hB).row hR19)
  clear hB hR19 x17
  (try go_wp2_with fail)
  refine hK.out _ _ x21.bx (fun _ => ?_)
  clear hK K
  refine wpAnyH_ready (rs := [4]) (by kernel_rfl) (by simp) ?_
  refine AllReadyH.cons op4 (fun K hK => ?_) AllReadyH.nil
  rw [if_pos (by rfl)]
  go_simp
  refine (ri_times (Bw.at (v := x14) (n := 32) (N := A) x21 mm1) (Bw.at (v := x18) (n := 32) (N := B) x21 mm0) 65 (by decide) (by decide)).mono ?_
  rintro e g24 ⟨x22, rfl, hR23, hB⟩
  have x25 := ((x21.past hB).row hR23)
  clear hB hR23 x21
  (try go_wp2_with fail)
  refine hK.out _ _ x25.bx (fun _ => ?_)
  clear hK K
  refine wpAnyH_ready (rs := [6]) (by kernel_rfl) (by simp) ?_
  refine AllReadyH.cons op6 (fun K hK => ?_) AllReadyH.nil
  rw [if_pos (by rfl)]
  go_simp
  refine (ri_div (Bw.at (v := x22) (n := 65) (N := (A * B)) x25 mm0) (Bw.at (v := x4) (n := 32) (N := M) x25 mm3) HPOS'.out 34 (by decide) (by decide) (by decide)).mono ?_
  rintro e g30 ⟨x26, x27, rfl, hR28, hR29, hB⟩
  have x31 := (((x25.past hB).row hR28).row hR29)
  clear hB hR28 hR29 x25
  (try go_wp2_with fail)
  refine hK.out _ _ x31.bx (fun _ => ?_)
  clear hK K
  refine wpAnyH_take (i := 7) (v := .tuple #[x26, x27]) op7 (by kernel_rfl) (by kernel_rfl) (by kernel_rfl) (fun _ _ _ h => h) (Or.inl ⟨by rfl, fun W hS => ?_⟩) x31.bx ?_
  · go_simp
  simp only [Act.put, List.setIfInBounds_toArray, List.set_cons_zero, List.set_cons_succ]
  refine wpAnyH_take (i := 8) (v := x26) op8 (by kernel_rfl) (by kernel_rfl) (by kernel_rfl) (fun _ _ _ h => h) (Or.inl ⟨by rfl, fun W hS => ?_⟩) x31.bx ?_
  · go_simp
  simp only [Act.put, List.setIfInBounds_toArray, List.set_cons_zero, List.set_cons_succ]
  refine wpAnyH_take (i := 9) (v := x27) op9 (by kernel_rfl) (by kernel_rfl) (by kernel_rfl) (fun _ _ _ h => h) (Or.inl ⟨by rfl, fun W hS => ?_⟩) x31.bx ?_
  · go_simp
  simp only [Act.put, List.setIfInBounds_toArray, List.set_cons_zero, List.set_cons_succ]
  refine wpAnyH_take (i := 10) (v := x26) op10 (by kernel_rfl) (by kernel_rfl) (by kernel_rfl) (fun _ _ _ h => h) (Or.inl ⟨by rfl, fun W hS => ?_⟩) x31.bx ?_
  · go_simp
  simp only [Act.put, List.setIfInBounds_toArray, List.set_cons_zero, List.set_cons_succ]
  refine wpAnyH_take (i := 11) (v := x27) op11 (by kernel_rfl) (by kernel_rfl) (by kernel_rfl) (fun _ _ _ h => h) (Or.inl ⟨by rfl, fun W hS => ?_⟩) x31.bx ?_
  · go_simp
  simp only [Act.put, List.setIfInBounds_toArray, List.set_cons_zero, List.set_cons_succ]
  refine wpAnyH_done (by kernel_rfl) ?_ _
  have X32 : Hid (Bw w [(w.heap.size + 1 + 1 + 1, 0, 0, 0, 0), (w.heap.size + 1 + 1, m0, m1, m2, m3), (w.heap.size + 1, b0, b1, b2, b3), (w.heap.size, a0, a1, a2, a3)] [(x27, 34, ((A * B) % M)), (x26, 65, ((A * B) / M)), (x22, 65, (A * B)), (x18, 32, B), (x14, 32, A), (x4, 32, M)] g30) := x31
  clear x31
  go_upto_region 5 with fail
  obtain ⟨k33_0_0, k33_0_1, k33_0_2, k33_0_3, k33_0_4, k33_0_5, k33_0_6, k33_0_7⟩ := X32.out.bx.f0 mm0
  go_wp2_with (first | (go_at_call 77; refine (ri_word (Bw.at (v := x27) (n := 34) (N := ((A * B) % M)) X32.out mm0) HPP'.out).mono ?_; rintro e g35 ⟨rfl, hB⟩; (have X34 : Hid _ := (X32.out.past hB)); clear hB  X32 k33_0_0 k33_0_1 k33_0_2 k33_0_3 k33_0_4 k33_0_5 k33_0_6 k33_0_7; obtain ⟨k36_0_0, k36_0_1, k36_0_2, k36_0_3, k36_0_4, k36_0_5, k36_0_6, k36_0_7⟩ := X34.out.bx.f0 mm0))
  clear k36_0_0 k36_0_1 k36_0_2 k36_0_3 k36_0_4 k36_0_5 k36_0_6 k36_0_7
  have X37 : Hid (Bw w ((w.heap.size + 1 + 1 + 1, p0, p1, p2, p3) :: [(w.heap.size + 1 + 1, m0, m1, m2, m3), (w.heap.size + 1, b0, b1, b2, b3), (w.heap.size, a0, a1, a2, a3)]) [] ((((g35.setCell ⟨w.heap.size + 1 + 1 + 1, 0, none⟩ (.int .u64 p0)).setCell ⟨w.heap.size + 1 + 1 + 1, 1, none⟩ (.int .u64 p1)).setCell ⟨w.heap.size + 1 + 1 + 1, 2, none⟩ (.int .u64 p2)).setCell ⟨w.heap.size + 1 + 1 + 1, 3, none⟩ (.int .u64 p3))) := Bw.of (Bx.put (Bx.sub X34.out.bx (l := [(w.heap.size + 1 + 1 + 1, 0, 0, 0, 0), (w.heap.size + 1 + 1, m0, m1, m2, m3), (w.heap.size + 1, b0, b1, b2, b3), (w.heap.size, a0, a1, a2, a3)]) (m := [(w.heap.size + 1 + 1 + 1, 0, 0, 0, 0), (w.heap.size + 1 + 1, m0, m1, m2, m3), (w.heap.size + 1, b0, b1, b2, b3), (w.heap.size, a0, a1, a2, a3)]) (by intro p hp; simp only [List.mem_cons, List.not_mem_nil, or_false] at hp ⊢; rcases hp with rfl | rfl | rfl | rfl <;> simp)) (by intro p hp; simp only [List.mem_cons, List.not_mem_nil, or_false] at hp; rcases hp with rfl | rfl | rfl <;> simp <;> omega) p0 p1 p2 p3)
  generalize ((((g35.setCell ⟨w.heap.size + 1 + 1 + 1, 0, none⟩ (.int .u64 p0)).setCell ⟨w.heap.size + 1 + 1 + 1, 1, none⟩ (.int .u64 p1)).setCell ⟨w.heap.size + 1 + 1 + 1, 2, none⟩ (.int .u64 p2)).setCell ⟨w.heap.size + 1 + 1 + 1, 3, none⟩ (.int .u64 p3)) = g38 at X37 ⊢
  clear X34
  refine bodyPost_ret (v := .agg #[.int .u64 p0, .int .u64 p1, .int .u64 p2, .int .u64 p3]) ?_ rfl ⟨rfl, X37.out.bx.bel⟩
  exact results_c Tryz.results37 _ _ _ ⟨w.heap.size + 1 + 1 + 1, 0, none⟩ rfl (loadVar4 (X37.out.bx.box _ mm0))
end Go.Proofs.YtpadpmkfhljiiaaGreat
/- The document's Add, Sub, Mul, Div, Mod, AddMod, MulMod, their words named ahead. -/
namespace Go.Proofs.YtpadpmkfhljiiaaGreat
open Go.RowKit
theorem MM_num : ((256 ^ 32 : Nat) : Int) = MM := by decide
theorem radd_is (x y : Int) (a0 a1 a2 a3 b0 b1 b2 b3 p0 p1 p2 p3 : Int) (w : World) (ha : IsW x a0 a1 a2 a3) (hb : IsW y b0 b1 b2 b3) (hp : IsW (x + y) p0 p1 p2 p3) :
    Calls Tryz.prog 12 #[.agg #[.int .u64 a0, .int .u64 a1, .int .u64 a2, .int .u64 a3], .agg #[.int .u64 b0, .int .u64 b1, .int .u64 b2, .int .u64 b3]] w fun e w' => e = .returned (.agg #[.int .u64 p0, .int .u64 p1, .int .u64 p2, .int .u64 p3]) ∧ Below w.heap.size w w' := by
  obtain ⟨A, hA, eA, lA⟩ := mod_nat ha
  obtain ⟨B, hB, eB, lB⟩ := mod_nat hb
  exact radd_r a0 a1 a2 a3 b0 b1 b2 b3 p0 p1 p2 p3 A B (ri_of ha hA) (ri_of hb hB) (hp.cong (by rw [Int.natCast_add, eA, eB, ← Int.add_emod])) w
theorem rsub_is (x y : Int) (a0 a1 a2 a3 b0 b1 b2 b3 p0 p1 p2 p3 : Int) (w : World) (ha : IsW x a0 a1 a2 a3) (hb : IsW y b0 b1 b2 b3) (hp : IsW (x - y) p0 p1 p2 p3) :
    Calls Tryz.prog 14 #[.agg #[.int .u64 a0, .int .u64 a1, .int .u64 a2, .int .u64 a3], .agg #[.int .u64 b0, .int .u64 b1, .int .u64 b2, .int .u64 b3]] w fun e w' => e = .returned (.agg #[.int .u64 p0, .int .u64 p1, .int .u64 p2, .int .u64 p3]) ∧ Below w.heap.size w w' := by
  obtain ⟨A, hA, eA, lA⟩ := mod_nat ha
  obtain ⟨B, hB, eB, lB⟩ := mod_nat hb
  refine rsub_r a0 a1 a2 a3 b0 b1 b2 b3 p0 p1 p2 p3 A B (ri_of ha hA) (ri_of hb hB) (Nat.le_of_lt (Nat.lt_of_lt_of_le lB (Nat.le_add_left _ _))) (hp.cong ?_) w
  rw [Int.ofNat_sub (Nat.le_of_lt (Nat.lt_of_lt_of_le lB (Nat.le_add_left _ _))), Int.natCast_add, MM_num, eA, eB, Int.sub_emod x y, show x % MM + MM - y % MM = x % MM - y % MM + MM by omega, Int.add_emod_right]
theorem rmul_is (x y : Int) (a0 a1 a2 a3 b0 b1 b2 b3 p0 p1 p2 p3 : Int) (w : World) (ha : IsW x a0 a1 a2 a3) (hb : IsW y b0 b1 b2 b3) (hp : IsW (x * y) p0 p1 p2 p3) :
    Calls Tryz.prog 16 #[.agg #[.int .u64 a0, .int .u64 a1, .int .u64 a2, .int .u64 a3], .agg #[.int .u64 b0, .int .u64 b1, .int .u64 b2, .int .u64 b3]] w fun e w' => e = .returned (.agg #[.int .u64 p0, .int .u64 p1, .int .u64 p2, .int .u64 p3]) ∧ Below w.heap.size w w' := by
  obtain ⟨A, hA, eA, lA⟩ := mod_nat ha
  obtain ⟨B, hB, eB, lB⟩ := mod_nat hb
  exact rmul_r a0 a1 a2 a3 b0 b1 b2 b3 p0 p1 p2 p3 A B (ri_of ha hA) (ri_of hb hB) (hp.cong (by rw [Int.natCast_mul, eA, eB, ← Int.mul_emod])) w
theorem rdiv_is (x y : Int) (a0 a1 a2 a3 b0 b1 b2 b3 p0 p1 p2 p3 : Int) (w : World) (ha : IsW x a0 a1 a2 a3) (hb : IsW y b0 b1 b2 b3) (hp : IsW (dv (x % MM) (y % MM)) p0 p1 p2 p3) :
    Calls Tryz.prog 18 #[.agg #[.int .u64 a0, .int .u64 a1, .int .u64 a2, .int .u64 a3], .agg #[.int .u64 b0, .int .u64 b1, .int .u64 b2, .int .u64 b3]] w fun e w' => e = .returned (.agg #[.int .u64 p0, .int .u64 p1, .int .u64 p2, .int .u64 p3]) ∧ Below w.heap.size w w' := by
  obtain ⟨A, hA, eA, lA⟩ := mod_nat ha
  obtain ⟨B, hB, eB, lB⟩ := mod_nat hb
  rw [← eA, ← eB] at hp
  by_cases hz : B = 0
  · subst hz
    obtain ⟨rfl, rfl, rfl, rfl⟩ := hp.eq isW_0 (by simp [dv])
    exact rdiv_0 a0 a1 a2 a3 b0 b1 b2 b3 A 0 (ri_of ha hA) (ri_of hb hB) (by decide) w
  · exact rdiv_r a0 a1 a2 a3 b0 b1 b2 b3 p0 p1 p2 p3 A B (ri_of ha hA) (ri_of hb hB) (by simpa using hz) (by omega) (hp.cong (by rw [dv, Int.natCast_ediv])) w
theorem rmod_is (x y : Int) (a0 a1 a2 a3 b0 b1 b2 b3 p0 p1 p2 p3 : Int) (w : World) (ha : IsW x a0 a1 a2 a3) (hb : IsW y b0 b1 b2 b3) (hp : IsW (md (x % MM) (y % MM)) p0 p1 p2 p3) :
    Calls Tryz.prog 20 #[.agg #[.int .u64 a0, .int .u64 a1, .int .u64 a2, .int .u64 a3], .agg #[.int .u64 b0, .int .u64 b1, .int .u64 b2, .int .u64 b3]] w fun e w' => e = .returned (.agg #[.int .u64 p0, .int .u64 p1, .int .u64 p2, .int .u64 p3]) ∧ Below w.heap.size w w' := by
  obtain ⟨A, hA, eA, lA⟩ := mod_nat ha
  obtain ⟨B, hB, eB, lB⟩ := mod_nat hb
  rw [← eA, ← eB] at hp
  by_cases hz : B = 0
  · subst hz
    obtain ⟨rfl, rfl, rfl, rfl⟩ := hp.eq isW_0 (by simp [md])
    exact rmod_0 a0 a1 a2 a3 b0 b1 b2 b3 A 0 (ri_of ha hA) (ri_of hb hB) (by decide) w
  · exact rmod_r a0 a1 a2 a3 b0 b1 b2 b3 p0 p1 p2 p3 A B (ri_of ha hA) (ri_of hb hB) (by simpa using hz) (by omega) (hp.cong (by rw [md, if_neg (by omega), Int.natCast_emod])) w
theorem raddMod_is (x y z : Int) (a0 a1 a2 a3 b0 b1 b2 b3 c0 c1 c2 c3 p0 p1 p2 p3 : Int) (w : World) (ha : IsW x a0 a1 a2 a3) (hb : IsW y b0 b1 b2 b3) (hc : IsW z c0 c1 c2 c3) (hp : IsW (md (x % MM + y % MM) (z % MM)) p0 p1 p2 p3) :
    Calls Tryz.prog 35 #[.agg #[.int .u64 a0, .int .u64 a1, .int .u64 a2, .int .u64 a3], .agg #[.int .u64 b0, .int .u64 b1, .int .u64 b2, .int .u64 b3], .agg #[.int .u64 c0, .int .u64 c1, .int .u64 c2, .int .u64 c3]] w fun e w' => e = .returned (.agg #[.int .u64 p0, .int .u64 p1, .int .u64 p2, .int .u64 p3]) ∧ Below w.heap.size w w' := by
  obtain ⟨A, hA, eA, lA⟩ := mod_nat ha
  obtain ⟨B, hB, eB, lB⟩ := mod_nat hb
  obtain ⟨M, hM, eM, lM⟩ := mod_nat hc
  rw [← eA, ← eB, ← eM] at hp
  by_cases hz : M = 0
  · subst hz
    obtain ⟨rfl, rfl, rfl, rfl⟩ := hp.eq isW_0 (by simp [md])
    exact raddmod_0 a0 a1 a2 a3 b0 b1 b2 b3 c0 c1 c2 c3 A B 0 (ri_of ha hA) (ri_of hb hB) (ri_of hc hM) (by decide) w
  · exact raddmod_r a0 a1 a2 a3 b0 b1 b2 b3 c0 c1 c2 c3 p0 p1 p2 p3 A B M (ri_of ha hA) (ri_of hb hB) (ri_of hc hM) (by simpa using hz) (by omega) (hp.cong (by rw [md, if_neg (by omega), Int.natCast_emod, Int.natCast_add])) w
theorem rmulMod_is (x y z : Int) (a0 a1 a2 a3 b0 b1 b2 b3 c0 c1 c2 c3 p0 p1 p2 p3 : Int) (w : World) (ha : IsW x a0 a1 a2 a3) (hb : IsW y b0 b1 b2 b3) (hc : IsW z c0 c1 c2 c3) (hp : IsW (md ((x % MM) * (y % MM)) (z % MM)) p0 p1 p2 p3) :
    Calls Tryz.prog 37 #[.agg #[.int .u64 a0, .int .u64 a1, .int .u64 a2, .int .u64 a3], .agg #[.int .u64 b0, .int .u64 b1, .int .u64 b2, .int .u64 b3], .agg #[.int .u64 c0, .int .u64 c1, .int .u64 c2, .int .u64 c3]] w fun e w' => e = .returned (.agg #[.int .u64 p0, .int .u64 p1, .int .u64 p2, .int .u64 p3]) ∧ Below w.heap.size w w' := by
  obtain ⟨A, hA, eA, lA⟩ := mod_nat ha
  obtain ⟨B, hB, eB, lB⟩ := mod_nat hb
  obtain ⟨M, hM, eM, lM⟩ := mod_nat hc
  rw [← eA, ← eB, ← eM] at hp
  by_cases hz : M = 0
  · subst hz
    obtain ⟨rfl, rfl, rfl, rfl⟩ := hp.eq isW_0 (by simp [md])
    exact rmulmod_0 a0 a1 a2 a3 b0 b1 b2 b3 c0 c1 c2 c3 A B 0 (ri_of ha hA) (ri_of hb hB) (ri_of hc hM) (by decide) w
  · exact rmulmod_r a0 a1 a2 a3 b0 b1 b2 b3 c0 c1 c2 c3 p0 p1 p2 p3 A B M (ri_of ha hA) (ri_of hb hB) (ri_of hc hM) (by simpa using hz) (by omega) (hp.cong (by rw [md, if_neg (by omega), Int.natCast_emod, Int.natCast_mul])) w
end Go.Proofs.YtpadpmkfhljiiaaGreat
/- What AddMod and MulMod need beside: a product's parts named ahead, new rows of eight. -/
namespace Go.Proofs.YtpadpmkfhljiiaaGreat
open Go.RowKit
theorem Bx.cells {w W : World} {l : List (Nat × Int × Int × Int × Int)} (h : Bx w l W) (c o : Nat) (vs : List Value) (hw : w.heap.size ≤ c) (hc : ∀ p ∈ l, p.1 ≠ c) : Bx w l (W.setCells c o vs) :=
  ⟨below_setCells c hw vs o W h.bel, h.low, fun p hp => Box.set_others (fun e => hc p hp e.symm) vs o (h.box p hp)⟩
theorem Bx.setc {w W : World} {l : List (Nat × Int × Int × Int × Int)} (h : Bx w l W) (c o : Nat) (x : Value) (hw : w.heap.size ≤ c) (hc : ∀ p ∈ l, p.1 ≠ c) : Bx w l (W.setCell ⟨c, o, none⟩ x) := h.cells c o [x] hw hc
theorem Bx.fresh {w W : World} {l : List (Nat × Int × Int × Int × Int)} (h : Bx w l W) : ∀ p ∈ l, p.1 ≠ W.heap.size := fun p hp e => by have := h.lt p hp; omega
/-- a new row of eight, and what is laid into it -/
theorem new8 {ops : Array Oper} {rest : List Oper} {op1 op2 : Oper} {a : Act} {w : World} {Q : Exit → Act → World → Prop} (z : Nat → Int) (p : Tmp) (y : Operand) (hg1 : op1.guard = none) (ho1 : op1.op = .alloc 69) (hd : op1.dst = some p) (hg2 : op2.guard = none) (ho2 : op2.op = .store 69 (.tmp p) y)
    (hx : (a.put (some p) (.pointer (some ⟨w.heap.size, 0, none⟩))).eval (.tmp p) = .pointer (some ⟨w.heap.size, 0, none⟩)) (hy : (a.put (some p) (.pointer (some ⟨w.heap.size, 0, none⟩))).eval y = .agg (rowL 8 z).toArray)
    (h : ∀ W', Below w.heap.size w W' → Row W' w.heap.size 8 z → wpList Tryz.prog ops Q rest ((a.put (some p) (.pointer (some ⟨w.heap.size, 0, none⟩))).put op2.dst undef) W') : wpList Tryz.prog ops Q (op1 :: op2 :: rest) a w := by
  have hr : (execOp a.eval op1).run Tryz.prog w = .ok (.value (.pointer (some ⟨w.heap.size, 0, none⟩))) (w.alloc (.cells (rowL 8 fun _ => 0).toArray 69)) := by
    unfold execOp
    simp only [ho1]
    kernel_rfl
  refine wpList_plain hg1 fun K hK => ?_
  unfold Oper.wp
  rw [hr, Oper.upon_value, hd]
  refine hK _ _ ?_
  have hR := Row.new w 69 8 (fun _ => 0)
  refine store8 z w.heap.size hg2 _ _ ho2 hx hy hR.there ?_
  exact h _ (below_setCells _ (Nat.le_refl _) _ _ _ ((Below.refl _ _).alloc (Nat.le_refl _) _)) (Row.of_range hR)
/-- a new row of eight and a new word, and what is laid into them -/
theorem new84 {ops : Array Oper} {rest : List Oper} {op1 op2 op3 op4 : Oper} {a : Act} {w : World} {Q : Exit → Act → World → Prop} (z : Nat → Int) (s0 s1 s2 s3 : Int) (p q : Tmp) (y x : Operand)
    (hg1 : op1.guard = none) (ho1 : op1.op = .alloc 69) (hd1 : op1.dst = some p) (hg2 : op2.guard = none) (ho2 : op2.op = .alloc 24) (hd2 : op2.dst = some q)
    (hg3 : op3.guard = none) (ho3 : op3.op = .store 69 (.tmp p) y) (hg4 : op4.guard = none) (ho4 : op4.op = .store 24 (.tmp q) x)
    (hx1 : ((a.put (some p) (.pointer (some ⟨w.heap.size, 0, none⟩))).put (some q) (.pointer (some ⟨w.heap.size + 1, 0, none⟩))).eval (.tmp p) = .pointer (some ⟨w.heap.size, 0, none⟩))
    (hy1 : ((a.put (some p) (.pointer (some ⟨w.heap.size, 0, none⟩))).put (some q) (.pointer (some ⟨w.heap.size + 1, 0, none⟩))).eval y = .agg (rowL 8 z).toArray)
    (hx2 : (((a.put (some p) (.pointer (some ⟨w.heap.size, 0, none⟩))).put (some q) (.pointer (some ⟨w.heap.size + 1, 0, none⟩))).put op3.dst undef).eval (.tmp q) = .pointer (some ⟨w.heap.size + 1, 0, none⟩))
    (hy2 : (((a.put (some p) (.pointer (some ⟨w.heap.size, 0, none⟩))).put (some q) (.pointer (some ⟨w.heap.size + 1, 0, none⟩))).put op3.dst undef).eval x = .agg #[.int .u64 s0, .int .u64 s1, .int .u64 s2, .int .u64 s3])
    (h : ∀ W', Below w.heap.size w W' → Row W' w.heap.size 8 z → Box W' (w.heap.size + 1) s0 s1 s2 s3 → wpList Tryz.prog ops Q rest ((((a.put (some p) (.pointer (some ⟨w.heap.size, 0, none⟩))).put (some q) (.pointer (some ⟨w.heap.size + 1, 0, none⟩))).put op3.dst undef).put op4.dst undef) W') : wpList Tryz.prog ops Q (op1 :: op2 :: op3 :: op4 :: rest) a w := by
  have hr : (execOp a.eval op1).run Tryz.prog w = .ok (.value (.pointer (some ⟨w.heap.size, 0, none⟩))) (w.alloc (.cells (rowL 8 fun _ => 0).toArray 69)) := by
    unfold execOp
    simp only [ho1]
    kernel_rfl
  have hr2 : ∀ (b : Act) (W : World), (execOp b.eval op2).run Tryz.prog W = .ok (.value (.pointer (some ⟨W.heap.size, 0, none⟩))) (W.alloc (.cells #[.int .u64 0, .int .u64 0, .int .u64 0, .int .u64 0] 24)) := fun b W => by
    unfold execOp
    simp only [ho2]
    kernel_rfl
  refine wpList_plain hg1 fun K hK => ?_
  unfold Oper.wp
  rw [hr, Oper.upon_value, hd1]
  refine hK _ _ ?_
  refine wpList_plain hg2 fun K hK => ?_
  unfold Oper.wp
  rw [hr2, Oper.upon_value, hd2, World.size_alloc]
  refine hK _ _ ?_
  have hR := (Row.new w 69 8 (fun _ => 0)).alloc (.cells #[.int .u64 0, .int .u64 0, .int .u64 0, .int .u64 0] 24)
  have hB := Box.new (w.alloc (.cells (rowL 8 fun _ => 0).toArray 69)) 24 0 0 0 0
  rw [World.size_alloc] at hB
  refine store8 z w.heap.size hg3 _ _ ho3 hx1 hy1 hR.there ?_
  have hR2 := Row.of_range (v := z) hR
  have hB2 := Box.set_others (c := w.heap.size) (by omega) (rowL 8 z) 0 hB
  have hL : Below w.heap.size w (((w.alloc (.cells (rowL 8 fun _ => 0).toArray 69)).alloc (.cells #[.int .u64 0, .int .u64 0, .int .u64 0, .int .u64 0] 24)).setCells w.heap.size 0 (rowL 8 z)) := below_setCells _ (Nat.le_refl _) _ _ _ (((Below.refl _ _).alloc (Nat.le_refl _) _).alloc (by simp) _)
  generalize ((w.alloc (.cells (rowL 8 fun _ => 0).toArray 69)).alloc (.cells #[.int .u64 0, .int .u64 0, .int .u64 0, .int .u64 0] 24)).setCells w.heap.size 0 (rowL 8 z) = g at hR2 hB2 hL ⊢
  refine wpList_store_mid hg4 24 _ _ ho4 (w.heap.size + 1) 0 #[.int .u64 s0, .int .u64 s1, .int .u64 s2, .int .u64 s3] hx2 hy2 (fun j hj => ?_) (by kernel_rfl) (by kernel_rfl) ?_
  · rw [Nat.zero_add]
    exact ⟨by rw [hB2.1 j hj]; rfl, hB2.2 j hj⟩
  · exact h _ (below_setCells _ (by omega) _ _ _ hL) (Row.set_others (by omega) _ 0 hR2) (Box.put hB2 s0 s1 s2 s3)
theorem product_is (x y : Int) (a0 a1 a2 a3 b0 b1 b2 b3 p0 p1 p2 p3 q0 q1 q2 q3 : Int) (w : World) (ha : IsW x a0 a1 a2 a3) (hb : IsW y b0 b1 b2 b3) (hp : IsW ((x % MM) * (y % MM)) p0 p1 p2 p3) (hq : IsW ((x % MM) * (y % MM) / MM) q0 q1 q2 q3) :
    Calls Tryz.prog 84 #[.agg #[.int .u64 a0, .int .u64 a1, .int .u64 a2, .int .u64 a3], .agg #[.int .u64 b0, .int .u64 b1, .int .u64 b2, .int .u64 b3]] w fun e w' => e = .returned (.agg (rowL 8 (oct p0 p1 p2 p3 q0 q1 q2 q3)).toArray) ∧ Below w.heap.size w w' := by
  refine (product_any _ _ _ _ _ _ _ _ w ha.u0 ha.u1 ha.u2 ha.u3 hb.u0 hb.u1 hb.u2 hb.u3).mono ?_
  rintro e w1 ⟨s0, s1, s2, s3, s4, s5, s6, s7, rfl, ⟨u0, u1, u2, u3, u4, u5, u6, u7⟩, hp8, hB⟩
  have hm := MM_pos
  rw [ha.2, hb.2, V8] at hp8
  have r1 := V_range u0 u1 u2 u3
  have r2 := V_range u4 u5 u6 u7
  have e1 : IsW ((x % MM) * (y % MM)) s0 s1 s2 s3 := isW_of u0 u1 u2 u3 _ hp8
  have e2 : IsW ((x % MM) * (y % MM) / MM) s4 s5 s6 s7 := by
    rw [hp8, Int.add_mul_ediv_left _ _ (by omega), Int.ediv_eq_zero_of_lt r1.1 r1.2, Int.zero_add]
    exact isW_mk u4 u5 u6 u7
  obtain ⟨rfl, rfl, rfl, rfl⟩ := hp.eq e1 rfl
  obtain ⟨rfl, rfl, rfl, rfl⟩ := hq.eq e2 rfl
  exact ⟨by rw [oct_row], hB⟩
end Go.Proofs.YtpadpmkfhljiiaaGreat
/- AddMod, its word named ahead. -/
namespace Go.Proofs.YtpadpmkfhljiiaaGreat
open Go.RowKit
theorem oct_set (s0 s1 s2 s3 c : Int) : (fun i => if i = 4 then c else oct s0 s1 s2 s3 0 0 0 0 i) = oct s0 s1 s2 s3 c 0 0 0 := by
  funext i
  unfold oct
  by_cases h : i = 4
  · subst h; simp
  · rw [if_neg h]; simp [h]
set_option maxHeartbeats 2000000 in
set_option maxRecDepth 100000 in
theorem addMod_is (x y z : Int) (a0 a1 a2 a3 b0 b1 b2 b3 c0 c1 c2 c3 p0 p1 p2 p3 : Int) (w : World) (ha : IsW x a0 a1 a2 a3) (hb : IsW y b0 b1 b2 b3) (hc : IsW z c0 c1 c2 c3) (hp : IsW (md (x % MM + y % MM) (z % MM)) p0 p1 p2 p3) :
    Calls Tryz.prog 34 #[.agg #[.int .u64 a0, .int .u64 a1, .int .u64 a2, .int .u64 a3], .agg #[.int .u64 b0, .int .u64 b1, .int .u64 b2, .int .u64 b3], .agg #[.int .u64 c0, .int .u64 c1, .int .u64 c2, .int .u64 c3]] w fun e w' => e = .returned (.agg #[.int .u64 p0, .int .u64 p1, .int .u64 p2, .int .u64 p3]) ∧ Below w.heap.size w w' := by
  have HA : Hid (IsW x a0 a1 a2 a3) := ha
  have HB : Hid (IsW y b0 b1 b2 b3) := hb
  have HC : Hid (IsW z c0 c1 c2 c3) := hc
  have HP : Hid (IsW (md (x % MM + y % MM) (z % MM)) p0 p1 p2 p3) := hp
  clear ha hb hc hp
  go_enter Tryz.func34, Tryz.ntmps34
  go_upto_region 1 with fail
  have X1 : Hid (Bx w [(w.heap.size + 1 + 1 + 1, 0, 0, 0, 0), (w.heap.size + 1 + 1, c0, c1, c2, c3), (w.heap.size + 1, b0, b1, b2, b3), (w.heap.size, a0, a1, a2, a3)] ((((w.alloc (.cells #[.int .u64 a0, .int .u64 a1, .int .u64 a2, .int .u64 a3] 24)).alloc (.cells #[.int .u64 b0, .int .u64 b1, .int .u64 b2, .int .u64 b3] 24)).alloc (.cells #[.int .u64 c0, .int .u64 c1, .int .u64 c2, .int .u64 c3] 24)).alloc (.cells #[.int .u64 0, .int .u64 0, .int .u64 0, .int .u64 0] 24))) := by
    have h := ((((Bx.start w).alloc a0 a1 a2 a3).alloc b0 b1 b2 b3).alloc c0 c1 c2 c3).alloc 0 0 0 0
    simp only [World.size_alloc] at h
    exact h
  generalize ((((w.alloc (.cells #[.int .u64 a0, .int .u64 a1, .int .u64 a2, .int .u64 a3] 24)).alloc (.cells #[.int .u64 b0, .int .u64 b1, .int .u64 b2, .int .u64 b3] 24)).alloc (.cells #[.int .u64 c0, .int .u64 c1, .int .u64 c2, .int .u64 c3] 24)).alloc (.cells #[.int .u64 0, .int .u64 0, .int .u64 0, .int .u64 0] 24)) = g1 at X1 ⊢
  obtain ⟨e0, e1, e2, e3, _⟩ := X1.out.f0 mm2
  obtain ⟨d0, d1, d2, d3, _⟩ := X1.out.f0 mm3
  go_upto_region 2 with (go_at_call 76; refine (addCarry_any x y _ _ _ _ _ _ _ _ _ HA.out HB.out).mono ?_; rintro e g2 ⟨s0, s1, s2, s3, k, rfl, hs, hk, k0, k1, hB⟩; (have X2 := X1.out.past hB); (have HS : Hid (IsW (x + y) s0 s1 s2 s3 ∧ V a0 a1 a2 a3 + V b0 b1 b2 b3 = V s0 s1 s2 s3 + MM * k ∧ 0 ≤ k ∧ k ≤ 1) := ⟨hs, hk, k0, k1⟩); clear hB hs hk)
  have X3 : Hid _ := X2.alloc s0 s1 s2 s3
  generalize g2.alloc (.cells #[.int .u64 s0, .int .u64 s1, .int .u64 s2, .int .u64 s3] 24) = g3 at X3 ⊢
  generalize g2.heap.size = bs at X3 ⊢
  clear X1 X2 e0 e1 e2 e3 d0 d1 d2 d3
  obtain ⟨e0, e1, e2, e3, _⟩ := X3.out.f0 mm0
  go_upto_region 3 with (first
    | (go_at_call 87; refine (widen_is s0 s1 s2 s3 _).mono ?_; rintro e g4 ⟨rfl, hB⟩; (have X4 := X3.out.past hB); clear hB)
    | (refine new8 (oct s0 s1 s2 s3 0 0 0 0) _ _ rfl rfl rfl rfl rfl rfl rfl ?_; intro g5 hB5 hR5; (have X5 : Hid _ := X4.past hB5); (have R5 : Hid (Row g5 g4.heap.size 8 (oct s0 s1 s2 s3 0 0 0 0)) := hR5); (have F5 : Hid _ := X4.fresh); (have L5 : Hid (w.heap.size ≤ g4.heap.size) := X4.bel.size); clear hB5 hR5))
  clear X3 X4 e0 e1 e2 e3
  generalize g4.heap.size = bw at R5 F5 L5 ⊢
  have c4 := (R5.out 4 (by omega)).1
  have f4 := (R5.out 4 (by omega)).2
  go_upto_region 4 with fail
  have X6 : Hid _ := X5.out.setc bw 4 (.int .u64 k) L5.out F5.out
  have R6 : Hid (Row (g5.setCell ⟨bw, 4, none⟩ (.int .u64 k)) bw 8 (oct s0 s1 s2 s3 k 0 0 0)) := by
    have h := R5.out.set 4 k
    rw [oct_set] at h; exact h
  generalize g5.setCell ⟨bw, 4, none⟩ (.int .u64 k) = g6 at X6 R6 ⊢
  clear X5 R5 c4 f4
  have DV : Hid (∀ W : World, Calls Tryz.prog 86 #[.agg (rowL 8 (oct s0 s1 s2 s3 k 0 0 0)).toArray, .agg #[.int .u64 c0, .int .u64 c1, .int .u64 c2, .int .u64 c3]] W fun e w' => DR (x % MM + y % MM) (z % MM) p0 p1 p2 p3 e ∧ Below W.heap.size W w') := fun W => by
    obtain ⟨hs, hk, k0, k1⟩ := HS.out
    refine divide_p _ _ z c0 c1 c2 c3 p0 p1 p2 p3 (oct_u64 hs.u0 hs.u1 hs.u2 hs.u3 ⟨k0, by unfold Bd; omega⟩ u64_0 u64_0 u64_0) ?_ HC.out HP.out W
    rw [oct_nv, ← HA.out.2, ← HB.out.2, hk]; simp [V]
  obtain ⟨e0, e1, e2, e3, _⟩ := X6.out.f0 mm2
  go_upto_region 4 with fail
  refine wp_region_lit ?_
  refine load8 (oct s0 s1 s2 s3 k 0 0 0) bw rfl _ rfl rfl (Row.range R6.out) ?_
  go_upto_region 5 with (first
    | (go_at_call 86; refine (DV.out _).mono ?_; rintro e g7 ⟨⟨q, rfl, hq⟩, hB⟩; (have X7 := X6.out.past hB); clear hB)
    | (refine new84 q p0 p1 p2 p3 _ _ _ _ rfl rfl rfl rfl rfl rfl rfl rfl rfl rfl rfl rfl rfl rfl ?_; intro g8 hB8 hR8 hP8; (have X8 : Hid _ := X7.past hB8); (have P8 : Hid (Box g8 (g7.heap.size + 1) p0 p1 p2 p3) := hP8); (have L8 : Hid (g7.heap.size < g8.heap.size) := Row.lt hR8 (by omega)); clear hB8 hR8 hP8))
  obtain ⟨f0, f1, f2, f3, _⟩ := Box.facts P8.out
  obtain ⟨r0, r1, r2, r3, t0, t1, t2, t3⟩ := X8.out.f0 mm1
  clear X6 R6 DV X7 e0 e1 e2 e3
  go_wp2
  refine bodyPost_ret (v := .agg #[.int .u64 p0, .int .u64 p1, .int .u64 p2, .int .u64 p3]) ?_ rfl ⟨rfl, below_put X8.out.bel (by omega) p0 p1 p2 p3⟩
  exact results_c Tryz.results34 _ _ _ ⟨w.heap.size + 1 + 1 + 1, 0, none⟩ rfl (loadVar4 (Box.put (X8.out.box _ mm1) p0 p1 p2 p3))
end Go.Proofs.YtpadpmkfhljiiaaGreat
