/- Plain arithmetic of 256-bit words as four limbs of 64 bits: no condition, no Go text. -/
import Derived.Below
import Derived.Laws.BitsAllLaws
namespace Go.Proofs.YtbjijbgjnammhaaDoor.Wds
open Go.RowKit

/-- 2^64 and 2^256. -/
def Bd : Int := 18446744073709551616
def MM : Int := 115792089237316195423570985008687907853269984665640564039457584007913129639936
def U64 (x : Int) : Prop := 0 ≤ x ∧ x < Bd
/-- the number of four limbs, the lowest first -/
def V (a0 a1 a2 a3 : Int) : Int := a0 + Bd * (a1 + Bd * (a2 + Bd * a3))
/-- these four limbs are the word of the number v, modulo 2^256 -/
def IsW (v a0 a1 a2 a3 : Int) : Prop := (U64 a0 ∧ U64 a1 ∧ U64 a2 ∧ U64 a3) ∧ V a0 a1 a2 a3 = v % MM

theorem MM_pos : 0 < MM := by unfold MM; omega
theorem V_range {a0 a1 a2 a3 : Int} (h0 : U64 a0) (h1 : U64 a1) (h2 : U64 a2) (h3 : U64 a3) : 0 ≤ V a0 a1 a2 a3 ∧ V a0 a1 a2 a3 < MM := by
  unfold V U64 Bd MM at *; omega
theorem isW_mk {a0 a1 a2 a3 : Int} (h0 : U64 a0) (h1 : U64 a1) (h2 : U64 a2) (h3 : U64 a3) : IsW (V a0 a1 a2 a3) a0 a1 a2 a3 :=
  ⟨⟨h0, h1, h2, h3⟩, (Int.emod_eq_of_lt (V_range h0 h1 h2 h3).1 (V_range h0 h1 h2 h3).2).symm⟩
theorem isW_of {v a0 a1 a2 a3 : Int} (h0 : U64 a0) (h1 : U64 a1) (h2 : U64 a2) (h3 : U64 a3) (q : Int) (h : v = V a0 a1 a2 a3 + MM * q) : IsW v a0 a1 a2 a3 :=
  ⟨⟨h0, h1, h2, h3⟩, by rw [h, Int.add_mul_emod_self_left]; exact (Int.emod_eq_of_lt (V_range h0 h1 h2 h3).1 (V_range h0 h1 h2 h3).2).symm⟩
theorem IsW.u0 {v a0 a1 a2 a3 : Int} (h : IsW v a0 a1 a2 a3) : U64 a0 := h.1.1
theorem IsW.u1 {v a0 a1 a2 a3 : Int} (h : IsW v a0 a1 a2 a3) : U64 a1 := h.1.2.1
theorem IsW.u2 {v a0 a1 a2 a3 : Int} (h : IsW v a0 a1 a2 a3) : U64 a2 := h.1.2.2.1
theorem IsW.u3 {v a0 a1 a2 a3 : Int} (h : IsW v a0 a1 a2 a3) : U64 a3 := h.1.2.2.2
theorem IsW.val {v a0 a1 a2 a3 : Int} (h : IsW v a0 a1 a2 a3) : V a0 a1 a2 a3 = v % MM := h.2
theorem IsW.range {v a0 a1 a2 a3 : Int} (h : IsW v a0 a1 a2 a3) : 0 ≤ V a0 a1 a2 a3 ∧ V a0 a1 a2 a3 < MM := V_range h.u0 h.u1 h.u2 h.u3
/-- the number may be told by any of its residues -/
theorem IsW.cong {v u a0 a1 a2 a3 : Int} (h : IsW v a0 a1 a2 a3) (e : v % MM = u % MM) : IsW u a0 a1 a2 a3 := ⟨h.1, h.2.trans e⟩
theorem IsW.self {v a0 a1 a2 a3 : Int} (h : IsW v a0 a1 a2 a3) : IsW (V a0 a1 a2 a3) a0 a1 a2 a3 := isW_mk h.u0 h.u1 h.u2 h.u3
theorem IsW.small {v a0 a1 a2 a3 : Int} (h : IsW v a0 a1 a2 a3) (h0 : 0 ≤ v) (h1 : v < MM) : V a0 a1 a2 a3 = v := h.2.trans (Int.emod_eq_of_lt h0 h1)
/-- limbs are told by the number -/
theorem V_inj {a0 a1 a2 a3 b0 b1 b2 b3 : Int} (ha0 : U64 a0) (ha1 : U64 a1) (ha2 : U64 a2) (_ha3 : U64 a3) (hb0 : U64 b0) (hb1 : U64 b1) (hb2 : U64 b2) (_hb3 : U64 b3)
    (h : V a0 a1 a2 a3 = V b0 b1 b2 b3) : a0 = b0 ∧ a1 = b1 ∧ a2 = b2 ∧ a3 = b3 := by
  unfold V U64 Bd at *; omega
theorem IsW.eq {u v a0 a1 a2 a3 b0 b1 b2 b3 : Int} (h : IsW u a0 a1 a2 a3) (k : IsW v b0 b1 b2 b3) (e : u % MM = v % MM) : a0 = b0 ∧ a1 = b1 ∧ a2 = b2 ∧ a3 = b3 :=
  V_inj h.u0 h.u1 h.u2 h.u3 k.u0 k.u1 k.u2 k.u3 (by rw [h.2, k.2, e])
theorem IsW.ne {u v a0 a1 a2 a3 b0 b1 b2 b3 : Int} (h : IsW u a0 a1 a2 a3) (k : IsW v b0 b1 b2 b3) (e : u % MM ≠ v % MM) : ¬ (a0 = b0 ∧ a1 = b1 ∧ a2 = b2 ∧ a3 = b3) := by
  rintro ⟨rfl, rfl, rfl, rfl⟩; exact e (h.2.symm.trans k.2)
/-- the equality of two words, as the walk takes it -/
def eqw (a0 a1 a2 a3 b0 b1 b2 b3 : Int) : Bool := (a0 == b0 && (a1 == b1 && (a2 == b2 && a3 == b3)))
theorem eqw_iff (a0 a1 a2 a3 b0 b1 b2 b3 : Int) : eqw a0 a1 a2 a3 b0 b1 b2 b3 = true ↔ (a0 = b0 ∧ a1 = b1 ∧ a2 = b2 ∧ a3 = b3) := by
  simp [eqw]
theorem IsW.eqw {u v a0 a1 a2 a3 b0 b1 b2 b3 : Int} (h : IsW u a0 a1 a2 a3) (k : IsW v b0 b1 b2 b3) : eqw a0 a1 a2 a3 b0 b1 b2 b3 = decide (u % MM = v % MM) := by
  by_cases e : u % MM = v % MM
  · rw [(eqw_iff ..).2 (h.eq k e)]; simp [e]
  · have := h.ne k e
    rw [← eqw_iff] at this
    simp [e, this]
theorem IsW.eqt {u v a0 a1 a2 a3 b0 b1 b2 b3 : Int} (h : IsW u a0 a1 a2 a3) (k : IsW v b0 b1 b2 b3) (e : u % MM = v % MM) : YtbjijbgjnammhaaDoor.Wds.eqw a0 a1 a2 a3 b0 b1 b2 b3 = true := by rw [h.eqw k]; simp [e]
theorem IsW.eqf {u v a0 a1 a2 a3 b0 b1 b2 b3 : Int} (h : IsW u a0 a1 a2 a3) (k : IsW v b0 b1 b2 b3) (e : u % MM ≠ v % MM) : YtbjijbgjnammhaaDoor.Wds.eqw a0 a1 a2 a3 b0 b1 b2 b3 = false := by rw [h.eqw k]; simp [e]
theorem u64_lit (n : Int) (h0 : 0 ≤ n) (h1 : n < 18446744073709551616) : U64 n := ⟨h0, h1⟩
theorem isW_lit (n : Int) (h0 : 0 ≤ n) (h1 : n < 18446744073709551616) : IsW n n 0 0 0 :=
  isW_of (u64_lit n h0 h1) (u64_lit 0 (by omega) (by omega)) (u64_lit 0 (by omega) (by omega)) (u64_lit 0 (by omega) (by omega)) 0 (by unfold V Bd MM; omega)
theorem isW_0 : IsW 0 0 0 0 0 := isW_lit 0 (by omega) (by omega)
theorem isW_1 : IsW 1 1 0 0 0 := isW_lit 1 (by omega) (by omega)
theorem isW_2 : IsW 2 2 0 0 0 := isW_lit 2 (by omega) (by omega)
theorem isW_4 : IsW 4 4 0 0 0 := isW_lit 4 (by omega) (by omega)
/-- the order of two words, limb by limb from the highest -/
def cmpw (a0 a1 a2 a3 b0 b1 b2 b3 : Int) : Int :=
  if a3 < b3 then -1 else if b3 < a3 then 1 else if a2 < b2 then -1 else if b2 < a2 then 1 else if a1 < b1 then -1 else if b1 < a1 then 1 else if a0 < b0 then -1 else if b0 < a0 then 1 else 0
def cmpv (x y : Int) : Int := if x < y then -1 else if y < x then 1 else 0
theorem cmpw_eq {a0 a1 a2 a3 b0 b1 b2 b3 : Int} (ha0 : U64 a0) (ha1 : U64 a1) (ha2 : U64 a2) (_ha3 : U64 a3) (hb0 : U64 b0) (hb1 : U64 b1) (hb2 : U64 b2) (_hb3 : U64 b3) :
    cmpw a0 a1 a2 a3 b0 b1 b2 b3 = cmpv (V a0 a1 a2 a3) (V b0 b1 b2 b3) := by
  unfold cmpw cmpv V U64 Bd at *; repeat' split
  all_goals omega
theorem cmpv_lt (x y : Int) : decide (cmpv x y < 0) = decide (x < y) := by
  unfold cmpv; rw [decide_eq_decide]; repeat' split
  all_goals omega
theorem cmpv_gt (x y : Int) : decide (0 < cmpv x y) = decide (y < x) := by
  unfold cmpv; rw [decide_eq_decide]; repeat' split
  all_goals omega
theorem IsW.neg {x a0 a1 a2 a3 : Int} (h : IsW x a0 a1 a2 a3) : (a3 / 9223372036854775808 == 1) = decide (MM / 2 ≤ x % MM) := by
  obtain ⟨⟨h0, h1, h2, h3⟩, e⟩ := h
  rw [← e, Bool.eq_iff_iff]
  unfold U64 V Bd MM at *
  simp only [beq_iff_eq, decide_eq_true_eq]
  omega
theorem nat_flip (a : Nat) (h : a < 18446744073709551616) : a ^^^ 9223372036854775808 = (9223372036854775808 + a) % 18446744073709551616 := by
  apply Nat.eq_of_testBit_eq
  intro i
  have e63 : (9223372036854775808 : Nat) = 2 ^ 63 := by decide
  have e64 : (18446744073709551616 : Nat) = 2 ^ 64 := by decide
  rw [e63, e64, Nat.testBit_xor, Nat.testBit_mod_two_pow, Nat.testBit_two_pow]
  rcases Nat.lt_trichotomy i 63 with c | c | c
  · rw [Nat.testBit_two_pow_add_gt c]
    have : ¬ 63 = i := by omega
    simp [this]; omega
  · subst c
    rw [Nat.testBit_two_pow_add_eq]; simp
  · have h1 : a.testBit i = false := Nat.testBit_lt_two_pow (Nat.lt_of_lt_of_le h (by rw [e64]; exact Nat.pow_le_pow_right (by decide) (by omega)))
    have h2 : ¬ i < 64 := by omega
    have h3 : ¬ 63 = i := by omega
    simp [h1, h2, h3]
theorem isW_add {x y a0 a1 a2 a3 b0 b1 b2 b3 s0 s1 s2 s3 c : Int} (h : IsW x a0 a1 a2 a3) (k : IsW y b0 b1 b2 b3) (h0 : U64 s0) (h1 : U64 s1) (h2 : U64 s2) (h3 : U64 s3)
    (e : V a0 a1 a2 a3 + V b0 b1 b2 b3 = V s0 s1 s2 s3 + MM * c) : IsW (x + y) s0 s1 s2 s3 := by
  refine ⟨⟨h0, h1, h2, h3⟩, ?_⟩
  rw [Int.add_emod, ← h.2, ← k.2, e, Int.add_mul_emod_self_left, Int.emod_eq_of_lt (V_range h0 h1 h2 h3).1 (V_range h0 h1 h2 h3).2]
theorem isW_sub {x y a0 a1 a2 a3 b0 b1 b2 b3 s0 s1 s2 s3 c : Int} (h : IsW x a0 a1 a2 a3) (k : IsW y b0 b1 b2 b3) (h0 : U64 s0) (h1 : U64 s1) (h2 : U64 s2) (h3 : U64 s3)
    (e : V a0 a1 a2 a3 - V b0 b1 b2 b3 = V s0 s1 s2 s3 + MM * c) : IsW (x - y) s0 s1 s2 s3 := by
  refine ⟨⟨h0, h1, h2, h3⟩, ?_⟩
  rw [Int.sub_emod, ← h.2, ← k.2, e, Int.add_mul_emod_self_left, Int.emod_eq_of_lt (V_range h0 h1 h2 h3).1 (V_range h0 h1 h2 h3).2]
/-- a chain of carries -/
theorem carry4 {a0 a1 a2 a3 b0 b1 b2 b3 s0 s1 s2 s3 c1 c2 c3 c4 : Int} (e0 : a0 + b0 + 0 = s0 + Bd * c1) (e1 : a1 + b1 + c1 = s1 + Bd * c2) (e2 : a2 + b2 + c2 = s2 + Bd * c3) (e3 : a3 + b3 + c3 = s3 + Bd * c4) :
    V a0 a1 a2 a3 + V b0 b1 b2 b3 = V s0 s1 s2 s3 + MM * c4 := by
  unfold V Bd MM at *; omega
theorem borrow4 {a0 a1 a2 a3 b0 b1 b2 b3 s0 s1 s2 s3 c1 c2 c3 c4 : Int} (e0 : a0 - b0 - 0 = s0 - Bd * c1) (e1 : a1 - b1 - c1 = s1 - Bd * c2) (e2 : a2 - b2 - c2 = s2 - Bd * c3) (e3 : a3 - b3 - c3 = s3 - Bd * c4) :
    V a0 a1 a2 a3 - V b0 b1 b2 b3 = V s0 s1 s2 s3 + MM * (- c4) := by
  unfold V Bd MM at *; omega
theorem flip_u64 {a : Int} (h : U64 a) : bits .xor .u64 a 9223372036854775808 = (a + 9223372036854775808) % 18446744073709551616 := by
  unfold U64 Bd at h
  rw [u64_xor a 9223372036854775808 h.1 h.2 (by omega) (by omega)]
  have := nat_flip a.toNat (by omega)
  rw [show (9223372036854775808 : Int).toNat = 9223372036854775808 from rfl, this]
  omega
theorem IsW.flip {x a0 a1 a2 a3 : Int} (h : IsW x a0 a1 a2 a3) : IsW (x + MM / 2) a0 a1 a2 (bits .xor .u64 a3 9223372036854775808) := by
  rw [flip_u64 h.u3]
  obtain ⟨⟨h0, h1, h2, h3⟩, e⟩ := h
  refine ⟨⟨h0, h1, h2, ?_⟩, ?_⟩
  · unfold U64 Bd at *; omega
  · unfold U64 V Bd MM at *; omega
end Go.Proofs.YtbjijbgjnammhaaDoor.Wds
