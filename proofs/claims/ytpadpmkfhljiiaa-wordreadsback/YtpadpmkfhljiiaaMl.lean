/- Parse, Hex and Text of word, with their answers named ahead. -/
import Derived.Test.YtpadpmkfhljiiaaMf
import Derived.Test.YtpadpmkfhljiiaaMg
namespace Go.Proofs.Ytpadpmkfhljiiaa
open Go.RowKit
theorem ndig_ex {B N : Nat} : ∀ m, 0 < m → N / B ^ m = 0 → ∃ n, NDig B N n := by
  intro m
  induction m using Nat.strongRecOn with
  | _ m ih =>
    intro h0 hm
    by_cases h : ∀ j, 0 < j → j < m → N / B ^ j ≠ 0
    · exact ⟨m, h0, hm, h⟩
    · obtain ⟨j, hj⟩ := Classical.not_forall.1 h
      rw [Classical.not_imp, Classical.not_imp] at hj
      exact ih j hj.2.1 hj.1 (Classical.not_not.1 hj.2.2)
theorem ndig_le {B N n : Nat} (h : NDig B N n) (hB : 10 ≤ B) (hN : N < 10 ^ 78) : n ≤ 78 := Classical.byContradiction fun h2 =>
  h.2.2 78 (by omega) (by omega) (Nat.div_eq_of_lt (Nat.lt_of_lt_of_le hN (Nat.pow_le_pow_left hB _)))
theorem ndig_word (B N : Nat) (hB : 10 ≤ B) (hN : N < 10 ^ 78) : ∃ n, NDig B N n ∧ n ≤ 78 := by
  obtain ⟨n, hn⟩ := ndig_ex (B := B) (N := N) 78 (by omega) (Nat.div_eq_of_lt (Nat.lt_of_lt_of_le hN (Nat.pow_le_pow_left hB _)))
  exact ⟨n, hn, ndig_le hn hB hN⟩
theorem pres_uniq {s : ByteArray} {p0 p1 p2 p3 e q0 q1 q2 q3 f : Int} (h : PRes s p0 p1 p2 p3 e) (k : PRes s q0 q1 q2 q3 f) : p0 = q0 ∧ p1 = q1 ∧ p2 = q2 ∧ p3 = q3 ∧ e = f := by
  rcases h with ⟨h1, h2, h3⟩ | ⟨h1, h2, h3, h4, h5, h6⟩ <;> rcases k with ⟨k1, k2, k3⟩ | ⟨k1, k2, k3, k4, k5, k6⟩
  · obtain ⟨a, b, c, d⟩ := h3.eq k3 rfl
    exact ⟨a, b, c, d, h2.trans k2.symm⟩
  · exact absurd h1 k1
  · exact absurd k1 h1
  · exact ⟨h3.trans k3.symm, h4.trans k4.symm, h5.trans k5.symm, h6.trans k6.symm, h2.trans k2.symm⟩
theorem pres_ex (s : ByteArray) : ∃ p0 p1 p2 p3 e : Int, PRes s p0 p1 p2 p3 e := by
  by_cases h : Good s
  · obtain ⟨p0, p1, p2, p3, hp⟩ := isW_ex (rdn (pb s) (sg (pt s)) (pt s).size : Int)
    exact ⟨p0, p1, p2, p3, 0, .inl ⟨h, rfl, hp⟩⟩
  · exact ⟨0, 0, 0, 0, _, .inr ⟨h, rfl, rfl, rfl, rfl, rfl⟩⟩
theorem parse_fix (s : ByteArray) (p0 p1 p2 p3 er : Int) (h : PRes s p0 p1 p2 p3 er) (w : World) : Calls Try.prog 61 #[.string s] w fun e w' => e = .returned (.tuple #[.agg #[.int .u64 p0, .int .u64 p1, .int .u64 p2, .int .u64 p3], .int .i64 er]) ∧ Below w.heap.size w w' := by
  refine (parse_is s w).mono ?_
  rintro e w' ⟨q0, q1, q2, q3, f, rfl, hb, hq⟩
  obtain ⟨rfl, rfl, rfl, rfl, rfl⟩ := pres_uniq h hq
  exact ⟨rfl, hb⟩
theorem nat_of {x : Int} {a0 a1 a2 a3 : Int} (ha : IsW x a0 a1 a2 a3) {X : Nat} (hX : V a0 a1 a2 a3 = (X : Int)) : ∃ A0 A1 A2 A3 : Nat, (a0 = (A0 : Int) ∧ a1 = (A1 : Int) ∧ a2 = (A2 : Int) ∧ a3 = (A3 : Int)) ∧ (A0 < 18446744073709551616 ∧ A1 < 18446744073709551616 ∧ A2 < 18446744073709551616 ∧ A3 < 18446744073709551616) ∧ X = A0 + 18446744073709551616 * (A1 + 18446744073709551616 * (A2 + 18446744073709551616 * A3)) := by
  obtain ⟨⟨u0, u1, u2, u3⟩, _⟩ := ha
  unfold U64 Bd at u0 u1 u2 u3
  unfold V Bd at hX
  exact ⟨a0.toNat, a1.toNat, a2.toNat, a3.toNat, ⟨by omega, by omega, by omega, by omega⟩, ⟨by omega, by omega, by omega, by omega⟩, by omega⟩
theorem text_fix {x : Int} {a0 a1 a2 a3 : Int} (ha : IsW x a0 a1 a2 a3) {X : Nat} (hX : V a0 a1 a2 a3 = (X : Int)) {n : Nat} (hn : NDig 10 X n) (w : World) : Calls Try.prog 63 #[.agg #[.int .u64 a0, .int .u64 a1, .int .u64 a2, .int .u64 a3]] w fun e w' => e = .returned (.string (tell 10 X n)) ∧ Below w.heap.size w w' := by
  obtain ⟨A0, A1, A2, A3, ⟨rfl, rfl, rfl, rfl⟩, ⟨l0, l1, l2, l3⟩, e⟩ := nat_of ha hX
  refine (text_is A0 A1 A2 A3 X l0 l1 l2 l3 e w).mono ?_
  rintro e w' ⟨m, hm, _, rfl, hb⟩
  rw [hm.uniq hn]
  exact ⟨rfl, hb⟩
theorem hex_fix {x : Int} {a0 a1 a2 a3 : Int} (ha : IsW x a0 a1 a2 a3) {X : Nat} (hX : V a0 a1 a2 a3 = (X : Int)) {n : Nat} (hn : NDig 16 X n) (w : World) : Calls Try.prog 62 #[.agg #[.int .u64 a0, .int .u64 a1, .int .u64 a2, .int .u64 a3]] w fun e w' => e = .returned (.string (ox ++ tell 16 X n)) ∧ Below w.heap.size w w' := by
  obtain ⟨A0, A1, A2, A3, ⟨rfl, rfl, rfl, rfl⟩, ⟨l0, l1, l2, l3⟩, e⟩ := nat_of ha hX
  refine (hex_is A0 A1 A2 A3 X l0 l1 l2 l3 e w).mono ?_
  rintro e w' ⟨m, hm, _, rfl, hb⟩
  rw [hm.uniq hn]
  exact ⟨rfl, hb⟩
end Go.Proofs.Ytpadpmkfhljiiaa
