/- Plain arithmetic: a number of many parts shifted up by less than 64 places, and down again. -/
import Derived.Test.YtpadpmkfhljiiaaEa
import Derived.Test.YtpadpmkfhljiiaaNt
namespace Go.Proofs.Ytpadpmkfhljiiaa
open Go.RowKit
theorem two_s (s : Nat) : (2 : Int) ^ s = ((2 ^ s : Nat) : Int) := by rw [Int.natCast_pow]; rfl
theorem two_pos (s : Nat) : (0 : Int) < 2 ^ s := by rw [two_s]; exact_mod_cast Nat.two_pow_pos s
/-- one part of it: what is laid over the part, and what goes into the next one -/
theorem up_one (x c : Int) (s : Nat) (hs : s < 64) (hx : U64 x) (hc0 : 0 ≤ c) (hc : c < 2 ^ s) :
    ∃ y d : Int, bits .or .u64 c (IntKind.u64.wrap (x * 2 ^ s)) = y ∧ x / 2 ^ (64 - s) = d ∧ U64 y ∧ U64 d ∧ d < 2 ^ s ∧ Hid (y + d * Bd = x * 2 ^ s + c) := by
  obtain ⟨P, Q, m, d, hpq, eP, eQ, ew, ed, lm, ld, ex, hP⟩ := up_ex x (s : Int) hx (by omega) (by omega)
  rw [show ((s : Int)).toNat = s by omega] at eP ew ex hP
  rw [show (64 - (s : Int)).toNat = 64 - s by omega] at eQ ed
  obtain ⟨C, rfl⟩ := Int.eq_ofNat_of_zero_le hc0
  have hC : C < P := by rw [eP] at hc; omega
  obtain ⟨j, k⟩ := or_join P Q m C (s : Int) (by rw [show ((s : Int)).toNat = s by omega]; exact hP) hpq lm hC
  have hPB : P ≤ 18446744073709551616 := by rw [← hpq]; exact Nat.le_mul_of_pos_right P (by omega)
  refine ⟨((P * m + C : Nat) : Int), (d : Int), ?_, ed, ⟨by omega, by unfold Bd; omega⟩, ⟨by omega, by unfold Bd; omega⟩, by rw [eP]; omega, ?_⟩
  · rw [ew, or_comm64 _ _ (by omega) (by omega)]; exact j
  · unfold Hid Bd; rw [ex]; omega
theorem up_step {r u : Nat → Int} {i s : Nat} {y d : Int} (h : nv r (i + 1) = nv u i * 2 ^ s) (e : y + d * Bd = u i * 2 ^ s + r i) :
    nv (fun j => if j = i + 1 then d else if j = i then y else r j) (i + 1 + 1) = nv u (i + 1) * 2 ^ s := by
  have hx : nv (fun j => if j = i + 1 then d else if j = i then y else r j) i = nv r i := nv_ext i (fun j hj => by rw [if_neg (by omega), if_neg (by omega)])
  rw [nv, nv, hx]
  simp only [if_true, show ¬ (i = i + 1) by omega, if_false]
  rw [nv] at h
  rw [nv, Int.add_mul, ← h, Int.pow_succ, Int.mul_comm (Bd ^ i) Bd, ← Int.mul_assoc, Int.mul_right_comm (u i)]
  have e2 : (y + d * Bd) * Bd ^ i = (u i * 2 ^ s + r i) * Bd ^ i := by rw [e]
  rw [Int.add_mul, Int.add_mul] at e2
  omega
theorem nv_first {r : Nat → Int} (h : ∀ i, U64 (r i)) (k : Nat) (hz : nv r (k + 1) = 0) : r 0 = 0 := by
  have h1 := nv_split r 1 k
  rw [Nat.add_comm 1 k, hz] at h1
  have h2 := Int.mul_nonneg (Int.le_of_lt (Bp 1)) (nv_range (sh_u64 h 1) k).1
  have h3 : nv r 1 = r 0 := by simp [nv]
  have h4 := (h 0).1
  omega
theorem Bd4 : Bd ^ 4 = MM := by unfold Bd MM; decide
theorem mul_cancel_right {a b p : Int} (hp : 0 < p) (h : a * p = b * p) : a = b := Int.eq_of_mul_eq_mul_right (by omega) h
/-- four parts shifted down: the quotient by 2^s of the number, with the lowest bits of the part above -/
theorem down_num {z0 z1 z2 z3 f x0 x1 x2 x3 P : Int} (e0 : x0 * P = z0 - z0 % P + Bd * (z1 % P)) (e1 : x1 * P = z1 - z1 % P + Bd * (z2 % P)) (e2 : x2 * P = z2 - z2 % P + Bd * (z3 % P)) (e3 : x3 * P = z3 - z3 % P + Bd * (f % P)) :
    V x0 x1 x2 x3 * P + z0 % P = V z0 z1 z2 z3 + MM * (f % P) := by
  have hh : V x0 x1 x2 x3 * P = (x0 * P + Bd * (x1 * P + Bd * (x2 * P + Bd * (x3 * P)))) := by unfold V; grind
  rw [hh, e0, e1, e2, e3]
  generalize f % P = g
  generalize z0 % P = g0
  generalize z1 % P = g1
  generalize z2 % P = g2
  generalize z3 % P = g3
  unfold V Bd MM; omega
theorem squeeze_num {r : Nat → Int} (hu : ∀ i, U64 (r i)) (s : Nat) (hs : s < 64) (L : Int) (h : nv r 9 = L * 2 ^ s) (hM : nv r 9 < MM) :
    IsW L (dnJ (r 0) (r 1) s) (dnJ (r 1) (r 2) s) (dnJ (r 2) (r 3) s) (dnJ (r 3) (r 4) s) := by
  have hz : nv (sh r 4) 5 = 0 := nv_top hu 4 5 (by rw [Bd4]; exact hM)
  have h4 : r 4 = 0 := nv_first (sh_u64 hu 4) 4 hz
  have hV : nv r 9 = V (r 0) (r 1) (r 2) (r 3) := by
    have := nv_split r 4 5
    rw [hz] at this
    rw [this]; simp [nv, V, Bd]; omega
  have hsI : (s : Int) < 64 := by omega
  obtain ⟨u0, e0⟩ := dn_ex (r 0) (r 1) s (hu 0) (hu 1) (by omega) hsI
  obtain ⟨u1, e1⟩ := dn_ex (r 1) (r 2) s (hu 1) (hu 2) (by omega) hsI
  obtain ⟨u2, e2⟩ := dn_ex (r 2) (r 3) s (hu 2) (hu 3) (by omega) hsI
  obtain ⟨u3, e3⟩ := dn_ex (r 3) (r 4) s (hu 3) (hu 4) (by omega) hsI
  rw [show ((s : Int)).toNat = s by omega] at e0 e1 e2 e3
  have hd := down_num e0 e1 e2 e3
  rw [show r 4 % 2 ^ s = 0 by rw [h4, Int.zero_emod], Int.mul_zero, Int.add_zero, ← hV, h] at hd
  have hP := two_pos s
  have h0 : r 0 % 2 ^ s = 0 := by
    have h5 := Int.emod_nonneg (r 0) (show (2 : Int) ^ s ≠ 0 by omega)
    have h6 := Int.emod_lt_of_pos (r 0) hP
    have h7 : r 0 % 2 ^ s = (L - V (dnJ (r 0) (r 1) s) (dnJ (r 1) (r 2) s) (dnJ (r 2) (r 3) s) (dnJ (r 3) (r 4) s)) * 2 ^ s := by rw [Int.sub_mul]; omega
    have h8 : (r 0 % 2 ^ s) % 2 ^ s = 0 := by rw [h7]; exact Int.mul_emod_left _ _
    rwa [Int.emod_eq_of_lt h5 h6] at h8
  rw [h0, Int.add_zero] at hd
  have hL := mul_cancel_right hP hd
  have hr := V_range u0 u1 u2 u3
  refine ⟨⟨u0, u1, u2, u3⟩, ?_⟩
  rw [hL] at hr ⊢
  exact (Int.emod_eq_of_lt hr.1 hr.2).symm
end Go.Proofs.Ytpadpmkfhljiiaa
