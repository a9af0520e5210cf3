/- MachPieces: the walk. -/
import Derived.Test.YtlemnjhdnciddaaGqa
import Derived.Test.YtlemnjhdnciddaaUm2
import Derived.Test.YtlemnjhdnciddaaUl
namespace Go.Proofs.Ytlemnjhdnciddaa
open Go.RowKit
theorem mvE_same (n : Nat) (i m : Int) : mvE n i i m = lk n i m := by
  unfold mvE
  by_cases h : i < 0 ∨ i < 0 ∨ m < 0
  · rw [if_pos h, lk_arg (by omega)]
  · rw [if_neg h, show max i i = i by omega]
theorem ins_zero (o m i : Nat) : ins (fun _ => 0) o (fun _ => 0) m i = 0 := by unfold ins; split <;> rfl
theorem ite_zero (p : Prop) [Decidable p] (o m : Nat) : (if p then ins (fun _ => 0) o (fun _ => 0) m else fun _ => 0) = fun _ => 0 := by
  split
  · funext i; exact ins_zero o m i
  · rfl
theorem ldW_zero {z : W4} (h : LdW (fun _ => 0) z) : z = wz := by
  unfold LdW at h
  rw [dsum_zero 32 (fun i hi => by unfold revd; rw [if_pos hi])] at h
  obtain ⟨e1, e2, e3, e4⟩ := IsW.eq h isW_0 rfl
  cases z
  simp_all [wz]
theorem ldOk_zero (n : Nat) (i : Int) : LdOk n (fun _ => 0) i wz := ⟨fun _ => by
  obtain ⟨z, hz⟩ := ldW_ex (fun _ => 0)
  have := ldW_zero hz
  subst this
  exact hz, fun _ => rfl⟩
theorem lk_want (K : Nat) (i m : Int) : lk K i m = if i < 0 ∨ m < 0 then 1 else if (m ≠ 0 ∧ ((K : Int) < m ∨ (K : Int) - m < i)) then 92 else 0 := by
  unfold lk
  by_cases h : i < 0 ∨ m < 0
  · rw [if_pos h, if_pos h]
  · rw [if_neg h, if_neg h]
    by_cases h2 : m ≠ 0 ∧ ((K : Int) < m ∨ (K : Int) - m < i)
    · rw [if_pos h2, if_pos (by omega)]
    · rw [if_neg h2, if_neg (by omega)]
theorem rdRes_none {w w' : World} {f : Nat → Nat} {v : Value} (h : RdRes w w' 0 f v) : v = .slice none 0 0 := by
  rcases h with ⟨_, h⟩ | ⟨h, _⟩
  · exact h
  · omega
theorem MB.self {w W W' : World} {L ba bc b B n cx : Nat} {x : Option Addr} {u : Nat → Nat} {a0 a1 a2 a3 c0 c1 c2 c3 : Int} (h : MB w W L ba bc b B x n cx u a0 a1 a2 a3 c0 c1 c2 c3) {u' : Nat → Nat} (m : Mem W' b B x n cx u') (k : Off b x W W') : MB w W' L ba bc b B x n cx u' a0 a1 a2 a3 c0 c1 c2 c3 := h.own m k (Or.inl rfl)
theorem MB.fresh {w W : World} {L ba bc b B n cx : Nat} {x : Option Addr} {u : Nat → Nat} {a0 a1 a2 a3 c0 c1 c2 c3 : Int} (h : MB w W L ba bc b B x n cx u a0 a1 a2 a3 c0 c1 c2 c3) : ¬ OwnB b x W.heap.size := fun e => by have := h.me.own_lt _ e; omega
end Go.Proofs.Ytlemnjhdnciddaa
