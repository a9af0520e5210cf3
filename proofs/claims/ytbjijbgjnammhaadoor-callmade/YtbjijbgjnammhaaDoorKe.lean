/- '==' of two arrays of numbers. -/
import Derived.Test.YtbjijbgjnammhaaDoorKu
namespace Go.Proofs.YtbjijbgjnammhaaDoor
open Go.RowKit
theorem loop_all {β : Type} {P : Program} {W : World} (f : Nat → β → Sem (ForInStep β)) (b0 b1 : β) (p : Nat → Bool) :
    ∀ (m s : Nat), (∀ i, s ≤ i → i < s + m → Sem.run P (f i b0) W = .ok (if p i then .yield b0 else .done b1) W) →
      Sem.run P (forIn (List.range' s m) b0 f) W = .ok (if (List.range' s m).all p then b0 else b1) W
  | 0, s, _ => by simp
  | m + 1, s, h => by
    have h0 := h s (Nat.le_refl _) (by omega)
    rw [List.range'_succ, List.forIn_cons, Sem.run_bind, h0]
    by_cases e : p s = true
    · simp only [e, if_true, Result.andThen_ok]
      rw [loop_all f b0 b1 p m (s + 1) (fun i h1 h2 => h i (by omega) (by omega)), List.all_cons, e, Bool.true_and]
    · simp [e]
def rowEq (n : Nat) (u v : Nat → Int) : Bool := (List.range' 0 n).all fun i => u i == v i
theorem rowEq_iff (n : Nat) (u v : Nat → Int) : rowEq n u v = true ↔ ∀ i, i < n → u i = v i := by
  simp [rowEq, List.all_eq_true]
theorem sz64 (W : World) : Sem.run Tryd.prog (sizeOf 24) W = .ok 1 W := by kernel_rfl
theorem sz8 (W : World) : Sem.run Tryd.prog (sizeOf 5) W = .ok 1 W := by kernel_rfl
theorem eq64_run (k : Nat) (x y : Int) (W : World) : Sem.run Tryd.prog (Op.equalIn (k + 1) 24 (.int .u64 x) (.int .u64 y)) W = .ok (x == y) W := by
  simp [Op.equalIn, run_underlying Tryd.underlying24]
theorem eq8_run (k : Nat) (x y : Int) (W : World) : Sem.run Tryd.prog (Op.equalIn (k + 1) 5 (.int .u8 x) (.int .u8 y)) W = .ok (x == y) W := by
  simp [Op.equalIn, run_underlying Tryd.underlying5]
theorem part64 (n : Nat) (u : Nat → Int) (i : Nat) (h : i < n) (W : World) : Sem.run Tryd.prog (part 24 (rowL n u).toArray i) W = .ok (.int .u64 (u i)) W := by
  have := rowL_at n u i h
  simp [part, this]
theorem part8 (n : Nat) (u : Nat → Int) (i : Nat) (h : i < n) (W : World) : Sem.run Tryd.prog (part 5 (rowB n u).toArray i) W = .ok (.int .u8 (u i)) W := by
  have := rowB_at n u i h
  simp [part, this]
theorem eq25_run (u v : Nat → Int) (W : World) : Sem.run Tryd.prog (Op.equalIn 10000 36 (.agg (rowL 25 u).toArray) (.agg (rowL 25 v).toArray)) W = .ok (rowEq 25 u v) W := by
  rw [show (10000 : Nat) = 9998 + 1 + 1 from rfl, Op.equalIn]
  simp only [Sem.run_bind, run_underlying Tryd.underlying36, Result.andThen_ok, sz64, Std.Legacy.Range.forIn_eq_forIn_range', Std.Legacy.Range.size]
  rw [loop_all _ _ ⟨some false, ()⟩ (fun i => u i == v i)]
  · by_cases h : rowEq 25 u v = true
    · have h' := h; unfold rowEq at h'; simp [h, h']
    · have h' := h; unfold rowEq at h'; simp [h, h']
  · intro i h0 h1
    simp [part64 25 u i (by omega), part64 25 v i (by omega), eq64_run]
    by_cases e : u i = v i <;> simp [e]
theorem eq32_run (u v : Nat → Int) (W : World) : Sem.run Tryd.prog (Op.equalIn 10000 31 (.agg (rowB 32 u).toArray) (.agg (rowB 32 v).toArray)) W = .ok (rowEq 32 u v) W := by
  rw [show (10000 : Nat) = 9998 + 1 + 1 from rfl, Op.equalIn]
  simp only [Sem.run_bind, run_underlying Tryd.underlying31, Result.andThen_ok, sz8, Std.Legacy.Range.forIn_eq_forIn_range', Std.Legacy.Range.size]
  rw [loop_all _ _ ⟨some false, ()⟩ (fun i => u i == v i)]
  · by_cases h : rowEq 32 u v = true
    · have h' := h; unfold rowEq at h'; simp [h, h']
    · have h' := h; unfold rowEq at h'; simp [h, h']
  · intro i h0 h1
    simp [part8 32 u i (by omega), part8 32 v i (by omega), eq8_run]
    by_cases e : u i = v i <;> simp [e]
end Go.Proofs.YtbjijbgjnammhaaDoor
