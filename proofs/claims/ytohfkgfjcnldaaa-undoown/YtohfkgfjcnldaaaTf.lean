/- clear of a row's end, and the row that is left. -/
import Derived.Test.YtohfkgfjcnldaaaTe
import Derived.Laws.CopyRow
import Derived.Laws.Slices
namespace Go.Proofs.Ytohfkgfjcnldaaa
open Go.RowKit
theorem setRow_but {w : World} {g : Nat} {cs : Array Value} {ad : Option Addr} (h : Own ad g) : But (Own ad) w (w.setRow g cs) := by
  refine ⟨rfl, rfl, rfl, ?_, fun k _ hn => setRow_other w g k cs (fun e => hn (e ▸ h))⟩
  simp [World.setRow]
theorem zero_one {z : Array Value} (hz : ∀ v ∈ z.toList, v.oneCell' = true) (h0 : 0 < z.size) (n : Nat) : ∀ v ∈ (Builtin.zeroCells z n).toList, v.oneCell' = true := by
  intro v hv
  unfold Builtin.zeroCells at hv
  simp at hv
  obtain ⟨i, _, rfl⟩ := hv
  have hl : i % z.size < z.size := Nat.mod_lt _ h0
  rw [Array.getElem!_eq_getD, Array.getD_eq_getD_getElem?, Array.getElem?_eq_getElem hl]
  exact hz _ (by simp)
theorem clear_tail {W : World} {e t : TypeId} {size : Nat} {z : Value} (ht : Try.prog.underlying t = some (.slice e)) (he : Try.prog.elem t = e) (hs : ∀ W, (sizeOf e).run Try.prog W = .ok size W) (hzv : ∀ W, (zeroValue e).run Try.prog W = .ok z W) (hzs : z.cells.size = size) (hz1 : ∀ v ∈ z.cells.toList, v.oneCell' = true) (h0 : 0 < size)
    {ad : Option Addr} {n cap : Nat} {xs : List Value} (h : W.ownsRow 0 e size (.slice ad n cap) n xs) (f : Nat) (hf : f ≤ n) :
    ∃ a1 c1 W1, (Instr.slice t (.slice ad n cap) (some (.int .i64 (f : Int))) none none).run Try.prog W = .ok (.slice a1 (n - f) c1) W ∧ (∀ ty, (Builtin.clear_ #[t] ty #[.slice a1 (n - f) c1]).run Try.prog W = .ok (.tuple #[]) W1) ∧ W1.ownsRow 0 e size (.slice ad f cap) f (xs.take (f * size)) ∧ But (Own ad) W W1 := by
  have ht' : Try.prog.underlying t = some (.slice (Try.prog.elem t)) := by rw [he]; exact ht
  have hsl := run_slice_l (P := Try.prog) W t ad n cap ht' .i64 (f : Int) (by omega) (by omega)
  rw [he, hs, Result.andThen_ok, Int.toNat_natCast] at hsl
  have htake : (xs.take (f * size)).length = f * size := by rw [List.length_take, h.1]; exact Nat.min_eq_left (Nat.mul_le_mul_right _ hf)
  cases ad with
  | none =>
    rcases h.2 with ⟨e1, rfl⟩ | ⟨g, c, cur, e1, _⟩
    · obtain rfl : f = 0 := by omega
      injection e1 with _ _ e2
      subst e2
      refine ⟨none, 0, W, ?_, fun ty => ?_, ⟨htake, Or.inl ⟨rfl, rfl⟩⟩, But.refl _ _⟩
      · rw [hsl]; rfl
      · simp [Builtin.clear_, run_underlying ht]
    · cases e1
  | some a =>
    obtain ⟨e1, _, cur, h2, h3, h4, h5, h6⟩ := owns_row_some h
    generalize ea : a.block = g at *
    subst e1
    by_cases hd : n = f
    · subst hd
      refine ⟨_, _, W, hsl, fun ty => ?_, ⟨htake, Or.inr ⟨g, cap, cur, rfl, Nat.zero_le _, h2, h3, h4, h5, ?_⟩⟩, But.refl _ _⟩
      · rw [Nat.sub_self]
        by_cases hc : cap = n <;> simp [Builtin.clear_, run_underlying ht, hc]
      · rw [← h6, List.take_take, Nat.min_self]
    · have hc : ¬ cap = f := by omega
      have ea1 : (⟨g, 0, none⟩ : Addr).add (f * size) = ⟨g, f * size, none⟩ := by
        unfold Addr.add
        by_cases e : f * size = 0
        · rw [e]; rfl
        · simp [e]
      have hvl : (Builtin.zeroCells z.cells (n - f)).toList.length = (n - f) * size := by simp [Builtin.zeroCells, hzs]
      have hle : f * size + 0 + (Builtin.zeroCells z.cells (n - f)).toList.length ≤ cur.size := by
        rw [hvl, h5, Nat.add_zero, ← Nat.add_mul]
        exact Nat.mul_le_mul_right _ (by omega)
      have hst := run_storeCells_at (P := Try.prog) g (f * size) e (Builtin.zeroCells z.cells (n - f)).toList 0 cur W h2 hle (zero_one hz1 (by omega) _)
      obtain ⟨cs, ecs⟩ : ∃ cs, cs = (cur.toList.take (f * size + 0) ++ (Builtin.zeroCells z.cells (n - f)).toList ++ cur.toList.drop (f * size + 0 + (Builtin.zeroCells z.cells (n - f)).toList.length)).toArray := ⟨_, rfl⟩
      rw [← ecs] at hst
      refine ⟨some ⟨g, f * size, none⟩, cap - f, W.setRow g cs, ?_, fun ty => ?_, ?_, setRow_but ⟨⟨g, 0, none⟩, rfl, rfl⟩⟩
      · rw [hsl]
        unfold sliced
        rw [if_neg hc, Option.map_some, ea1]
      · obtain ⟨k, hk⟩ : ∃ k, n - f = k + 1 := ⟨n - f - 1, by omega⟩
        rw [hk] at hst ⊢
        simp [Builtin.clear_, run_underlying ht, hzv, hst, Result.andThen]
      · refine ⟨htake, Or.inr ⟨g, cap, cs, rfl, Nat.zero_le _, setRow_heap W g cur cs e (0, 0) h2, by omega, h4, ?_, ?_⟩⟩
        · have := List.length_take_le (f * size + 0) cur.toList
          rw [ecs]
          simp [hvl]
          rw [hvl] at hle
          omega
        · rw [ecs, List.append_assoc, List.take_append_of_le_length, Nat.add_zero, List.take_take, Nat.min_self, ← h6, List.take_take, Nat.min_eq_left (Nat.mul_le_mul_right _ hf)]
          rw [List.length_take, Array.length_toList, h5, Nat.add_zero]
          have : f * size ≤ cap * size := Nat.mul_le_mul_right _ (by omega)
          omega
end Go.Proofs.Ytohfkgfjcnldaaa
