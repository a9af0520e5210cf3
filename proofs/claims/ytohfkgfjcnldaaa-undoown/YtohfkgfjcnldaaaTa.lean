/- Package undo: a table's map from keys to places, as a function. -/
import Derived.Test.YtohfkgfjcnldaaaRows
import Derived.WalkKit
import Derived.WalkSpells
import Derived.WalkLawsBesides
import Derived.Maps.OwnSet
import Derived.Test.YtohfkgfjcnldaaaAps
namespace Go.Proofs.Ytohfkgfjcnldaaa
open Go.RowKit
theorem und_int : Try.prog.underlying 3 = some (.int .i64) := by kernel_rfl
theorem und_map : Try.prog.underlying 106 = some (.map 3 3) := by kernel_rfl
theorem zero_int (w : World) : (zeroValue 3).run Try.prog w = .ok (.int .i64 0) w := by kernel_rfl
theorem key_law : Maps.Keyed Try.prog 3 := Maps.int_keyed und_int
def I64 (x : Int) : Prop := -9223372036854775808 ≤ x ∧ x ≤ 9223372036854775807
def upd (m : Int → Option Nat) (k : Int) (v : Option Nat) : Int → Option Nat := fun x => if x = k then v else m x
/-- block pm is a map of n entries that tells what m tells -/
def PM (W : World) (pm n : Nat) (m : Int → Option Nat) : Prop :=
  ∃ D : DataW Unit, W.ownsMap Try.prog 3 (plainElem Try.prog 3) pm n D ∧ Maps.size D = n ∧ (∀ k, Maps.has D (.int .i64 k) = (m k).isSome) ∧ ∀ k i, m k = some i → D.atKey (.int .i64 k) (.lit (.int .i64 0)) = .lit (.int .i64 (i : Int))
theorem PM.lt {W : World} {pm n : Nat} {m : Int → Option Nat} (h : PM W pm n m) : pm < W.heap.size := by
  obtain ⟨D, h, _⟩ := h
  exact h.lt
theorem PM.block {W W' : World} {pm n : Nat} {m : Int → Option Nat} (h : PM W pm n m) (e : W'.heap[pm]? = W.heap[pm]?) : PM W' pm n m := by
  obtain ⟨D, ⟨es, c, h1, h2⟩, h3⟩ := h
  exact ⟨D, ⟨es, c, e.trans h1, h2⟩, h3⟩
theorem PM.not_cell {W : World} {pm n : Nat} {m : Int → Option Nat} (h : PM W pm n m) {b : Nat} {c : Array Value} {t : TypeId} {z : Nat × Nat} (hb : W.heap[b]? = some (.cells c t z)) : b ≠ pm := by
  rintro rfl
  obtain ⟨D, ⟨es, cl, h1, _⟩, _⟩ := h
  rw [h1] at hb
  cases hb
theorem PM.new (W : World) : PM (W.alloc (.map #[] 0)) W.heap.size 0 (fun _ => none) :=
  ⟨_, World.ownsMap_made W Try.prog 3 (plainElem Try.prog 3), rfl, fun _ => rfl, fun _ _ h => by cases h⟩
theorem PM.look {W : World} {pm n : Nat} {m : Int → Option Nat} (h : PM W pm n m) (k : Int) (hk : I64 k) :
    (Instr.lookup 106 (.map (some pm)) (.int .i64 k) true).run Try.prog W = .ok (.tuple #[.int .i64 (((m k).getD 0 : Nat) : Int), .bool (m k).isSome]) W := by
  obtain ⟨D, h1, h2, h3, h4⟩ := h
  obtain ⟨v, ps, hr, hv⟩ := h1.look_ok key_law und_map (zero_int W) (plainElem_int und_int (by decide)) (Maps.keyOf_int_mk und_int (WalkArith.wf_i64 hk))
  rw [hr, h3 k]
  obtain ⟨c, rfl, hc, hwc⟩ := plainElem_int_inv und_int hv
  have hc1 : D.atKey (.int .i64 k) (.lit (.int .i64 0)) = .lit (.int .i64 c) := congrArg Prod.fst hc
  clear hr hv hc
  cases e : m k with
  | some i =>
    rw [h4 k i e] at hc1
    injection hc1 with hc2
    injection hc2 with _ hc3
    subst hc3
    simp only [Option.getD_some]
  | none =>
    have hh := h3 k
    rw [e] at hh
    rw [Maps.atKey_of_not_has hh] at hc1
    injection hc1 with hc2
    injection hc2 with _ hc3
    subst hc3
    simp only [Option.getD_none, Int.natCast_zero]
theorem PM.store {W : World} {pm n : Nat} {m : Int → Option Nat} (h : PM W pm n m) (k : Int) (hk : I64 k) (i : Nat) (hi : I64 (i : Int)) (hn : n < maxLen) :
    ∃ W', (Instr.mapUpdate 106 (.map (some pm)) (.int .i64 k) (.int .i64 (i : Int))).run Try.prog W = .ok () W' ∧ PM W' pm (if (m k).isSome then n else n + 1) (upd m k (some i)) ∧ W.grownBy W' (some pm) := by
  obtain ⟨D, h1, h2, h3, h4⟩ := h
  obtain ⟨W', hr, ho, ht⟩ := h1.store key_law und_map hn (Maps.keyOf_int_mk und_int (WalkArith.wf_i64 hk)) (plainElem_int und_int (WalkArith.wf_i64 hi))
  refine ⟨W', hr, ⟨D.put (.int .i64 k) (.lit (.int .i64 (i : Int))), ?_, ?_, ?_, ?_⟩, ht.grown⟩
  · have hs : Maps.size (D.put (.int .i64 k) (.lit (.int .i64 (i : Int)))) = if (m k).isSome then n else n + 1 := by rw [Maps.size_put (h1.tidy key_law), h3 k, h2]
    obtain ⟨es, c, g1, g2, g3, g4⟩ := ho
    refine ⟨es, c, g1, g2, ?_, g4⟩
    rw [← hs, g4]
    simp [Maps.size, length_sorted]
  · rw [Maps.size_put (h1.tidy key_law), h3 k, h2]
  · intro x
    unfold upd
    by_cases e : x = k
    · subst e
      rw [Maps.has_put_same h1.isMap (by simp [WideAt.IsKeyLit]), if_pos rfl]
      rfl
    · rw [Maps.has_put_other (by intro h; injection h with _ h; exact e h), h3, if_neg e]
  · intro x j hx
    unfold upd at hx
    by_cases e : x = k
    · subst e
      rw [if_pos rfl] at hx
      cases hx
      exact Maps.atKey_put_same h1.isMap (by simp [WideAt.IsKeyLit]) _ _
    · rw [if_neg e] at hx
      rw [Maps.atKey_put_other (by intro h; injection h with _ h; exact e h)]
      exact h4 x j hx
theorem PM.drop {W : World} {pm n : Nat} {m : Int → Option Nat} (h : PM W pm n m) (k : Int) (hk : I64 k) (hm : (m k).isSome = true) (ty : TypeId) :
    ∃ W', (Builtin.delete_ #[106, 3] ty #[.map (some pm), .int .i64 k]).run Try.prog W = .ok (.tuple #[]) W' ∧ PM W' pm (n - 1) (upd m k none) ∧ W.grownBy W' (some pm) := by
  obtain ⟨D, h1, h2, h3, h4⟩ := h
  obtain ⟨W', hr, ho, ht⟩ := h1.drop key_law und_map (Maps.keyOf_int_mk und_int (WalkArith.wf_i64 hk)) ty
  have hs : Maps.size (D.del (.int .i64 k)) = n - 1 := by
    have := Maps.size_del (k := .int .i64 k) (h1.tidy key_law)
    rw [h3 k, hm, h2] at this
    simp at this
    omega
  refine ⟨W', hr, ⟨_, ?_, hs, ?_, ?_⟩, ht.grown⟩
  · obtain ⟨es, c, g1, g2, g3, g4⟩ := ho
    refine ⟨es, c, g1, g2, ?_, g4⟩
    rw [← hs, g4]
    simp [Maps.size, length_sorted]
  · intro x
    unfold upd
    by_cases e : x = k
    · subst e
      rw [Maps.has_del_same, if_pos rfl]
      rfl
    · rw [Maps.has_del_other (by intro h; injection h with _ h; exact e h), h3, if_neg e]
  · intro x j hx
    unfold upd at hx
    by_cases e : x = k
    · subst e
      rw [if_pos rfl] at hx
      cases hx
    · rw [if_neg e] at hx
      rw [Maps.atKey_del_other (by intro h; injection h with _ h; exact e h)]
      exact h4 x j hx
end Go.Proofs.Ytohfkgfjcnldaaa
