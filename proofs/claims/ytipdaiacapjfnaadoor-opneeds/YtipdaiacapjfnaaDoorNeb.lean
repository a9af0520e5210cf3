/- OpNeeds: what the law's own lists hold on its way. -/
import Derived.Test.YtipdaiacapjfnaaDoorNea
namespace Go.Proofs.YtipdaiacapjfnaaDoor
open Go.RowKit
theorem nv_parts (C : Int) (n b : Nat) : ∃ (a1 a2 : Int) (ok : Bool), NV C n b = .tuple #[.int .i64 a1, .int .i64 a2, .bool ok] := by
  unfold NV
  split
  · exact ⟨_, _, _, rfl⟩
  · exact ⟨_, _, _, rfl⟩
/-- bytes as cells -/
def bsL (m : Nat) (b : Nat → Nat) : List Value := (List.range m).map fun j => .int .u8 (b j : Int)
theorem bsL_len (m : Nat) (b : Nat → Nat) : (bsL m b).length = m := by simp [bsL]
theorem bsL_one (m : Nat) (b : Nat → Nat) : ∀ u ∈ bsL m b, u.oneCell' = true := by
  intro u hu; simp only [bsL, List.mem_map] at hu; obtain ⟨i, _, rfl⟩ := hu; rfl
theorem bsL_get (m : Nat) (b : Nat → Nat) (j : Nat) (h : j < m) : (bsL m b)[j]? = some (.int .u8 (b j : Int)) := by simp [bsL, h]
theorem bsL_at {m : Nat} {b : Nat → Nat} {j : Nat} {u : Value} (h : (bsL m b)[j]? = some u) : j < m ∧ u = .int .u8 (b j : Int) := by
  have hj : j < m := by have := (List.getElem?_eq_some_iff.1 h).1; rwa [bsL_len] at this
  rw [bsL_get m b j hj] at h
  exact ⟨hj, (Option.some.inj h).symm⟩
/-- the law's own copy with the marks -/
def marks : List Value := [.int .u8 171, .int .u8 172, .int .u8 173]
def Whole (w : World) (m : Nat) (b : Nat → Nat) (v : Value) (W : World) : Prop := W.ownsRow w.heap.size 5 1 v (m + 3) (bsL m b ++ marks) ∧ Below w.heap.size w W
/-- a block with m bytes that may be written -/
def OwnB (W : World) (g o m : Nat) (b : Nat → Nat) : Prop := (∀ j, b j < 256) ∧ ∀ j, j < m → W.cell? ⟨g, o + j, none⟩ = some (.int .u8 (b j : Int)) ∧ W.frozen? ⟨g, o + j, none⟩ = false
theorem Whole.parts {w W : World} {m : Nat} {b : Nat → Nat} {v : Value} (hb : ∀ j, b j < 256) (h : Whole w m b v W) : ∃ g o M cap, w.heap.size ≤ g ∧ g < W.heap.size ∧ M = m + 3 ∧ M ≤ cap ∧ v = .slice (some ⟨g, o, none⟩) M cap ∧ Marked W g o m b ∧ OwnB W g o m b := by
  obtain ⟨hO, hB⟩ := h
  obtain ⟨g, cap, rfl⟩ := ownsRow_succ hO
  have lt := hO.lt g rfl
  have hc : m + 3 ≤ cap := by
    obtain ⟨_, ⟨e, _⟩ | ⟨g', c', cur, e, _, _, h1, _⟩⟩ := hO
    · cases e
    · injection e with _ _ e2; omega
  have A : ∀ j, j < m → W.cell? ⟨g, 0 + j, none⟩ = some (.int .u8 (b j : Int)) := fun j hj => by
    rw [Nat.zero_add, hO.cellAt j (by omega), List.getElem?_append_left (by rw [bsL_len]; omega), bsL_get m b j hj]
  have K : ∀ q, q < 3 → W.cell? ⟨g, 0 + (m + q), none⟩ = marks[q]? := fun q hq => by
    rw [Nat.zero_add, hO.cellAt (m + q) (by omega), List.getElem?_append_right (by rw [bsL_len]; omega), bsL_len, Nat.add_sub_cancel_left]
  exact ⟨g, 0, _, cap, lt.1, lt.2, rfl, hc, rfl, ⟨A, K 0 (by omega), K 1 (by omega), K 2 (by omega)⟩, hb, fun j hj => ⟨A j hj, by rw [Nat.zero_add]; exact hO.frozenAt j⟩⟩
theorem Marked.past {W W' : World} {g o m : Nat} {b : Nat → Nat} (h : Marked W g o m b) (hB : Below W.heap.size W W') : Marked W' g o m b := by
  have cc : ∀ (j : Nat) (z : Value), W.cell? ⟨g, o + j, none⟩ = some z → W'.cell? ⟨g, o + j, none⟩ = some z := fun j z h => (hB.cell (p := ⟨g, o + j, none⟩) (World.block_lt_of_cell? W _ h)).trans h
  exact ⟨fun j hj => cc j _ (h.1 j hj), cc _ _ h.2.1, cc _ _ h.2.2.1, cc _ _ h.2.2.2⟩
theorem OwnB.past {W W' : World} {g o m : Nat} {b : Nat → Nat} (h : OwnB W g o m b) (hB : Below W.heap.size W W') : OwnB W' g o m b :=
  ⟨h.1, fun j hj => by
    have hl := World.block_lt_of_cell? W _ (h.2 j hj).1
    exact ⟨(hB.cell (p := ⟨g, o + j, none⟩) hl).trans (h.2 j hj).1, (hB.frozen (p := ⟨g, o + j, none⟩) hl).trans (h.2 j hj).2⟩⟩
theorem OwnB.bytes {W : World} {g o m : Nat} {b : Nat → Nat} (cap : Nat) (h : OwnB W g o m b) : BytesOf W (.slice (some ⟨g, o, none⟩) m cap) m b :=
  ⟨_, cap, rfl, h.1, fun e => (by cases e), fun _ => ⟨g, o, rfl, fun j hj => (h.2 j hj).1⟩⟩
theorem OwnB.set {W : World} {g o m : Nat} {b : Nat → Nat} (h : OwnB W g o m b) (k x : Nat) (hk : k < m) (hx : x < 256) : OwnB (W.setCell ⟨g, o + k, none⟩ (.int .u8 (x : Int))) g o m (fun j => if j = k then x else b j) := by
  refine ⟨fun j => ?_, fun j hj => ?_⟩
  · dsimp only; split
    · exact hx
    · exact h.1 j
  · obtain ⟨h1, h2⟩ := h.2 j hj
    obtain ⟨g1, g2⟩ := h.2 k hk
    dsimp only
    by_cases e : j = k
    · subst e
      rw [if_pos rfl]
      constructor <;> go_simp
    · rw [if_neg e]
      have ne : (⟨g, o + j, none⟩ : Addr) ≠ ⟨g, o + k, none⟩ := by intro h; injection h with _ h _; omega
      have ne2 : o + j ≠ o + k := by omega
      constructor <;> go_simp
theorem owns_bytes {W : World} {B m : Nat} {b : Nat → Nat} {v : Value} (h : W.ownsRow B 5 1 v m (bsL m b)) (hb : ∀ j, b j < 256) : BytesOf W v m b := by
  have h' := h
  obtain ⟨_, ⟨rfl, rfl⟩ | ⟨g, cap, cur, rfl, _⟩⟩ := h'
  · exact ⟨none, 0, rfl, hb, fun _ => ⟨rfl, rfl⟩, fun h => absurd rfl h⟩
  · exact ⟨_, cap, rfl, hb, fun e => (by cases e), fun _ => ⟨g, 0, rfl, fun j hj => by rw [Nat.zero_add, h.cellAt j (by omega), bsL_get m b j hj]⟩⟩
end Go.Proofs.YtipdaiacapjfnaaDoor
