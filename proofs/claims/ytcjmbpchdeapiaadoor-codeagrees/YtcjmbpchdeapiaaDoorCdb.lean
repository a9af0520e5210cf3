/- Package code: lists of bytes; copied. -/
import Derived.Test.YtcjmbpchdeapiaaDoorOpe
import Derived.OwnWalk
import Derived.Laws.OwnMore
import Derived.Laws.MakeOwn
import Derived.Laws.CopyRow
import Derived.Deep.WholeRow
import Derived.WalkKit
namespace Go.Proofs.YtcjmbpchdeapiaaDoor
open Go.RowKit
theorem infoB8 : (Tryd.prog.info? 5).map (fun i => (i.zero, i.size, i.bytes)) = some (some (.int .u8 0), 1, 1) := by kernel_rfl
/-- a slice that reads as these bytes -/
def BytesOf (W : World) (v : Value) (m : Nat) (b : Nat → Nat) : Prop := ∃ ad cap, v = .slice ad m cap ∧ (∀ j, b j < 256) ∧ (ad = none → cap = 0 ∧ m = 0) ∧ (m ≠ 0 → ∃ g o, ad = some ⟨g, o, none⟩ ∧ ∀ j, j < m → W.cell? ⟨g, o + j, none⟩ = some (.int .u8 (b j : Int)))
theorem BytesOf.below {W W' : World} {n : Nat} {v : Value} {m : Nat} {b : Nat → Nat} (h : BytesOf W v m b) (hn : n = W.heap.size) (hB : Below n W W') : BytesOf W' v m b := by
  subst hn
  obtain ⟨ad, cap, h1, h2, h3, h4⟩ := h
  refine ⟨ad, cap, h1, h2, h3, fun hm => ?_⟩
  obtain ⟨g, o, e, hc⟩ := h4 hm
  exact ⟨g, o, e, fun j hj => (hB.cell (p := ⟨g, o + j, none⟩) (World.block_lt_of_cell? W _ (hc j hj))).trans (hc j hj)⟩
/-- bytes as cells -/
def bsL (m : Nat) (b : Nat → Nat) : List Value := (List.range m).map fun j => .int .u8 (b j : Int)
theorem bsL_len (m : Nat) (b : Nat → Nat) : (bsL m b).length = m := by simp [bsL]
theorem bsL_one (m : Nat) (b : Nat → Nat) : ∀ u ∈ bsL m b, u.oneCell' = true := by
  intro u hu; simp only [bsL, List.mem_map] at hu; obtain ⟨i, _, rfl⟩ := hu; rfl
theorem bsL_get (m : Nat) (b : Nat → Nat) (j : Nat) (h : j < m) : (bsL m b)[j]? = some (.int .u8 (b j : Int)) := by simp [bsL, h]
theorem bsL_at {m : Nat} {b : Nat → Nat} {j : Nat} {u : Value} (h : (bsL m b)[j]? = some u) : j < m ∧ u = .int .u8 (b j : Int) := by
  have hj : j < m := by have := (List.getElem?_eq_some_iff.1 h).1; rwa [bsL_len] at this
  rw [bsL_get m b j hj] at h
  exact ⟨hj, (Option.some.inj h).symm⟩
/-- what copied makes -/
abbrev cpW (w : World) (m : Nat) (b : Nat → Nat) : World := w.alloc (.cells (bsL m b).toArray 5)
theorem cp_own (w : World) (m : Nat) (b : Nat → Nat) (hm : m ≤ maxLen) : (cpW w m b).ownsRow w.heap.size 5 1 (.slice (some ⟨w.heap.size, 0, none⟩) m m) m (bsL m b) :=
  ⟨by rw [bsL_len]; omega, Or.inr ⟨w.heap.size, m, (bsL m b).toArray, rfl, Nat.le_refl _, heap_alloc_new w _, Nat.le_refl _, hm, by simp [bsL_len], by rw [Nat.mul_one]; exact List.take_of_length_le (by simp [bsL_len])⟩⟩
set_option maxHeartbeats 1000000 in
theorem copied_is (w : World) (v : Value) (m : Nat) (b : Nat → Nat) (hm : m ≤ 1000000) (hv : BytesOf w v m b) : Calls Tryd.prog 29 #[v] w fun e w' => e = .returned (.slice (some ⟨w.heap.size, 0, none⟩) m m) ∧ w' = cpW w m b := by
  obtain ⟨ad, cap, rfl, hb, hnil, hc⟩ := hv
  obtain ⟨i0, hi, hz0, hz1, hz2⟩ := info_parts infoB8
  have hmk := run_makeSlice (P := Tryd.prog) w 22 5 i0 (.int .u8 0) Tryd.underlying22 hi hz0 .i64 .i64 (m : Int) (m : Int) (by omega) (Int.le_refl _) (by rw [hz1]; simp; omega) (by rw [hz2]; omega) (by omega)
  simp only [Int.toNat_natCast, hz1, Nat.mul_one] at hmk
  have hsz : (madeCells (Value.int .u8 0).cells m).size = m := by simp [madeCells, Value.cells]
  generalize madeCells (Value.int .u8 0).cells m = A0 at hmk hsz
  have hn := heap_alloc_new w (.cells A0 5)
  have hcp : Sem.run Tryd.prog (Builtin.copy_ #[22, 22] 3 #[.slice (some ⟨w.heap.size, 0, none⟩) m m, .slice ad m cap]) (w.alloc (.cells A0 5)) = .ok (.int .i64 (m : Int)) (cpW w m b) := by
    by_cases h0 : ad = none
    · obtain ⟨rfl, rfl⟩ := hnil h0
      subst h0
      have := run_copy_nil (P := Tryd.prog) (w.alloc (.cells A0 5)) 22 22 3 5 ⟨w.heap.size, 0, none⟩ 0 0 Tryd.underlying22 (by kernel_rfl)
      rw [this]
      have e0 : A0 = (bsL 0 b).toArray := by
        have : A0 = #[] := Array.eq_empty_of_size_eq_zero hsz
        rw [this]; rfl
      rw [e0]; rfl
    · obtain ⟨a, rfl⟩ := Option.ne_none_iff_exists'.1 h0
      have := run_copy_row (P := Tryd.prog) (w.alloc (.cells A0 5)) 22 22 3 5 w.heap.size 0 m m a m cap A0 5 (bsL m b) Tryd.underlying22 (by kernel_rfl) hn (by rw [bsL_len]; simp) (fun j u hj => by
        obtain ⟨hj', rfl⟩ := bsL_at hj
        obtain ⟨g, o, ha, hby⟩ := hc (by omega)
        obtain rfl := Option.some.inj ha
        rw [Addr.add_mid]
        exact (((Below.refl _ w).alloc (Nat.le_refl _) _).cell (p := ⟨g, o + j, none⟩) (World.block_lt_of_cell? w _ (hby j hj'))).trans (hby j hj')) (by rw [bsL_len, hsz]; omega) (bsL_one m b)
      rw [this, World.setRow_alloc_new, bsL_len]
      have e1 : (A0.toList.take 0 ++ bsL m b ++ A0.toList.drop (0 + m)).toArray = (bsL m b).toArray := by
        rw [List.take_zero, List.nil_append, Nat.zero_add, List.drop_of_length_le (by simp [hsz]), List.append_nil]
      rw [e1]; rfl
  clear hc hnil hb hi hz0 hz1 hz2 hn hsz
  generalize cpW w m b = W2 at hcp ⊢
  generalize w.alloc (.cells A0 5) = W1 at hmk hcp
  generalize w.heap.size = q at hmk hcp ⊢
  go_enter Tryd.func29, Tryd.ntmps29
  go_wp2
  go_ret
  exact ⟨rfl, rfl⟩
end Go.Proofs.YtcjmbpchdeapiaaDoor
