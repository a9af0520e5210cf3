/- CodeLocal. -/
import Derived.Test.YtcjmbpchdeapiaaDoorCea
import Derived.Test.YtcjmbpchdeapiaaDoorCdh
namespace Go.Proofs.YtcjmbpchdeapiaaDoor
open Go.RowKit
/-- bytes ahead, an instruction's bytes, bytes behind -/
def midB (m1 N : Nat) (b1 b2 b3 : Nat → Nat) (j : Nat) : Nat := if j < m1 then b1 j else if j < m1 + N then b2 (j - m1) else b3 (j - (m1 + N))
theorem midB_lt {m1 N : Nat} {b1 b2 b3 : Nat → Nat} (h1 : ∀ j, b1 j < 256) (h2 : ∀ j, b2 j < 256) (h3 : ∀ j, b3 j < 256) (j : Nat) : midB m1 N b1 b2 b3 j < 256 := by
  unfold midB; split
  · exact h1 _
  · split
    · exact h2 _
    · exact h3 _
theorem midB_mid {m1 N : Nat} {b1 b2 b3 : Nat → Nat} (i : Nat) (hi : i < N) : midB m1 N b1 b2 b3 (m1 + i) = b2 i := by
  unfold midB; rw [if_neg (by omega), if_pos (by omega), show m1 + i - m1 = i by omega]
theorem bsL_append (m n : Nat) (b c : Nat → Nat) (d : Nat → Nat) (h1 : ∀ j, j < m → d j = b j) (h2 : ∀ j, j < n → d (m + j) = c j) : bsL m b ++ bsL n c = bsL (m + n) d := by
  apply List.ext_getElem?
  intro i
  by_cases h : i < m
  · rw [List.getElem?_append_left (by rw [bsL_len]; exact h), bsL_get m b i h, bsL_get _ d i (by omega), h1 i h]
  · rw [List.getElem?_append_right (by rw [bsL_len]; omega), bsL_len]
    by_cases h3 : i < m + n
    · rw [bsL_get n c _ (by omega), bsL_get _ d i h3, ← h2 (i - m) (by omega), show m + (i - m) = i by omega]
    · rw [List.getElem?_eq_none (by rw [bsL_len]; omega), List.getElem?_eq_none (by rw [bsL_len]; omega)]
theorem bsL_mid (m1 N m3 : Nat) (b1 b2 b3 : Nat → Nat) : bsL m1 b1 ++ bsL N b2 ++ bsL m3 b3 = bsL (m1 + N + m3) (midB m1 N b1 b2 b3) := by
  rw [bsL_append m1 N b1 b2 (midB m1 N b1 b2 b3) (fun j hj => by unfold midB; rw [if_pos hj]) (fun j hj => midB_mid j hj)]
  exact bsL_append _ _ _ _ _ (fun j hj => rfl) (fun j hj => by unfold midB; rw [if_neg (by omega), if_neg (by omega), show m1 + N + j - (m1 + N) = j by omega])
/-- the instruction reads the same wherever it lies -/
theorem imm_mid {m1 : Nat} {b1 b2 b3 : Nat → Nat} : immA (midB m1 (nxA b2 0) b1 b2 b3) m1 = immA b2 0 := by
  have e0 : midB m1 (nxA b2 0) b1 b2 b3 m1 = b2 0 := by have := midB_mid (m1 := m1) (N := nxA b2 0) (b1 := b1) (b2 := b2) (b3 := b3) 0 (nxA_gt b2 0); rwa [Nat.add_zero] at this
  unfold immA
  rw [e0]
  by_cases h : immT (b2 0) = -1
  · have e1 : midB m1 (nxA b2 0) b1 b2 b3 (m1 + 1) = b2 1 := midB_mid 1 (by unfold nxA immA immN; rw [if_pos h]; omega)
    rw [e1, Nat.zero_add]
  · unfold immN; rw [if_neg h, if_neg h]
theorem own_src {W : World} {base g m c : Nat} {b : Nat → Nat} (h : W.ownsRow base 5 1 (.slice (some ⟨g, 0, none⟩) m c) m (bsL m b)) (k : Nat) (hk : k ≤ m) : ∀ j u, (bsL k b)[j]? = some u → W.cell? ((⟨g, 0, none⟩ : Addr).add j) = some u := fun j u hu => by
  obtain ⟨hj, rfl⟩ := bsL_at hu
  rw [Addr.add_mid, Nat.zero_add, h.cellAt j (by omega), bsL_get m b j (by omega)]
theorem txB_congr {m : Nat} {b c : Nat → Nat} (h : ∀ j, j < m → b j = c j) : txB m b = txB m c := by
  unfold txB
  congr 1
  refine List.map_congr_left fun j hj => ?_
  rw [h j (List.mem_range.1 hj)]
end Go.Proofs.YtcjmbpchdeapiaaDoor
