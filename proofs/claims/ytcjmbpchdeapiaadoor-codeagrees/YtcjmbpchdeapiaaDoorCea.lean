/- CodeWhole. -/
import Derived.Test.YtcjmbpchdeapiaaDoorCdm
import Derived.Test.YtcjmbpchdeapiaaDoorOpy
namespace Go.Proofs.YtcjmbpchdeapiaaDoor
open Go.RowKit
set_option maxRecDepth 2000 in
theorem sc_ok {b : Nat → Nat} {L k : Nat} (h : scE b L k = 0) (hF : FullA b L k) : L ≠ 0 ∧ posA b k = L ∧ k ≠ 0 ∧ endsV (b (posA b (k - 1)) : Int) = true := by
  unfold scE at h
  by_cases h0 : L = 0
  · rw [if_pos h0] at h; exact absurd h (by decide)
  · rw [if_neg h0] at h
    by_cases h1 : posA b k < L
    · rw [if_pos h1] at h
      unfold errA at h
      rw [if_neg (by omega)] at h
      split at h
      · exact absurd h (by decide)
      · exact absurd h (by decide)
    · rw [if_neg h1] at h
      have hle := hF.1.le_len
      refine ⟨h0, by omega, fun e => ?_, ?_⟩
      · subst e; exact h1 (by show 0 < L; omega)
      · by_cases he : endsV (b (posA b (k - 1)) : Int) = true
        · exact he
        · rw [if_neg he] at h; exact absurd h (by decide)
/-- the j-th instruction that Scan told, as it lies in memory -/
theorem row_at {W : World} {n0 : Nat} {b : Nat → Nat} {k g cap : Nat} {xs : List (Nat × Nat × Nat)} (hl : xs.length = k) (hx : FitA b xs) (hr : W.ownsRow n0 40 4 (.slice (some ⟨g, 0, none⟩) k cap) k (insL b xs)) (hq : InsQ n0 b xs W) (j : Nat) (hj : j < k) :
    ∃ q, W.cell? ⟨g, j * 4, none⟩ = some (.int .i64 (posA b j : Int)) ∧ W.cell? ⟨g, j * 4 + 1, none⟩ = some (.int .i64 (b (posA b j) : Int)) ∧ W.cell? ⟨g, j * 4 + 2, none⟩ = some (.slice (some ⟨q, 0, none⟩) (immA b (posA b j)) (immA b (posA b j))) ∧ W.cell? ⟨g, j * 4 + 3, none⟩ = some (.int .i64 (posA b (j + 1) : Int)) ∧ n0 ≤ q ∧ InsB W q (immA b (posA b j)) (fun i => b (posA b j + 1 + i)) := by
  have hx2 : xs[j]? = some xs[j] := List.getElem?_eq_getElem (by omega)
  have e := hx.get hx2
  have hm := hq.2 xs[j] (List.getElem_mem _)
  have key : ∀ i, i < 4 → W.cell? ⟨g, j * 4 + i, none⟩ = (insC b xs[j])[i]? := fun i hi => by
    rw [hr.cellAt (j * 4 + i) (by omega), Nat.mul_comm j 4]; exact insL_get b xs j i _ hx2 hi
  refine ⟨xs[j].2.1, ?_, ?_, ?_, ?_, hm.1, ?_⟩
  · have := key 0 (by omega); rw [Nat.add_zero] at this; rw [this]; simp only [insC, List.getElem?_cons_zero, e]
  · rw [key 1 (by omega)]; simp only [insC, List.getElem?_cons_zero, List.getElem?_cons_succ, e]
  · rw [key 2 (by omega)]; simp only [insC, List.getElem?_cons_zero, List.getElem?_cons_succ, e]
  · rw [key 3 (by omega)]; simp only [insC, List.getElem?_cons_zero, List.getElem?_cons_succ, e, posA]
  · have h2 := hm.2; rw [e] at h2; exact h2
theorem bsL_join (b : Nat → Nat) (A n : Nat) : bsL A b ++ [.int .u8 (b A : Int)] ++ bsL n (fun i => b (A + 1 + i)) = bsL (A + 1 + n) b := by
  apply List.ext_getElem?
  intro i
  by_cases h1 : i < A
  · rw [List.getElem?_append_left (by simp [bsL_len]; omega), List.getElem?_append_left (by rw [bsL_len]; exact h1), bsL_get A b i h1, bsL_get _ b i (by omega)]
  · by_cases h2 : i = A
    · subst h2
      rw [List.getElem?_append_left (by simp [bsL_len]), List.getElem?_append_right (by simp [bsL_len]), bsL_get _ b i (by omega)]
      simp [bsL_len]
    · rw [List.getElem?_append_right (by simp [bsL_len]; omega)]
      by_cases h3 : i < A + 1 + n
      · rw [bsL_get _ b i h3, bsL_get n _ _ (by simp [bsL_len]; omega)]
        simp only [List.length_append, bsL_len, List.length_singleton]
        rw [show A + 1 + (i - (A + 1)) = i by omega]
      · rw [List.getElem?_eq_none (by simp [bsL_len]; omega), List.getElem?_eq_none (by simp [bsL_len]; omega)]
/-- the text that bytes are -/
def txB (m : Nat) (b : Nat → Nat) : ByteArray := ((List.range m).map fun i => (b i : Int)).foldl (fun r m => r.push (UInt8.ofNat m.toNat)) ByteArray.empty
theorem conv_by (W : World) (v : Value) (m : Nat) (b : Nat → Nat) (h : BytesOf W v m b) : (convert 22 9 v).run Tryd.prog W = .ok (.string (txB m b)) W := by
  obtain ⟨ad, cap, rfl, hb, hnil, hc⟩ := h
  rw [run_convert_bytes_string W _ _ _ _ _ _ Tryd.underlying22 Tryd.underlying5 Tryd.underlying9]
  rcases ad with _ | ad
  · obtain ⟨rfl, rfl⟩ := hnil rfl
    simp [Conv.bytesToString, txB]
  · have hl : (loadCells ad m).run Tryd.prog W = .ok (((List.range m).map fun i => (b i : Int)).map (Value.int .u8)).toArray W := by
      have hh := run_loadCells_list (P := Tryd.prog) W ad (((List.range m).map fun i => (b i : Int)).map (Value.int .u8)) (fun j v hv => by
        have hj : j < m := by have := (List.getElem?_eq_some_iff.1 hv).1; simpa using this
        obtain ⟨g, o, e, hc2⟩ := hc (by omega)
        obtain rfl := Option.some.inj e
        rw [Addr.add_mid, hc2 j hj]
        simp [hj] at hv
        rw [← hv])
      simpa using hh
    rw [run_bytesToString W ad m cap _ hl]
    rfl
end Go.Proofs.YtcjmbpchdeapiaaDoor
