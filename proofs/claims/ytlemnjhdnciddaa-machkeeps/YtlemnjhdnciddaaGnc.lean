/- append(s, make([]byte, k)...): zeros behind a row of one's own. -/
import Derived.Test.YtlemnjhdnciddaaGnb
import Derived.Lib.AppendZerosOnto
import Derived.Laws.CopyRow
namespace Go.Proofs.Ytlemnjhdnciddaa
open Go.RowKit
theorem zeros_bD (k : Nat) : Builtin.zeroCells (Value.int .u8 0).cells k = (bD (fun _ => 0) k).toArray := by
  apply Array.ext'
  simp [Builtin.zeroCells, Value.cells, bD, Array.toList_range]
  intro a _
  rw [Nat.mod_one]; rfl
theorem bD_app (u : Nat → Nat) (n k : Nat) : bD u n ++ bD (fun _ => 0) k = bD (fun i => if i < n then u i else 0) (n + k) := by
  apply List.ext_getElem?
  intro i
  by_cases h1 : i < n
  · rw [List.getElem?_append_left (by rw [bD_len]; exact h1), bD_at _ _ _ h1, bD_at _ _ _ (by omega), if_pos h1]
  · rw [List.getElem?_append_right (by rw [bD_len]; omega), bD_len]
    by_cases h2 : i < n + k
    · rw [bD_at _ _ _ (by omega), bD_at _ _ _ h2, if_neg h1]
    · rw [List.getElem?_eq_none (by simp [bD_len]; omega), List.getElem?_eq_none (by simp [bD_len]; omega)]
theorem first_own {W : World} {B n : Nat} {v : Value} {xs : List Value} (h : W.ownsRow B 5 1 v n xs) : (Builtin.firstCells 1 n v).run Try.prog W = .ok xs.toArray W := by
  obtain ⟨hl, ⟨rfl, rfl⟩ | ⟨g, cap, cur, rfl, hb, hg, hnc, hcm, hcs, ht⟩⟩ := h
  · have : xs = [] := List.eq_nil_of_length_eq_zero (by simpa using hl)
    subst this
    simp [Builtin.firstCells]
  · have hh := run_loadCells_list (P := Try.prog) W ⟨g, 0, none⟩ xs (fun j v hv => by
      rw [Addr.add_mid, Nat.zero_add]
      simp only [World.cell?, hg]
      rw [← ht] at hv
      have hj : j < n := by have h9 := (List.getElem?_eq_some_iff.1 hv).1; simp at h9; omega
      rw [List.getElem?_take_of_lt (by omega)] at hv
      simpa using hv)
    have e : xs.length = n * 1 := hl
    simpa [Builtin.firstCells, e] using hh
/-- the row is the one that it was, or a new one -/
def NewR (w : World) (ad ad' : Option Addr) : Prop := ad' = ad ∨ ∀ a, ad' = some a → w.heap.size ≤ a.block
set_option maxHeartbeats 1000000 in
theorem append_zeros (W : World) (B n k : Nat) (ad : Option Addr) (cap : Nat) (u : Nat → Nat) (ty : TypeId) (h : W.ownsRow B 5 1 (.slice ad n cap) n (bD u n)) (hB : B ≤ W.heap.size) (hk : 0 < k) (hnk : n + k ≤ 4194304) :
    ∃ ad' cap' W', (Builtin.append_ #[31, 3] ty #[.slice ad n cap, .int .i64 (k : Int)]).run Try.prog W = .ok (.slice ad' (n + k) cap') W' ∧ W'.ownsRow B 5 1 (.slice ad' (n + k) cap') (n + k) (bD (fun i => if i < n then u i else 0) (n + k)) ∧ W.grownBy W' (Value.slice ad n cap).ownBlock ∧ NewR W ad ad' := by
  obtain ⟨i0, hi, hz0, hz1, hz2⟩ := info_partsB Try.info8
  by_cases hroom : n + k ≤ cap
  · obtain ⟨hl, ⟨e, _⟩ | ⟨g, cap', cur, e, hb, hg, hnc, hcm, hcs, ht⟩⟩ := h
    · injection e with e1 e2 e3; omega
    · injection e with e1 e2 e3
      subst e1
      subst e3
      obtain ⟨R, eR⟩ : ∃ R : Array Value, R = (cur.toList.take n ++ bD (fun _ => 0) k ++ cur.toList.drop (n + k)).toArray := ⟨_, rfl⟩
      have hst := run_storeCells_at Try.prog g n 5 (bD (fun _ => 0) k) 0 cur W hg (by rw [bD_len]; omega) (bD_one _ _)
      rw [Nat.add_zero, bD_len, ← eR] at hst
      have hneg : ¬ ((k : Int) < 0) := by omega
      have hw : IntKind.i64.wrap (k : Int) = k := by rw [IntKind.wrap_i64]; omega
      have h48i : ¬ (281474976710656 < (k : Int)) := by omega
      have hk0 : ¬ k = 0 := by omega
      have had : (⟨g, 0, none⟩ : Addr).add n = ⟨g, n, none⟩ := by rw [Addr.add_mid, Nat.zero_add]
      rw [Nat.mul_one] at ht
      refine ⟨some ⟨g, 0, none⟩, cap, W.setRow g R, ?_, ⟨by rw [bD_len]; omega, Or.inr ⟨g, cap, R, rfl, hb, setRow_heap W g _ _ 5 _ hg, hroom, hcm, ?_, ?_⟩⟩, ⟨rfl, rfl, rfl, by simp [World.setRow], fun q hq hne => setRow_other W g q _ (fun e => hne (by rw [e]; rfl))⟩, Or.inl rfl⟩
      · simp [Builtin.append_, run_underlying Try.underlying31, run_underlying Try.underlying3, sizeOf, typeInfo, zeroValue, hi, hz0, hz1, hz2, asInt, asIntOf, hw, hroom, hneg, hk0, h48i, zeros_bD, had, hst]
      · rw [eR]
        have : cur.toList.length = cap := by simpa using hcs
        simp [bD_len]
        omega
      · rw [eR, Nat.mul_one, ← bD_app, ← ht]
        have h8 : (cur.toList.take n ++ bD (fun _ => 0) k).length = n + k := by rw [List.length_append, bD_len, ht, bD_len]
        rw [show ((cur.toList.take n ++ bD (fun _ => 0) k ++ cur.toList.drop (n + k)).toArray.toList) = cur.toList.take n ++ bD (fun _ => 0) k ++ cur.toList.drop (n + k) from rfl, List.take_append_of_le_length (by omega), List.take_of_length_le (by omega)]
  · have hle := Go.nextslicecap_le (need := n + k) (old := cap) (by omega)
    have hfc : (Builtin.firstCells i0.size n (.slice ad n cap)).run Try.prog W.drew = .ok (bD u n).toArray W.drew := by rw [hz1]; exact first_own h.drew
    have hr := Lib.run_append_grow_zeros (P := Try.prog) W 31 3 ty 5 i0 (.int .u8 0) .i64 .i64 Try.underlying31 Try.underlying3 hi hz0 ad n cap (bD u n) hfc k hk (by omega) (by omega) (by omega) (by rw [hz2]; omega) (by rw [hz2]; omega)
    refine ⟨_, _, _, hr, ⟨by rw [bD_len]; omega, Or.inr ⟨W.heap.size, _, _, rfl, hB, heap_new W.drew _, grownCap_ge _ _ _ _, grownCap_le_maxLen _ _ _ _ (by unfold maxLen; omega), ?_, ?_⟩⟩, ⟨rfl, rfl, rfl, by simp, fun q hq _ => ((Below.refl W.heap.size W).drew.alloc (Nat.le_refl _) _).block q hq⟩, Or.inr fun a e => by obtain rfl := Option.some.inj e; exact Nat.le_refl _⟩
    · have hge := grownCap_ge W (n + k) cap 5
      rw [zeros_bD, zeros_bD]
      simp [bD_len]
      omega
    · rw [zeros_bD, zeros_bD, Nat.mul_one, ← bD_app]
      have h8 : (bD u n ++ bD (fun _ => 0) k).length = n + k := by rw [List.length_append, bD_len, bD_len]
      simp only [Array.toList_append]
      rw [List.take_append_of_le_length (by omega), List.take_of_length_le (by omega)]
end Go.Proofs.Ytlemnjhdnciddaa
