/- A table of package undo beside the document's: what holds between them, step by step. -/
import Derived.Test.YtohfkgfjcnldaaaTzf
namespace Go.Proofs.Ytohfkgfjcnldaaa
open Go.RowKit Go.Shelf
/-- the document's old lists, out of what can be taken back -/
def oldL (V : List Un) (L : List (Int × Int)) (M : List Nat) : List (List (Int × Int)) := M.map fun f => srt (stB V L (V.length - f))
/-- marks that belong to these changes -/
structure Mks (V : List Un) (M : List Nat) : Prop where
  m0 : M = [] → V = []
  mh : ∀ f, M[0]? = some f → f = 0
  ms : M.Pairwise fun x y => x ≤ y
  ml : ∀ f ∈ M, f ≤ V.length
theorem Mks.nil : Mks [] [] := ⟨fun _ => rfl, fun f h => by simp at h, List.Pairwise.nil, fun f h => by cases h⟩
theorem noted_old {n : Nat} {M : List Nat} {V V' : List Un} {L L' : List (Int × Int)} (hm : Mks V M) (h : Noted n M V V' L L') : oldL V' L' M = oldL V L M := by
  rcases h with ⟨rfl, _⟩ | ⟨_, u, rfl, _, ha, _⟩
  · rfl
  · unfold oldL
    apply List.map_congr_left
    intro f hf
    have hl := hm.ml f hf
    rw [List.length_append, List.length_singleton, show V.length + 1 - f = V.length - f + 1 by omega, stB_noted ha _ (by omega)]
theorem noted_mks {n : Nat} {M : List Nat} {V V' : List Un} {L L' : List (Int × Int)} (hm : Mks V M) (h : Noted n M V V' L L') : Mks V' M := by
  rcases h with ⟨h0, rfl⟩ | ⟨h0, u, rfl, _, _⟩
  · exact hm
  · exact ⟨fun e => absurd e h0, hm.mh, hm.ms, fun f hf => by have := hm.ml f hf; rw [List.length_append]; omega⟩
theorem noted_ok {n : Nat} {M : List Nat} {V V' : List Un} {L L' : List (Int × Int)} (hm : Mks V M) (ho : OkB V L) (h : Noted n M V V' L L') : OkB V' L' := by
  rcases h with ⟨h0, rfl⟩ | ⟨h0, u, rfl, h1, h2, _⟩
  · rw [hm.m0 h0]
    intro j hj
    cases hj
  · exact ho.noted h1 h2
theorem noted_len {n : Nat} {M : List Nat} {V V' : List Un} {L L' : List (Int × Int)} (h : Noted n M V V' L L') : V'.length ≤ V.length + 1 := by
  rcases h with ⟨_, rfl⟩ | ⟨_, u, rfl, _, _⟩
  · omega
  · simp
theorem mark_old {M : List Nat} {V : List Un} {L : List (Int × Int)} : oldL V L (M ++ [V.length]) = oldL V L M ++ [srt L] := by
  unfold oldL
  rw [List.map_append, List.map_singleton, Nat.sub_self]
  rfl
theorem mark_mks {M : List Nat} {V : List Un} (hm : Mks V M) : Mks V (M ++ [V.length]) := by
  refine ⟨fun e => by simp at e, fun f hf => ?_, ?_, fun f hf => ?_⟩
  · cases M with
    | nil =>
      rw [hm.m0 rfl] at hf
      simp at hf
      exact hf.symm
    | cons a M => exact hm.mh f (by simpa using hf)
  · rw [List.pairwise_append]
    exact ⟨hm.ms, List.pairwise_singleton _ _, fun x hx y hy => by obtain rfl : y = V.length := by simpa using hy
                                                                   exact hm.ml x hx⟩
  · rcases List.mem_append.1 hf with hf | hf
    · exact hm.ml f hf
    · obtain rfl : f = V.length := by simpa using hf
      exact Nat.le_refl _
theorem take_le {M : List Nat} {V : List Un} (hm : Mks V M) {k f : Nat} (hk : M[k]? = some f) (g : Nat) (hg : g ∈ M.take k) : g ≤ f := by
  obtain ⟨j, hj⟩ := List.mem_iff_getElem?.1 hg
  have hl := (List.getElem?_eq_some_iff.1 hj).1
  rw [List.length_take] at hl
  rw [List.getElem?_take_of_lt (by omega)] at hj
  have hk' := List.getElem?_eq_some_iff.1 hk
  have hj' := List.getElem?_eq_some_iff.1 hj
  have := List.pairwise_iff_getElem.1 hm.ms j k hj'.1 hk'.1 (by omega)
  rw [hj'.2, hk'.2] at this
  exact this
theorem back_old {M : List Nat} {V : List Un} {L : List (Int × Int)} (hm : Mks V M) {k f : Nat} (hk : M[k]? = some f) : oldL (V.take f) (stB V L (V.length - f)) (M.take k) = (oldL V L M).take k := by
  have hf : f ≤ V.length := hm.ml f (List.mem_iff_getElem?.2 ⟨k, hk⟩)
  unfold oldL
  rw [← List.map_take]
  apply List.map_congr_left
  intro g hg
  have hgf := take_le hm hk g hg
  rw [List.length_take, Nat.min_eq_left hf, stB_take hf _ (by omega), show V.length - f + (f - g) = V.length - g by omega]
theorem back_at {M : List Nat} {V : List Un} {L : List (Int × Int)} {k f : Nat} (hk : M[k]? = some f) : (oldL V L M)[k]? = some (srt (stB V L (V.length - f))) := by
  unfold oldL
  rw [List.getElem?_map, hk]
  rfl
theorem back_mks {M : List Nat} {V : List Un} (hm : Mks V M) {k f : Nat} (hk : M[k]? = some f) : Mks (V.take f) (M.take k) := by
  have hf : f ≤ V.length := hm.ml f (List.mem_iff_getElem?.2 ⟨k, hk⟩)
  have kl := (List.getElem?_eq_some_iff.1 hk).1
  refine ⟨fun e => ?_, fun g hg => ?_, List.Pairwise.sublist (List.take_sublist _ _) hm.ms, fun g hg => ?_⟩
  · have h0 : (M.take k).length = 0 := by rw [e]; rfl
    rw [List.length_take] at h0
    obtain rfl : k = 0 := by omega
    rw [hm.mh f hk, List.take_zero]
  · by_cases h0 : 0 < k
    · rw [List.getElem?_take_of_lt h0] at hg
      exact hm.mh g hg
    · obtain rfl : k = 0 := by omega
      simp at hg
  · rw [List.length_take, Nat.min_eq_left hf]
    exact take_le hm hk g hg
theorem forget_old {M : List Nat} {V : List Un} {L : List (Int × Int)} {k : Nat} : oldL (if k = 0 then [] else V) L (M.take k) = (oldL V L M).take k := by
  by_cases h0 : k = 0
  · subst h0
    simp [oldL]
  · rw [if_neg h0]
    unfold oldL
    rw [List.map_take]
theorem forget_mks {M : List Nat} {V : List Un} (hm : Mks V M) {k : Nat} (hk : k < M.length) : Mks (if k = 0 then [] else V) (M.take k) := by
  by_cases h0 : k = 0
  · subst h0
    rw [if_pos rfl, List.take_zero]
    exact Mks.nil
  · rw [if_neg h0]
    refine ⟨fun e => ?_, fun g hg => ?_, List.Pairwise.sublist (List.take_sublist _ _) hm.ms, fun g hg => hm.ml g ((List.take_sublist _ _).subset hg)⟩
    · have h9 : (M.take k).length = 0 := by rw [e]; rfl
      rw [List.length_take] at h9
      omega
    · rw [List.getElem?_take_of_lt (by omega)] at hg
      exact hm.mh g hg
theorem forget_ok {V : List Un} {L : List (Int × Int)} {k : Nat} (ho : OkB V L) : OkB (if k = 0 then [] else V) L := by
  by_cases h0 : k = 0
  · rw [if_pos h0]
    intro j hj
    cases hj
  · rw [if_neg h0]
    exact ho
end Go.Proofs.Ytohfkgfjcnldaaa
