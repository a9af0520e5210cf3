/- Rows by their keys: set over, taken away, asked. -/
import Derived.Test.YtohfkgfjcnldaaaTzd
namespace Go.Proofs.Ytohfkgfjcnldaaa
open Go.RowKit Go.Shelf
theorem ris_rest {l : List (Int × Int)} (h : Ris l) {k : Int} (hl : plc l k < l.length) (he : (atL l (plc l k)).1 = k) (p : Int × Int) (hp : p ∈ l.drop (plc l k + 1)) : k < p.1 := by
  have e := around hl
  unfold Ris at h
  rw [e, List.pairwise_append] at h
  have := (List.pairwise_cons.1 h.2.1).1 p hp
  omega
theorem Nd.key {L : List (Int × Int)} (h : Nd L) {i j : Nat} (hi : i < L.length) (hj : j < L.length) (e : (atL L i).1 = (atL L j).1) : i = j := by
  have gi : L[i]'hi = atL L i := by
    have := atL_get hi
    rw [List.getElem?_eq_getElem hi] at this
    exact Option.some.inj this
  have gj : L[j]'hj = atL L j := by
    have := atL_get hj
    rw [List.getElem?_eq_getElem hj] at this
    exact Option.some.inj this
  unfold Nd at h
  rw [List.pairwise_iff_getElem] at h
  rcases Nat.lt_trichotomy i j with hlt | heq | hgt
  · exact absurd (by rw [gi, gj]; exact e) (h i j hi hj hlt)
  · exact heq
  · exact absurd (by rw [gi, gj]; exact e.symm) (h j i hj hi hgt)
/-- a key that is there gets another value -/
theorem srt_old {L : List (Int × Int)} (hn : Nd L) {i : Nat} (hi : i < L.length) (k v : Int) (hk : (atL L i).1 = k) : srt (L.set i (k, v)) = setRL (srt L) k v := by
  have hr := srt_ris hn
  obtain ⟨h1, h2⟩ := srt_at hn hi
  have hp := rest_perm hn hi
  rw [hk] at h1 h2 hp
  have he : (atL (srt L) (plc (srt L) k)).1 = k := by rw [h2]; exact hk
  unfold setRL
  rw [if_pos ⟨h1, he⟩]
  unfold setAt
  have hA : Ris ((srt L).take (plc (srt L) k)) := List.Pairwise.sublist (List.take_sublist _ _) hr
  have hB : Ris ((srt L).drop (plc (srt L) k + 1)) := List.Pairwise.sublist (List.drop_sublist _ _) hr
  have hj : Ris ((srt L).take (plc (srt L) k) ++ [(k, v)] ++ (srt L).drop (plc (srt L) k + 1)) := ris_join hA hB (fun p hp => ris_take k p hp) (fun p hp => ris_rest hr h1 he p hp)
  have hq : ((srt L).take (plc (srt L) k) ++ [(k, v)] ++ (srt L).drop (plc (srt L) k + 1)).Perm (L.set i (k, v)) := by
    rw [List.append_assoc, List.singleton_append, set_around hi]
    exact ((perm_mid _ _ _).trans (hp.cons _)).trans (perm_mid _ _ _).symm
  refine srt_is hj hq ?_
  have : Nd ((srt L).take (plc (srt L) k) ++ [(k, v)] ++ (srt L).drop (plc (srt L) k + 1)) := by
    unfold Nd
    exact hj.imp (fun h => by omega)
  exact this.perm hq
/-- a key is taken away -/
theorem srt_del {L : List (Int × Int)} (hn : Nd L) {i : Nat} (hi : i < L.length) : srt (remL L i) = delRL (srt L) (atL L i).1 := by
  have hr := srt_ris hn
  obtain ⟨h1, h2⟩ := srt_at hn hi
  have hp := rest_perm hn hi
  unfold delRL
  have hs : ((srt L).take (plc (srt L) (atL L i).1) ++ (srt L).drop (plc (srt L) (atL L i).1 + 1)).Sublist (srt L) := by
    have e := around h1
    have h9 : ((srt L).take (plc (srt L) (atL L i).1) ++ (srt L).drop (plc (srt L) (atL L i).1 + 1)).Sublist ((srt L).take (plc (srt L) (atL L i).1) ++ atL (srt L) (plc (srt L) (atL L i).1) :: (srt L).drop (plc (srt L) (atL L i).1 + 1)) := List.Sublist.append (List.Sublist.refl _) (List.sublist_cons_self _ _)
    rw [← e] at h9
    exact h9
  have hj : Ris ((srt L).take (plc (srt L) (atL L i).1) ++ (srt L).drop (plc (srt L) (atL L i).1 + 1)) := List.Pairwise.sublist hs hr
  have hq := hp.trans (rem_perm hi).symm
  refine srt_is hj hq ?_
  have : Nd ((srt L).take (plc (srt L) (atL L i).1) ++ (srt L).drop (plc (srt L) (atL L i).1 + 1)) := by
    unfold Nd
    exact hj.imp (fun h => by omega)
  exact this.perm hq
/-- what both tell of a key -/
theorem srt_get {m : Int → Option Nat} {L : List (Int × Int)} (h : IX m L) (k : Int) : (getR (srt L) k).getD 0 = valL m L k ∧ (getR (srt L) k).isSome = (m k).isSome := by
  have hn := h.nd
  cases e : m k with
  | some i =>
    obtain ⟨hi, hk⟩ := h.some e
    obtain ⟨h1, h2⟩ := srt_at hn hi
    rw [hk] at h1 h2
    have eg : getR (srt L) k = Option.some (atL L i).2 := by unfold getR; rw [h2, if_pos ⟨h1, hk⟩]
    have ev : valL m L k = (atL L i).2 := by unfold valL; rw [e]; simp only; rw [atL_get hi]; rfl
    rw [eg, ev]
    exact ⟨rfl, rfl⟩
  | none =>
    have eg : getR (srt L) k = Option.none := by
      unfold getR
      rw [if_neg]
      rintro ⟨h1, h2⟩
      have hm : atL (srt L) (plc (srt L) k) ∈ L := (srt_perm L).subset (atL_mem h1)
      obtain ⟨j, hj⟩ := List.mem_iff_getElem?.1 hm
      have := (h k j).2 (by rw [hj]; exact congrArg Option.some h2)
      rw [e] at this
      cases this
    have ev : valL m L k = 0 := by unfold valL; rw [e]
    rw [eg, ev]
    exact ⟨rfl, rfl⟩
end Go.Proofs.Ytohfkgfjcnldaaa
