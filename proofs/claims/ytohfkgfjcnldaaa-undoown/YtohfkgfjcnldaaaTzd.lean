/- Rows by their keys: a table's rows, and the document's list. -/
import Derived.Test.YtohfkgfjcnldaaaTzc
namespace Go.Proofs.Ytohfkgfjcnldaaa
open Go.RowKit Go.Shelf
/-- rising by their keys -/
def Ris (l : List (Int × Int)) : Prop := l.Pairwise fun p q => p.1 < q.1
/-- the rows by their keys -/
def srt (L : List (Int × Int)) : List (Int × Int) := L.mergeSort fun p q => decide (p.1 ≤ q.1)
theorem srt_perm (L : List (Int × Int)) : (srt L).Perm L := List.mergeSort_perm L _
theorem srt_len (L : List (Int × Int)) : (srt L).length = L.length := (srt_perm L).length_eq
/-- no key twice -/
def Nd (L : List (Int × Int)) : Prop := L.Pairwise fun p q => p.1 ≠ q.1
theorem IX.nd {m : Int → Option Nat} {L : List (Int × Int)} (h : IX m L) : Nd L := by
  unfold Nd
  rw [List.pairwise_iff_getElem]
  intro i j hi hj hij e
  have h1 := (h L[i].1 i).2 (by rw [List.getElem?_eq_getElem hi]; rfl)
  have h2 := (h L[i].1 j).2 (by rw [List.getElem?_eq_getElem hj]; show Option.some L[j].1 = Option.some L[i].1; rw [e])
  rw [h1] at h2
  have := Option.some.inj h2
  omega
theorem Nd.perm {L L' : List (Int × Int)} (h : Nd L) (p : L.Perm L') : Nd L' := (p.pairwise_iff (fun {_ _} e => Ne.symm e)).1 h
theorem srt_ris {L : List (Int × Int)} (h : Nd L) : Ris (srt L) := by
  have hs : (srt L).Pairwise fun p q => decide (p.1 ≤ q.1) = true := List.pairwise_mergeSort (fun a b c h1 h2 => by simp at *; omega) (fun a b => by simp; omega) L
  have hn : Nd (srt L) := h.perm (srt_perm L).symm
  unfold Ris
  refine (hs.and hn).imp ?_
  rintro p q ⟨h1, h2⟩
  simp at h1
  omega
/-- two rising lists with the same rows are one -/
theorem ris_unique : ∀ {l l' : List (Int × Int)}, Ris l → Ris l' → l.Perm l' → l = l'
  | [], l', _, _, p => (List.nil_perm.1 p).symm
  | a :: l, l', h, h', p => by
    cases l' with
    | nil => exact absurd p.symm (by simp)
    | cons b l' =>
      have h1 := List.pairwise_cons.1 h
      have h2 := List.pairwise_cons.1 h'
      have e : a = b := by
        have ha : a ∈ b :: l' := p.subset (List.mem_cons_self ..)
        have hb : b ∈ a :: l := p.symm.subset (List.mem_cons_self ..)
        rcases List.mem_cons.1 ha with e | ha
        · exact e
        · rcases List.mem_cons.1 hb with e | hb
          · exact e.symm
          · have := h1.1 b hb
            have := h2.1 a ha
            omega
      subst e
      rw [ris_unique h1.2 h2.2 (List.perm_cons a |>.1 p)]
theorem srt_is {L l : List (Int × Int)} (h : Ris l) (p : l.Perm L) (hn : Nd L) : srt L = l := ris_unique (srt_ris hn) h ((srt_perm L).trans p.symm)
/-- a list around its place i -/
theorem around {l : List (Int × Int)} {i : Nat} (h : i < l.length) : l = l.take i ++ atL l i :: l.drop (i + 1) := by
  have e : l[i]'h = atL l i := by
    have := atL_get h
    rw [List.getElem?_eq_getElem h] at this
    exact Option.some.inj this
  rw [← e, ← List.drop_eq_getElem_cons h, List.take_append_drop]
theorem ris_take {l : List (Int × Int)} (k : Int) (p : Int × Int) (hp : p ∈ l.take (plc l k)) : p.1 < k := by
  obtain ⟨j, hj⟩ := List.mem_iff_getElem?.1 hp
  have hl := (List.getElem?_eq_some_iff.1 hj).1
  rw [List.length_take] at hl
  have h1 := plc_lt l k j (by omega)
  rw [List.getElem?_take_of_lt (by omega)] at hj
  unfold atL at h1
  rw [hj] at h1
  exact h1
theorem ris_drop {l : List (Int × Int)} (h : Ris l) (k : Int) (p : Int × Int) (hp : p ∈ l.drop (plc l k)) : k ≤ p.1 := by
  by_cases hi : plc l k < l.length
  · have h0 := plc_ge l k hi
    rw [List.drop_eq_getElem_cons hi] at hp
    have e : l[plc l k]'hi = atL l (plc l k) := by
      have := atL_get hi
      rw [List.getElem?_eq_getElem hi] at this
      exact Option.some.inj this
    rcases List.mem_cons.1 hp with rfl | hp
    · rw [e]; omega
    · have hr : Ris (l.drop (plc l k)) := List.Pairwise.sublist (List.drop_sublist _ _) h
      unfold Ris at hr
      rw [List.drop_eq_getElem_cons hi] at hr
      have := (List.pairwise_cons.1 hr).1 p hp
      rw [e] at this
      omega
  · rw [List.drop_eq_nil_of_le (by omega)] at hp
    cases hp
/-- rows ahead of a key, a row with it, rows behind it -/
theorem ris_join {A B : List (Int × Int)} {r : Int × Int} (hA : Ris A) (hB : Ris B) (h1 : ∀ p ∈ A, p.1 < r.1) (h2 : ∀ p ∈ B, r.1 < p.1) : Ris (A ++ [r] ++ B) := by
  unfold Ris at *
  rw [List.append_assoc, List.pairwise_append]
  refine ⟨hA, ?_, fun p hp q hq => ?_⟩
  · rw [List.singleton_append, List.pairwise_cons]
    exact ⟨h2, hB⟩
  · rcases List.mem_append.1 hq with hq | hq
    · obtain rfl : q = r := by simpa using hq
      exact h1 p hp
    · have := h1 p hp
      have := h2 q hq
      omega
theorem perm_mid (A B : List (Int × Int)) (r : Int × Int) : (A ++ r :: B).Perm (r :: (A ++ B)) := List.perm_middle
theorem ins_end (L : List (Int × Int)) (r : Int × Int) : insL L L.length r = L ++ [r] := by
  apply List.ext_getElem?
  intro j
  rw [insL_at L L.length r (Nat.le_refl _) j]
  by_cases e : j = L.length
  · subst e
    rw [if_pos rfl, app_at_end]
    simp
  · rw [if_neg e, if_neg e]
    by_cases e2 : j < L.length
    · rw [List.getElem?_append_left e2]
    · rw [List.getElem?_eq_none (by omega), List.getElem?_eq_none (by simp; omega)]
/-- a new key: the document's list -/
theorem srt_new {L : List (Int × Int)} (hn : Nd L) (k v : Int) (hk : ∀ p ∈ L, p.1 ≠ k) : srt (insL L L.length (k, v)) = setRL (srt L) k v := by
  have hr := srt_ris hn
  have hk' : ∀ p ∈ srt L, p.1 ≠ k := fun p hp => hk p ((srt_perm L).subset hp)
  have hc : ¬ (plc (srt L) k < (srt L).length ∧ (atL (srt L) (plc (srt L) k)).1 = k) := fun h => hk' _ (atL_mem h.1) h.2
  unfold setRL
  rw [if_neg hc]
  unfold setAt
  have hA : Ris ((srt L).take (plc (srt L) k)) := List.Pairwise.sublist (List.take_sublist _ _) hr
  have hB : Ris ((srt L).drop (plc (srt L) k)) := List.Pairwise.sublist (List.drop_sublist _ _) hr
  have hj : Ris ((srt L).take (plc (srt L) k) ++ [(k, v)] ++ (srt L).drop (plc (srt L) k)) := ris_join hA hB (fun p hp => ris_take k p hp) (fun p hp => by
    have h1 := ris_drop hr k p hp
    have h2 := hk' p ((List.drop_sublist _ _).subset hp)
    show k < p.1
    omega)
  have hp : ((srt L).take (plc (srt L) k) ++ [(k, v)] ++ (srt L).drop (plc (srt L) k)).Perm (L ++ [(k, v)]) := by
    rw [List.append_assoc, List.singleton_append]
    refine (perm_mid _ _ _).trans ?_
    rw [List.take_append_drop]
    exact ((srt_perm L).cons _).trans (List.perm_append_singleton _ _).symm
  rw [ins_end]
  refine srt_is hj hp ?_
  unfold Nd
  rw [List.pairwise_append]
  exact ⟨hn, List.pairwise_singleton _ _, fun p hp q hq => by obtain rfl : q = (k, v) := by simpa using hq
                                                              exact hk p hp⟩
/-- where a key of the rows lies in the document's list -/
theorem srt_at {L : List (Int × Int)} (hn : Nd L) {i : Nat} (hi : i < L.length) : plc (srt L) (atL L i).1 < (srt L).length ∧ atL (srt L) (plc (srt L) (atL L i).1) = atL L i := by
  have hr := srt_ris hn
  have hm : atL L i ∈ srt L := (srt_perm L).symm.subset (atL_mem hi)
  have h0 : ¬ atL L i ∈ (srt L).take (plc (srt L) (atL L i).1) := fun h => by
    have := ris_take (atL L i).1 _ h
    omega
  have h1 : atL L i ∈ (srt L).drop (plc (srt L) (atL L i).1) := by
    rw [← List.take_append_drop (plc (srt L) (atL L i).1) (srt L)] at hm
    rcases List.mem_append.1 hm with h | h
    · exact absurd h h0
    · exact h
  have hl : plc (srt L) (atL L i).1 < (srt L).length := by
    by_cases e : plc (srt L) (atL L i).1 < (srt L).length
    · exact e
    · rw [List.drop_eq_nil_of_le (by omega)] at h1
      cases h1
  refine ⟨hl, ?_⟩
  have hd : Ris ((srt L).drop (plc (srt L) (atL L i).1)) := List.Pairwise.sublist (List.drop_sublist _ _) hr
  have he : (srt L).drop (plc (srt L) (atL L i).1) = atL (srt L) (plc (srt L) (atL L i).1) :: (srt L).drop (plc (srt L) (atL L i).1 + 1) := by
    rw [List.drop_eq_getElem_cons hl]
    congr 1
    have := atL_get hl
    rw [List.getElem?_eq_getElem hl] at this
    exact Option.some.inj this
  rw [he] at h1
  rcases List.mem_cons.1 h1 with h1 | h1
  · exact h1.symm
  · unfold Ris at hd
    rw [he] at hd
    have h2 := (List.pairwise_cons.1 hd).1 _ h1
    have h3 := plc_ge (srt L) (atL L i).1 hl
    omega
/-- a row taken out of both: what is left is the same -/
theorem rest_perm {L : List (Int × Int)} (hn : Nd L) {i : Nat} (hi : i < L.length) : ((srt L).take (plc (srt L) (atL L i).1) ++ (srt L).drop (plc (srt L) (atL L i).1 + 1)).Perm (L.take i ++ L.drop (i + 1)) := by
  obtain ⟨h1, h2⟩ := srt_at hn hi
  have e1 := around h1
  rw [h2] at e1
  have e2 := around hi
  have hp := srt_perm L
  have p1 : (srt L).Perm (atL L i :: ((srt L).take (plc (srt L) (atL L i).1) ++ (srt L).drop (plc (srt L) (atL L i).1 + 1))) := (List.Perm.of_eq e1).trans (perm_mid _ _ _)
  have p2 : L.Perm (atL L i :: (L.take i ++ L.drop (i + 1))) := (List.Perm.of_eq e2).trans (perm_mid _ _ _)
  exact (List.perm_cons _).1 ((p1.symm.trans hp).trans p2)
theorem set_around {L : List (Int × Int)} {i : Nat} (hi : i < L.length) (r : Int × Int) : L.set i r = L.take i ++ r :: L.drop (i + 1) := by
  apply List.ext_getElem?
  intro j
  by_cases e : j = i
  · subst e
    rw [List.getElem?_set_self hi, List.getElem?_append_right (by rw [List.length_take]; omega), List.length_take, Nat.min_eq_left (by omega), Nat.sub_self]
    rfl
  · rw [List.getElem?_set_ne (Ne.symm e)]
    by_cases e2 : j < i
    · rw [List.getElem?_append_left (by rw [List.length_take]; omega), List.getElem?_take_of_lt e2]
    · rw [List.getElem?_append_right (by rw [List.length_take]; omega), List.length_take, Nat.min_eq_left (by omega)]
      obtain ⟨d, hd⟩ : ∃ d, j - i = d + 1 := ⟨j - i - 1, by omega⟩
      rw [hd, List.getElem?_cons_succ, List.getElem?_drop]
      congr 1
      omega
theorem ins_perm (L : List (Int × Int)) (i : Nat) (r : Int × Int) (hi : i ≤ L.length) : (insL L i r).Perm (r :: L) := by
  by_cases e : i = L.length
  · subst e
    rw [ins_end]
    exact List.perm_append_singleton _ _
  · have hl : i < L.length := by omega
    have h1 : insL L i r = L.set i r ++ [atL L i] := by
      apply List.ext_getElem?
      intro j
      rw [insL_at L i r hi j]
      by_cases ej : j = L.length
      · subst ej
        rw [if_pos rfl, app_at_lt L r hl, List.getElem?_append_right (by rw [List.length_set]; omega), List.length_set, Nat.sub_self]
        rfl
      · rw [if_neg ej]
        by_cases e2 : j < L.length
        · rw [List.getElem?_append_left (by rw [List.length_set]; exact e2)]
          by_cases e3 : j = i
          · subst e3
            rw [if_pos rfl, List.getElem?_set_self hl]
          · rw [if_neg e3, List.getElem?_set_ne (Ne.symm e3)]
        · rw [if_neg (by omega), List.getElem?_eq_none (by omega), List.getElem?_eq_none (by simp; omega)]
    rw [h1, set_around hl]
    have e2 := around hl
    refine (List.perm_append_singleton _ _).trans ?_
    refine ((perm_mid _ _ _).cons _).trans ?_
    refine (List.Perm.swap _ _ _).trans ?_
    refine List.Perm.cons _ ?_
    exact ((List.Perm.of_eq e2).trans (perm_mid _ _ _)).symm
theorem rem_perm {L : List (Int × Int)} {i : Nat} (hi : i < L.length) : (remL L i).Perm (L.take i ++ L.drop (i + 1)) := by
  have h1 := ins_rem L i hi
  have hl := remL_len L i
  have e2 := around hi
  have p2 : L.Perm (atL L i :: (L.take i ++ L.drop (i + 1))) := (List.Perm.of_eq e2).trans (perm_mid _ _ _)
  have p1 : (insL (remL L i) i (atL L i)).Perm (atL L i :: remL L i) := ins_perm _ _ _ (by omega)
  rw [h1] at p1
  exact (List.perm_cons _).1 (p1.symm.trans p2)
end Go.Proofs.Ytohfkgfjcnldaaa
