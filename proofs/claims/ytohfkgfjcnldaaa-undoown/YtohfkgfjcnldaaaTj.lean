/- Package undo: rows laid in, taken away, written over: what becomes of a table. -/
import Derived.Test.YtohfkgfjcnldaaaTi
namespace Go.Proofs.Ytohfkgfjcnldaaa
open Go.RowKit
def atL (L : List (Int × Int)) (i : Nat) : Int × Int := L[i]?.getD (0, 0)
theorem atL_get {L : List (Int × Int)} {i : Nat} (h : i < L.length) : L[i]? = some (atL L i) := by
  unfold atL
  rw [List.getElem?_eq_getElem h]
  rfl
/-- a row at a place; what lay there goes behind all others -/
def insL (L : List (Int × Int)) (i : Nat) (r : Int × Int) : List (Int × Int) := swapL (L ++ [r]) i L.length (atL (L ++ [r]) i) r
/-- the row at a place away; the last one goes there -/
def remL (L : List (Int × Int)) (i : Nat) : List (Int × Int) := (swapL L i (L.length - 1) (atL L i) (atL L (L.length - 1))).take (L.length - 1)
theorem insL_len (L : List (Int × Int)) (i : Nat) (r : Int × Int) : (insL L i r).length = L.length + 1 := by unfold insL; rw [swapL_len]; simp
theorem remL_len (L : List (Int × Int)) (i : Nat) : (remL L i).length = L.length - 1 := by unfold remL; rw [List.length_take, swapL_len]; omega
theorem swapL_at (L : List (Int × Int)) (i j k : Nat) (p q : Int × Int) (hi : i < L.length) (hj : j < L.length) : (swapL L i j p q)[k]? = if k = j then some p else if k = i then some q else L[k]? := by
  unfold swapL
  by_cases e : k = j
  · subst e
    rw [if_pos rfl, List.getElem?_set_self (by rw [List.length_set]; exact hj)]
  · rw [if_neg e, List.getElem?_set_ne (Ne.symm e)]
    by_cases e2 : k = i
    · subst e2
      rw [if_pos rfl, List.getElem?_set_self hi]
    · rw [if_neg e2, List.getElem?_set_ne (Ne.symm e2)]
theorem insL_at (L : List (Int × Int)) (i : Nat) (r : Int × Int) (hi : i ≤ L.length) (k : Nat) : (insL L i r)[k]? = if k = L.length then some (atL (L ++ [r]) i) else if k = i then some r else L[k]? := by
  unfold insL
  rw [swapL_at _ _ _ _ _ _ (by simp; omega) (by simp)]
  by_cases e : k = L.length
  · rw [if_pos e, if_pos e]
  · rw [if_neg e, if_neg e]
    by_cases e2 : k = i
    · rw [if_pos e2, if_pos e2]
    · rw [if_neg e2, if_neg e2]
      by_cases e3 : k < L.length
      · exact List.getElem?_append_left e3
      · rw [List.getElem?_eq_none (by simp; omega), List.getElem?_eq_none (by omega)]
theorem remL_at (L : List (Int × Int)) (i : Nat) (hi : i < L.length) (k : Nat) : (remL L i)[k]? = if k < L.length - 1 then if k = i then some (atL L (L.length - 1)) else L[k]? else none := by
  unfold remL
  by_cases e : k < L.length - 1
  · rw [if_pos e, List.getElem?_take_of_lt e, swapL_at _ _ _ _ _ _ hi (by omega), if_neg (by omega)]
  · rw [if_neg e, List.getElem?_eq_none (by rw [List.length_take, swapL_len]; omega)]
theorem app_at_lt (L : List (Int × Int)) (r : Int × Int) {i : Nat} (h : i < L.length) : atL (L ++ [r]) i = atL L i := by unfold atL; rw [List.getElem?_append_left h]
theorem app_at_end (L : List (Int × Int)) (r : Int × Int) : atL (L ++ [r]) L.length = r := by unfold atL; simp
theorem IX.key {m : Int → Option Nat} {L : List (Int × Int)} (h : IX m L) {i : Nat} (hi : i < L.length) : m (atL L i).1 = some i := (h _ _).2 (by rw [atL_get hi]; rfl)
theorem IX.some {m : Int → Option Nat} {L : List (Int × Int)} (h : IX m L) {k : Int} {i : Nat} (hk : m k = some i) : i < L.length ∧ (atL L i).1 = k := by
  have := (h k i).1 hk
  cases e : L[i]? with
  | none => rw [e] at this; cases this
  | some p =>
    have hl := (List.getElem?_eq_some_iff.1 e).1
    refine ⟨hl, ?_⟩
    rw [atL_get hl] at this
    injection this
theorem upd_same (m : Int → Option Nat) (k : Int) (v : Option Nat) : upd m k v k = v := if_pos rfl
theorem upd_other (m : Int → Option Nat) {k x : Int} (v : Option Nat) (h : x ≠ k) : upd m k v x = m x := if_neg h
theorem ix_ins {m : Int → Option Nat} {L : List (Int × Int)} (h : IX m L) (i : Nat) (r : Int × Int) (hi : i ≤ L.length) (hr : m r.1 = none) : IX (upd (upd m r.1 (some i)) (atL (L ++ [r]) i).1 (some L.length)) (insL L i r) := by
  intro k j
  rw [insL_at L i r hi j]
  by_cases ei : i = L.length
  · subst ei
    rw [app_at_end]
    by_cases ek : k = r.1
    · subst ek
      rw [upd_same]
      by_cases ej : j = L.length
      · subst ej; simp
      · rw [if_neg ej, if_neg ej]
        refine ⟨fun e => absurd (Option.some.inj e).symm ej, fun e => ?_⟩
        have := (h r.1 j).2 e
        rw [hr] at this
        cases this
    · rw [upd_other _ _ ek, upd_other _ _ ek]
      by_cases ej : j = L.length
      · subst ej
        rw [if_pos rfl]
        refine ⟨fun e => ?_, fun e => absurd (Option.some.inj e).symm ek⟩
        have := (h.some e).1
        omega
      · rw [if_neg ej, if_neg ej]
        exact h k j
  · have hl : i < L.length := by omega
    rw [app_at_lt L r hl]
    have hp := h.key hl
    have hne : (atL L i).1 ≠ r.1 := fun e => by rw [e, hr] at hp; cases hp
    by_cases ek : k = (atL L i).1
    · subst ek
      rw [upd_same]
      by_cases ej : j = L.length
      · subst ej; simp
      · rw [if_neg ej]
        refine ⟨fun e => absurd (Option.some.inj e).symm ej, fun e => ?_⟩
        by_cases e2 : j = i
        · rw [if_pos e2] at e
          exact absurd (Option.some.inj e).symm hne
        · rw [if_neg e2] at e
          have := (h _ j).2 e
          rw [hp] at this
          exact absurd (Option.some.inj this).symm e2
    · rw [upd_other _ _ ek]
      by_cases ek2 : k = r.1
      · subst ek2
        rw [upd_same]
        by_cases ej : j = L.length
        · subst ej
          rw [if_pos rfl]
          refine ⟨fun e => absurd (Option.some.inj e) ei, fun e => absurd (Option.some.inj e).symm ek⟩
        · rw [if_neg ej]
          by_cases e2 : j = i
          · subst e2; simp
          · rw [if_neg e2]
            refine ⟨fun e => absurd (Option.some.inj e).symm e2, fun e => ?_⟩
            have := (h _ j).2 e
            rw [hr] at this
            cases this
      · rw [upd_other _ _ ek2]
        by_cases ej : j = L.length
        · subst ej
          rw [if_pos rfl]
          refine ⟨fun e => ?_, fun e => absurd (Option.some.inj e).symm ek⟩
          have := (h.some e).1
          omega
        · rw [if_neg ej]
          by_cases e2 : j = i
          · subst e2
            rw [if_pos rfl]
            refine ⟨fun e => absurd (h.some e).2.symm ek, fun e => absurd (Option.some.inj e).symm ek2⟩
          · rw [if_neg e2]
            exact h k j
theorem ix_rem {m : Int → Option Nat} {L : List (Int × Int)} (h : IX m L) (i lt : Nat) (hlt : L.length = lt + 1) (hi : i < L.length) : IX (upd (upd (upd m (atL L lt).1 (some i)) (atL L i).1 (some lt)) (atL L i).1 none) (remL L i) := by
  intro k j
  rw [remL_at L i hi j, hlt, Nat.add_sub_cancel]
  have hp := h.key hi
  have hq := h.key (i := lt) (by omega)
  by_cases ek : k = (atL L i).1
  · subst ek
    rw [upd_same]
    refine ⟨fun e => (by cases e), fun e => ?_⟩
    by_cases ej : j < lt
    · rw [if_pos ej] at e
      by_cases e2 : j = i
      · rw [if_pos e2] at e
        have e' : (atL L lt).1 = (atL L i).1 := Option.some.inj e
        rw [e', hp] at hq
        have := Option.some.inj hq
        omega
      · rw [if_neg e2] at e
        have := (h _ j).2 e
        rw [hp] at this
        exact absurd (Option.some.inj this).symm e2
    · rw [if_neg ej] at e
      cases e
  · rw [upd_other _ _ ek, upd_other _ _ ek]
    by_cases ek2 : k = (atL L lt).1
    · subst ek2
      rw [upd_same]
      have hil : i ≠ lt := fun e => ek (by rw [e])
      by_cases ej : j < lt
      · rw [if_pos ej]
        by_cases e2 : j = i
        · subst e2; simp
        · rw [if_neg e2]
          refine ⟨fun e => absurd (Option.some.inj e).symm e2, fun e => ?_⟩
          have := (h _ j).2 e
          rw [hq] at this
          have := Option.some.inj this
          omega
      · rw [if_neg ej]
        refine ⟨fun e => ?_, fun e => by cases e⟩
        have := Option.some.inj e
        omega
    · rw [upd_other _ _ ek2]
      by_cases ej : j < lt
      · rw [if_pos ej]
        by_cases e2 : j = i
        · subst e2
          rw [if_pos rfl]
          refine ⟨fun e => absurd (h.some e).2.symm ek, fun e => absurd (Option.some.inj e).symm ek2⟩
        · rw [if_neg e2]
          exact h k j
      · rw [if_neg ej]
        refine ⟨fun e => ?_, fun e => by cases e⟩
        have h1 := h.some e
        have : j = lt := by omega
        subst this
        exact absurd h1.2.symm ek2
theorem ix_put {m : Int → Option Nat} {L : List (Int × Int)} (h : IX m L) (i : Nat) (r : Int × Int) (hi : i < L.length) (hr : (atL L i).1 = r.1) : IX m (L.set i r) := by
  intro k j
  rw [h k j]
  by_cases e : j = i
  · subst e
    rw [List.getElem?_set_self hi, atL_get hi]
    simp [hr]
  · rw [List.getElem?_set_ne (Ne.symm e)]
theorem mem_at {L : List (Int × Int)} {p : Int × Int} (h : p ∈ L) : ∃ j : Nat, L[j]? = some p := List.mem_iff_getElem?.1 h
theorem atL_mem {L : List (Int × Int)} {i : Nat} (h : i < L.length) : atL L i ∈ L := List.mem_iff_getElem?.2 ⟨i, atL_get h⟩
theorem keys_ins {L : List (Int × Int)} (h : ∀ p ∈ L, I64 p.1) (i : Nat) (r : Int × Int) (hi : i ≤ L.length) (hr : I64 r.1) : ∀ p ∈ insL L i r, I64 p.1 := by
  intro p hp
  obtain ⟨j, hj⟩ := mem_at hp
  rw [insL_at L i r hi j] at hj
  split at hj
  · injection hj with hj
    subst hj
    by_cases e : i < L.length
    · rw [app_at_lt L r e]; exact h _ (atL_mem e)
    · obtain rfl : i = L.length := by omega
      rw [app_at_end]; exact hr
  · split at hj
    · injection hj with hj; subst hj; exact hr
    · exact h _ (List.mem_iff_getElem?.2 ⟨j, hj⟩)
theorem keys_rem {L : List (Int × Int)} (h : ∀ p ∈ L, I64 p.1) (i : Nat) (hi : i < L.length) : ∀ p ∈ remL L i, I64 p.1 := by
  intro p hp
  obtain ⟨j, hj⟩ := mem_at hp
  rw [remL_at L i hi j] at hj
  split at hj
  · split at hj
    · injection hj with hj; subst hj; exact h _ (atL_mem (by omega))
    · exact h _ (List.mem_iff_getElem?.2 ⟨j, hj⟩)
  · cases hj
theorem keys_put {L : List (Int × Int)} (h : ∀ p ∈ L, I64 p.1) (i : Nat) (r : Int × Int) (hr : I64 r.1) : ∀ p ∈ L.set i r, I64 p.1 := by
  intro p hp
  rcases List.mem_or_eq_of_mem_set hp with h1 | h1
  · exact h _ h1
  · subst h1; exact hr
end Go.Proofs.Ytohfkgfjcnldaaa
