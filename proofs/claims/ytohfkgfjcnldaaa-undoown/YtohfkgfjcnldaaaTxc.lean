/- Rows that are written over, one number behind the other. -/
import Derived.Test.YtohfkgfjcnldaaaTxa
namespace Go.Proofs.Ytohfkgfjcnldaaa
open Go.RowKit Go.Shelf
/-- row i's mark -/
def mrk (i : Nat) : Int := -100000 - (i : Int)
/-- the first k numbers are x -/
def frow (l : List Int) (x : Int) (k : Nat) : List Int := List.replicate (min k l.length) x ++ l.drop k
theorem frow_len (l : List Int) (x : Int) (k : Nat) : (frow l x k).length = l.length := by simp [frow]; omega
theorem frow_zero (l : List Int) (x : Int) : frow l x 0 = l := by simp [frow]
theorem frow_all (l : List Int) (x : Int) : frow l x l.length = List.replicate l.length x := by simp [frow]
theorem frow_next (l : List Int) (x : Int) (k : Nat) (hk : k < l.length) : (frow l x k).set k x = frow l x (k + 1) := by
  unfold frow
  rw [Nat.min_eq_left (by omega), Nat.min_eq_left (by omega), List.set_append_right _ _ (by simp), List.length_replicate, Nat.sub_self, List.replicate_succ', List.append_assoc]
  congr 1
  have e : l.drop k = l[k] :: l.drop (k + 1) := (List.drop_eq_getElem_cons hk)
  rw [e]
  rfl
/-- rows ahead of i are full, of row i the first k numbers -/
def fil (D : List (Nat × List Int)) (i k : Nat) : List (Nat × List Int) := D.mapIdx fun j p => (p.1, if j < i then List.replicate p.2.length (mrk j) else if j = i then frow p.2 (mrk j) k else p.2)
theorem fil_len (D : List (Nat × List Int)) (i k : Nat) : (fil D i k).length = D.length := by simp [fil]
theorem fil_get (D : List (Nat × List Int)) (i k j : Nat) : (fil D i k)[j]? = D[j]?.map fun p => (p.1, if j < i then List.replicate p.2.length (mrk j) else if j = i then frow p.2 (mrk j) k else p.2) := by simp [fil]
theorem fil_zero (D : List (Nat × List Int)) : fil D 0 0 = D := by
  apply List.ext_getElem?
  intro j
  rw [fil_get]
  cases e : D[j]? with
  | none => rfl
  | some p =>
    simp only [Option.map_some]
    congr 1
    rw [if_neg (by omega)]
    split
    · rw [frow_zero]
    · rfl
theorem fil_row (D : List (Nat × List Int)) (i k : Nat) {g : Nat} {l : List Int} (hi : D[i]? = some (g, l)) : (fil D i k)[i]? = some (g, frow l (mrk i) k) := by
  rw [fil_get, hi]
  show some (g, if i < i then List.replicate l.length (mrk i) else if i = i then frow l (mrk i) k else l) = _
  rw [if_neg (by omega), if_pos rfl]
theorem fil_next (D : List (Nat × List Int)) (i : Nat) {g : Nat} {l : List Int} (hi : D[i]? = some (g, l)) : fil D i l.length = fil D (i + 1) 0 := by
  apply List.ext_getElem?
  intro j
  rw [fil_get, fil_get]
  cases e : D[j]? with
  | none => rfl
  | some p =>
    simp only [Option.map_some]
    congr 2
    by_cases h1 : j < i
    · rw [if_pos h1, if_pos (by omega)]
    · rw [if_neg h1]
      by_cases h2 : j = i
      · subst h2
        rw [hi] at e
        injection e with e
        subst e
        rw [if_pos rfl, if_pos (by omega), frow_all]
      · rw [if_neg h2, if_neg (by omega)]
        split
        · rw [frow_zero]
        · rfl
theorem fil_set (D : List (Nat × List Int)) (i k : Nat) {g : Nat} {l : List Int} (hi : D[i]? = some (g, l)) (hk : k < l.length) : (fil D i k).set i (g, (frow l (mrk i) k).set k (mrk i)) = fil D i (k + 1) := by
  have hl := (List.getElem?_eq_some_iff.1 hi).1
  apply List.ext_getElem?
  intro j
  by_cases e : j = i
  · subst e
    rw [List.getElem?_set_self (by rw [fil_len]; exact hl), fil_row D j (k + 1) hi, frow_next _ _ _ hk]
  · rw [List.getElem?_set_ne (Ne.symm e), fil_get, fil_get]
    congr 1
    funext p
    rw [if_neg e, if_neg e]
theorem fil_vs (D : List (Nat × List Int)) (i k : Nat) : (fil D i k).map rowV = D.map rowV := by
  apply List.ext_getElem?
  intro j
  rw [List.getElem?_map, List.getElem?_map, fil_get]
  cases e : D[j]? with
  | none => rfl
  | some p =>
    simp only [Option.map_some]
    congr 1
    unfold rowV
    simp only
    congr 1
    all_goals (split; simp; split; rw [frow_len]; rfl)
/-- all rows are full -/
theorem fil_full (D : List (Nat × List Int)) {n j g : Nat} {l : List Int} (hn : j < n) (hj : D[j]? = some (g, l)) : (fil D n 0)[j]? = some (g, List.replicate l.length (mrk j)) := by
  rw [fil_get, hj]
  simp only [Option.map_some]
  rw [if_pos hn]
end Go.Proofs.Ytohfkgfjcnldaaa
