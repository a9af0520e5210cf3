/- The keys of the rows, by their order. -/
import Derived.Test.YtohfkgfjcnldaaaTze
import Derived.Test.YtohfkgfjcnldaaaTv
namespace Go.Proofs.Ytohfkgfjcnldaaa
open Go.RowKit Go.Shelf
/-- Keys tells the document's keys -/
theorem srt_keys {L : List (Int × Int)} : sortK (L.map Prod.fst) = (srt L).map Prod.fst := by
  have p : (sortK (L.map Prod.fst)).Perm ((srt L).map Prod.fst) := (List.mergeSort_perm _ _).trans ((srt_perm L).map _).symm
  have s1 : (sortK (L.map Prod.fst)).Pairwise fun x y => x ≤ y := (List.pairwise_mergeSort (le := fun x y : Int => decide (x ≤ y)) (fun a b c h1 h2 => by simp at *; omega) (fun a b => by simp; omega) _).imp (fun h => by simpa using h)
  have s2 : ((srt L).map Prod.fst).Pairwise fun x y => x ≤ y := by
    rw [List.pairwise_map]
    exact (List.pairwise_mergeSort (le := fun p q : Int × Int => decide (p.1 ≤ q.1)) (fun a b c h1 h2 => by simp at *; omega) (fun a b => by simp; omega) L).imp (fun h => by simpa using h)
  exact List.Perm.eq_of_pairwise (fun a b _ _ h1 h2 => by omega) s1 s2 p
end Go.Proofs.Ytohfkgfjcnldaaa
