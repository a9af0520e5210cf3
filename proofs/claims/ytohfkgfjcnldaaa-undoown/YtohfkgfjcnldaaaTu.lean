/- Package undo: Keys by the order of numbers. -/
import Derived.Test.YtohfkgfjcnldaaaTt
import Derived.Laws.MakeOwn
namespace Go.Proofs.Ytohfkgfjcnldaaa
open Go.RowKit Go.Shelf Go.Sort
/-- the order of numbers, as the law says it -/
def cfR (x y : Int) : Int := if x < y then -1 else if y < x then 1 else 0
theorem rising_is (x y : Int) (w : World) : Calls Try.prog 54 #[.int .i64 x, .int .i64 y] w fun e w' => e = .returned (.int .i64 (cfR x y)) ∧ w' = w := by
  unfold cfR
  by_cases h1 : x < y
  · rw [if_pos h1]
    go_enter Try.func54, Try.ntmps54
    go_wp2
    go_ret
    exact ⟨rfl, rfl⟩
  · rw [if_neg h1]
    by_cases h2 : y < x
    · rw [if_pos h2]
      go_enter Try.func54, Try.ntmps54
      go_wp2
      go_ret
      exact ⟨rfl, rfl⟩
    · rw [if_neg h2]
      go_enter Try.func54, Try.ntmps54
      go_wp2
      go_ret
      exact ⟨rfl, rfl⟩
theorem ltR (x y : Int) : ltOf cfR x y = decide (x < y) := by
  unfold ltOf cfR
  by_cases h1 : x < y
  · simp [h1]
  · by_cases h2 : y < x <;> simp [h1, h2]
theorem swoR : SWO (ltOf cfR) where
  irrefl x := by rw [ltR]; simp
  trans x y z h1 h2 := by rw [ltR] at *; simp at *; omega
  ntrans x y z h1 h2 := by rw [ltR] at *; simp at *; omega
theorem readsR (blk off size : Nat) (w : World) : CmpReads Try.prog 54 #[] (Value.int .i64) cfR blk off size w :=
  fun _ _ _ _ x y => (rising_is x y _).mono fun _ _ ⟨he, hw⟩ => ⟨he, 0, hw⟩
def intsD (l : List Int) : List Value := l.map fun x => Value.int .i64 x
def sortK (l : List Int) : List Int := l.mergeSort fun x y => decide (x ≤ y)
theorem mergeR (l : List Int) : (l.mergeSort fun x y => !(ltOf cfR) y x) = sortK l := by
  unfold sortK
  congr 1
  funext x y
  rw [ltR]
  by_cases h : y < x
  · have : ¬ x ≤ y := by omega
    simp [h]
  · have : x ≤ y := by omega
    simp [h, this]
theorem sortK_len (l : List Int) : (sortK l).length = l.length := by unfold sortK; exact List.length_mergeSort _
theorem put_ints (l l' : List Int) (hl : l'.length = l.length) : putCells (Value.int .i64) 0 l'.toArray (intsD l).toArray = (intsD l').toArray := by
  have e1 : (intsD l).length = l.length := by unfold intsD; simp
  have e2 : (intsD l').length = l'.length := by unfold intsD; simp
  apply Array.ext
  · simp [putCells, e1, e2, hl]
  · intro k h1 h2
    have hk : k < l'.length := by simpa [e2] using h2
    simp [putCells, hk, intsD]
theorem box_sorted {W : World} {blk n : Nat} {l l' : List Int} {os : Array Obj} (h : CBox W blk 3 (intsD l)) (hl : l'.length = l.length) : CBox (sortWorld (Value.int .i64) W blk 0 n l'.toArray os) blk 3 (intsD l') := by
  have hlt := h.lt
  have h' : W.heap[blk]? = some (.cells (intsD l).toArray 3 (0, 0)) := h
  show ((W.heap.modify blk (onCells (putCells (Value.int .i64) 0 l'.toArray))) ++ os)[blk]? = some (.cells (intsD l').toArray 3 (0, 0))
  rw [Array.getElem?_append_left (by simpa using hlt), Array.getElem?_modify, if_pos rfl, h', ← put_ints l l' hl]
  rfl
theorem below_sorted {w W : World} {blk n : Nat} {l' : List Int} {os : Array Obj} (h : Below w.heap.size w W) (hb : w.heap.size ≤ blk) : Below w.heap.size w (sortWorld (Value.int .i64) W blk 0 n l'.toArray os) := by
  refine ⟨h.os, h.tape, h.output, ?_, fun k hk => ?_⟩
  · show w.heap.size ≤ ((W.heap.modify blk (onCells (putCells (Value.int .i64) 0 l'.toArray))) ++ os).size
    have := h.size
    simp
    omega
  · have := h.size
    show ((W.heap.modify blk (onCells (putCells (Value.int .i64) 0 l'.toArray))) ++ os)[k]? = w.heap[k]?
    rw [Array.getElem?_append_left (by simp; omega), Array.getElem?_modify, if_neg (by omega)]
    exact h.block k hk
theorem sort_is (w W : World) (blk cap : Nat) (l : List Int) (hW : Below w.heap.size w W) (hb : w.heap.size ≤ blk) (h : CBox W blk 3 (intsD l)) (hl : l.length < 549755813888) :
    Calls Try.prog 78 #[.slice (some ⟨blk, 0, none⟩) l.length cap, .func (.func 54) #[] #[]] W fun e w' => e = .returned (.tuple #[]) ∧ CBox w' blk 3 (intsD (sortK l)) ∧ Below w.heap.size w w' := by
  have hH : Holds (Value.int .i64) W blk 0 l.toArray := fun j hj => by
    have hj' : j < l.length := by simpa using hj
    refine ⟨?_, ?_⟩
    · rw [Nat.zero_add, h.cell]
      unfold intsD
      rw [List.getElem?_map, List.getElem?_eq_getElem hj']
      simp [hj']
    · rw [Nat.zero_add]
      exact h.frozen j
  have hcon := Any.slices_SortFunc_total sfLays (Value.int .i64) (fun _ => rfl) cfR swoR 54 #[] blk 0 cap l.toArray W (enters_of Try.func54 (by kernel_rfl) rfl) (readsR blk 0 l.toArray.size W).lays hH h.lt (by simp; omega) (fun x y h1 h2 => by rw [ltR] at h1 h2; simp at h1 h2; omega)
  rw [List.size_toArray] at hcon
  refine Calls.mono hcon ?_
  rintro e w' ⟨rfl, n, os, rfl⟩
  rw [mergeR]
  exact ⟨rfl, box_sorted h (sortK_len l), below_sorted hW hb⟩
end Go.Proofs.Ytohfkgfjcnldaaa
