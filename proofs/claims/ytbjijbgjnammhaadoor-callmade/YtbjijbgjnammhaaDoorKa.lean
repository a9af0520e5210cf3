/- Rows of numbers in a block: that they lie there and may be written; loads, stores, new blocks. -/
import Derived.Test.YtbjijbgjnammhaaDoorKr
import Derived.Deep.MidRow
namespace Go.Proofs.YtbjijbgjnammhaaDoor
open Go.RowKit
/-- the first n cells of block b are the numbers v, and may be written -/
def Row (w : World) (b n : Nat) (v : Nat → Int) : Prop := ∀ i, i < n → w.cell? ⟨b, i, none⟩ = some (.int .u64 (v i)) ∧ w.frozen? ⟨b, i, none⟩ = false
def rowL (n : Nat) (v : Nat → Int) : List Value := (List.range n).map fun i => .int .u64 (v i)
theorem rowL_len (n : Nat) (v : Nat → Int) : (rowL n v).length = n := by simp [rowL]
theorem rowL_at (n : Nat) (v : Nat → Int) (i : Nat) (h : i < n) : (rowL n v)[i]? = some (.int .u64 (v i)) := by simp [rowL, h]
theorem rowL_ext {n : Nat} {u v : Nat → Int} (h : ∀ i, i < n → u i = v i) : rowL n u = rowL n v := by
  simp only [rowL]; apply List.map_congr_left; intro i hi; rw [h i (List.mem_range.1 hi)]
theorem rowL_one (n : Nat) (v : Nat → Int) : (rowL n v).toArray.all (·.oneCell') = true :=
  all_oneCell_toArray (by intro x hx; simp only [rowL, List.mem_map] at hx; obtain ⟨i, _, rfl⟩ := hx; rfl)
theorem Row.ext {w : World} {b n : Nat} {u v : Nat → Int} (h : Row w b n u) (e : ∀ i, i < n → u i = v i) : Row w b n v := fun i hi => by rw [← e i hi]; exact h i hi
theorem Row.lt {w : World} {b n : Nat} {v : Nat → Int} (h : Row w b n v) (hn : 0 < n) : b < w.heap.size := World.block_lt_of_cell? w _ (h 0 hn).1
theorem Row.below {w w' : World} {B b n : Nat} {v : Nat → Int} (h : Row w b n v) (k : Below B w w') (hb : b < B) : Row w' b n v := fun i hi =>
  ⟨(k.cell (p := ⟨b, i, none⟩) hb).trans (h i hi).1, (k.frozen (p := ⟨b, i, none⟩) hb).trans (h i hi).2⟩
theorem Row.drew {w : World} {b n : Nat} {v : Nat → Int} (h : Row w b n v) : Row w.drew b n v := fun i hi => by simpa using h i hi
theorem Row.alloc {w : World} {b n : Nat} {v : Nat → Int} (h : Row w b n v) (o : Obj) : Row (w.alloc o) b n v := fun i hi => by
  have hb := World.block_lt_of_cell? w _ (h i hi).1
  exact ⟨by rw [World.cell?_alloc_lt _ _ _ hb]; exact (h i hi).1, by rw [World.frozen?_alloc_past _ _ _ hb]; exact (h i hi).2⟩
theorem Row.set_other {w : World} {b n : Nat} {v : Nat → Int} (h : Row w b n v) (p : Addr) (x : Value) (hp : p.block ≠ b) : Row (w.setCell p x) b n v := fun i hi =>
  ⟨by rw [World.cell?_setCell_other _ _ _ _ (by intro e; subst e; exact hp rfl)]; exact (h i hi).1, by rw [World.frozen?_setCell]; exact (h i hi).2⟩
theorem Row.set {w : World} {b n : Nat} {v : Nat → Int} (h : Row w b n v) (k : Nat) (x : Int) (hk : k < n) : Row (w.setCell ⟨b, k, none⟩ (.int .u64 x)) b n (fun i => if i = k then x else v i) := fun i hi => by
  refine ⟨?_, by rw [World.frozen?_setCell]; exact (h i hi).2⟩
  dsimp only
  by_cases e : i = k
  · subst e; rw [World.cell?_setCell_same _ _ _ (h i hi).1, if_pos rfl]
  · rw [World.cell?_setCell_other _ _ _ _ (by intro e'; injection e' with _ e' _; exact e e'.symm), if_neg e]; exact (h i hi).1
theorem Row.new (w : World) (t : TypeId) (n : Nat) (v : Nat → Int) : Row (w.alloc (.cells (rowL n v).toArray t)) w.heap.size n v := fun i hi => by
  rw [World.cell?_alloc_at _ _ _ _ rfl]
  exact ⟨by simp [rowL, hi], by simp [World.frozen?_alloc_at]⟩
theorem Row.range {w : World} {b n : Nat} {v : Nat → Int} (h : Row w b n v) : w.rangeAt b 0 (rowL n v) := fun j x hx => by
  have hj : j < n := by have := (List.getElem?_eq_some_iff.1 hx).1; rwa [rowL_len] at this
  rw [rowL_at n v j hj] at hx; rw [Nat.zero_add, ← hx]; exact (h j hj).1
theorem Row.there {w : World} {b n : Nat} {v : Nat → Int} (h : Row w b n v) : w.there b 0 n := fun j hj => by
  rw [Nat.zero_add, (h j hj).1]; exact ⟨rfl, (h j hj).2⟩
theorem Row.of_range {w : World} {b n : Nat} {u v : Nat → Int} (h : Row w b n u) : Row (w.setCells b 0 (rowL n v)) b n v := fun i hi => by
  have := World.rangeAt_setCells_same w b 0 (rowL n v) (by rw [rowL_len]; exact h.there) i _ (rowL_at n v i hi)
  rw [Nat.zero_add] at this
  exact ⟨this, by rw [World.frozen?_setCells]; exact (h i hi).2⟩
theorem zero25 : (#[.int .u64 0, .int .u64 0, .int .u64 0, .int .u64 0, .int .u64 0, .int .u64 0, .int .u64 0, .int .u64 0, .int .u64 0, .int .u64 0, .int .u64 0, .int .u64 0, .int .u64 0, .int .u64 0, .int .u64 0, .int .u64 0, .int .u64 0, .int .u64 0, .int .u64 0, .int .u64 0, .int .u64 0, .int .u64 0, .int .u64 0, .int .u64 0, .int .u64 0] : Array Value) = (rowL 25 fun _ => 0).toArray := by rfl
theorem zero5 : (#[.int .u64 0, .int .u64 0, .int .u64 0, .int .u64 0, .int .u64 0] : Array Value) = (rowL 5 fun _ => 0).toArray := by rfl
theorem below_setCells {B : Nat} {a : World} (b : Nat) (hb : B ≤ b) : ∀ (vs : List Value) (o : Nat) (w : World), Below B a w → Below B a (w.setCells b o vs)
  | [], _, _, h => h
  | v :: r, o, w, h => by rw [World.setCells]; exact below_setCells b hb r (o + 1) _ (h.setCell hb v)
theorem results_cell {fn : Func} {p : Tmp} {ty : TypeId} (h : fn.results = #[.cell p ty]) (tmps : Array Value) (P : Program) (w : World) (a : Addr) (ha : tmps.getD p undef = .pointer (some a)) {v : Value} (hl : (loadVar ty a).run P w = .ok v w) : (results fn tmps).run P w = .ok v w := by
  have ha' : tmps[p]?.getD undef = .pointer (some a) := by simpa using ha
  simp only [results, h]
  simp [ha', hl, asAddr]
theorem store25 {ops : Array Oper} {rest : List Oper} {op : Oper} {a : Act} {w : World} {Q : Exit → Act → World → Prop} (g : Nat → Int) (b : Nat) (hgd : op.guard = none) (x y : Operand) (ho : op.op = .store 36 x y)
    (hx : a.eval x = .pointer (some ⟨b, 0, none⟩)) (hy : a.eval y = .agg (rowL 25 g).toArray) (ht : w.there b 0 25)
    (h : wpList Tryd.prog ops Q rest (a.put op.dst undef) (w.setCells b 0 (rowL 25 g))) : wpList Tryd.prog ops Q (op :: rest) a w :=
  wpList_store_mid hgd 36 x y ho b 0 (rowL 25 g).toArray hx hy (by rw [List.size_toArray, rowL_len]; exact ht) (by rw [List.size_toArray, rowL_len]; kernel_rfl) (rowL_one 25 g) h
theorem load25 {ops : Array Oper} {rest : List Oper} {op : Oper} {a : Act} {w : World} {Q : Exit → Act → World → Prop} (g : Nat → Int) (b : Nat) (hgd : op.guard = none) (x : Operand) (ho : op.op = .load 36 x)
    (hx : a.eval x = .pointer (some ⟨b, 0, none⟩)) (hr : w.rangeAt b 0 (rowL 25 g))
    (h : wpList Tryd.prog ops Q rest (a.put op.dst (.agg (rowL 25 g).toArray)) w) : wpList Tryd.prog ops Q (op :: rest) a w :=
  wpList_load_mid hgd 36 x ho b 0 hx (rowL 25 g) _ hr Tryd.underlying36 rfl (by rw [rowL_len]; kernel_rfl) h
theorem loadVar25 {w : World} {b : Nat} {g : Nat → Int} (h : w.rangeAt b 0 (rowL 25 g)) : (loadVar 36 ⟨b, 0, none⟩).run Tryd.prog w = .ok (.agg (rowL 25 g).toArray) w :=
  run_loadVar_mid w b 0 36 (rowL 25 g) _ h Tryd.underlying36 rfl (by rw [rowL_len]; kernel_rfl)
end Go.Proofs.YtbjijbgjnammhaaDoor
