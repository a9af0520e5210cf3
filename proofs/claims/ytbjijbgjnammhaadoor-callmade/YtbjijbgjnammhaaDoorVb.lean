/- Rows of numbers (int) in a block; the document's states of 1600 numbers: new ones, loads, stores. -/
import Derived.Test.YtbjijbgjnammhaaDoorKa
import Derived.Test.YtbjijbgjnammhaaDoorVa
import Derived.Deep.MidRow
namespace Go.Proofs.YtbjijbgjnammhaaDoor
open Go.RowKit
def intsD (d : Nat → Nat) (n : Nat) : List Value := (List.range n).map fun i => .int .i64 (d i : Int)
/-- cells of numbers, which may be written -/
def RowI (W : World) (g N : Nat) (f : Nat → Nat) : Prop := ∀ j, j < N → W.cell? ⟨g, j, none⟩ = some (.int .i64 (f j : Int)) ∧ W.frozen? ⟨g, j, none⟩ = false
theorem RowI.lt {W : World} {g N : Nat} {f : Nat → Nat} (h : RowI W g N f) (hN : 0 < N) : g < W.heap.size := World.block_lt_of_cell? W _ (h 0 hN).1
theorem RowI.set {w : World} {g N : Nat} {f : Nat → Nat} (h : RowI w g N f) (s y : Nat) : RowI (w.setCell ⟨g, s, none⟩ (.int .i64 (y : Int))) g N (setD f s y) := fun j hj => by
  refine ⟨?_, by rw [World.frozen?_setCell]; exact (h j hj).2⟩
  unfold setD
  by_cases e : j = s
  · subst e; rw [World.cell?_setCell_same _ _ _ (h j hj).1, if_pos rfl]
  · rw [World.cell?_setCell_other _ _ _ _ (by intro e'; injection e' with _ e' _; exact e e'.symm), if_neg e]; exact (h j hj).1
theorem intsD_len (f : Nat → Nat) (n : Nat) : (intsD f n).length = n := by simp [intsD]
theorem intsD_get (f : Nat → Nat) (n i : Nat) (h : i < n) : (intsD f n)[i]? = some (.int .i64 (f i : Int)) := by simp [intsD, h]
theorem intsD_one (f : Nat → Nat) (n : Nat) : (intsD f n).toArray.all (·.oneCell') = true :=
  all_oneCell_toArray (by intro x hx; simp only [intsD, List.mem_map] at hx; obtain ⟨i, _, rfl⟩ := hx; rfl)
theorem intsD_ext {f g : Nat → Nat} {n : Nat} (h : ∀ i, i < n → f i = g i) : intsD f n = intsD g n := by
  simp only [intsD]; apply List.map_congr_left; intro i hi; rw [h i (List.mem_range.1 hi)]
theorem RowI.below {w w' : World} {B b n : Nat} {v : Nat → Nat} (h : RowI w b n v) (k : Below B w w') (hb : b < B) : RowI w' b n v := fun i hi =>
  ⟨(k.cell (p := ⟨b, i, none⟩) hb).trans (h i hi).1, (k.frozen (p := ⟨b, i, none⟩) hb).trans (h i hi).2⟩
theorem RowI.past {w w' : World} {b n : Nat} {v : Nat → Nat} (h : RowI w b n v) (k : Below w.heap.size w w') : RowI w' b n v := fun i hi =>
  have hb := World.block_lt_of_cell? w _ (h i hi).1
  ⟨(k.cell (p := ⟨b, i, none⟩) hb).trans (h i hi).1, (k.frozen (p := ⟨b, i, none⟩) hb).trans (h i hi).2⟩
theorem RowI.drew {w : World} {b n : Nat} {v : Nat → Nat} (h : RowI w b n v) : RowI w.drew b n v := fun i hi => by simpa using h i hi
theorem RowI.drewN {w : World} {b n : Nat} {v : Nat → Nat} (h : RowI w b n v) (m : Nat) : RowI (w.drewN m) b n v := fun i hi => h i hi
theorem RowI.set_other {w : World} {b n : Nat} {v : Nat → Nat} (h : RowI w b n v) (p : Addr) (x : Value) (hp : p.block ≠ b) : RowI (w.setCell p x) b n v := fun i hi =>
  ⟨by rw [World.cell?_setCell_other _ _ _ _ (by intro e; subst e; exact hp rfl)]; exact (h i hi).1, by rw [World.frozen?_setCell]; exact (h i hi).2⟩
theorem RowI.set_others {b n c : Nat} {v : Nat → Nat} (hc : c ≠ b) : ∀ (vs : List Value) (o : Nat) {w : World}, RowI w b n v → RowI (w.setCells c o vs) b n v
  | [], _, _, h => h
  | x :: r, o, w, h => by rw [World.setCells]; exact RowI.set_others hc r (o + 1) (h.set_other _ _ hc)
theorem RowI.ext {w : World} {b n : Nat} {u v : Nat → Nat} (h : RowI w b n u) (e : ∀ i, i < n → u i = v i) : RowI w b n v := fun i hi => by rw [← e i hi]; exact h i hi
theorem RowI.new (w : World) (t : TypeId) (n : Nat) (v : Nat → Nat) : RowI (w.alloc (.cells (intsD v n).toArray t)) w.heap.size n v := fun i hi => by
  rw [World.cell?_alloc_at _ _ _ _ rfl]
  exact ⟨by simp [intsD, hi], by simp [World.frozen?_alloc_at]⟩
theorem RowI.range {w : World} {b n : Nat} {v : Nat → Nat} (h : RowI w b n v) : w.rangeAt b 0 (intsD v n) := fun j x hx => by
  have hj : j < n := by have := (List.getElem?_eq_some_iff.1 hx).1; rwa [intsD_len] at this
  rw [intsD_get v n j hj] at hx; rw [Nat.zero_add, ← hx]; exact (h j hj).1
theorem RowI.there {w : World} {b n : Nat} {v : Nat → Nat} (h : RowI w b n v) : w.there b 0 n := fun j hj => by
  rw [Nat.zero_add, (h j hj).1]; exact ⟨rfl, (h j hj).2⟩
theorem RowI.of_range {w : World} {b n : Nat} {u v : Nat → Nat} (h : RowI w b n u) : RowI (w.setCells b 0 (intsD v n)) b n v := fun i hi => by
  have := World.rangeAt_setCells_same w b 0 (intsD v n) (by rw [intsD_len]; exact h.there) i _ (intsD_get v n i hi)
  rw [Nat.zero_add] at this
  exact ⟨this, by rw [World.frozen?_setCells]; exact (h i hi).2⟩
theorem sz_setCells (b : Nat) : ∀ (vs : List Value) (o : Nat) (w : World), (w.setCells b o vs).heap.size = w.heap.size
  | [], _, _ => rfl
  | x :: r, o, w => by rw [World.setCells, sz_setCells b r (o + 1), World.size_setCell]
theorem zeroSt (w : World) : (zeroValue 47).run Tryd.prog w = .ok (.agg (intsD (fun _ => 0) 1600).toArray) w := by kernel_rfl
/-- a new block of 1600 numbers -/
structure NewSt (w W : World) (f : Nat → Nat) : Prop where
  row : RowI W w.heap.size 1600 f
  bel : Below w.heap.size w W
  siz : W.heap.size = w.heap.size + 1
theorem NewSt.of (w : World) (f : Nat → Nat) : NewSt w (w.alloc (.cells (intsD f 1600).toArray 47)) f := ⟨RowI.new _ _ _ _, (Below.refl _ _).alloc (Nat.le_refl _) _, by simp⟩
theorem allocSt {ops : Array Oper} {rest : List Oper} {op : Oper} {a : Act} {w : World} {Q : Exit → Act → World → Prop} (hgd : op.guard = none) (ho : op.op = .alloc 47)
    (h : ∀ W, NewSt w W (fun _ => 0) → wpList Tryd.prog ops Q rest (a.put op.dst (.pointer (some ⟨w.heap.size, 0, none⟩))) W) : wpList Tryd.prog ops Q (op :: rest) a w := by
  refine wpList_plain hgd fun K hK => ?_
  unfold Oper.wp execOp
  simp only [ho, Sem.run_bind, Instr.alloc, zeroSt, newVar, newRow, run_newObj_alloc, Sem.run_pure, Result.andThen_ok, Value.cells]
  exact hK _ _ (h _ (NewSt.of w _))
set_option maxRecDepth 100000 in
theorem storeSt {ops : Array Oper} {rest : List Oper} {op : Oper} {a : Act} {w : World} {Q : Exit → Act → World → Prop} (g : Nat → Nat) (b : Nat) (hgd : op.guard = none) (x y : Operand) (ho : op.op = .store 47 x y)
    (hx : a.eval x = .pointer (some ⟨b, 0, none⟩)) (hy : a.eval y = .agg (intsD g 1600).toArray) (ht : w.there b 0 1600)
    (h : wpList Tryd.prog ops Q rest (a.put op.dst undef) (w.setCells b 0 (intsD g 1600))) : wpList Tryd.prog ops Q (op :: rest) a w :=
  wpList_store_mid hgd 47 x y ho b 0 (intsD g 1600).toArray hx hy (by rw [List.size_toArray, intsD_len]; exact ht) (by rw [List.size_toArray, intsD_len]; kernel_rfl) (intsD_one g 1600) h
set_option maxRecDepth 100000 in
theorem loadSt {ops : Array Oper} {rest : List Oper} {op : Oper} {a : Act} {w : World} {Q : Exit → Act → World → Prop} (g : Nat → Nat) (b : Nat) (hgd : op.guard = none) (x : Operand) (ho : op.op = .load 47 x)
    (hx : a.eval x = .pointer (some ⟨b, 0, none⟩)) (hr : RowI w b 1600 g)
    (h : wpList Tryd.prog ops Q rest (a.put op.dst (.agg (intsD g 1600).toArray)) w) : wpList Tryd.prog ops Q (op :: rest) a w :=
  wpList_load_mid hgd 47 x ho b 0 hx (intsD g 1600) _ hr.range Tryd.underlying47 rfl (by rw [intsD_len]; kernel_rfl) h
set_option maxRecDepth 100000 in
theorem loadVarSt {w : World} {b : Nat} {g : Nat → Nat} (h : RowI w b 1600 g) : (loadVar 47 ⟨b, 0, none⟩).run Tryd.prog w = .ok (.agg (intsD g 1600).toArray) w :=
  run_loadVar_mid w b 0 47 (intsD g 1600) _ h.range Tryd.underlying47 rfl (by rw [intsD_len]; kernel_rfl)
/-- 'x := a call that gives a state': a new block, and the state laid into it -/
theorem newSt {ops : Array Oper} {rest : List Oper} {op1 op2 : Oper} {a : Act} {w : World} {Q : Exit → Act → World → Prop} (g : Nat → Nat) (h1 : op1.guard = none) (o1 : op1.op = .alloc 47) (t : Tmp) (d1 : op1.dst = some t) (h2 : op2.guard = none) (y : Operand) (o2 : op2.op = .store 47 (.tmp t) y) (d2 : op2.dst = none)
    (hx : (a.put (some t) (.pointer (some ⟨w.heap.size, 0, none⟩))).eval (.tmp t) = .pointer (some ⟨w.heap.size, 0, none⟩)) (hy : (a.put (some t) (.pointer (some ⟨w.heap.size, 0, none⟩))).eval y = .agg (intsD g 1600).toArray)
    (h : ∀ W, NewSt w W g → wpList Tryd.prog ops Q rest (a.put (some t) (.pointer (some ⟨w.heap.size, 0, none⟩))) W) : wpList Tryd.prog ops Q (op1 :: op2 :: rest) a w := by
  refine allocSt h1 o1 fun W hW => ?_
  rw [d1]
  refine storeSt g w.heap.size h2 _ y o2 hx hy hW.row.there ?_
  rw [d2]
  refine h _ ⟨hW.row.of_range, below_setCells _ (Nat.le_refl _) _ _ _ hW.bel, ?_⟩
  rw [sz_setCells]; exact hW.siz
end Go.Proofs.YtbjijbgjnammhaaDoor
