/- Addresses: twenty bytes in a block; the bytes that are hashed to one. -/
import Derived.Test.YtbjijbgjnammhaaDoorVn
import Derived.Test.YtbjijbgjnammhaaDoorGoc
import Derived.Laws.CopyRow
import Derived.Laws.CopyOwn
import Derived.Laws.Tables
namespace Go.Proofs.YtbjijbgjnammhaaDoor
open Go.RowKit
theorem heap_new (W : World) (o : Obj) : (W.alloc o).heap[W.heap.size]? = some o := by
  show (W.heap.push _)[W.heap.size]? = _
  simp
/-- a new block of bytes -/
structure NewB (w W : World) (n : Nat) (f : Nat → Int) : Prop where
  row : RowB W w.heap.size n f
  bel : Below w.heap.size w W
  siz : W.heap.size = w.heap.size + 1
  obj : ∃ t, W.heap[w.heap.size]? = some (.cells (rowB n f).toArray t (0, 0))
theorem NewB.of (w : World) (t : TypeId) (n : Nat) (f : Nat → Int) : NewB w (w.alloc (.cells (rowB n f).toArray t)) n f := ⟨RowB.new _ _ _ _, (Below.refl _ _).alloc (Nat.le_refl _) _, by simp, t, heap_new w _⟩
theorem RowB.past {w w' : World} {b n : Nat} {v : Nat → Int} (h : RowB w b n v) (k : Below w.heap.size w w') : RowB w' b n v := fun i hi =>
  have hb := World.block_lt_of_cell? w _ (h i hi).1
  ⟨(k.cell (p := ⟨b, i, none⟩) hb).trans (h i hi).1, (k.frozen (p := ⟨b, i, none⟩) hb).trans (h i hi).2⟩
theorem zero20 (w : World) : (zeroValue 23).run Tryd.prog w = .ok (.agg (rowB 20 (fun _ => 0)).toArray) w := by kernel_rfl
theorem alloc20 {ops : Array Oper} {rest : List Oper} {op : Oper} {a : Act} {w : World} {Q : Exit → Act → World → Prop} (hgd : op.guard = none) (ho : op.op = .alloc 23)
    (h : ∀ W, NewB w W 20 (fun _ => 0) → wpList Tryd.prog ops Q rest (a.put op.dst (.pointer (some ⟨w.heap.size, 0, none⟩))) W) : wpList Tryd.prog ops Q (op :: rest) a w := by
  refine wpList_plain hgd fun K hK => ?_
  unfold Oper.wp execOp
  simp only [ho, Sem.run_bind, Instr.alloc, zero20, newVar, newRow, run_newObj_alloc, Sem.run_pure, Result.andThen_ok, Value.cells]
  exact hK _ _ (h _ (NewB.of w _ 20 _))
theorem box20 {ops : Array Oper} {rest : List Oper} {op : Oper} {a : Act} {w : World} {Q : Exit → Act → World → Prop} (f : Nat → Int) (hgd : op.guard = none) (x : Operand) (ho : op.op = .box 23 x) (hx : a.eval x = .agg (rowB 20 f).toArray)
    (h : ∀ W, NewB w W 20 f → wpList Tryd.prog ops Q rest (a.put op.dst (.pointer (some ⟨w.heap.size, 0, none⟩))) W) : wpList Tryd.prog ops Q (op :: rest) a w := by
  refine wpList_plain hgd fun K hK => ?_
  unfold Oper.wp execOp
  simp only [ho, Sem.run_bind, Instr.box, newVar, newRow, run_newObj_alloc, Sem.run_pure, Result.andThen_ok, hx, Value.cells]
  exact hK _ _ (h _ (NewB.of w _ 20 f))
theorem store20 {ops : Array Oper} {rest : List Oper} {op : Oper} {a : Act} {w : World} {Q : Exit → Act → World → Prop} (g : Nat → Int) (b : Nat) (hgd : op.guard = none) (x y : Operand) (ho : op.op = .store 23 x y)
    (hx : a.eval x = .pointer (some ⟨b, 0, none⟩)) (hy : a.eval y = .agg (rowB 20 g).toArray) (ht : w.there b 0 20)
    (h : wpList Tryd.prog ops Q rest (a.put op.dst undef) (w.setCells b 0 (rowB 20 g))) : wpList Tryd.prog ops Q (op :: rest) a w :=
  wpList_store_mid hgd 23 x y ho b 0 (rowB 20 g).toArray hx hy (by rw [List.size_toArray, rowB_len]; exact ht) (by rw [List.size_toArray, rowB_len]; kernel_rfl) (rowB_one 20 g) h
theorem load20 {ops : Array Oper} {rest : List Oper} {op : Oper} {a : Act} {w : World} {Q : Exit → Act → World → Prop} (g : Nat → Int) (b : Nat) (hgd : op.guard = none) (x : Operand) (ho : op.op = .load 23 x)
    (hx : a.eval x = .pointer (some ⟨b, 0, none⟩)) (hr : RowB w b 20 g)
    (h : wpList Tryd.prog ops Q rest (a.put op.dst (.agg (rowB 20 g).toArray)) w) : wpList Tryd.prog ops Q (op :: rest) a w :=
  wpList_load_mid hgd 23 x ho b 0 hx (rowB 20 g) _ hr.range Tryd.underlying23 rfl (by rw [rowB_len]; kernel_rfl) h
theorem loadVar20 {w : World} {b : Nat} {g : Nat → Int} (h : RowB w b 20 g) : (loadVar 23 ⟨b, 0, none⟩).run Tryd.prog w = .ok (.agg (rowB 20 g).toArray) w :=
  run_loadVar_mid w b 0 23 (rowB 20 g) _ h.range Tryd.underlying23 rfl (by rw [rowB_len]; kernel_rfl)
theorem zero32a (w : World) : (zeroValue 29).run Tryd.prog w = .ok (.agg (rowB 32 (fun _ => 0)).toArray) w := by kernel_rfl
theorem zero32h (w : World) : (zeroValue 31).run Tryd.prog w = .ok (.agg (rowB 32 (fun _ => 0)).toArray) w := by kernel_rfl
/-- 'x := a call that gives 32 bytes': a new block, and the bytes laid into it -/
theorem new32a {ops : Array Oper} {rest : List Oper} {op1 op2 : Oper} {a : Act} {w : World} {Q : Exit → Act → World → Prop} (g : Nat → Int) (h1 : op1.guard = none) (o1 : op1.op = .alloc 29) (t : Tmp) (d1 : op1.dst = some t) (h2 : op2.guard = none) (y : Operand) (o2 : op2.op = .store 29 (.tmp t) y) (d2 : op2.dst = none)
    (hx : (a.put (some t) (.pointer (some ⟨w.heap.size, 0, none⟩))).eval (.tmp t) = .pointer (some ⟨w.heap.size, 0, none⟩)) (hy : (a.put (some t) (.pointer (some ⟨w.heap.size, 0, none⟩))).eval y = .agg (rowB 32 g).toArray)
    (h : ∀ W, RowB W w.heap.size 32 g → Below w.heap.size w W → wpList Tryd.prog ops Q rest (a.put (some t) (.pointer (some ⟨w.heap.size, 0, none⟩))) W) : wpList Tryd.prog ops Q (op1 :: op2 :: rest) a w := by
  refine wpList_plain h1 fun K hK => ?_
  unfold Oper.wp execOp
  simp only [o1, Sem.run_bind, Instr.alloc, zero32a, newVar, newRow, run_newObj_alloc, Sem.run_pure, Result.andThen_ok, Value.cells]
  refine hK _ _ ?_
  have N := NewB.of w 5 32 (fun _ => 0)
  rw [d1]
  refine wpList_store_mid h2 29 _ y o2 w.heap.size 0 (rowB 32 g).toArray hx hy ?_ (by rw [List.size_toArray, rowB_len]; kernel_rfl) (rowB_one 32 g) ?_
  · have e : (rowB 32 g).toArray.size = 32 := by rw [List.size_toArray, rowB_len]
    rw [e]; exact (RowB.new w _ 32 _).there
  · rw [d2]
    exact h _ (RowB.of_range (RowB.new w _ 32 _)) (Wds.below_setCellsB _ (Nat.le_refl _) _ _ _ ((Below.refl _ _).alloc (Nat.le_refl _) _))
theorem new32h {ops : Array Oper} {rest : List Oper} {op1 op2 : Oper} {a : Act} {w : World} {Q : Exit → Act → World → Prop} (g : Nat → Int) (h1 : op1.guard = none) (o1 : op1.op = .alloc 31) (t : Tmp) (d1 : op1.dst = some t) (h2 : op2.guard = none) (y : Operand) (o2 : op2.op = .store 31 (.tmp t) y) (d2 : op2.dst = none)
    (hx : (a.put (some t) (.pointer (some ⟨w.heap.size, 0, none⟩))).eval (.tmp t) = .pointer (some ⟨w.heap.size, 0, none⟩)) (hy : (a.put (some t) (.pointer (some ⟨w.heap.size, 0, none⟩))).eval y = .agg (rowB 32 g).toArray)
    (h : ∀ W, RowB W w.heap.size 32 g → Below w.heap.size w W → wpList Tryd.prog ops Q rest (a.put (some t) (.pointer (some ⟨w.heap.size, 0, none⟩))) W) : wpList Tryd.prog ops Q (op1 :: op2 :: rest) a w := by
  refine wpList_plain h1 fun K hK => ?_
  unfold Oper.wp execOp
  simp only [o1, Sem.run_bind, Instr.alloc, zero32h, newVar, newRow, run_newObj_alloc, Sem.run_pure, Result.andThen_ok, Value.cells]
  refine hK _ _ ?_
  rw [d1]
  refine wpList_store_mid h2 31 _ y o2 w.heap.size 0 (rowB 32 g).toArray hx hy ?_ (by rw [List.size_toArray, rowB_len]; kernel_rfl) (rowB_one 32 g) ?_
  · have e : (rowB 32 g).toArray.size = 32 := by rw [List.size_toArray, rowB_len]
    rw [e]; exact (RowB.new w _ 32 _).there
  · rw [d2]
    exact h _ (RowB.of_range (RowB.new w _ 32 _)) (Wds.below_setCellsB _ (Nat.le_refl _) _ _ _ ((Below.refl _ _).alloc (Nat.le_refl _) _))
theorem slice20 (g : Nat) (W : World) : Sem.run Tryd.prog (Instr.sliceAt 23 (.pointer (some ⟨g, 0, none⟩)) none none none) W = .ok (.slice (some ⟨g, 0, none⟩) 20 20) W := by
  have hn : Tryd.prog.arrayLen 23 = 20 := by kernel_rfl
  have sz : Sem.run Tryd.prog (sizeOf (Tryd.prog.elem 23)) W = .ok 1 W := by kernel_rfl
  rw [run_sliceAt_array_all W 23 ⟨g, 0, none⟩ (by kernel_rfl), sz, hn, Result.andThen_ok]
  rfl
theorem slice32a (g : Nat) (W : World) : Sem.run Tryd.prog (Instr.sliceAt 29 (.pointer (some ⟨g, 0, none⟩)) none none none) W = .ok (.slice (some ⟨g, 0, none⟩) 32 32) W := by
  have hn : Tryd.prog.arrayLen 29 = 32 := by kernel_rfl
  have sz : Sem.run Tryd.prog (sizeOf (Tryd.prog.elem 29)) W = .ok 1 W := by kernel_rfl
  rw [run_sliceAt_array_all W 29 ⟨g, 0, none⟩ (by kernel_rfl), sz, hn, Result.andThen_ok]
  rfl
theorem slice12 (g : Nat) (W : World) : Sem.run Tryd.prog (Instr.sliceAt 31 (.pointer (some ⟨g, 0, none⟩)) (some (.int .i64 12)) none none) W = .ok (.slice (some ⟨g, 12, none⟩) 20 20) W := by
  have hn : Tryd.prog.arrayLen 31 = 32 := by kernel_rfl
  have sz : Sem.run Tryd.prog (sizeOf (Tryd.prog.elem 31)) W = .ok 1 W := by kernel_rfl
  rw [run_sliceAt_array_l W 31 ⟨g, 0, none⟩ (by kernel_rfl) .i64 12 (by omega) (by rw [hn]; omega), sz, hn, Result.andThen_ok]
  rfl
theorem make12 (W : World) : ∃ W1, Sem.run Tryd.prog (Instr.makeSlice 33 (.int .i64 12) (.int .i64 12)) W = .ok (.slice (some ⟨W.heap.size, 0, none⟩) 12 12) W1 ∧ BytesAt W1 ⟨W.heap.size, 0, none⟩ (List.replicate 12 0) ∧ Below W.heap.size W W1 := by
  obtain ⟨i0, hi, hz0, hz1, hz2⟩ := info_parts Tryd.info8
  have h := run_makeSlice (P := Tryd.prog) W 33 5 i0 (.int .u8 0) Tryd.underlying33 hi hz0 .i64 .i64 12 12 (by omega) (Int.le_refl _) (by rw [hz1]; decide) (by rw [hz2]; decide) (by omega)
  rw [show (12 : Int).toNat = 12 from rfl, hz1] at h
  refine ⟨_, h, ?_, (Below.refl _ W).alloc (Nat.le_refl _) _⟩
  intro i hi'
  have hA : madeCells (Value.int .u8 0).cells (12 * 1) = (bytesL (List.replicate 12 0)).toArray := by
    apply Array.ext'
    simp [madeCells, Value.cells, bytesL, Array.toList_range]
    apply List.ext_getElem?
    intro k
    by_cases hk : k < 12
    · simp [hk, Nat.mod_one]
      exact (List.getElem_replicate (n := 12) (a := Value.int .u8 0) (by simpa using hk)).symm
    · rw [List.getElem?_eq_none (by simp; omega), List.getElem?_eq_none (by simp; omega)]
  rw [hA]
  exact bytes_new W 5 (0, 0) (List.replicate 12 0) i hi'
/-- copy of the last twenty of 32 bytes -/
theorem copy20 (W : World) (g b : Nat) (t : TypeId) (f h : Nat → Int) (hg : W.heap[g]? = some (.cells (rowB 20 f).toArray t (0, 0))) (hb : RowB W b 32 h) :
    ∃ W2, (∀ ty : TypeId, (Builtin.copy_ #[33, 33] ty #[.slice (some ⟨g, 0, none⟩) 20 20, .slice (some ⟨b, 12, none⟩) 20 20]).run Tryd.prog W = .ok (goInt 20) W2) ∧ RowB W2 g 20 (fun i => h (12 + i)) ∧ ∀ B w0, Below B w0 W → B ≤ g → Below B w0 W2 := by
  have hinfo : (Tryd.prog.info? 5).map (·.size) = some 1 := by obtain ⟨i0, hi, _, hz1, _⟩ := info_parts Tryd.info8; rw [hi]; simp [hz1]
  have hl : (rowB 20 fun i => h (12 + i)).length = 20 := rowB_len _ _
  have e : ((rowB 20 f).toArray.toList.take 0 ++ (rowB 20 fun i => h (12 + i)) ++ (rowB 20 f).toArray.toList.drop (0 + (rowB 20 fun i => h (12 + i)).length)) = rowB 20 fun i => h (12 + i) := by
    rw [List.take_zero, List.nil_append, hl, List.drop_eq_nil_of_le (by rw [List.toList_toArray, rowB_len]; omega), List.append_nil]
  have hc := fun ty : TypeId => run_copy_row (P := Tryd.prog) W 33 33 ty 5 g 0 20 20 ⟨b, 12, none⟩ 20 20 (rowB 20 f).toArray t (rowB 20 fun i => h (12 + i)) Tryd.underlying33 hinfo hg (by rw [hl]; rfl) (fun j v hv => by
    have hj : j < 20 := by have := (List.getElem?_eq_some_iff.1 hv).1; rwa [hl] at this
    rw [rowB_at _ _ _ hj] at hv
    injection hv with hv
    subst hv
    have := (hb (12 + j) (by omega)).1
    rw [Addr.add_mid]
    exact this) (by rw [hl]; simp [rowB_len]) (fun v hv => by
      obtain ⟨j, _, rfl⟩ := List.mem_map.1 hv
      rfl)
  rw [e] at hc
  rw [hl] at hc
  refine ⟨_, hc, ?_, fun B w0 hB hBg => below_setRow hB hBg _⟩
  intro i hi
  have hh := setRow_heap W g _ (rowB 20 fun i => h (12 + i)).toArray t (0, 0) hg
  constructor
  · simp [World.cell?, hh, rowB_at 20 (fun i => h (12 + i)) i hi]
  · simp [World.frozen?, hh]
theorem RowB.bytes {W : World} {b n : Nat} {u : Nat → Nat} (h : RowB W b n (fun i => (u i : Int))) : BytesAt W ⟨b, 0, none⟩ ((List.range n).map u) := fun i hi => by
  rw [List.length_map, List.length_range] at hi
  rw [Nat.zero_add, (h i hi).1]
  simp [List.getD_eq_getElem?_getD, hi]
theorem BytesAt.past {W W' : World} {b : Nat} {l : List Nat} (h : BytesAt W ⟨b, 0, none⟩ l) (k : Below W.heap.size W W') : BytesAt W' ⟨b, 0, none⟩ l := fun i hi => (k.cell (p := ⟨b, 0 + i, none⟩) (World.block_lt_of_cell? W _ (h i hi))).trans (h i hi)
theorem Tabs.past {W W' : World} (h : Tabs W) (k : Below W.heap.size W W') : Tabs W' := h.below k h.lt
theorem eq20_run (u v : Nat → Int) (W : World) : Sem.run Tryd.prog (Op.equalIn 10000 23 (.agg (rowB 20 u).toArray) (.agg (rowB 20 v).toArray)) W = .ok (rowEq 20 u v) W := by
  rw [show (10000 : Nat) = 9998 + 1 + 1 from rfl, Op.equalIn]
  simp only [Sem.run_bind, run_underlying Tryd.underlying23, Result.andThen_ok, sz8, Std.Legacy.Range.forIn_eq_forIn_range', Std.Legacy.Range.size]
  rw [loop_all _ _ ⟨some false, ()⟩ (fun i => u i == v i)]
  · by_cases h : rowEq 20 u v = true
    · have h' := h; unfold rowEq at h'; simp [h, h']
    · have h' := h; unfold rowEq at h'; simp [h, h']
  · intro i h0 h1
    simp [part8 20 u i (by omega), part8 20 v i (by omega), eq8_run]
    by_cases e : u i = v i <;> simp [e]
/-- what is hashed to an address -/
def madeL (u : Nat → Nat) (x : Wds.W4) : List Nat := [255] ++ List.replicate 12 0 ++ (List.range 20).map u ++ (List.range 32).map (Wds.bN x)
end Go.Proofs.YtbjijbgjnammhaaDoor
