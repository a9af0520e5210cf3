/- Rows of the table in memory: their cells, their equality. -/
import Derived.Test.YtcjmbpchdeapiaaDoorOpe
namespace Go.Proofs.YtcjmbpchdeapiaaDoor
open Go.RowKit
theorem qI0 (k : Nat) (x : Int) (W : World) : Sem.run Tryd.prog (Op.equalIn (k + 1) 3 (.int .i64 x) (.int .i64 x)) W = .ok true W := by
  simp [Op.equalIn, run_underlying Tryd.underlying3]
theorem qI (x : Int) (W : World) : Sem.run Tryd.prog (Op.equalIn 9999 3 (.int .i64 x) (.int .i64 x)) W = .ok true W := qI0 9998 x W
theorem qB0 (k : Nat) (x : Bool) (W : World) : Sem.run Tryd.prog (Op.equalIn (k + 1) 4 (.bool x) (.bool x)) W = .ok true W := by
  simp [Op.equalIn, run_underlying Tryd.underlying4]
theorem qB (x : Bool) (W : World) : Sem.run Tryd.prog (Op.equalIn 9999 4 (.bool x) (.bool x)) W = .ok true W := qB0 9998 x W
theorem bya (x : ByteArray) : (x == x) = true := by
  obtain ⟨x⟩ := x
  show (x == x) = true
  simp
theorem qS0 (k : Nat) (x : ByteArray) (W : World) : Sem.run Tryd.prog (Op.equalIn (k + 1) 9 (.string x) (.string x)) W = .ok true W := by
  simp [Op.equalIn, run_underlying Tryd.underlying9, bya]
theorem qS (x : ByteArray) (W : World) : Sem.run Tryd.prog (Op.equalIn 9999 9 (.string x) (.string x)) W = .ok true W := qS0 9998 x W
section
variable (c : Int) (s : ByteArray) (i j k g : Int) (e : Bool) (W : World)
theorem pt0 : Sem.run Tryd.prog (part 3 #[.int .i64 c, .string s, .int .i64 i, .int .i64 j, .int .i64 k, .int .i64 g, .bool e] 0) W = .ok (.int .i64 c) W := by kernel_rfl
theorem pt1 : Sem.run Tryd.prog (part 9 #[.int .i64 c, .string s, .int .i64 i, .int .i64 j, .int .i64 k, .int .i64 g, .bool e] 1) W = .ok (.string s) W := by kernel_rfl
theorem pt2 : Sem.run Tryd.prog (part 3 #[.int .i64 c, .string s, .int .i64 i, .int .i64 j, .int .i64 k, .int .i64 g, .bool e] 2) W = .ok (.int .i64 i) W := by kernel_rfl
theorem pt3 : Sem.run Tryd.prog (part 3 #[.int .i64 c, .string s, .int .i64 i, .int .i64 j, .int .i64 k, .int .i64 g, .bool e] 3) W = .ok (.int .i64 j) W := by kernel_rfl
theorem pt4 : Sem.run Tryd.prog (part 3 #[.int .i64 c, .string s, .int .i64 i, .int .i64 j, .int .i64 k, .int .i64 g, .bool e] 4) W = .ok (.int .i64 k) W := by kernel_rfl
theorem pt5 : Sem.run Tryd.prog (part 3 #[.int .i64 c, .string s, .int .i64 i, .int .i64 j, .int .i64 k, .int .i64 g, .bool e] 5) W = .ok (.int .i64 g) W := by kernel_rfl
theorem pt6 : Sem.run Tryd.prog (part 4 #[.int .i64 c, .string s, .int .i64 i, .int .i64 j, .int .i64 k, .int .i64 g, .bool e] 6) W = .ok (.bool e) W := by kernel_rfl
end
set_option maxRecDepth 100000 in
theorem eq7_same (c : Int) (s : ByteArray) (i j k g : Int) (e : Bool) (W : World) : Sem.run Tryd.prog (Op.equalIn 10000 56 (.agg #[.int .i64 c, .string s, .int .i64 i, .int .i64 j, .int .i64 k, .int .i64 g, .bool e]) (.agg #[.int .i64 c, .string s, .int .i64 i, .int .i64 j, .int .i64 k, .int .i64 g, .bool e])) W = .ok true W := by
  rw [show (10000 : Nat) = 9998 + 1 + 1 from rfl, Op.equalIn]
  simp only [Sem.run_bind, run_underlying Tryd.underlying56, Result.andThen_ok]
  simp [qI, qB, qS, pt0, pt1, pt2, pt3, pt4, pt5, pt6]
/-- a row of the table in a block -/
def Op7 (W : World) (b : Nat) (c : Int) (s : ByteArray) (i j k g : Int) (e : Bool) : Prop := W.cell? ⟨b, 0, none⟩ = some (.int .i64 c) ∧ W.cell? ⟨b, 1, none⟩ = some (.string s) ∧ W.cell? ⟨b, 2, none⟩ = some (.int .i64 i) ∧ W.cell? ⟨b, 3, none⟩ = some (.int .i64 j) ∧ W.cell? ⟨b, 4, none⟩ = some (.int .i64 k) ∧ W.cell? ⟨b, 5, none⟩ = some (.int .i64 g) ∧ W.cell? ⟨b, 6, none⟩ = some (.bool e)
theorem Op7.past {W W' : World} {b : Nat} {c : Int} {s : ByteArray} {i j k g : Int} {e : Bool} (h : Op7 W b c s i j k g e) (hB : Below W.heap.size W W') : Op7 W' b c s i j k g e := by
  have hb := World.block_lt_of_cell? W _ h.1
  obtain ⟨h0, h1, h2, h3, h4, h5, h6⟩ := h
  exact ⟨(hB.cell (p := ⟨b, 0, none⟩) hb).trans h0, (hB.cell (p := ⟨b, 1, none⟩) hb).trans h1, (hB.cell (p := ⟨b, 2, none⟩) hb).trans h2, (hB.cell (p := ⟨b, 3, none⟩) hb).trans h3, (hB.cell (p := ⟨b, 4, none⟩) hb).trans h4, (hB.cell (p := ⟨b, 5, none⟩) hb).trans h5, (hB.cell (p := ⟨b, 6, none⟩) hb).trans h6⟩
theorem Op7.new (W : World) (c : Int) (s : ByteArray) (i j k g : Int) (e : Bool) : Op7 (W.alloc (.cells #[.int .i64 c, .string s, .int .i64 i, .int .i64 j, .int .i64 k, .int .i64 g, .bool e] 56)) W.heap.size c s i j k g e := by
  refine ⟨?_, ?_, ?_, ?_, ?_, ?_, ?_⟩ <;> go_simp
/-- its seven parts -/
theorem opV_parts (C : Int) : ∃ (c : Int) (s : ByteArray) (i j k g : Int) (e : Bool), opV C = .agg #[.int .i64 c, .string s, .int .i64 i, .int .i64 j, .int .i64 k, .int .i64 g, .bool e] := by
  unfold opV
  split
  · exact ⟨_, _, _, _, _, _, _, rfl⟩
  · exact ⟨_, _, _, _, _, _, _, rfl⟩
end Go.Proofs.YtcjmbpchdeapiaaDoor
