/- The three parts of a round, of lanes as words of 64 bits. -/
import Derived.Test.YtbjijbgjnammhaaDoorKm
import Derived.Test.YtbjijbgjnammhaaDoorKx
import Derived.Test.YtbjijbgjnammhaaDoorKv
import Derived.Test.YtbjijbgjnammhaaDoorKb
namespace Go.Proofs.YtbjijbgjnammhaaDoor
open Go.RowKit
def iv (f : KSt) : Nat → Int := fun i => ((f i).toNat : Int)
theorem xor64 (a b : BitVec 64) : bits .xor .u64 (a.toNat : Int) (b.toNat : Int) = ((a ^^^ b).toNat : Int) := by
  rw [u64_xor_nat _ _ a.isLt b.isLt, BitVec.toNat_xor]
theorem andNot64 (a b : BitVec 64) : bits .andNot .u64 (a.toNat : Int) (b.toNat : Int) = ((a &&& ~~~ b).toNat : Int) := by
  rw [u64_andNot_nat _ _ a.isLt b.isLt, BitVec.toNat_and, BitVec.toNat_not]
theorem mix_is (f : KSt) (w : World) : Calls Tryd.prog 25 #[.agg (rowL 25 (iv f)).toArray] w fun e w' => e = .returned (.agg (rowL 25 (iv (mixF f))).toArray) ∧ Below w.heap.size w w' := by
  refine mix_walk _ (iv f) (iv (mixF f)) (fun x => ((colF f x).toNat : Int)) (fun x => (((colF f x).rotateLeft 1).toNat : Int)) w rfl ?_ ?_ ?_
  · intro x hx; simp only [iv, xor64, colF]
  · intro x hx W; exact rot_is _ 1 (by decide) W
  · intro i hi; simp only [iv, xor64, mixF, besF]
theorem bend_is (f : KSt) (w : World) : Calls Tryd.prog 23 #[.agg (rowL 25 (iv f)).toArray] w fun e w' => e = .returned (.agg (rowL 25 (iv (bendF f))).toArray) ∧ Below w.heap.size w w' := by
  refine bend_walk _ (iv f) (iv (bendF f)) w rfl ?_
  intro r c hr hc
  simp only [iv, xor64, andNot64, bendF]
  rw [show (5 * r + c) / 5 = r by omega, show (5 * r + c) % 5 = c by omega]
/-- what the package's three tables hold -/
def Tabs (w : World) : Prop := (∀ i, i < 24 → w.cell? ⟨0, i, none⟩ = some (.int .u64 (conL.getD i 0 : Nat))) ∧ w.rangeAt 1 0 (idxL moveL) ∧ (∀ i, i < 25 → w.cell? ⟨2, i, none⟩ = some (.int .i64 (turnL.getD i 0 : Nat)))
theorem Tabs.lt {w : World} (h : Tabs w) : 2 < w.heap.size := World.block_lt_of_cell? w _ (h.2.2 0 (by omega))
theorem Tabs.below {w w' : World} {B : Nat} (h : Tabs w) (k : Below B w w') (hB : 2 < B) : Tabs w' :=
  ⟨fun i hi => (k.cell (p := ⟨0, i, none⟩) (by show 0 < B; omega)).trans (h.1 i hi), fun j v hv => (k.cell (p := ⟨1, 0 + j, none⟩) (by show 1 < B; omega)).trans (h.2.1 j v hv), fun i hi => (k.cell (p := ⟨2, i, none⟩) hB).trans (h.2.2 i hi)⟩
theorem ix0 (W : World) : Sem.run Tryd.prog (Instr.index 58 (.agg (idxL moveL).toArray) (.int .i64 0)) W = .ok (.int .i64 0) W := by kernel_rfl
theorem ix1 (W : World) : Sem.run Tryd.prog (Instr.index 58 (.agg (idxL moveL).toArray) (.int .i64 1)) W = .ok (.int .i64 10) W := by kernel_rfl
theorem ix2 (W : World) : Sem.run Tryd.prog (Instr.index 58 (.agg (idxL moveL).toArray) (.int .i64 2)) W = .ok (.int .i64 20) W := by kernel_rfl
theorem ix3 (W : World) : Sem.run Tryd.prog (Instr.index 58 (.agg (idxL moveL).toArray) (.int .i64 3)) W = .ok (.int .i64 5) W := by kernel_rfl
theorem ix4 (W : World) : Sem.run Tryd.prog (Instr.index 58 (.agg (idxL moveL).toArray) (.int .i64 4)) W = .ok (.int .i64 15) W := by kernel_rfl
theorem ix5 (W : World) : Sem.run Tryd.prog (Instr.index 58 (.agg (idxL moveL).toArray) (.int .i64 5)) W = .ok (.int .i64 16) W := by kernel_rfl
theorem ix6 (W : World) : Sem.run Tryd.prog (Instr.index 58 (.agg (idxL moveL).toArray) (.int .i64 6)) W = .ok (.int .i64 1) W := by kernel_rfl
theorem ix7 (W : World) : Sem.run Tryd.prog (Instr.index 58 (.agg (idxL moveL).toArray) (.int .i64 7)) W = .ok (.int .i64 11) W := by kernel_rfl
theorem ix8 (W : World) : Sem.run Tryd.prog (Instr.index 58 (.agg (idxL moveL).toArray) (.int .i64 8)) W = .ok (.int .i64 21) W := by kernel_rfl
theorem ix9 (W : World) : Sem.run Tryd.prog (Instr.index 58 (.agg (idxL moveL).toArray) (.int .i64 9)) W = .ok (.int .i64 6) W := by kernel_rfl
theorem ix10 (W : World) : Sem.run Tryd.prog (Instr.index 58 (.agg (idxL moveL).toArray) (.int .i64 10)) W = .ok (.int .i64 7) W := by kernel_rfl
theorem ix11 (W : World) : Sem.run Tryd.prog (Instr.index 58 (.agg (idxL moveL).toArray) (.int .i64 11)) W = .ok (.int .i64 17) W := by kernel_rfl
theorem ix12 (W : World) : Sem.run Tryd.prog (Instr.index 58 (.agg (idxL moveL).toArray) (.int .i64 12)) W = .ok (.int .i64 2) W := by kernel_rfl
theorem ix13 (W : World) : Sem.run Tryd.prog (Instr.index 58 (.agg (idxL moveL).toArray) (.int .i64 13)) W = .ok (.int .i64 12) W := by kernel_rfl
theorem ix14 (W : World) : Sem.run Tryd.prog (Instr.index 58 (.agg (idxL moveL).toArray) (.int .i64 14)) W = .ok (.int .i64 22) W := by kernel_rfl
theorem ix15 (W : World) : Sem.run Tryd.prog (Instr.index 58 (.agg (idxL moveL).toArray) (.int .i64 15)) W = .ok (.int .i64 23) W := by kernel_rfl
theorem ix16 (W : World) : Sem.run Tryd.prog (Instr.index 58 (.agg (idxL moveL).toArray) (.int .i64 16)) W = .ok (.int .i64 8) W := by kernel_rfl
theorem ix17 (W : World) : Sem.run Tryd.prog (Instr.index 58 (.agg (idxL moveL).toArray) (.int .i64 17)) W = .ok (.int .i64 18) W := by kernel_rfl
theorem ix18 (W : World) : Sem.run Tryd.prog (Instr.index 58 (.agg (idxL moveL).toArray) (.int .i64 18)) W = .ok (.int .i64 3) W := by kernel_rfl
theorem ix19 (W : World) : Sem.run Tryd.prog (Instr.index 58 (.agg (idxL moveL).toArray) (.int .i64 19)) W = .ok (.int .i64 13) W := by kernel_rfl
theorem ix20 (W : World) : Sem.run Tryd.prog (Instr.index 58 (.agg (idxL moveL).toArray) (.int .i64 20)) W = .ok (.int .i64 14) W := by kernel_rfl
theorem ix21 (W : World) : Sem.run Tryd.prog (Instr.index 58 (.agg (idxL moveL).toArray) (.int .i64 21)) W = .ok (.int .i64 24) W := by kernel_rfl
theorem ix22 (W : World) : Sem.run Tryd.prog (Instr.index 58 (.agg (idxL moveL).toArray) (.int .i64 22)) W = .ok (.int .i64 9) W := by kernel_rfl
theorem ix23 (W : World) : Sem.run Tryd.prog (Instr.index 58 (.agg (idxL moveL).toArray) (.int .i64 23)) W = .ok (.int .i64 19) W := by kernel_rfl
theorem ix24 (W : World) : Sem.run Tryd.prog (Instr.index 58 (.agg (idxL moveL).toArray) (.int .i64 24)) W = .ok (.int .i64 4) W := by kernel_rfl
theorem move_ix : ∀ i : Nat, i < 25 → ∀ W : World, Sem.run Tryd.prog (Instr.index 58 (.agg (idxL moveL).toArray) (.int .i64 (i : Int))) W = .ok (.int .i64 (moveL.getD i 0 : Nat)) W
  | 0, _, W => ix0 W
  | 1, _, W => ix1 W
  | 2, _, W => ix2 W
  | 3, _, W => ix3 W
  | 4, _, W => ix4 W
  | 5, _, W => ix5 W
  | 6, _, W => ix6 W
  | 7, _, W => ix7 W
  | 8, _, W => ix8 W
  | 9, _, W => ix9 W
  | 10, _, W => ix10 W
  | 11, _, W => ix11 W
  | 12, _, W => ix12 W
  | 13, _, W => ix13 W
  | 14, _, W => ix14 W
  | 15, _, W => ix15 W
  | 16, _, W => ix16 W
  | 17, _, W => ix17 W
  | 18, _, W => ix18 W
  | 19, _, W => ix19 W
  | 20, _, W => ix20 W
  | 21, _, W => ix21 W
  | 22, _, W => ix22 W
  | 23, _, W => ix23 W
  | 24, _, W => ix24 W
  | n + 25, h, _ => absurd h (by omega)
theorem move_is (f : KSt) (w : World) (hT : Tabs w) : Calls Tryd.prog 24 #[.agg (rowL 25 (iv f)).toArray] w fun e w' => e = .returned (.agg (rowL 25 (iv (moveF f))).toArray) ∧ Below w.heap.size w w' := by
  refine move_walk _ (iv f) (iv (moveF f)) moveL turnL w rfl hT.2.1 hT.2.2 (by decide) (by decide) (by decide) move_ix ?_
  intro i hi W
  have p : ∀ i, i < 25 → srcL.getD (moveL.getD i 0) 0 = i ∧ turnL.getD i 0 < 64 := by decide
  have := rot_is (f i) (turnL.getD i 0) (p i hi).2 W
  simp only [iv, moveF, (p i hi).1]
  exact this
end Go.Proofs.YtbjijbgjnammhaaDoor
