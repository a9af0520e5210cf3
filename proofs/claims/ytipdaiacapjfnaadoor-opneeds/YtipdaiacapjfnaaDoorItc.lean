/- make of bytes; what Needs answers, told apart. -/
import Derived.Test.YtipdaiacapjfnaaDoorIta
import Derived.Test.YtipdaiacapjfnaaDoorNdb
import Derived.RangeFuncBox
import Derived.Laws.MakeOwn
namespace Go.Proofs.YtipdaiacapjfnaaDoor
open Go.RowKit Go.Shelf
theorem infoU8 : (Tryd.prog.info? 5).map (fun i => (i.zero, i.size, i.bytes)) = some (some (.int .u8 0), 1, 1) := by kernel_rfl
theorem mk_is (W : World) (M : Nat) (hM : M ≤ 1000) (hM0 : 0 < M) : ∃ W1, Sem.run Tryd.prog (Instr.makeSlice 39 (.int .i64 (M : Int)) (.int .i64 (M : Int))) W = .ok (.slice (some ⟨W.heap.size, 0, none⟩) M M) W1 ∧
    W1.cell? ⟨W.heap.size, 0, none⟩ = some (.int .u8 0) ∧ W1.frozen? ⟨W.heap.size, 0, none⟩ = false ∧ Below W.heap.size W W1 ∧ W.heap.size < W1.heap.size := by
  obtain ⟨i0, hi, hz0, hz1, hz2⟩ := info_parts infoU8
  have h := run_makeSlice (P := Tryd.prog) W 39 5 i0 (.int .u8 0) Tryd.underlying39 hi hz0 .i64 .i64 (M : Int) (M : Int) (by omega) (Int.le_refl _) (by rw [hz1]; simp; omega) (by rw [hz2]; omega) (by omega)
  simp only [Int.toNat_natCast, hz1, Nat.mul_one] at h
  have hA : (madeCells (Value.int .u8 0).cells M)[0]? = some (.int .u8 0) := by simp [madeCells, Value.cells, hM0]
  generalize madeCells (Value.int .u8 0).cells M = A at h hA
  have hn := World.alloc_heap_new W (.cells A 5)
  refine ⟨_, h, ?_, ?_, (Below.refl _ W).alloc (Nat.le_refl _) _, by simp⟩
  · unfold World.cell?
    simp only [hn]
    exact hA
  · unfold World.frozen?
    simp only [hn]
    simp
theorem slice_toB (ad : Option Addr) (n cap q : Nat) (hq : q ≤ cap) (W : World) : Sem.run Tryd.prog (Instr.slice 39 (.slice ad n cap) none (some (.int .i64 (q : Int))) none) W = .ok (.slice ad q cap) W := by
  have e : (if cap = 0 then ad else ad.map (·.add (0 * 1))) = ad := by
    split
    · rfl
    · cases ad with
      | none => rfl
      | some a => obtain ⟨b, o, s⟩ := a; simp [Addr.add]
  simp [Instr.slice, Instr.sliceBounds, run_underlying Tryd.underlying39, run_sliceBound W .i64 (q : Int) cap _ (by omega) (by omega)]
  simpa using e
/-- what Needs answers where they fit -/
theorem nv_yes {c n b : Nat} (hop : opB (c : Int) = true) (hf : fitsB (immT c) n b = true) : ∃ a1 a2, NV (c : Int) n b = .tuple #[.int .i64 a1, .int .i64 a2, .bool true] := by
  refine ⟨inT c + dpt (c : Int) b, outT c + dpt (c : Int) b, ?_⟩
  unfold NV
  rw [if_pos ⟨hop, by rw [Int.toNat_natCast]; exact hf⟩, Int.toNat_natCast]
theorem nv_no {c n b : Nat} (hf : fitsB (immT c) n b = false) : NV (c : Int) n b = .tuple #[.int .i64 0, .int .i64 0, .bool false] := by
  unfold NV
  rw [if_neg (by rw [Int.toNat_natCast, hf]; simp)]
theorem imm_range : ∀ c : Fin 256, (decide (immT c.val = -1 ∨ (0 ≤ immT c.val ∧ immT c.val ≤ 32))) = true := by decide +kernel
end Go.Proofs.YtipdaiacapjfnaaDoor
