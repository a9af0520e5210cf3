/- Package undo: Keys by the order of numbers. -/
import Derived.Test.YtohfkgfjcnldaaaTu
namespace Go.Proofs.Ytohfkgfjcnldaaa
open Go.RowKit Go.Shelf
/-- the keys of the first k rows, then zeros -/
def ksAt (L : List (Int × Int)) (k : Nat) : List Int := (L.take k).map Prod.fst ++ List.replicate (L.length - k) 0
theorem ksAt_len {L : List (Int × Int)} {k : Nat} (h : k ≤ L.length) : (ksAt L k).length = L.length := by unfold ksAt; simp; omega
theorem ksAt_all (L : List (Int × Int)) : ksAt L L.length = L.map Prod.fst := by unfold ksAt; simp
theorem ksAt_zero (L : List (Int × Int)) : ksAt L 0 = List.replicate L.length 0 := by unfold ksAt; simp
theorem ksAt_set {L : List (Int × Int)} {k : Nat} {p : Int × Int} (h : k < L.length) (hp : L[k]? = some p) : intsD (ksAt L (k + 1)) = (intsD (ksAt L k)).set k (.int .i64 p.1) := by
  unfold intsD
  rw [← List.map_set]
  congr 1
  unfold ksAt
  have e1 : L.length - k = (L.length - (k + 1)) + 1 := by omega
  have e2 : ((L.take k).map Prod.fst).length = k := by simp; omega
  rw [e1, List.replicate_succ, List.set_append_right _ _ (by omega), e2, Nat.sub_self, List.set_cons_zero, List.take_add_one, hp]
  simp
theorem neq_fn (W : World) : Sem.run Try.prog (binOp BinOp.neq 74 (.func (.func 54) #[] #[]) .nilFunc) W = .ok (.bool true) W := by kernel_rfl
theorem make_ints (w : World) (n : Nat) (hn : n < 549755813888) : ∃ w1, (Instr.makeSlice 65 (.int .i64 (n : Int)) (.int .i64 (n : Int))).run Try.prog w = .ok (.slice (some ⟨w.heap.size, 0, none⟩) n n) w1 ∧ CBox w1 w.heap.size 3 (intsD (List.replicate n 0)) ∧ Below w.heap.size w w1 := by
  obtain ⟨i0, hi, hz0, hz1, hz2⟩ := info_parts info_int
  have h := run_make (P := Try.prog) w 65 3 i0 (.int .i64 0) und_ints hi hz0 .i64 .i64 (n : Int) (n : Int) (by omega) (Int.le_refl _) (by rw [hz2]; omega) (by omega)
  refine ⟨_, h, ?_, (Below.refl _ w).alloc (Nat.le_refl _) _⟩
  have e : madeCells (Value.cells (.int .i64 0)) ((n : Int).toNat * i0.size) = (intsD (List.replicate n 0)).toArray := by
    rw [hz1, Int.toNat_natCast, Nat.mul_one]
    apply Array.ext
    · simp [madeCells, intsD]
    · intro k h1 h2
      simp [madeCells, intsD, Value.cells, Nat.mod_one]
  rw [e]
  exact CBox.new w _ _
set_option maxHeartbeats 2000000 in
set_option maxRecDepth 100000 in
theorem keys_some (w : World) (b pm : Nat) (g : Nat) (rc : Nat) (ba : Option Addr) (bc : Nat) (ma : Option Addr) (mc : Nat) (m : Int → Option Nat) (L : List (Int × Int)) (U : List Value) (M : List Nat) (h : Tab w b pm (some ⟨g, 0, none⟩) rc ba bc ma mc m L U M) (hL : L.length < 549755813888) :
    Calls Try.prog 49 #[.pointer (some ⟨b, 0, none⟩), .func (.func 54) #[] #[]] w fun e w' => e = .returned (.slice (some ⟨w.heap.size, 0, none⟩) L.length L.length) ∧ CBox w' w.heap.size 3 (intsD (sortK (L.map Prod.fst))) ∧ Below w.heap.size w w' := by
  obtain ⟨nn, en⟩ : ∃ nn, L.length = nn := ⟨_, rfl⟩
  obtain ⟨w1, mk, C1, B1⟩ := make_ints w nn (by omega)
  have H0 : Hid (Tab w b pm (some ⟨g, 0, none⟩) rc ba bc ma mc m L U M) := h
  have EN : Hid (L.length = nn) := en
  have nX : (nn : Int) < 549755813888 := by omega
  obtain ⟨blk, eb⟩ : ∃ blk, w.heap.size = blk := ⟨_, rfl⟩
  have EB : Hid (w.heap.size = blk) := eb
  have c0 : w.cell? ⟨b, 0, none⟩ = some (.slice (some ⟨g, 0, none⟩) nn rc) := by rw [← en]; exact h.c0
  have c1 : w1.cell? ⟨b, 0, none⟩ = some (.slice (some ⟨g, 0, none⟩) nn rc) := (B1.cell (p := ⟨b, 0, none⟩) h.box.lt).trans c0
  have HC : Hid (CBox w1 blk 3 (intsD (ksAt L 0)) ∧ Below w.heap.size w w1) := ⟨by rw [ksAt_zero, en, ← eb]; exact C1, B1⟩
  rw [eb] at mk
  clear h hL C1 B1 en eb
  go_enter Try.func49, Try.ntmps49
  go_wp2
  go_loopw [19] (fun s wr => ∃ k : Nat, k ≤ nn ∧ s = .int .i64 (k : Int) ∧ CBox wr blk 3 (intsD (ksAt L k)) ∧ Below w.heap.size w wr) (fun s _ => nn - (intOf s).toNat)
  case atStart => exact ⟨0, Nat.zero_le _, rfl, HC.out⟩
  case round =>
    obtain ⟨k, hk, rfl, hC, hB⟩ := hrel
    by_cases hlt : k < nn
    · have kI : (k : Int) < (nn : Int) := by omega
      have hl : k < L.length := by have := EN.out; omega
      obtain ⟨p, ep⟩ : ∃ p, atL L k = p := ⟨_, rfl⟩
      have hp : L[k]? = some p := by rw [← ep]; exact atL_get hl
      obtain ⟨r0, r1, _, _⟩ := H0.out.rowg rfl hp
      have gl : g < w.heap.size := World.block_lt_of_cell? w _ r0
      have d0 : wr.cell? ⟨g, k * 2, none⟩ = some (.int .i64 p.1) := (hB.cell (p := ⟨g, k * 2, none⟩) gl).trans r0
      have d1 : wr.cell? ⟨g, k * 2 + 1, none⟩ = some (.int .i64 p.2) := (hB.cell (p := ⟨g, k * 2 + 1, none⟩) gl).trans r1
      have HN : Hid (CBox ((wr.alloc (.cells #[.int .i64 p.1, .int .i64 p.2] 112)).setCell ⟨blk, k, none⟩ (.int .i64 p.1)) blk 3 (intsD (ksAt L (k + 1))) ∧ Below w.heap.size w ((wr.alloc (.cells #[.int .i64 p.1, .int .i64 p.2] 112)).setCell ⟨blk, k, none⟩ (.int .i64 p.1)) ∧ k + 1 ≤ nn) := by
        refine ⟨?_, (hB.alloc hB.size _).setCell (p := ⟨blk, k, none⟩) (by show w.heap.size ≤ blk; rw [EB.out]; exact Nat.le_refl _) _, hlt⟩
        have h9 := (hC.but (S := fun _ => False) ((But.refl _ _).alloc (.cells #[.int .i64 p.1, .int .i64 p.2] 112)) id).set k (.int .i64 p.1)
        rw [← ksAt_set hl hp] at h9
        exact h9
      have hC2 := hC.but (S := fun _ => False) ((But.refl _ _).alloc (.cells #[.int .i64 p.1, .int .i64 p.2] 112)) id
      have z0 : ∃ z : Int, (wr.alloc (.cells #[.int .i64 p.1, .int .i64 p.2] 112)).cell? ⟨blk, k, none⟩ = some (.int .i64 z) := by
        rw [hC2.cell]
        unfold intsD
        rw [List.getElem?_map, List.getElem?_eq_getElem (by rw [ksAt_len (by omega)]; exact hl)]
        exact ⟨_, rfl⟩
      obtain ⟨z, z0⟩ := z0
      have f0 := hC2.frozen k
      have x0 : (wr.alloc (.cells #[.int .i64 p.1, .int .i64 p.2] 112)).cell? ⟨wr.heap.size, 0, none⟩ = some (.int .i64 p.1) := (CBox.new wr 112 [.int .i64 p.1, .int .i64 p.2]).cell 0
      clear hC hC2 hB r0 r1 hp ep hl gl
      go_upto_region 5 with fail
      generalize wr.alloc (.cells #[.int .i64 p.1, .int .i64 p.2] 112) = v2 at z0 f0 x0 HN ⊢
      clear d0 d1
      go_wp2
      go_roundw
      case rel => exact ⟨k + 1, HN.out.2.2, by go_num, HN.out.1, HN.out.2.1⟩
      case measure => simp [intOf]; omega
    · obtain rfl : k = nn := by omega
      have kI : ¬ (k : Int) < (k : Int) := by omega
      have SO : Hid (Calls Try.prog 78 #[.slice (some ⟨blk, 0, none⟩) k k, .func (.func 54) #[] #[]] wr fun e w' => e = .returned (.tuple #[]) ∧ CBox w' blk 3 (intsD (sortK (ksAt L k))) ∧ Below w.heap.size w w') := by
        have := sort_is w wr blk k (ksAt L k) hB (by rw [EB.out]; exact Nat.le_refl _) hC (by rw [ksAt_len (by have := EN.out; omega)]; have := EN.out; omega)
        rw [ksAt_len (by have := EN.out; omega)] at this
        have e9 : L.length = k := EN.out
        rw [e9] at this
        exact this
      clear hC hB
      have hq := neq_fn wr
      go_wp2_with (go_at_call 78; refine (SO.out).mono ?_; rintro e v9 ⟨rfl, h1, h2⟩)
      go_ret
      rw [EN.out, EB.out]
      refine ⟨rfl, ?_, by rw [EB.out] at h2; exact h2⟩
      have e8 : ksAt L k = L.map Prod.fst := by rw [← EN.out]; exact ksAt_all L
      rw [← e8]
      exact h1
set_option maxHeartbeats 2000000 in
set_option maxRecDepth 100000 in
theorem keys_none (w : World) (b pm : Nat) (ra : Option Addr) (rc : Nat) (ba : Option Addr) (bc : Nat) (ma : Option Addr) (mc : Nat) (m : Int → Option Nat) (L : List (Int × Int)) (U : List Value) (M : List Nat) (h : Tab w b pm ra rc ba bc ma mc m L U M) (hz : L.length = 0) :
    Calls Try.prog 49 #[.pointer (some ⟨b, 0, none⟩), .func (.func 54) #[] #[]] w fun e w' => e = .returned (.slice (some ⟨w.heap.size, 0, none⟩) L.length L.length) ∧ CBox w' w.heap.size 3 (intsD (sortK (L.map Prod.fst))) ∧ Below w.heap.size w w' := by
  obtain ⟨nn, en⟩ : ∃ nn, L.length = nn := ⟨_, rfl⟩
  obtain ⟨w1, mk, C1, B1⟩ := make_ints w nn (by omega)
  have H0 : Hid (Tab w b pm ra rc ba bc ma mc m L U M) := h
  have EN : Hid (L.length = nn) := en
  have nX : (nn : Int) < 549755813888 := by omega
  obtain ⟨blk, eb⟩ : ∃ blk, w.heap.size = blk := ⟨_, rfl⟩
  have EB : Hid (w.heap.size = blk) := eb
  have c0 : w.cell? ⟨b, 0, none⟩ = some (.slice ra nn rc) := by rw [← en]; exact h.c0
  have c1 : w1.cell? ⟨b, 0, none⟩ = some (.slice ra nn rc) := (B1.cell (p := ⟨b, 0, none⟩) h.box.lt).trans c0
  have HC : Hid (CBox w1 blk 3 (intsD (ksAt L 0)) ∧ Below w.heap.size w w1) := ⟨by rw [ksAt_zero, en, ← eb]; exact C1, B1⟩
  rw [eb] at mk
  clear h C1 B1 en eb
  go_enter Try.func49, Try.ntmps49
  go_wp2
  go_loopw [19] (fun s wr => ∃ k : Nat, k ≤ nn ∧ s = .int .i64 (k : Int) ∧ CBox wr blk 3 (intsD (ksAt L k)) ∧ Below w.heap.size w wr) (fun s _ => nn - (intOf s).toNat)
  case atStart => exact ⟨0, Nat.zero_le _, rfl, HC.out⟩
  case round =>
    obtain ⟨k, hk, rfl, hC, hB⟩ := hrel
    by_cases hlt : k < nn
    · exact absurd hlt (by have := EN.out; have := hz; omega)
    · obtain rfl : k = nn := by omega
      have kI : ¬ (k : Int) < (k : Int) := by omega
      have SO : Hid (Calls Try.prog 78 #[.slice (some ⟨blk, 0, none⟩) k k, .func (.func 54) #[] #[]] wr fun e w' => e = .returned (.tuple #[]) ∧ CBox w' blk 3 (intsD (sortK (ksAt L k))) ∧ Below w.heap.size w w') := by
        have := sort_is w wr blk k (ksAt L k) hB (by rw [EB.out]; exact Nat.le_refl _) hC (by rw [ksAt_len (by have := EN.out; omega)]; have := EN.out; omega)
        rw [ksAt_len (by have := EN.out; omega)] at this
        have e9 : L.length = k := EN.out
        rw [e9] at this
        exact this
      clear hC hB
      have hq := neq_fn wr
      go_wp2_with (go_at_call 78; refine (SO.out).mono ?_; rintro e v9 ⟨rfl, h1, h2⟩)
      go_ret
      rw [EN.out, EB.out]
      refine ⟨rfl, ?_, by rw [EB.out] at h2; exact h2⟩
      have e8 : ksAt L k = L.map Prod.fst := by rw [← EN.out]; exact ksAt_all L
      rw [← e8]
      exact h1
theorem keys_is (w : World) (b pm : Nat) (ra : Option Addr) (rc : Nat) (ba : Option Addr) (bc : Nat) (ma : Option Addr) (mc : Nat) (m : Int → Option Nat) (L : List (Int × Int)) (U : List Value) (M : List Nat) (h : Tab w b pm ra rc ba bc ma mc m L U M) (hL : L.length < 549755813888) :
    Calls Try.prog 49 #[.pointer (some ⟨b, 0, none⟩), .func (.func 54) #[] #[]] w fun e w' => e = .returned (.slice (some ⟨w.heap.size, 0, none⟩) L.length L.length) ∧ CBox w' w.heap.size 3 (intsD (sortK (L.map Prod.fst))) ∧ Below w.heap.size w w' := by
  by_cases hz : L.length = 0
  · exact keys_none w b pm ra rc ba bc ma mc m L U M h hz
  · obtain ⟨g, rfl, _⟩ := h.row (atL_get (L := L) (i := 0) (by omega))
    exact keys_some w b pm g rc ba bc ma mc m L U M h hL
end Go.Proofs.Ytohfkgfjcnldaaa
