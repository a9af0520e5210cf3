/- Package undo: Keys by falling, by flat, by none. -/
import Derived.Test.YtohfkgfjcnldaaaTyjM
import Derived.Test.YtohfkgfjcnldaaaTyfM
namespace Go.Proofs.Ytohfkgfjcnldaaa
open Go.RowKit Go.Shelf Go.Sort
def cfF (x y : Int) : Int := cfR y x
theorem falling_is (x y : Int) (w : World) : Calls Try.prog 50 #[.int .i64 x, .int .i64 y] w fun e w' => e = .returned (.int .i64 (cfF x y)) ∧ w' = w := by
  have RI : Hid (Calls Try.prog 54 #[.int .i64 y, .int .i64 x] w fun e w' => e = .returned (.int .i64 (cfF x y)) ∧ w' = w) := rising_is y x w
  generalize cfF x y = c at RI
  go_enter Try.func50, Try.ntmps50
  go_wp2_with (go_at_call 54; refine (RI.out).mono ?_; rintro e w' ⟨rfl, hw⟩; (have hw2 := hw.symm); clear hw; subst hw2)
  go_ret
  exact ⟨rfl, rfl⟩
theorem flat_is (x y : Int) (w : World) : Calls Try.prog 51 #[.int .i64 x, .int .i64 y] w fun e w' => e = .returned (.int .i64 0) ∧ w' = w := by
  go_enter Try.func51, Try.ntmps51
  go_wp2
  go_ret
  exact ⟨rfl, rfl⟩
theorem ltF (x y : Int) : ltOf cfF x y = decide (y < x) := ltR y x
theorem swoF : SWO (ltOf cfF) where
  irrefl x := by rw [ltF]; simp
  trans x y z h1 h2 := by rw [ltF] at *; simp at *; omega
  ntrans x y z h1 h2 := by rw [ltF] at *; simp at *; omega
theorem readsF (blk off size : Nat) (w : World) : CmpReads Try.prog 50 #[] (Value.int .i64) cfF blk off size w :=
  fun _ _ _ _ x y => (falling_is x y _).mono fun _ _ ⟨he, hw⟩ => ⟨he, 0, hw⟩
def cfZ (_ _ : Int) : Int := 0
theorem swoZ : SWO (ltOf cfZ) where
  irrefl x := by unfold ltOf cfZ; simp
  trans x y z h1 h2 := by unfold ltOf cfZ at *; simp at *
  ntrans x y z h1 h2 := by unfold ltOf cfZ at *; simp at *
theorem readsZ (blk off size : Nat) (w : World) : CmpReads Try.prog 51 #[] (Value.int .i64) cfZ blk off size w :=
  fun _ _ _ _ x y => (flat_is x y _).mono fun _ _ ⟨he, hw⟩ => ⟨he, 0, hw⟩
def sortF (l : List Int) : List Int := l.mergeSort fun x y => decide (y ≤ x)
theorem mergeF (l : List Int) : (l.mergeSort fun x y => !(ltOf cfF) y x) = sortF l := by
  unfold sortF
  congr 1
  funext x y
  rw [ltF]
  by_cases h : x < y
  · have : ¬ y ≤ x := by omega
    simp [h]
  · have : y ≤ x := by omega
    simp [h, this]
theorem sortF_len (l : List Int) : (sortF l).length = l.length := by unfold sortF; exact List.length_mergeSort _
theorem holds_ints {W : World} {blk : Nat} {l : List Int} (h : CBox W blk 3 (intsD l)) : Holds (Value.int .i64) W blk 0 l.toArray := fun j hj => by
  have hj' : j < l.length := by simpa using hj
  refine ⟨?_, ?_⟩
  · rw [Nat.zero_add, h.cell]
    unfold intsD
    rw [List.getElem?_map, List.getElem?_eq_getElem hj']
    simp [hj']
  · rw [Nat.zero_add]
    exact h.frozen j
theorem sortF_is (w W : World) (blk cap : Nat) (l : List Int) (hW : Below w.heap.size w W) (hb : w.heap.size ≤ blk) (h : CBox W blk 3 (intsD l)) (hl : l.length < 549755813888) :
    Calls Try.prog 78 #[.slice (some ⟨blk, 0, none⟩) l.length cap, .func (.func 50) #[] #[]] W fun e w' => e = .returned (.tuple #[]) ∧ CBox w' blk 3 (intsD (sortF l)) ∧ Below w.heap.size w w' := by
  have hcon := Any.slices_SortFunc_total sfLays (Value.int .i64) (fun _ => rfl) cfF swoF 50 #[] blk 0 cap l.toArray W (enters_of Try.func50 (by kernel_rfl) rfl) (readsF blk 0 l.toArray.size W).lays (holds_ints h) h.lt (by simp; omega) (fun x y h1 h2 => by rw [ltF] at h1 h2; simp at h1 h2; omega)
  rw [List.size_toArray] at hcon
  refine Calls.mono hcon ?_
  rintro e w' ⟨rfl, n, os, rfl⟩
  rw [mergeF]
  exact ⟨rfl, box_sorted h (sortF_len l), below_sorted hW hb⟩
theorem sortZ_is (w W : World) (blk cap : Nat) (l : List Int) (hW : Below w.heap.size w W) (hb : w.heap.size ≤ blk) (h : CBox W blk 3 (intsD l)) (hl : l.length < 549755813888) :
    Calls Try.prog 78 #[.slice (some ⟨blk, 0, none⟩) l.length cap, .func (.func 51) #[] #[]] W fun e w' => e = .returned (.tuple #[]) ∧ (∃ l', l'.Perm l ∧ CBox w' blk 3 (intsD l')) ∧ Below w.heap.size w w' := by
  have hcon := Any.slices_SortFunc sfLays (Value.int .i64) (fun _ => rfl) cfZ swoZ 51 #[] blk 0 cap l.toArray W (enters_of Try.func51 (by kernel_rfl) rfl) (readsZ blk 0 l.toArray.size W).lays (holds_ints h) h.lt (by simp; omega)
  rw [List.size_toArray] at hcon
  refine Calls.mono hcon ?_
  rintro e w' ⟨rfl, d', n, os, hp, _, rfl⟩
  obtain ⟨p1, _, p3⟩ := hp
  have p4 : d'.toList.Perm l := by
    have e1 : (d'.extract 0 l.length).toList = d'.toList := by
      have : d'.size = l.length := by simpa using p1
      simp [← this]
    rw [e1] at p3
    simpa using p3
  have e5 : d' = d'.toList.toArray := by simp
  rw [e5]
  exact ⟨rfl, ⟨d'.toList, p4, box_sorted h p4.length_eq⟩, below_sorted hW hb⟩
theorem neq_fnF (W : World) : Sem.run Try.prog (binOp BinOp.neq 74 (.func (.func 50) #[] #[]) .nilFunc) W = .ok (.bool true) W := by kernel_rfl
theorem neq_fnZ (W : World) : Sem.run Try.prog (binOp BinOp.neq 74 (.func (.func 51) #[] #[]) .nilFunc) W = .ok (.bool true) W := by kernel_rfl
theorem neq_fnN (W : World) : Sem.run Try.prog (binOp BinOp.neq 74 .nilFunc .nilFunc) W = .ok (.bool false) W := by kernel_rfl
set_option maxHeartbeats 2000000 in
set_option maxRecDepth 100000 in
theorem keysF_some (w : World) (b pm : Nat) (g : Nat) (rc : Nat) (ba : Option Addr) (bc : Nat) (ma : Option Addr) (mc : Nat) (m : Int → Option Nat) (L : List (Int × Int)) (U : List Value) (M : List Nat) (h : Tab w b pm (some ⟨g, 0, none⟩) rc ba bc ma mc m L U M) (hL : L.length < 549755813888) :
    Calls Try.prog 49 #[.pointer (some ⟨b, 0, none⟩), .func (.func 50) #[] #[]] w fun e w' => e = .returned (.slice (some ⟨w.heap.size, 0, none⟩) L.length L.length) ∧ CBox w' w.heap.size 3 (intsD (sortF (L.map Prod.fst))) ∧ Below w.heap.size w w' := by
  obtain ⟨nn, en⟩ : ∃ nn, L.length = nn := ⟨_, rfl⟩
  obtain ⟨w1, mk, C1, B1⟩ := make_ints w nn (by omega)
  have H0 : Hid (Tab w b pm (some ⟨g, 0, none⟩) rc ba bc ma mc m L U M) := h
  have EN : Hid (L.length = nn) := en
  have nX : (nn : Int) < 549755813888 := by omega
  obtain ⟨blk, eb⟩ : ∃ blk, w.heap.size = blk := ⟨_, rfl⟩
  have EB : Hid (w.heap.size = blk) := eb
  have c0 : w.cell? ⟨b, 0, none⟩ = some (.slice (some ⟨g, 0, none⟩) nn rc) := by rw [← en]; exact h.c0
  have c1 : w1.cell? ⟨b, 0, none⟩ = some (.slice (some ⟨g, 0, none⟩) nn rc) := (B1.cell (p := ⟨b, 0, none⟩) h.box.lt).trans c0
  have HC : Hid (CBox w1 blk 3 (intsD (ksAt L 0)) ∧ Below w.heap.size w w1) := ⟨by rw [ksAt_zero, en, ← eb]; exact C1, B1⟩
  rw [eb] at mk
  clear h hL C1 B1 en eb
  go_enter Try.func49, Try.ntmps49
  go_wp2
  go_loopw [19] (fun s wr => ∃ k : Nat, k ≤ nn ∧ s = .int .i64 (k : Int) ∧ CBox wr blk 3 (intsD (ksAt L k)) ∧ Below w.heap.size w wr) (fun s _ => nn - (intOf s).toNat)
  case atStart => exact ⟨0, Nat.zero_le _, rfl, HC.out⟩
  case round =>
    obtain ⟨k, hk, rfl, hC, hB⟩ := hrel
    by_cases hlt : k < nn
    · have kI : (k : Int) < (nn : Int) := by omega
      have hl : k < L.length := by have := EN.out; omega
      obtain ⟨p, ep⟩ : ∃ p, atL L k = p := ⟨_, rfl⟩
      have hp : L[k]? = some p := by rw [← ep]; exact atL_get hl
      obtain ⟨r0, r1, _, _⟩ := H0.out.rowg rfl hp
      have gl : g < w.heap.size := World.block_lt_of_cell? w _ r0
      have d0 : wr.cell? ⟨g, k * 2, none⟩ = some (.int .i64 p.1) := (hB.cell (p := ⟨g, k * 2, none⟩) gl).trans r0
      have d1 : wr.cell? ⟨g, k * 2 + 1, none⟩ = some (.int .i64 p.2) := (hB.cell (p := ⟨g, k * 2 + 1, none⟩) gl).trans r1
      have HN : Hid (CBox ((wr.alloc (.cells #[.int .i64 p.1, .int .i64 p.2] 112)).setCell ⟨blk, k, none⟩ (.int .i64 p.1)) blk 3 (intsD (ksAt L (k + 1))) ∧ Below w.heap.size w ((wr.alloc (.cells #[.int .i64 p.1, .int .i64 p.2] 112)).setCell ⟨blk, k, none⟩ (.int .i64 p.1)) ∧ k + 1 ≤ nn) := by
        refine ⟨?_, (hB.alloc hB.size _).setCell (p := ⟨blk, k, none⟩) (by show w.heap.size ≤ blk; rw [EB.out]; exact Nat.le_refl _) _, hlt⟩
        have h9 := (hC.but (S := fun _ => False) ((But.refl _ _).alloc (.cells #[.int .i64 p.1, .int .i64 p.2] 112)) id).set k (.int .i64 p.1)
        rw [← ksAt_set hl hp] at h9
        exact h9
      have hC2 := hC.but (S := fun _ => False) ((But.refl _ _).alloc (.cells #[.int .i64 p.1, .int .i64 p.2] 112)) id
      have z0 : ∃ z : Int, (wr.alloc (.cells #[.int .i64 p.1, .int .i64 p.2] 112)).cell? ⟨blk, k, none⟩ = some (.int .i64 z) := by
        rw [hC2.cell]
        unfold intsD
        rw [List.getElem?_map, List.getElem?_eq_getElem (by rw [ksAt_len (by omega)]; exact hl)]
        exact ⟨_, rfl⟩
      obtain ⟨z, z0⟩ := z0
      have f0 := hC2.frozen k
      have x0 : (wr.alloc (.cells #[.int .i64 p.1, .int .i64 p.2] 112)).cell? ⟨wr.heap.size, 0, none⟩ = some (.int .i64 p.1) := (CBox.new wr 112 [.int .i64 p.1, .int .i64 p.2]).cell 0
      clear hC hC2 hB r0 r1 hp ep hl gl
      go_upto_region 5 with fail
      generalize wr.alloc (.cells #[.int .i64 p.1, .int .i64 p.2] 112) = v2 at z0 f0 x0 HN ⊢
      clear d0 d1
      go_wp2
      go_roundw
      case rel => exact ⟨k + 1, HN.out.2.2, by go_num, HN.out.1, HN.out.2.1⟩
      case measure => simp [intOf]; omega
    · obtain rfl : k = nn := by omega
      have kI : ¬ (k : Int) < (k : Int) := by omega
      have SO : Hid (Calls Try.prog 78 #[.slice (some ⟨blk, 0, none⟩) k k, .func (.func 50) #[] #[]] wr fun e w' => e = .returned (.tuple #[]) ∧ CBox w' blk 3 (intsD (sortF (ksAt L k))) ∧ Below w.heap.size w w') := by
        have := sortF_is w wr blk k (ksAt L k) hB (by rw [EB.out]; exact Nat.le_refl _) hC (by rw [ksAt_len (by have := EN.out; omega)]; have := EN.out; omega)
        rw [ksAt_len (by have := EN.out; omega)] at this
        have e9 : L.length = k := EN.out
        rw [e9] at this
        exact this
      clear hC hB
      have hq := neq_fnF wr
      go_wp2_with (go_at_call 78; refine (SO.out).mono ?_; rintro e v9 ⟨rfl, h1, h2⟩)
      go_ret
      rw [EN.out, EB.out]
      refine ⟨rfl, ?_, by rw [EB.out] at h2; exact h2⟩
      have e8 : ksAt L k = L.map Prod.fst := by rw [← EN.out]; exact ksAt_all L
      rw [← e8]
      exact h1
set_option maxHeartbeats 2000000 in
set_option maxRecDepth 100000 in
theorem keysF_none (w : World) (b pm : Nat) (ra : Option Addr) (rc : Nat) (ba : Option Addr) (bc : Nat) (ma : Option Addr) (mc : Nat) (m : Int → Option Nat) (L : List (Int × Int)) (U : List Value) (M : List Nat) (h : Tab w b pm ra rc ba bc ma mc m L U M) (hz : L.length = 0) :
    Calls Try.prog 49 #[.pointer (some ⟨b, 0, none⟩), .func (.func 50) #[] #[]] w fun e w' => e = .returned (.slice (some ⟨w.heap.size, 0, none⟩) L.length L.length) ∧ CBox w' w.heap.size 3 (intsD (sortF (L.map Prod.fst))) ∧ Below w.heap.size w w' := by
  obtain ⟨nn, en⟩ : ∃ nn, L.length = nn := ⟨_, rfl⟩
  obtain ⟨w1, mk, C1, B1⟩ := make_ints w nn (by omega)
  have H0 : Hid (Tab w b pm ra rc ba bc ma mc m L U M) := h
  have EN : Hid (L.length = nn) := en
  have nX : (nn : Int) < 549755813888 := by omega
  obtain ⟨blk, eb⟩ : ∃ blk, w.heap.size = blk := ⟨_, rfl⟩
  have EB : Hid (w.heap.size = blk) := eb
  have c0 : w.cell? ⟨b, 0, none⟩ = some (.slice ra nn rc) := by rw [← en]; exact h.c0
  have c1 : w1.cell? ⟨b, 0, none⟩ = some (.slice ra nn rc) := (B1.cell (p := ⟨b, 0, none⟩) h.box.lt).trans c0
  have HC : Hid (CBox w1 blk 3 (intsD (ksAt L 0)) ∧ Below w.heap.size w w1) := ⟨by rw [ksAt_zero, en, ← eb]; exact C1, B1⟩
  rw [eb] at mk
  clear h C1 B1 en eb
  go_enter Try.func49, Try.ntmps49
  go_wp2
  go_loopw [19] (fun s wr => ∃ k : Nat, k ≤ nn ∧ s = .int .i64 (k : Int) ∧ CBox wr blk 3 (intsD (ksAt L k)) ∧ Below w.heap.size w wr) (fun s _ => nn - (intOf s).toNat)
  case atStart => exact ⟨0, Nat.zero_le _, rfl, HC.out⟩
  case round =>
    obtain ⟨k, hk, rfl, hC, hB⟩ := hrel
    by_cases hlt : k < nn
    · exact absurd hlt (by have := EN.out; have := hz; omega)
    · obtain rfl : k = nn := by omega
      have kI : ¬ (k : Int) < (k : Int) := by omega
      have SO : Hid (Calls Try.prog 78 #[.slice (some ⟨blk, 0, none⟩) k k, .func (.func 50) #[] #[]] wr fun e w' => e = .returned (.tuple #[]) ∧ CBox w' blk 3 (intsD (sortF (ksAt L k))) ∧ Below w.heap.size w w') := by
        have := sortF_is w wr blk k (ksAt L k) hB (by rw [EB.out]; exact Nat.le_refl _) hC (by rw [ksAt_len (by have := EN.out; omega)]; have := EN.out; omega)
        rw [ksAt_len (by have := EN.out; omega)] at this
        have e9 : L.length = k := EN.out
        rw [e9] at this
        exact this
      clear hC hB
      have hq := neq_fnF wr
      go_wp2_with (go_at_call 78; refine (SO.out).mono ?_; rintro e v9 ⟨rfl, h1, h2⟩)
      go_ret
      rw [EN.out, EB.out]
      refine ⟨rfl, ?_, by rw [EB.out] at h2; exact h2⟩
      have e8 : ksAt L k = L.map Prod.fst := by rw [← EN.out]; exact ksAt_all L
      rw [← e8]
      exact h1
theorem keysF_is (w : World) (b pm : Nat) (ra : Option Addr) (rc : Nat) (ba : Option Addr) (bc : Nat) (ma : Option Addr) (mc : Nat) (m : Int → Option Nat) (L : List (Int × Int)) (U : List Value) (M : List Nat) (h : Tab w b pm ra rc ba bc ma mc m L U M) (hL : L.length < 549755813888) :
    Calls Try.prog 49 #[.pointer (some ⟨b, 0, none⟩), .func (.func 50) #[] #[]] w fun e w' => e = .returned (.slice (some ⟨w.heap.size, 0, none⟩) L.length L.length) ∧ CBox w' w.heap.size 3 (intsD (sortF (L.map Prod.fst))) ∧ Below w.heap.size w w' := by
  by_cases hz : L.length = 0
  · exact keysF_none w b pm ra rc ba bc ma mc m L U M h hz
  · obtain ⟨g, rfl, _⟩ := h.row (atL_get (L := L) (i := 0) (by omega))
    exact keysF_some w b pm g rc ba bc ma mc m L U M h hL
set_option maxHeartbeats 2000000 in
set_option maxRecDepth 100000 in
theorem keysZ_some (w : World) (b pm : Nat) (g : Nat) (rc : Nat) (ba : Option Addr) (bc : Nat) (ma : Option Addr) (mc : Nat) (m : Int → Option Nat) (L : List (Int × Int)) (U : List Value) (M : List Nat) (h : Tab w b pm (some ⟨g, 0, none⟩) rc ba bc ma mc m L U M) (hL : L.length < 549755813888) :
    Calls Try.prog 49 #[.pointer (some ⟨b, 0, none⟩), .func (.func 51) #[] #[]] w fun e w' => e = .returned (.slice (some ⟨w.heap.size, 0, none⟩) L.length L.length) ∧ (∃ l', l'.Perm (L.map Prod.fst) ∧ CBox w' w.heap.size 3 (intsD l')) ∧ Below w.heap.size w w' := by
  obtain ⟨nn, en⟩ : ∃ nn, L.length = nn := ⟨_, rfl⟩
  obtain ⟨w1, mk, C1, B1⟩ := make_ints w nn (by omega)
  have H0 : Hid (Tab w b pm (some ⟨g, 0, none⟩) rc ba bc ma mc m L U M) := h
  have EN : Hid (L.length = nn) := en
  have nX : (nn : Int) < 549755813888 := by omega
  obtain ⟨blk, eb⟩ : ∃ blk, w.heap.size = blk := ⟨_, rfl⟩
  have EB : Hid (w.heap.size = blk) := eb
  have c0 : w.cell? ⟨b, 0, none⟩ = some (.slice (some ⟨g, 0, none⟩) nn rc) := by rw [← en]; exact h.c0
  have c1 : w1.cell? ⟨b, 0, none⟩ = some (.slice (some ⟨g, 0, none⟩) nn rc) := (B1.cell (p := ⟨b, 0, none⟩) h.box.lt).trans c0
  have HC : Hid (CBox w1 blk 3 (intsD (ksAt L 0)) ∧ Below w.heap.size w w1) := ⟨by rw [ksAt_zero, en, ← eb]; exact C1, B1⟩
  rw [eb] at mk
  clear h hL C1 B1 en eb
  go_enter Try.func49, Try.ntmps49
  go_wp2
  go_loopw [19] (fun s wr => ∃ k : Nat, k ≤ nn ∧ s = .int .i64 (k : Int) ∧ CBox wr blk 3 (intsD (ksAt L k)) ∧ Below w.heap.size w wr) (fun s _ => nn - (intOf s).toNat)
  case atStart => exact ⟨0, Nat.zero_le _, rfl, HC.out⟩
  case round =>
    obtain ⟨k, hk, rfl, hC, hB⟩ := hrel
    by_cases hlt : k < nn
    · have kI : (k : Int) < (nn : Int) := by omega
      have hl : k < L.length := by have := EN.out; omega
      obtain ⟨p, ep⟩ : ∃ p, atL L k = p := ⟨_, rfl⟩
      have hp : L[k]? = some p := by rw [← ep]; exact atL_get hl
      obtain ⟨r0, r1, _, _⟩ := H0.out.rowg rfl hp
      have gl : g < w.heap.size := World.block_lt_of_cell? w _ r0
      have d0 : wr.cell? ⟨g, k * 2, none⟩ = some (.int .i64 p.1) := (hB.cell (p := ⟨g, k * 2, none⟩) gl).trans r0
      have d1 : wr.cell? ⟨g, k * 2 + 1, none⟩ = some (.int .i64 p.2) := (hB.cell (p := ⟨g, k * 2 + 1, none⟩) gl).trans r1
      have HN : Hid (CBox ((wr.alloc (.cells #[.int .i64 p.1, .int .i64 p.2] 112)).setCell ⟨blk, k, none⟩ (.int .i64 p.1)) blk 3 (intsD (ksAt L (k + 1))) ∧ Below w.heap.size w ((wr.alloc (.cells #[.int .i64 p.1, .int .i64 p.2] 112)).setCell ⟨blk, k, none⟩ (.int .i64 p.1)) ∧ k + 1 ≤ nn) := by
        refine ⟨?_, (hB.alloc hB.size _).setCell (p := ⟨blk, k, none⟩) (by show w.heap.size ≤ blk; rw [EB.out]; exact Nat.le_refl _) _, hlt⟩
        have h9 := (hC.but (S := fun _ => False) ((But.refl _ _).alloc (.cells #[.int .i64 p.1, .int .i64 p.2] 112)) id).set k (.int .i64 p.1)
        rw [← ksAt_set hl hp] at h9
        exact h9
      have hC2 := hC.but (S := fun _ => False) ((But.refl _ _).alloc (.cells #[.int .i64 p.1, .int .i64 p.2] 112)) id
      have z0 : ∃ z : Int, (wr.alloc (.cells #[.int .i64 p.1, .int .i64 p.2] 112)).cell? ⟨blk, k, none⟩ = some (.int .i64 z) := by
        rw [hC2.cell]
        unfold intsD
        rw [List.getElem?_map, List.getElem?_eq_getElem (by rw [ksAt_len (by omega)]; exact hl)]
        exact ⟨_, rfl⟩
      obtain ⟨z, z0⟩ := z0
      have f0 := hC2.frozen k
      have x0 : (wr.alloc (.cells #[.int .i64 p.1, .int .i64 p.2] 112)).cell? ⟨wr.heap.size, 0, none⟩ = some (.int .i64 p.1) := (CBox.new wr 112 [.int .i64 p.1, .int .i64 p.2]).cell 0
      clear hC hC2 hB r0 r1 hp ep hl gl
      go_upto_region 5 with fail
      generalize wr.alloc (.cells #[.int .i64 p.1, .int .i64 p.2] 112) = v2 at z0 f0 x0 HN ⊢
      clear d0 d1
      go_wp2
      go_roundw
      case rel => exact ⟨k + 1, HN.out.2.2, by go_num, HN.out.1, HN.out.2.1⟩
      case measure => simp [intOf]; omega
    · obtain rfl : k = nn := by omega
      have kI : ¬ (k : Int) < (k : Int) := by omega
      have SO : Hid (Calls Try.prog 78 #[.slice (some ⟨blk, 0, none⟩) k k, .func (.func 51) #[] #[]] wr fun e w' => e = .returned (.tuple #[]) ∧ (∃ l', l'.Perm (ksAt L k) ∧ CBox w' blk 3 (intsD l')) ∧ Below w.heap.size w w') := by
        have := sortZ_is w wr blk k (ksAt L k) hB (by rw [EB.out]; exact Nat.le_refl _) hC (by rw [ksAt_len (by have := EN.out; omega)]; have := EN.out; omega)
        rw [ksAt_len (by have := EN.out; omega)] at this
        have e9 : L.length = k := EN.out
        rw [e9] at this
        exact this
      clear hC hB
      have hq := neq_fnZ wr
      go_wp2_with (go_at_call 78; refine (SO.out).mono ?_; rintro e v9 ⟨rfl, h1, h2⟩)
      go_ret
      rw [EN.out, EB.out]
      refine ⟨rfl, ?_, by rw [EB.out] at h2; exact h2⟩
      have e8 : ksAt L k = L.map Prod.fst := by rw [← EN.out]; exact ksAt_all L
      rw [← e8]
      exact h1
set_option maxHeartbeats 2000000 in
set_option maxRecDepth 100000 in
theorem keysZ_none (w : World) (b pm : Nat) (ra : Option Addr) (rc : Nat) (ba : Option Addr) (bc : Nat) (ma : Option Addr) (mc : Nat) (m : Int → Option Nat) (L : List (Int × Int)) (U : List Value) (M : List Nat) (h : Tab w b pm ra rc ba bc ma mc m L U M) (hz : L.length = 0) :
    Calls Try.prog 49 #[.pointer (some ⟨b, 0, none⟩), .func (.func 51) #[] #[]] w fun e w' => e = .returned (.slice (some ⟨w.heap.size, 0, none⟩) L.length L.length) ∧ (∃ l', l'.Perm (L.map Prod.fst) ∧ CBox w' w.heap.size 3 (intsD l')) ∧ Below w.heap.size w w' := by
  obtain ⟨nn, en⟩ : ∃ nn, L.length = nn := ⟨_, rfl⟩
  obtain ⟨w1, mk, C1, B1⟩ := make_ints w nn (by omega)
  have H0 : Hid (Tab w b pm ra rc ba bc ma mc m L U M) := h
  have EN : Hid (L.length = nn) := en
  have nX : (nn : Int) < 549755813888 := by omega
  obtain ⟨blk, eb⟩ : ∃ blk, w.heap.size = blk := ⟨_, rfl⟩
  have EB : Hid (w.heap.size = blk) := eb
  have c0 : w.cell? ⟨b, 0, none⟩ = some (.slice ra nn rc) := by rw [← en]; exact h.c0
  have c1 : w1.cell? ⟨b, 0, none⟩ = some (.slice ra nn rc) := (B1.cell (p := ⟨b, 0, none⟩) h.box.lt).trans c0
  have HC : Hid (CBox w1 blk 3 (intsD (ksAt L 0)) ∧ Below w.heap.size w w1) := ⟨by rw [ksAt_zero, en, ← eb]; exact C1, B1⟩
  rw [eb] at mk
  clear h C1 B1 en eb
  go_enter Try.func49, Try.ntmps49
  go_wp2
  go_loopw [19] (fun s wr => ∃ k : Nat, k ≤ nn ∧ s = .int .i64 (k : Int) ∧ CBox wr blk 3 (intsD (ksAt L k)) ∧ Below w.heap.size w wr) (fun s _ => nn - (intOf s).toNat)
  case atStart => exact ⟨0, Nat.zero_le _, rfl, HC.out⟩
  case round =>
    obtain ⟨k, hk, rfl, hC, hB⟩ := hrel
    by_cases hlt : k < nn
    · exact absurd hlt (by have := EN.out; have := hz; omega)
    · obtain rfl : k = nn := by omega
      have kI : ¬ (k : Int) < (k : Int) := by omega
      have SO : Hid (Calls Try.prog 78 #[.slice (some ⟨blk, 0, none⟩) k k, .func (.func 51) #[] #[]] wr fun e w' => e = .returned (.tuple #[]) ∧ (∃ l', l'.Perm (ksAt L k) ∧ CBox w' blk 3 (intsD l')) ∧ Below w.heap.size w w') := by
        have := sortZ_is w wr blk k (ksAt L k) hB (by rw [EB.out]; exact Nat.le_refl _) hC (by rw [ksAt_len (by have := EN.out; omega)]; have := EN.out; omega)
        rw [ksAt_len (by have := EN.out; omega)] at this
        have e9 : L.length = k := EN.out
        rw [e9] at this
        exact this
      clear hC hB
      have hq := neq_fnZ wr
      go_wp2_with (go_at_call 78; refine (SO.out).mono ?_; rintro e v9 ⟨rfl, h1, h2⟩)
      go_ret
      rw [EN.out, EB.out]
      refine ⟨rfl, ?_, by rw [EB.out] at h2; exact h2⟩
      have e8 : ksAt L k = L.map Prod.fst := by rw [← EN.out]; exact ksAt_all L
      rw [← e8]
      exact h1
theorem keysZ_is (w : World) (b pm : Nat) (ra : Option Addr) (rc : Nat) (ba : Option Addr) (bc : Nat) (ma : Option Addr) (mc : Nat) (m : Int → Option Nat) (L : List (Int × Int)) (U : List Value) (M : List Nat) (h : Tab w b pm ra rc ba bc ma mc m L U M) (hL : L.length < 549755813888) :
    Calls Try.prog 49 #[.pointer (some ⟨b, 0, none⟩), .func (.func 51) #[] #[]] w fun e w' => e = .returned (.slice (some ⟨w.heap.size, 0, none⟩) L.length L.length) ∧ (∃ l', l'.Perm (L.map Prod.fst) ∧ CBox w' w.heap.size 3 (intsD l')) ∧ Below w.heap.size w w' := by
  by_cases hz : L.length = 0
  · exact keysZ_none w b pm ra rc ba bc ma mc m L U M h hz
  · obtain ⟨g, rfl, _⟩ := h.row (atL_get (L := L) (i := 0) (by omega))
    exact keysZ_some w b pm g rc ba bc ma mc m L U M h hL
set_option maxHeartbeats 2000000 in
set_option maxRecDepth 100000 in
theorem keysN_some (w : World) (b pm : Nat) (g : Nat) (rc : Nat) (ba : Option Addr) (bc : Nat) (ma : Option Addr) (mc : Nat) (m : Int → Option Nat) (L : List (Int × Int)) (U : List Value) (M : List Nat) (h : Tab w b pm (some ⟨g, 0, none⟩) rc ba bc ma mc m L U M) (hL : L.length < 549755813888) :
    Calls Try.prog 49 #[.pointer (some ⟨b, 0, none⟩), .nilFunc] w fun e w' => e = .returned (.slice (some ⟨w.heap.size, 0, none⟩) L.length L.length) ∧ CBox w' w.heap.size 3 (intsD (L.map Prod.fst)) ∧ Below w.heap.size w w' := by
  obtain ⟨nn, en⟩ : ∃ nn, L.length = nn := ⟨_, rfl⟩
  obtain ⟨w1, mk, C1, B1⟩ := make_ints w nn (by omega)
  have H0 : Hid (Tab w b pm (some ⟨g, 0, none⟩) rc ba bc ma mc m L U M) := h
  have EN : Hid (L.length = nn) := en
  have nX : (nn : Int) < 549755813888 := by omega
  obtain ⟨blk, eb⟩ : ∃ blk, w.heap.size = blk := ⟨_, rfl⟩
  have EB : Hid (w.heap.size = blk) := eb
  have c0 : w.cell? ⟨b, 0, none⟩ = some (.slice (some ⟨g, 0, none⟩) nn rc) := by rw [← en]; exact h.c0
  have c1 : w1.cell? ⟨b, 0, none⟩ = some (.slice (some ⟨g, 0, none⟩) nn rc) := (B1.cell (p := ⟨b, 0, none⟩) h.box.lt).trans c0
  have HC : Hid (CBox w1 blk 3 (intsD (ksAt L 0)) ∧ Below w.heap.size w w1) := ⟨by rw [ksAt_zero, en, ← eb]; exact C1, B1⟩
  rw [eb] at mk
  clear h hL C1 B1 en eb
  go_enter Try.func49, Try.ntmps49
  go_wp2
  go_loopw [19] (fun s wr => ∃ k : Nat, k ≤ nn ∧ s = .int .i64 (k : Int) ∧ CBox wr blk 3 (intsD (ksAt L k)) ∧ Below w.heap.size w wr) (fun s _ => nn - (intOf s).toNat)
  case atStart => exact ⟨0, Nat.zero_le _, rfl, HC.out⟩
  case round =>
    obtain ⟨k, hk, rfl, hC, hB⟩ := hrel
    by_cases hlt : k < nn
    · have kI : (k : Int) < (nn : Int) := by omega
      have hl : k < L.length := by have := EN.out; omega
      obtain ⟨p, ep⟩ : ∃ p, atL L k = p := ⟨_, rfl⟩
      have hp : L[k]? = some p := by rw [← ep]; exact atL_get hl
      obtain ⟨r0, r1, _, _⟩ := H0.out.rowg rfl hp
      have gl : g < w.heap.size := World.block_lt_of_cell? w _ r0
      have d0 : wr.cell? ⟨g, k * 2, none⟩ = some (.int .i64 p.1) := (hB.cell (p := ⟨g, k * 2, none⟩) gl).trans r0
      have d1 : wr.cell? ⟨g, k * 2 + 1, none⟩ = some (.int .i64 p.2) := (hB.cell (p := ⟨g, k * 2 + 1, none⟩) gl).trans r1
      have HN : Hid (CBox ((wr.alloc (.cells #[.int .i64 p.1, .int .i64 p.2] 112)).setCell ⟨blk, k, none⟩ (.int .i64 p.1)) blk 3 (intsD (ksAt L (k + 1))) ∧ Below w.heap.size w ((wr.alloc (.cells #[.int .i64 p.1, .int .i64 p.2] 112)).setCell ⟨blk, k, none⟩ (.int .i64 p.1)) ∧ k + 1 ≤ nn) := by
        refine ⟨?_, (hB.alloc hB.size _).setCell (p := ⟨blk, k, none⟩) (by show w.heap.size ≤ blk; rw [EB.out]; exact Nat.le_refl _) _, hlt⟩
        have h9 := (hC.but (S := fun _ => False) ((But.refl _ _).alloc (.cells #[.int .i64 p.1, .int .i64 p.2] 112)) id).set k (.int .i64 p.1)
        rw [← ksAt_set hl hp] at h9
        exact h9
      have hC2 := hC.but (S := fun _ => False) ((But.refl _ _).alloc (.cells #[.int .i64 p.1, .int .i64 p.2] 112)) id
      have z0 : ∃ z : Int, (wr.alloc (.cells #[.int .i64 p.1, .int .i64 p.2] 112)).cell? ⟨blk, k, none⟩ = some (.int .i64 z) := by
        rw [hC2.cell]
        unfold intsD
        rw [List.getElem?_map, List.getElem?_eq_getElem (by rw [ksAt_len (by omega)]; exact hl)]
        exact ⟨_, rfl⟩
      obtain ⟨z, z0⟩ := z0
      have f0 := hC2.frozen k
      have x0 : (wr.alloc (.cells #[.int .i64 p.1, .int .i64 p.2] 112)).cell? ⟨wr.heap.size, 0, none⟩ = some (.int .i64 p.1) := (CBox.new wr 112 [.int .i64 p.1, .int .i64 p.2]).cell 0
      clear hC hC2 hB r0 r1 hp ep hl gl
      go_upto_region 5 with fail
      generalize wr.alloc (.cells #[.int .i64 p.1, .int .i64 p.2] 112) = v2 at z0 f0 x0 HN ⊢
      clear d0 d1
      go_wp2
      go_roundw
      case rel => exact ⟨k + 1, HN.out.2.2, by go_num, HN.out.1, HN.out.2.1⟩
      case measure => simp [intOf]; omega
    · obtain rfl : k = nn := by omega
      have kI : ¬ (k : Int) < (k : Int) := by omega
      have C9 : Hid (CBox wr blk 3 (intsD (ksAt L k)) ∧ Below w.heap.size w wr) := ⟨hC, hB⟩
      clear hC hB
      have hq := neq_fnN wr
      (try clear hz)
      go_wp2
      go_ret
      rw [EN.out, EB.out]
      have h1 := C9.out.1
      have h2 := C9.out.2
      refine ⟨rfl, ?_, by rw [EB.out] at h2; exact h2⟩
      have e8 : ksAt L k = L.map Prod.fst := by rw [← EN.out]; exact ksAt_all L
      rw [← e8]
      exact h1
set_option maxHeartbeats 2000000 in
set_option maxRecDepth 100000 in
theorem keysN_none (w : World) (b pm : Nat) (ra : Option Addr) (rc : Nat) (ba : Option Addr) (bc : Nat) (ma : Option Addr) (mc : Nat) (m : Int → Option Nat) (L : List (Int × Int)) (U : List Value) (M : List Nat) (h : Tab w b pm ra rc ba bc ma mc m L U M) (hz : L.length = 0) :
    Calls Try.prog 49 #[.pointer (some ⟨b, 0, none⟩), .nilFunc] w fun e w' => e = .returned (.slice (some ⟨w.heap.size, 0, none⟩) L.length L.length) ∧ CBox w' w.heap.size 3 (intsD (L.map Prod.fst)) ∧ Below w.heap.size w w' := by
  obtain ⟨nn, en⟩ : ∃ nn, L.length = nn := ⟨_, rfl⟩
  obtain ⟨w1, mk, C1, B1⟩ := make_ints w nn (by omega)
  have H0 : Hid (Tab w b pm ra rc ba bc ma mc m L U M) := h
  have EN : Hid (L.length = nn) := en
  have nX : (nn : Int) < 549755813888 := by omega
  obtain ⟨blk, eb⟩ : ∃ blk, w.heap.size = blk := ⟨_, rfl⟩
  have EB : Hid (w.heap.size = blk) := eb
  have c0 : w.cell? ⟨b, 0, none⟩ = some (.slice ra nn rc) := by rw [← en]; exact h.c0
  have c1 : w1.cell? ⟨b, 0, none⟩ = some (.slice ra nn rc) := (B1.cell (p := ⟨b, 0, none⟩) h.box.lt).trans c0
  have HC : Hid (CBox w1 blk 3 (intsD (ksAt L 0)) ∧ Below w.heap.size w w1) := ⟨by rw [ksAt_zero, en, ← eb]; exact C1, B1⟩
  rw [eb] at mk
  clear h C1 B1 en eb
  go_enter Try.func49, Try.ntmps49
  go_wp2
  go_loopw [19] (fun s wr => ∃ k : Nat, k ≤ nn ∧ s = .int .i64 (k : Int) ∧ CBox wr blk 3 (intsD (ksAt L k)) ∧ Below w.heap.size w wr) (fun s _ => nn - (intOf s).toNat)
  case atStart => exact ⟨0, Nat.zero_le _, rfl, HC.out⟩
  case round =>
    obtain ⟨k, hk, rfl, hC, hB⟩ := hrel
    by_cases hlt : k < nn
    · exact absurd hlt (by have := EN.out; have := hz; omega)
    · obtain rfl : k = nn := by omega
      have kI : ¬ (k : Int) < (k : Int) := by omega
      have C9 : Hid (CBox wr blk 3 (intsD (ksAt L k)) ∧ Below w.heap.size w wr) := ⟨hC, hB⟩
      clear hC hB
      have hq := neq_fnN wr
      (try clear hz)
      go_wp2
      go_ret
      rw [EN.out, EB.out]
      have h1 := C9.out.1
      have h2 := C9.out.2
      refine ⟨rfl, ?_, by rw [EB.out] at h2; exact h2⟩
      have e8 : ksAt L k = L.map Prod.fst := by rw [← EN.out]; exact ksAt_all L
      rw [← e8]
      exact h1
theorem keysN_is (w : World) (b pm : Nat) (ra : Option Addr) (rc : Nat) (ba : Option Addr) (bc : Nat) (ma : Option Addr) (mc : Nat) (m : Int → Option Nat) (L : List (Int × Int)) (U : List Value) (M : List Nat) (h : Tab w b pm ra rc ba bc ma mc m L U M) (hL : L.length < 549755813888) :
    Calls Try.prog 49 #[.pointer (some ⟨b, 0, none⟩), .nilFunc] w fun e w' => e = .returned (.slice (some ⟨w.heap.size, 0, none⟩) L.length L.length) ∧ CBox w' w.heap.size 3 (intsD (L.map Prod.fst)) ∧ Below w.heap.size w w' := by
  by_cases hz : L.length = 0
  · exact keysN_none w b pm ra rc ba bc ma mc m L U M h hz
  · obtain ⟨g, rfl, _⟩ := h.row (atL_get (L := L) (i := 0) (by omega))
    exact keysN_some w b pm g rc ba bc ma mc m L U M h hL
end Go.Proofs.Ytohfkgfjcnldaaa
/- Keys by other orders, of a table by what it tells; once. -/
namespace Go.Proofs.Ytohfkgfjcnldaaa
open Go.RowKit Go.Shelf
theorem ris_keys {A : List (Int × Int)} (h : Ris A) : (A.map Prod.fst).Pairwise fun x y => x < y := by
  rw [List.pairwise_map]
  exact h
theorem sortF_rev {L A : List (Int × Int)} (hA : Ris A) (hp : A.Perm L) : sortF (L.map Prod.fst) = (A.map Prod.fst).reverse := by
  have p : (sortF (L.map Prod.fst)).Perm ((A.map Prod.fst).reverse) := (List.mergeSort_perm _ _).trans ((hp.symm.map _).trans (List.reverse_perm _).symm)
  have s1 : (sortF (L.map Prod.fst)).Pairwise fun x y => y ≤ x := (List.pairwise_mergeSort (le := fun x y : Int => decide (y ≤ x)) (fun a b c h1 h2 => by simp at *; omega) (fun a b => by simp; omega) _).imp (fun h => by simpa using h)
  have s2 : ((A.map Prod.fst).reverse).Pairwise fun x y => y ≤ x := by
    rw [List.pairwise_reverse]
    exact (ris_keys hA).imp (fun h => by omega)
  exact p.eq_of_pairwise (fun a b _ _ h1 h2 => by omega) s1 s2
theorem keysF1 (w : World) (ow : Nat → Nat) (i b N : Nat) (A : List (Int × Int)) (H : List (List (Int × Int))) (h : T1 w ow i b N A H) (hN : N < 549755813888) : Calls Try.prog 49 #[.pointer (some ⟨b, 0, none⟩), .func (.func 50) #[] #[]] w fun e w' => ∃ l, l = (A.map Prod.fst).reverse ∧ e = .returned (.slice (some ⟨w.heap.size, 0, none⟩) A.length A.length) ∧ CBox w' w.heap.size 3 (intsD l) ∧ Below w.heap.size w w' := by
  have hr := h.ris
  obtain ⟨⟨S, L, V, M, ⟨pm, ra, rc, ba, bc, ma, mc, m, ht, rfl, hV⟩, h2, h3, rfl, rfl, h6, h7, h8⟩, lA, lH, lO⟩ := h
  rw [srt_len] at lA
  refine (keysF_is w b pm ra rc ba bc ma mc m L _ M ht (by omega)).mono ?_
  rintro e w' ⟨rfl, q1, q2⟩
  rw [sortF_rev hr (srt_perm L)] at q1
  exact ⟨_, rfl, by rw [srt_len], q1, q2⟩
theorem keysZ1 (w : World) (ow : Nat → Nat) (i b N : Nat) (A : List (Int × Int)) (H : List (List (Int × Int))) (h : T1 w ow i b N A H) (hN : N < 549755813888) : Calls Try.prog 49 #[.pointer (some ⟨b, 0, none⟩), .func (.func 51) #[] #[]] w fun e w' => ∃ l, l.Perm (A.map Prod.fst) ∧ e = .returned (.slice (some ⟨w.heap.size, 0, none⟩) A.length A.length) ∧ CBox w' w.heap.size 3 (intsD l) ∧ Below w.heap.size w w' := by
  obtain ⟨⟨S, L, V, M, ⟨pm, ra, rc, ba, bc, ma, mc, m, ht, rfl, hV⟩, h2, h3, rfl, rfl, h6, h7, h8⟩, lA, lH, lO⟩ := h
  rw [srt_len] at lA
  refine (keysZ_is w b pm ra rc ba bc ma mc m L _ M ht (by omega)).mono ?_
  rintro e w' ⟨rfl, ⟨l, hp, q1⟩, q2⟩
  exact ⟨l, hp.trans ((srt_perm L).symm.map _), by rw [srt_len], q1, q2⟩
theorem keysN1 (w : World) (ow : Nat → Nat) (i b N : Nat) (A : List (Int × Int)) (H : List (List (Int × Int))) (h : T1 w ow i b N A H) (hN : N < 549755813888) : Calls Try.prog 49 #[.pointer (some ⟨b, 0, none⟩), .nilFunc] w fun e w' => ∃ l, l.Perm (A.map Prod.fst) ∧ e = .returned (.slice (some ⟨w.heap.size, 0, none⟩) A.length A.length) ∧ CBox w' w.heap.size 3 (intsD l) ∧ Below w.heap.size w w' := by
  obtain ⟨⟨S, L, V, M, ⟨pm, ra, rc, ba, bc, ma, mc, m, ht, rfl, hV⟩, h2, h3, rfl, rfl, h6, h7, h8⟩, lA, lH, lO⟩ := h
  rw [srt_len] at lA
  refine (keysN_is w b pm ra rc ba bc ma mc m L _ M ht (by omega)).mono ?_
  rintro e w' ⟨rfl, q1, q2⟩
  exact ⟨_, (srt_perm L).symm.map _, by rw [srt_len], q1, q2⟩
theorem UY.keys {w W : World} {b N : Nat} {A : List (Int × Int)} {H : List (List (Int × Int))} {R : (Nat → Nat) → World → Prop} (h : UY w W b N A H R) (hR : Stb R) {fv : Value} {Q : List Int → Prop} (hQ : ∀ l, Q l → l.length = A.length) (q : ∀ ow, T1 W ow 1 b N A H → Calls Try.prog 49 #[.pointer (some ⟨b, 0, none⟩), fv] W fun e w' => ∃ l, Q l ∧ e = .returned (.slice (some ⟨W.heap.size, 0, none⟩) A.length A.length) ∧ CBox w' W.heap.size 3 (intsD l) ∧ Below W.heap.size W w') :
    Calls Try.prog 49 #[.pointer (some ⟨b, 0, none⟩), fv] W fun e w' => ∃ l g, Q l ∧ e = .returned (.slice (some ⟨g, 0, none⟩) A.length A.length) ∧ UY w w' b N A H fun ow V => R ow V ∧ IsI V ow (.slice (some ⟨g, 0, none⟩) A.length A.length) l := by
  obtain ⟨⟨ow, h1, h2, h6⟩, h8⟩ := h
  refine (q ow h1).mono ?_
  rintro e w' ⟨l, ql, rfl, q1, q2⟩
  have hi : IsI w' (grow ow W.heap.size 0) (.slice (some ⟨W.heap.size, 0, none⟩) A.length A.length) l := by
    have := IsI.box (ow := grow ow W.heap.size 0) (cap := A.length) q1 (grow_ge (Nat.le_refl _))
    rw [hQ l ql] at this
    exact this
  exact ⟨l, _, ql, rfl, ⟨_, h1.past q2, ⟨hR (fun _ => False) ow _ W w' id (Mo.below q2) h2, hi⟩, fun x hx => (grow_lt (Nat.lt_of_lt_of_le hx h8.size)).trans (h6 x hx)⟩, h8.trans (q2.mono h8.size)⟩
theorem count_take {l : List Int} {i : Nat} {x k : Int} (h : l[i]? = some x) : (l.take (i + 1)).count k = (l.take i).count k + if x = k then 1 else 0 := by
  rw [List.take_add_one, h, List.count_append]
  simp [List.count_singleton]
theorem count_le {l : List Int} {i : Nat} {k : Int} : (l.take i).count k ≤ i := Nat.le_trans List.count_le_length (by rw [List.length_take]; omega)
set_option maxHeartbeats 2000000 in
set_option maxRecDepth 100000 in
theorem once_is (w : World) (ow : Nat → Nat) (v : Value) (l : List Int) (k : Int) (h : IsI w ow v l) (hl : l.length < 549755813888) (h1 : l.count k = 1) : Calls Try.prog 52 #[v, .int .i64 k] w fun e w' => e = .returned (.bool true) ∧ w' = w := by
  obtain ⟨ad, cap, rfl, h2⟩ := h
  have HA : Hid (∀ i x, l[i]? = some x → ∃ g, ad = some ⟨g, 0, none⟩ ∧ ow g = 0 ∧ w.cell? ⟨g, i, none⟩ = some (.int .i64 x)) := h2
  obtain ⟨n, en⟩ : ∃ n, l.length = n := ⟨_, rfl⟩
  have EN : Hid (l.length = n ∧ l.count k = 1) := ⟨en, h1⟩
  rw [en] at hl ⊢
  have nX : (n : Int) < 549755813888 := by omega
  clear h1 h2 en
  go_enter Try.func52, Try.ntmps52
  go_wp2
  go_loopw [5, 6] (fun sc si wr => ∃ i : Nat, i ≤ n ∧ si = .int .i64 (i : Int) ∧ sc = .int .i64 ((l.take i).count k : Int) ∧ wr = w) (fun _ si _ => n - (intOf si).toNat)
  case atStart => exact ⟨0, by omega, rfl, by simp, rfl⟩
  case round =>
    obtain ⟨i, hi, rfl, rfl, rfl⟩ := hrel
    by_cases e : i < n
    · have iI : (i : Int) < (n : Int) := by omega
      obtain ⟨x, hx⟩ : ∃ x, l[i]? = some x := ⟨_, List.getElem?_eq_getElem (by rw [EN.out.1]; exact e)⟩
      obtain ⟨g, rfl, _, c1⟩ := HA.out i x hx
      have CT := count_take (k := k) hx
      have CL := count_le (l := l) (i := i) (k := k)
      have HC : Hid ((l.take (i + 1)).count k = (l.take i).count k + if x = k then 1 else 0) := CT
      generalize (l.take i).count k = c at HC CL
      clear hx CT
      by_cases ek : x = k
      · have cX : (c : Int) < 549755813888 := by omega
        have ce : ((l.take (i + 1)).count k : Int) = (c : Int) + 1 := by rw [HC.out, if_pos ek]; rfl
        have CE : Hid (((l.take (i + 1)).count k : Int) = (c : Int) + 1) := ce
        clear ce
        go_wp2
        go_roundw
        case rel => exact ⟨i + 1, by omega, by go_num, by rw [CE.out], by trivial⟩
        case measure => simp [intOf]; omega
      · have CE : Hid (((l.take (i + 1)).count k : Int) = (c : Int)) := by show _ = _; rw [HC.out, if_neg ek]; rfl
        have NX : Hid ((n : Int) < 549755813888) := nX
        clear CL HC nX
        have EK : Hid (¬ x = k) := ek
        clear ek
        go_upto_region 5 with fail
        refine wp_region_lit ?_
        refine lst_val (v := .slice (some ⟨g, 0, none⟩) n cap) (by kernel_rfl) ?_ ?_
        · go_simp
        simp only [Act.put, List.setIfInBounds_toArray, List.set_cons_zero, List.set_cons_succ]
        refine lst_val (v := .int .i64 (i : Int)) (by kernel_rfl) ?_ ?_
        · go_simp
        simp only [Act.put, List.setIfInBounds_toArray, List.set_cons_zero, List.set_cons_succ]
        refine lst_val (v := .pointer (some ⟨g, i, none⟩)) (by kernel_rfl) ?_ ?_
        · go_simp
        simp only [Act.put, List.setIfInBounds_toArray, List.set_cons_zero, List.set_cons_succ]
        refine lst_val (v := .int .i64 x) (by kernel_rfl) ?_ ?_
        · go_simp
        simp only [Act.put, List.setIfInBounds_toArray, List.set_cons_zero, List.set_cons_succ]
        refine lst_val (v := .int .i64 k) (by kernel_rfl) ?_ ?_
        · go_simp
        simp only [Act.put, List.setIfInBounds_toArray, List.set_cons_zero, List.set_cons_succ]
        refine lst_val (v := .bool false) (by kernel_rfl) ?_ ?_
        · have ek := EK.out
          go_simp
        simp only [Act.put, List.setIfInBounds_toArray, List.set_cons_zero, List.set_cons_succ]
        refine wpList_nil ?_
        have nX := NX.out
        go_wp2
        go_roundw
        case rel => exact ⟨i + 1, by omega, by go_num, by rw [CE.out], by trivial⟩
        case measure => simp [intOf]; omega
    · have iI : ¬ (i : Int) < (n : Int) := by omega
      have ec : ((l.take i).count k : Int) = 1 := by rw [List.take_of_length_le (by rw [EN.out.1]; omega), EN.out.2]; rfl
      rw [ec]
      clear ec
      go_wp2
      go_ret
      exact ⟨rfl, rfl⟩
theorem count_one {A : List (Int × Int)} (h : Ris A) {l : List Int} (hp : l.Perm (A.map Prod.fst)) {k : Int} (hk : k ∈ A.map Prod.fst) : l.count k = 1 := by
  rw [hp.count_eq]
  have nd : (A.map Prod.fst).Nodup := (ris_keys h).imp (fun h => by omega)
  have h1 := List.nodup_iff_count.1 nd k
  have h2 := List.count_pos_iff.2 hk
  omega
end Go.Proofs.Ytohfkgfjcnldaaa
