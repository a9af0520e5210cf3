/- WordPlays: the walk. -/
import Derived.Test.YtpadpmkfhljiiaaGreatMp15
import Derived.Test.YtpadpmkfhljiiaaGreatMp1
import Derived.ChangeSlices
import Derived.Deep.MidRow
namespace Go.Proofs.YtpadpmkfhljiiaaGreat
open Go.RowKit
/-- a list of reckonings: a code and three words each -/
def OpsAt (W : World) (v : Value) (n : Nat) (z : Nat → Int) (a : Nat → Nat → Int) : Prop := (∀ i q, U64 (a i q)) ∧ ∃ ad cap, v = .slice ad n cap ∧ (n ≠ 0 → ∃ g o, ad = some ⟨g, o, none⟩ ∧ ∀ i, i < n → W.cell? ⟨g, o + i * 13, none⟩ = some (.int .i64 (z i)) ∧ ∀ q, q < 12 → W.cell? ⟨g, o + i * 13 + (q + 1), none⟩ = some (.int .u64 (a i q)))
/-- the cells of a block -/
def Cells (W : World) (b : Nat) (cs : Array Value) : Prop := ∀ q, q < cs.size → W.cell? ⟨b, q, none⟩ = cs[q]?
theorem Cells.past {W W' : World} {b : Nat} {cs : Array Value} (h : Cells W b cs) (hb : b < W.heap.size) (k : Below W.heap.size W W') : Cells W' b cs := fun q hq => (k.cell (p := ⟨b, q, none⟩) hb).trans (h q hq)
theorem Cells.new (W : World) (cs : Array Value) (t : TypeId) : Cells (W.alloc (.cells cs t)) W.heap.size cs := fun q _ => by rw [World.cell?_alloc_at _ _ _ _ rfl]
theorem Bx.nil {w W : World} (h : Below w.heap.size w W) : Bx w [] W := ⟨h, (fun _ h => by cases h), (fun _ h => by cases h)⟩
set_option maxHeartbeats 4000000 in
set_option maxRecDepth 100000 in
theorem plays_walk (w : World) (v : Value) (n : Nat) (z : Nat → Int) (a : Nat → Nat → Int) (hn : n ≤ 9223372036854775807) (h : OpsAt w v n z a) :
    Calls Tryz.prog 10 #[v] w fun e w' => e = .returned (.bool true) ∧ Below w.heap.size w w' := by
  obtain ⟨hu, ad, cap, rfl, hc⟩ := h
  have HU : Hid (∀ i q, U64 (a i q)) := hu
  have HC : Hid (n ≠ 0 → ∃ g o, ad = some ⟨g, o, none⟩ ∧ ∀ i, i < n → w.cell? ⟨g, o + i * 13, none⟩ = some (.int .i64 (z i)) ∧ ∀ q, q < 12 → w.cell? ⟨g, o + i * 13 + (q + 1), none⟩ = some (.int .u64 (a i q))) := hc
  have eqs := eqw_same
  clear hu hc
  go_enter Tryz.func10, Tryz.ntmps10
  go_wp2
  go_loopw [3] (fun s wr => ∃ k : Nat, s = .int .i64 (k : Int) ∧ k ≤ 2 ∧ Below w.heap.size w wr) (fun s _ => 2 - (intOf s).toNat)
  case atStart => exact ⟨0, rfl, by omega, Below.refl _ _⟩
  case round =>
    obtain ⟨k, rfl, hk, hB⟩ := hrel
    have HB : Hid (Below w.heap.size w wr) := hB
    clear hB
    by_cases hk5 : k < 2
    · have kI : (k : Int) < 2 := by omega
      go_wp2
      go_loopw [4] (fun s wx => ∃ i : Nat, s = .int .i64 (i : Int) ∧ i ≤ n ∧ Below w.heap.size w wx) (fun s _ => n - (intOf s).toNat)
      case atStart => exact ⟨0, rfl, by omega, HB.out⟩
      case round =>
        obtain ⟨i, rfl, hi, hB⟩ := hrel
        clear HB
        have HB : Hid (Below w.heap.size w wr) := hB
        clear hB
        by_cases hi5 : i < n
        · have iI : (i : Int) < (n : Int) := by omega
          have iL : (i : Int) ≤ 9223372036854775807 := by omega
          obtain ⟨g, o, rfl, hc⟩ := HC.out (by omega)
          have hci := hc i hi5
          have lg : g < w.heap.size := World.block_lt_of_cell? w _ hci.1
          have cz := (HB.out.cell (p := ⟨g, o + i * 13, none⟩) lg).trans hci.1
          have d0 := (HB.out.cell (p := ⟨g, o + i * 13 + 1, none⟩) lg).trans (hci.2 0 (by omega))
          have d1 := (HB.out.cell (p := ⟨g, o + i * 13 + 2, none⟩) lg).trans (hci.2 1 (by omega))
          have d2 := (HB.out.cell (p := ⟨g, o + i * 13 + 3, none⟩) lg).trans (hci.2 2 (by omega))
          have d3 := (HB.out.cell (p := ⟨g, o + i * 13 + 4, none⟩) lg).trans (hci.2 3 (by omega))
          have d4 := (HB.out.cell (p := ⟨g, o + i * 13 + 5, none⟩) lg).trans (hci.2 4 (by omega))
          have d5 := (HB.out.cell (p := ⟨g, o + i * 13 + 6, none⟩) lg).trans (hci.2 5 (by omega))
          have d6 := (HB.out.cell (p := ⟨g, o + i * 13 + 7, none⟩) lg).trans (hci.2 6 (by omega))
          have d7 := (HB.out.cell (p := ⟨g, o + i * 13 + 8, none⟩) lg).trans (hci.2 7 (by omega))
          have d8 := (HB.out.cell (p := ⟨g, o + i * 13 + 9, none⟩) lg).trans (hci.2 8 (by omega))
          have d9 := (HB.out.cell (p := ⟨g, o + i * 13 + 10, none⟩) lg).trans (hci.2 9 (by omega))
          have d10 := (HB.out.cell (p := ⟨g, o + i * 13 + 11, none⟩) lg).trans (hci.2 10 (by omega))
          have d11 := (HB.out.cell (p := ⟨g, o + i * 13 + 12, none⟩) lg).trans (hci.2 11 (by omega))
          obtain ⟨p0, p1, p2, p3, r, DW, DR⟩ := do_both (z i) (isW_mk (HU.out i 0) (HU.out i 1) (HU.out i 2) (HU.out i 3)) (isW_mk (HU.out i 4) (HU.out i 5) (HU.out i 6) (HU.out i 7)) (isW_mk (HU.out i 8) (HU.out i 9) (HU.out i 10) (HU.out i 11))
          generalize a i 0 = a0 at d0 DW DR
          generalize a i 1 = a1 at d1 DW DR
          generalize a i 2 = a2 at d2 DW DR
          generalize a i 3 = a3 at d3 DW DR
          generalize a i 4 = b0 at d4 DW DR
          generalize a i 5 = b1 at d5 DW DR
          generalize a i 6 = b2 at d6 DW DR
          generalize a i 7 = b3 at d7 DW DR
          generalize a i 8 = c0 at d8 DW DR
          generalize a i 9 = c1 at d9 DW DR
          generalize a i 10 = c2 at d10 DW DR
          generalize a i 11 = c3 at d11 DW DR
          generalize z i = zi at cz DW DR
          have HDW : Hid _ := DW
          have HDR : Hid _ := DR
          clear DW DR hci hc
          go_upto_region 8 with fail
          have O0 : Hid (Cells (wr.alloc (.cells #[.int .i64 zi, .int .u64 a0, .int .u64 a1, .int .u64 a2, .int .u64 a3, .int .u64 b0, .int .u64 b1, .int .u64 b2, .int .u64 b3, .int .u64 c0, .int .u64 c1, .int .u64 c2, .int .u64 c3] 55)) wr.heap.size #[.int .i64 zi, .int .u64 a0, .int .u64 a1, .int .u64 a2, .int .u64 a3, .int .u64 b0, .int .u64 b1, .int .u64 b2, .int .u64 b3, .int .u64 c0, .int .u64 c1, .int .u64 c2, .int .u64 c3] ∧ wr.heap.size < (wr.alloc (.cells #[.int .i64 zi, .int .u64 a0, .int .u64 a1, .int .u64 a2, .int .u64 a3, .int .u64 b0, .int .u64 b1, .int .u64 b2, .int .u64 b3, .int .u64 c0, .int .u64 c1, .int .u64 c2, .int .u64 c3] 55)).heap.size) := ⟨Cells.new _ _ _, by simp⟩
          have X0 : Hid (Bx w [] (wr.alloc (.cells #[.int .i64 zi, .int .u64 a0, .int .u64 a1, .int .u64 a2, .int .u64 a3, .int .u64 b0, .int .u64 b1, .int .u64 b2, .int .u64 b3, .int .u64 c0, .int .u64 c1, .int .u64 c2, .int .u64 c3] 55))) := Bx.nil (HB.out.alloc HB.out.size _)
          generalize wr.alloc (.cells #[.int .i64 zi, .int .u64 a0, .int .u64 a1, .int .u64 a2, .int .u64 a3, .int .u64 b0, .int .u64 b1, .int .u64 b2, .int .u64 b3, .int .u64 c0, .int .u64 c1, .int .u64 c2, .int .u64 c3] 55) = x0 at O0 X0 ⊢
          generalize wr.heap.size = bo at O0 ⊢
          clear HB cz d0 d1 d2 d3 d4 d5 d6 d7 d8 d9 d10 d11
          have e0 : x0.cell? ⟨bo, 0, none⟩ = some (.int .i64 zi) := O0.out.1 0 (show 0 < 13 by decide)
          have e1 : x0.cell? ⟨bo, 1, none⟩ = some (.int .u64 a0) := O0.out.1 1 (show 1 < 13 by decide)
          have e2 : x0.cell? ⟨bo, 2, none⟩ = some (.int .u64 a1) := O0.out.1 2 (show 2 < 13 by decide)
          have e3 : x0.cell? ⟨bo, 3, none⟩ = some (.int .u64 a2) := O0.out.1 3 (show 3 < 13 by decide)
          have e4 : x0.cell? ⟨bo, 4, none⟩ = some (.int .u64 a3) := O0.out.1 4 (show 4 < 13 by decide)
          have e5 : x0.cell? ⟨bo, 5, none⟩ = some (.int .u64 b0) := O0.out.1 5 (show 5 < 13 by decide)
          have e6 : x0.cell? ⟨bo, 6, none⟩ = some (.int .u64 b1) := O0.out.1 6 (show 6 < 13 by decide)
          have e7 : x0.cell? ⟨bo, 7, none⟩ = some (.int .u64 b2) := O0.out.1 7 (show 7 < 13 by decide)
          have e8 : x0.cell? ⟨bo, 8, none⟩ = some (.int .u64 b3) := O0.out.1 8 (show 8 < 13 by decide)
          have e9 : x0.cell? ⟨bo, 9, none⟩ = some (.int .u64 c0) := O0.out.1 9 (show 9 < 13 by decide)
          have e10 : x0.cell? ⟨bo, 10, none⟩ = some (.int .u64 c1) := O0.out.1 10 (show 10 < 13 by decide)
          have e11 : x0.cell? ⟨bo, 11, none⟩ = some (.int .u64 c2) := O0.out.1 11 (show 11 < 13 by decide)
          have e12 : x0.cell? ⟨bo, 12, none⟩ = some (.int .u64 c3) := O0.out.1 12 (show 12 < 13 by decide)
          go_upto_region 9 with (go_at_call 56; refine (HDW.out _).mono ?_; rintro e g0 ⟨rfl, hB⟩; (have Y0 : Hid _ := X0.out.past hB); (have Q0 : Hid (Cells g0 bo #[.int .i64 zi, .int .u64 a0, .int .u64 a1, .int .u64 a2, .int .u64 a3, .int .u64 b0, .int .u64 b1, .int .u64 b2, .int .u64 b3, .int .u64 c0, .int .u64 c1, .int .u64 c2, .int .u64 c3] ∧ bo < g0.heap.size) := ⟨O0.out.1.past O0.out.2 hB, Nat.lt_of_lt_of_le O0.out.2 hB.size⟩); clear hB X0 O0 e0 e1 e2 e3 e4 e5 e6 e7 e8 e9 e10 e11 e12)
          have X1 : Hid (Bx w ((g0.heap.size, p0, p1, p2, p3) :: []) (g0.alloc (.cells #[.int .u64 p0, .int .u64 p1, .int .u64 p2, .int .u64 p3] 24))) := Y0.out.alloc p0 p1 p2 p3
          have O1 : Hid (Cells (g0.alloc (.cells #[.int .u64 p0, .int .u64 p1, .int .u64 p2, .int .u64 p3] 24)) bo #[.int .i64 zi, .int .u64 a0, .int .u64 a1, .int .u64 a2, .int .u64 a3, .int .u64 b0, .int .u64 b1, .int .u64 b2, .int .u64 b3, .int .u64 c0, .int .u64 c1, .int .u64 c2, .int .u64 c3] ∧ bo < (g0.alloc (.cells #[.int .u64 p0, .int .u64 p1, .int .u64 p2, .int .u64 p3] 24)).heap.size) := ⟨Q0.out.1.past Q0.out.2 ((Below.refl _ _).alloc (Nat.le_refl _) _), by have := Q0.out.2; simp; omega⟩
          generalize (g0.alloc (.cells #[.int .u64 p0, .int .u64 p1, .int .u64 p2, .int .u64 p3] 24)) = x1 at X1 O1 ⊢
          generalize g0.heap.size = w1 at X1 ⊢
          clear Y0 Q0
          have e0 : x1.cell? ⟨bo, 0, none⟩ = some (.int .i64 zi) := O1.out.1 0 (show 0 < 13 by decide)
          have e1 : x1.cell? ⟨bo, 1, none⟩ = some (.int .u64 a0) := O1.out.1 1 (show 1 < 13 by decide)
          have e2 : x1.cell? ⟨bo, 2, none⟩ = some (.int .u64 a1) := O1.out.1 2 (show 2 < 13 by decide)
          have e3 : x1.cell? ⟨bo, 3, none⟩ = some (.int .u64 a2) := O1.out.1 3 (show 3 < 13 by decide)
          have e4 : x1.cell? ⟨bo, 4, none⟩ = some (.int .u64 a3) := O1.out.1 4 (show 4 < 13 by decide)
          have e5 : x1.cell? ⟨bo, 5, none⟩ = some (.int .u64 b0) := O1.out.1 5 (show 5 < 13 by decide)
          have e6 : x1.cell? ⟨bo, 6, none⟩ = some (.int .u64 b1) := O1.out.1 6 (show 6 < 13 by decide)
          have e7 : x1.cell? ⟨bo, 7, none⟩ = some (.int .u64 b2) := O1.out.1 7 (show 7 < 13 by decide)
          have e8 : x1.cell? ⟨bo, 8, none⟩ = some (.int .u64 b3) := O1.out.1 8 (show 8 < 13 by decide)
          have e9 : x1.cell? ⟨bo, 9, none⟩ = some (.int .u64 c0) := O1.out.1 9 (show 9 < 13 by decide)
          have e10 : x1.cell? ⟨bo, 10, none⟩ = some (.int .u64 c1) := O1.out.1 10 (show 10 < 13 by decide)
          have e11 : x1.cell? ⟨bo, 11, none⟩ = some (.int .u64 c2) := O1.out.1 11 (show 11 < 13 by decide)
          have e12 : x1.cell? ⟨bo, 12, none⟩ = some (.int .u64 c3) := O1.out.1 12 (show 12 < 13 by decide)
          go_upto_region 10 with (go_at_call 57; refine (HDR.out _).mono ?_; rintro e g1 ⟨rfl, hB⟩; (have Y1 : Hid _ := X1.out.past hB); (have Q1 : Hid (Cells g1 bo #[.int .i64 zi, .int .u64 a0, .int .u64 a1, .int .u64 a2, .int .u64 a3, .int .u64 b0, .int .u64 b1, .int .u64 b2, .int .u64 b3, .int .u64 c0, .int .u64 c1, .int .u64 c2, .int .u64 c3] ∧ bo < g1.heap.size) := ⟨O1.out.1.past O1.out.2 hB, Nat.lt_of_lt_of_le O1.out.2 hB.size⟩); clear hB X1 O1 e0 e1 e2 e3 e4 e5 e6 e7 e8 e9 e10 e11 e12)
          have X2 : Hid (Bx w ((g1.heap.size, p0, p1, p2, p3) :: [(w1, p0, p1, p2, p3)]) (g1.alloc (.cells #[.int .u64 p0, .int .u64 p1, .int .u64 p2, .int .u64 p3] 24))) := Y1.out.alloc p0 p1 p2 p3
          have O2 : Hid (Cells (g1.alloc (.cells #[.int .u64 p0, .int .u64 p1, .int .u64 p2, .int .u64 p3] 24)) bo #[.int .i64 zi, .int .u64 a0, .int .u64 a1, .int .u64 a2, .int .u64 a3, .int .u64 b0, .int .u64 b1, .int .u64 b2, .int .u64 b3, .int .u64 c0, .int .u64 c1, .int .u64 c2, .int .u64 c3] ∧ bo < (g1.alloc (.cells #[.int .u64 p0, .int .u64 p1, .int .u64 p2, .int .u64 p3] 24)).heap.size) := ⟨Q1.out.1.past Q1.out.2 ((Below.refl _ _).alloc (Nat.le_refl _) _), by have := Q1.out.2; simp; omega⟩
          generalize (g1.alloc (.cells #[.int .u64 p0, .int .u64 p1, .int .u64 p2, .int .u64 p3] 24)) = x2 at X2 O2 ⊢
          generalize g1.heap.size = w2 at X2 ⊢
          clear Y1 Q1
          have e0 : x2.cell? ⟨bo, 0, none⟩ = some (.int .i64 zi) := O2.out.1 0 (show 0 < 13 by decide)
          have e1 : x2.cell? ⟨bo, 1, none⟩ = some (.int .u64 a0) := O2.out.1 1 (show 1 < 13 by decide)
          have e2 : x2.cell? ⟨bo, 2, none⟩ = some (.int .u64 a1) := O2.out.1 2 (show 2 < 13 by decide)
          have e3 : x2.cell? ⟨bo, 3, none⟩ = some (.int .u64 a2) := O2.out.1 3 (show 3 < 13 by decide)
          have e4 : x2.cell? ⟨bo, 4, none⟩ = some (.int .u64 a3) := O2.out.1 4 (show 4 < 13 by decide)
          have e5 : x2.cell? ⟨bo, 5, none⟩ = some (.int .u64 b0) := O2.out.1 5 (show 5 < 13 by decide)
          have e6 : x2.cell? ⟨bo, 6, none⟩ = some (.int .u64 b1) := O2.out.1 6 (show 6 < 13 by decide)
          have e7 : x2.cell? ⟨bo, 7, none⟩ = some (.int .u64 b2) := O2.out.1 7 (show 7 < 13 by decide)
          have e8 : x2.cell? ⟨bo, 8, none⟩ = some (.int .u64 b3) := O2.out.1 8 (show 8 < 13 by decide)
          have e9 : x2.cell? ⟨bo, 9, none⟩ = some (.int .u64 c0) := O2.out.1 9 (show 9 < 13 by decide)
          have e10 : x2.cell? ⟨bo, 10, none⟩ = some (.int .u64 c1) := O2.out.1 10 (show 10 < 13 by decide)
          have e11 : x2.cell? ⟨bo, 11, none⟩ = some (.int .u64 c2) := O2.out.1 11 (show 11 < 13 by decide)
          have e12 : x2.cell? ⟨bo, 12, none⟩ = some (.int .u64 c3) := O2.out.1 12 (show 12 < 13 by decide)
          go_upto_region 11 with (go_at_call 56; refine (HDW.out _).mono ?_; rintro e g2 ⟨rfl, hB⟩; (have Y2 : Hid _ := X2.out.past hB); (have Q2 : Hid (Cells g2 bo #[.int .i64 zi, .int .u64 a0, .int .u64 a1, .int .u64 a2, .int .u64 a3, .int .u64 b0, .int .u64 b1, .int .u64 b2, .int .u64 b3, .int .u64 c0, .int .u64 c1, .int .u64 c2, .int .u64 c3] ∧ bo < g2.heap.size) := ⟨O2.out.1.past O2.out.2 hB, Nat.lt_of_lt_of_le O2.out.2 hB.size⟩); clear hB X2 O2 e0 e1 e2 e3 e4 e5 e6 e7 e8 e9 e10 e11 e12)
          have X3 : Hid (Bx w ((g2.heap.size, p0, p1, p2, p3) :: [(w2, p0, p1, p2, p3), (w1, p0, p1, p2, p3)]) (g2.alloc (.cells #[.int .u64 p0, .int .u64 p1, .int .u64 p2, .int .u64 p3] 24))) := Y2.out.alloc p0 p1 p2 p3
          have O3 : Hid (Cells (g2.alloc (.cells #[.int .u64 p0, .int .u64 p1, .int .u64 p2, .int .u64 p3] 24)) bo #[.int .i64 zi, .int .u64 a0, .int .u64 a1, .int .u64 a2, .int .u64 a3, .int .u64 b0, .int .u64 b1, .int .u64 b2, .int .u64 b3, .int .u64 c0, .int .u64 c1, .int .u64 c2, .int .u64 c3] ∧ bo < (g2.alloc (.cells #[.int .u64 p0, .int .u64 p1, .int .u64 p2, .int .u64 p3] 24)).heap.size) := ⟨Q2.out.1.past Q2.out.2 ((Below.refl _ _).alloc (Nat.le_refl _) _), by have := Q2.out.2; simp; omega⟩
          generalize (g2.alloc (.cells #[.int .u64 p0, .int .u64 p1, .int .u64 p2, .int .u64 p3] 24)) = x3 at X3 O3 ⊢
          generalize g2.heap.size = w3 at X3 ⊢
          clear Y2 Q2
          obtain ⟨r0, r1, r2, r3, _⟩ := X3.out.f0 mm0
          obtain ⟨s0, s1, s2, s3, _⟩ := X3.out.f0 mm1
          obtain ⟨t0, t1, t2, t3, _⟩ := X3.out.f0 mm2
          go_wp2
          go_roundw
          case rel => exact ⟨i + 1, by go_num, by omega, X3.out.bel⟩
          case measure => simp [intOf]; omega
        · obtain rfl : i = n := by omega
          go_wp2
          go_roundw
          case rel => exact ⟨k + 1, by go_num, by omega, HB.out⟩
          case measure => simp [intOf]; omega
    · obtain rfl : k = 2 := by omega
      go_wp2_with (go_at_call 21; refine (awake_any _).mono ?_; rintro e x9 ⟨rfl, hB⟩; (have K9 : Hid (Below w.heap.size w x9) := HB.out.trans (hB.mono HB.out.size)); clear hB)
      go_ret
      exact ⟨rfl, K9.out⟩
end Go.Proofs.YtpadpmkfhljiiaaGreat
/- How an argument that is a list of reckonings reads. -/
namespace Go.Proofs.YtpadpmkfhljiiaaGreat
open Go.ChangeShapes Go.WideShapes Go.ChangeAt Go.RowKit
theorem cellsOp : Tryz.prog.cellsOf 55 = 13 := by kernel_rfl
theorem cellsI : Tryz.prog.cellsOf 3 = 1 := by kernel_rfl
theorem word_in {H : Type} {enc : TypeId × Value → H} {W : World} {base : Nat} {held : Bool} {cs : List Value} (off m : Nat) {y : DataW H × List MemPlace}
    (ht : DataW.trod enc Tryz.prog W base (fun _ => true) held m 24 ((cs.drop off).take 4) = some y) (q : Nat) (hq : q < 4) : ∃ x : Int, cs[off + q]? = some (.int .u64 x) ∧ U64 x := by
  obtain ⟨xs, m', _, _, _, hxs, hxe⟩ := DataW.trod_array Tryz.underlying24 ht
  have h4 := hxe q hq
  rw [cells22, List.getElem?_eq_getElem (show q < xs.length by omega)] at h4
  obtain ⟨x, hx, _, hw⟩ := DataW.trod_int Tryz.underlying22 h4
  have hb := bounds_u64 hw
  refine ⟨x, ?_, hb.1, by unfold Bd; omega⟩
  rw [Nat.mul_one] at hx
  have h0 : ((((cs.drop off).take 4).drop q).take 1)[0]? = some (Value.int .u64 x) := by rw [hx]; rfl
  simp [hq] at h0
  exact h0
set_option maxRecDepth 100000 in
theorem openOps {H : Type} {enc : TypeId × Value → H} {W : World} {base b0 : Nat} {r : Reach} {held : Bool} {v : Value} {d : DataW H} {ps : List MemPlace}
    (hv : Value.okWide Tryz.prog W r b0 53 v) (h : DataW.Trod enc Tryz.prog W base (fun _ => true) held 53 v d ps) :
    ∃ ad n cap, v = .slice ad n cap ∧ n ≤ maxLen ∧ ∃ (z : Nat → Int) (a : Nat → Nat → Int), (∀ i q, U64 (a i q)) ∧ (n ≠ 0 → ∃ g o, ad = some ⟨g, o, none⟩ ∧ ∀ i, i < n → W.cell? ⟨g, o + i * 13, none⟩ = some (.int .i64 (z i)) ∧ ∀ q, q < 12 → W.cell? ⟨g, o + i * 13 + (q + 1), none⟩ = some (.int .u64 (a i q))) := by
  obtain ⟨a1, len, cap, rfl⟩ := okWide_slice Tryz.underlying53 hv
  obtain ⟨fuel, hf⟩ := h
  rcases DataW.trod_slice Tryz.underlying53 hf with ⟨hcs, hx⟩ | ⟨a, len', cap', elems, rest, n, _, hcs, hx, hb, hl, hm, hlen, hel, _, _⟩
  · simp [Value.cells] at hcs
    obtain ⟨rfl, rfl, rfl⟩ := hcs
    exact ⟨none, 0, 0, rfl, by omega, fun _ => 0, fun _ _ => 0, fun _ _ => u64_lit 0 (by omega) (by omega), fun h => absurd rfl h⟩
  · simp [Value.cells] at hcs
    obtain ⟨rfl, rfl, rfl⟩ := hcs
    rw [cellsOp] at hel
    by_cases hne : len = 0
    · exact ⟨some a, len, cap, rfl, by omega, fun _ => 0, fun _ _ => 0, fun _ _ => u64_lit 0 (by omega) (by omega), fun h => absurd hne h⟩
    have at1 : ∀ i, i < len → (∃ x : Int, W.cell? ((a.add (i * 13)).add 0) = some (.int .i64 x)) ∧ ∀ q, q < 12 → ∃ x : Int, W.cell? ((a.add (i * 13)).add (q + 1)) = some (.int .u64 x) ∧ U64 x := by
      intro i hi
      have he := hel i hi
      rw [List.getElem?_eq_getElem (show i < elems.length by omega), Option.bind_eq_some_iff] at he
      obtain ⟨cs, hc, ht⟩ := he
      obtain ⟨_, hl13, hcell⟩ := World.cells?_some hc
      obtain ⟨xs, m, _, _, hcl, hxs, hfs⟩ := DataW.trod_struct Tryz.underlying55 ht
      have g0 : DataW.trod enc Tryz.prog W base (fun _ => true) held m 3 ((cs.drop 0).take (Tryz.prog.cellsOf 3)) = xs[0]? := hfs 0 _ rfl
      have g1 : DataW.trod enc Tryz.prog W base (fun _ => true) held m 24 ((cs.drop 1).take (Tryz.prog.cellsOf 24)) = xs[1]? := hfs 1 _ rfl
      have g2 : DataW.trod enc Tryz.prog W base (fun _ => true) held m 24 ((cs.drop 5).take (Tryz.prog.cellsOf 24)) = xs[2]? := hfs 2 _ rfl
      have g3 : DataW.trod enc Tryz.prog W base (fun _ => true) held m 24 ((cs.drop 9).take (Tryz.prog.cellsOf 24)) = xs[3]? := hfs 3 _ rfl
      have hx4 : xs.length = 4 := hxs
      rw [List.getElem?_eq_getElem (show 0 < xs.length by omega)] at g0
      rw [List.getElem?_eq_getElem (show 1 < xs.length by omega)] at g1
      rw [List.getElem?_eq_getElem (show 2 < xs.length by omega)] at g2
      rw [List.getElem?_eq_getElem (show 3 < xs.length by omega)] at g3
      rw [cellsI] at g0
      rw [cells24] at g1 g2 g3
      refine ⟨?_, fun q hq => ?_⟩
      · obtain ⟨x, hx, _, _⟩ := DataW.trod_int Tryz.underlying3 g0
        refine ⟨x, ?_⟩
        have e1 : cs[0]? = some (.int .i64 x) := by
          have : ((cs.drop 0).take 1)[0]? = some (Value.int .i64 x) := by rw [hx]; rfl
          simpa using this
        rw [hcell 0 (by omega), e1]
      · have key : ∃ x : Int, cs[q + 1]? = some (.int .u64 x) ∧ U64 x := by
          by_cases h1 : q < 4
          · have := word_in 1 _ g1 q h1
            rwa [Nat.add_comm 1 q] at this
          · by_cases h2 : q < 8
            · have := word_in 5 _ g2 (q - 4) (by omega)
              rwa [show 5 + (q - 4) = q + 1 by omega] at this
            · have := word_in 9 _ g3 (q - 8) (by omega)
              rwa [show 9 + (q - 8) = q + 1 by omega] at this
        obtain ⟨x, hx, hu⟩ := key
        exact ⟨x, by rw [hcell (q + 1) (by omega), hx], hu⟩
    obtain ⟨ab, ao, spot⟩ := a
    have hspot : spot = none := by
      obtain ⟨⟨x, hx⟩, _⟩ := at1 0 (by omega)
      simpa [Addr.add] using World.cell?_spot hx
    subst hspot
    have get0 : ∀ i, i < len → ∃ x : Int, W.cell? ⟨ab, ao + i * 13, none⟩ = some (.int .i64 x) := by
      intro i hi
      have := (at1 i hi).1
      rwa [Addr.add_mid, Addr.add_mid] at this
    have get : ∀ i q, i < len → q < 12 → ∃ x : Int, W.cell? ⟨ab, ao + i * 13 + (q + 1), none⟩ = some (.int .u64 x) ∧ U64 x := by
      intro i q hi hq
      have := (at1 i hi).2 q hq
      rwa [Addr.add_mid, Addr.add_mid] at this
    refine ⟨some ⟨ab, ao, none⟩, len, cap, rfl, by omega, fun i => if h : i < len then (get0 i h).choose else 0, fun i q => if h : i < len ∧ q < 12 then (get i q h.1 h.2).choose else 0, fun i q => ?_, fun _ => ⟨ab, ao, rfl, fun i hi => ⟨?_, fun q hq => ?_⟩⟩⟩
    · dsimp only
      split
      · rename_i h; exact (get i q h.1 h.2).choose_spec.2
      · exact u64_lit 0 (by omega) (by omega)
    · rw [(get0 i hi).choose_spec]
      simp [hi]
    · rw [(get i q hi hq).choose_spec.1]
      simp [hi, hq]
end Go.Proofs.YtpadpmkfhljiiaaGreat
