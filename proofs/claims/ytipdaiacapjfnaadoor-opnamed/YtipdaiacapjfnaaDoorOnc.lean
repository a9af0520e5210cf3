/- OpNamed: both tables answer the same of every name. -/
import Derived.Test.YtipdaiacapjfnaaDoorOnb
import Derived.Test.YtipdaiacapjfnaaDoorOqa
namespace Go.Proofs.YtipdaiacapjfnaaDoor
open Go.RowKit
/-- the cells of a list of strings -/
def StrsAt (W : World) (la : Option Addr) (n : Nat) (z : Nat → ByteArray) : Prop := n ≠ 0 → ∃ g o, la = some ⟨g, o, none⟩ ∧ ∀ i, i < n → W.cell? ⟨g, o + i, none⟩ = some (.string (z i))
set_option maxHeartbeats 1000000 in
set_option maxRecDepth 100000 in
theorem opNamed_walk (w : World) (hn0 : Nms w) (la : Option Addr) (n cap : Nat) (z : Nat → ByteArray) (hn : n ≤ 9223372036854775807) (hc : StrsAt w la n z) :
    Calls Tryd.prog 4 #[.slice la n cap] w fun e w' => e = .returned (.bool true) ∧ Below w.heap.size w w' := by
  have HC : Hid (StrsAt w la n z) := hc
  have HN : Hid (Nms w) := hn0
  clear hc hn0
  have nL : (n : Int) ≤ 9223372036854775807 := by omega
  go_enter Tryd.func4, Tryd.ntmps4
  go_wp2
  go_loopw [3, 4] (fun s3 s4 wx => ∃ (N : Int) (i : Nat), i ≤ n ∧ s3 = .int .i64 N ∧ s4 = .int .i64 (i : Int) ∧ wx = w) (fun _ s4 _ => n - (intOf s4).toNat)
  case atStart => exact ⟨0, 0, by omega, rfl, rfl, rfl⟩
  case round =>
    obtain ⟨N, i, hin, rfl, rfl, hw⟩ := hrel
    obtain rfl : w = wr := hw.symm
    by_cases hi : i < n
    · have iI : (i : Int) < (n : Int) := by omega
      obtain ⟨g, o, rfl, hcl⟩ := HC.out (by omega)
      have hci := hcl i hi
      generalize z i = s at hci
      clear hcl
      obtain ⟨r0, e0⟩ : ∃ r0, wrap64 ((s.size : Int) + 1) = r0 := ⟨_, rfl⟩
      obtain ⟨r1, e1⟩ : ∃ r1, wrap64 (N + r0) = r1 := ⟨_, rfl⟩
      by_cases h5 : (5000 : Int) < r1
      · go_wp2
        go_ret
        exact ⟨rfl, Below.refl _ _⟩
      · go_wp2
        go_roundw
        case rel => exact ⟨r1, i + 1, by omega, by first | rfl | go_num, by go_num, by first | trivial | rfl⟩
        case measure => first | go_num | (show _ < _; simp [intOf]; omega)
    · obtain rfl : n = i := by omega
      have eqs := eq7_same
      go_wp2
      go_loopw [5] (fun si wx => ∃ i : Nat, i ≤ n ∧ si = .int .i64 (i : Int) ∧ Below w.heap.size w wx) (fun si _ => n - (intOf si).toNat)
      case atStart => exact ⟨0, by omega, rfl, Below.refl _ _⟩
      case round =>
        obtain ⟨i, hin, rfl, hB⟩ := hrel
        have BB : Hid (Below w.heap.size w wr) := hB
        clear hB
        by_cases hi : i < n
        · have iI : (i : Int) < (n : Int) := by omega
          obtain ⟨g, o, rfl, hcl⟩ := HC.out (by omega)
          have hci := hcl i hi
          obtain ⟨C, ec⟩ : ∃ C, z i = C := ⟨_, rfl⟩
          rw [ec] at hci
          have gl := World.block_lt_of_cell? w _ hci
          have CC : Hid (w.cell? ⟨g, o + i, none⟩ = some (.string C)) := hci
          clear hcl hci ec
          obtain ⟨c, s, i1, i2, i3, i4, b5, ob, hV⟩ := byV_parts C
          have R1 : Hid (∀ W : World, Calls Tryd.prog 12 #[.string C] W fun e w' => e = .returned (.tuple #[.agg #[.int .i64 c, .string s, .int .i64 i1, .int .i64 i2, .int .i64 i3, .int .i64 i4, .bool b5], .bool ob]) ∧ Below W.heap.size W w') := fun W => by have := rbyName_is C W; rw [hV] at this; exact this
          have R2 : Hid (∀ W : World, Nms W → Calls Tryd.prog 13 #[.string C] W fun e w' => e = .returned (.tuple #[.agg #[.int .i64 c, .string s, .int .i64 i1, .int .i64 i2, .int .i64 i3, .int .i64 i4, .bool b5], .bool ob]) ∧ Below W.heap.size W w') := fun W h => by have := byName_is C W h; rw [hV] at this; exact this
          clear hV
          have k0 : wr.cell? ⟨g, o + i, none⟩ = some (.string C) := (BB.out.cell (p := ⟨g, o + i, none⟩) gl).trans CC.out
          go_upto_region 12 with (go_at_call 12; refine (R1.out _).mono ?_; rintro e w1 ⟨rfl, hB⟩; (have B1 : Hid (Below w.heap.size w w1) := BB.out.trans (hB.mono BB.out.size)); clear hB BB k0)
          have O1 : Hid (Op7 (w1.alloc (.cells #[.int .i64 c, .string s, .int .i64 i1, .int .i64 i2, .int .i64 i3, .int .i64 i4, .bool b5] 24)) w1.heap.size c s i1 i2 i3 i4 b5) := Op7.new w1 c s i1 i2 i3 i4 b5
          have B2 : Hid (Below w.heap.size w (w1.alloc (.cells #[.int .i64 c, .string s, .int .i64 i1, .int .i64 i2, .int .i64 i3, .int .i64 i4, .bool b5] 24))) := B1.out.alloc B1.out.size _
          generalize w1.alloc (.cells #[.int .i64 c, .string s, .int .i64 i1, .int .i64 i2, .int .i64 i3, .int .i64 i4, .bool b5] 24) = w2 at O1 B2 ⊢
          generalize w1.heap.size = q1 at O1 ⊢
          clear B1
          go_wp2
          go_loopw [8] (fun sd wx => ∃ j : Nat, j ≤ 2 ∧ sd = .int .i64 (j : Int) ∧ Below w.heap.size w wx ∧ Op7 wx q1 c s i1 i2 i3 i4 b5) (fun sd _ => 2 - (intOf sd).toNat)
          case atStart => exact ⟨0, by omega, rfl, B2.out, O1.out⟩
          case round =>
            obtain ⟨j, hj, rfl, hB, hO⟩ := hrel
            clear B2 O1
            have B3 : Hid (Below w.heap.size w wr) := hB
            have O3 : Hid (Op7 wr q1 c s i1 i2 i3 i4 b5) := hO
            clear hB hO
            by_cases hj2 : j < 2
            · have jI : (j : Int) < 2 := by omega
              have k0 : wr.cell? ⟨g, o + i, none⟩ = some (.string C) := (B3.out.cell (p := ⟨g, o + i, none⟩) gl).trans CC.out
              go_upto_region 16 with (go_at_call 13; refine (R2.out _ (HN.out.past B3.out)).mono ?_; rintro e w3 ⟨rfl, hB⟩; (have B4 : Hid (Below w.heap.size w w3) := B3.out.trans (hB.mono B3.out.size)); (have O4 : Hid (Op7 w3 q1 c s i1 i2 i3 i4 b5) := O3.out.past hB); clear hB k0 B3 O3)
              have B5 : Hid (Below w.heap.size w (w3.alloc (.cells #[.int .i64 c, .string s, .int .i64 i1, .int .i64 i2, .int .i64 i3, .int .i64 i4, .bool b5] 24))) := B4.out.alloc B4.out.size _
              have O5 : Hid (Op7 (w3.alloc (.cells #[.int .i64 c, .string s, .int .i64 i1, .int .i64 i2, .int .i64 i3, .int .i64 i4, .bool b5] 24)) q1 c s i1 i2 i3 i4 b5) := O4.out.past ((Below.refl _ _).alloc (Nat.le_refl _) _)
              have O6 : Hid (Op7 (w3.alloc (.cells #[.int .i64 c, .string s, .int .i64 i1, .int .i64 i2, .int .i64 i3, .int .i64 i4, .bool b5] 24)) w3.heap.size c s i1 i2 i3 i4 b5) := Op7.new w3 c s i1 i2 i3 i4 b5
              generalize w3.alloc (.cells #[.int .i64 c, .string s, .int .i64 i1, .int .i64 i2, .int .i64 i3, .int .i64 i4, .bool b5] 24) = w4 at B5 O5 O6 ⊢
              generalize w3.heap.size = q3 at O6 ⊢
              clear B4 O4
              obtain ⟨d0, d1, d2, d3, d4, d5, d6⟩ := O5.out
              obtain ⟨f0, f1, f2, f3, f4, f5, f6⟩ := O6.out
              go_wp2
              clear d0 d1 d2 d3 d4 d5 d6 f0 f1 f2 f3 f4 f5 f6
              go_roundw
              case rel => exact ⟨j + 1, by omega, by go_num, B5.out, O5.out⟩
              case measure => first | go_num | (show _ < _; simp [intOf]; omega)
            · obtain rfl : j = 2 := by omega
              go_wp2
              go_roundw
              case rel => exact ⟨i + 1, by omega, by go_num, B3.out⟩
              case measure => first | go_num | (show _ < _; simp [intOf]; omega)
        · obtain rfl : i = n := by omega
          go_wp2_with (go_at_call 11; refine (awake4_any _ (HN.out.past BB.out)).mono ?_; rintro e w5 ⟨rfl, hB⟩; (have B6 : Hid (Below w.heap.size w w5) := BB.out.trans (hB.mono BB.out.size)); clear hB)
          go_ret
          exact ⟨rfl, B6.out⟩
end Go.Proofs.YtipdaiacapjfnaaDoor
