/- MachRowed: the walk. -/
import Derived.Test.YtlemnjhdnciddaaGqa
import Derived.Test.YtlemnjhdnciddaaUm2
import Derived.Test.YtlemnjhdnciddaaUl
namespace Go.Proofs.Ytlemnjhdnciddaa
open Go.RowKit
theorem row_bad (w : World) (v : Value) (L : Nat) (u : Nat → Nat) (a0 a1 a2 a3 : Int) (m : Int) (hb : By w v L u) (ha : IsW (V a0 a1 a2 a3) a0 a1 a2 a3) (hm : -9223372036854775808 ≤ m ∧ m ≤ 9223372036854775807) (h : m < 0 ∨ 4194304 < m) : Calls Try.prog 16 #[v, .agg #[.int .u64 a0, .int .u64 a1, .int .u64 a2, .int .u64 a3], .int .i64 m] w fun e w' => e = .returned (.tuple #[.slice none 0 0, .int .i64 1]) ∧ Below w.heap.size w w' := by
  refine (row_is w v L u a0 a1 a2 a3 m hb ha hm).mono ?_
  rintro e w' ⟨hB, ⟨_, rfl⟩ | ⟨h1, _⟩⟩
  · exact ⟨rfl, hB⟩
  · omega
theorem row_good (w : World) (v : Value) (L : Nat) (u f : Nat → Nat) (a0 a1 a2 a3 : Int) (m : Nat) (hb : By w v L u) (ha : IsW (V a0 a1 a2 a3) a0 a1 a2 a3) (hm : m ≤ 4194304) (hf : rowF u L (loW a0 a1 a2 a3) (smW a1 a2 a3) = f) : Calls Try.prog 16 #[v, .agg #[.int .u64 a0, .int .u64 a1, .int .u64 a2, .int .u64 a3], .int .i64 (m : Int)] w fun e w' => ∃ g, e = .returned (.tuple #[.slice (some ⟨g, 0, none⟩) m m, .int .i64 0]) ∧ CB w' g (bD f m) ∧ Below w.heap.size w w' := by
  refine (row_is w v L u a0 a1 a2 a3 (m : Int) hb ha ⟨by omega, by omega⟩).mono ?_
  rintro e w' ⟨hB, ⟨h1, _⟩ | ⟨_, g, _, rfl, hc⟩⟩
  · omega
  · rw [Int.toNat_natCast] at hc ⊢
    rw [hf] at hc
    exact ⟨g, rfl, hc, hB⟩
theorem rowF_in (u : Nat → Nat) (L k : Nat) : rowF u L (k : Int) true = fun i => if k + i < L then u (k + i) else 0 := by
  funext i
  unfold rowF
  rw [Int.toNat_natCast]
  by_cases h : k + i < L
  · rw [if_pos ⟨rfl, h⟩, if_pos h]
  · rw [if_neg (fun q => h q.2), if_neg h]
theorem rowF_out (u : Nat → Nat) (L : Nat) (x : Int) : rowF u L x false = fun _ => 0 := by
  funext i
  unfold rowF
  rw [if_neg (fun q => by simp at q)]
set_option maxHeartbeats 4000000 in
set_option maxRecDepth 100000 in
theorem machRowed_pos (w : World) (vb : Value) (n Kz : Nat) (u : Nat → Nat) (z2 : Int) (m kk : Nat) (hb : By w vb n u) (hK : Kz = min n 70000) (hs : bits .and .i64 z2 4095 = (m : Int)) (hm : m ≤ 4095) (hk : (kk : Int) ≤ 9223372036854775807) : Calls Try.prog 8 #[vb, .int .i64 (kk : Int), .int .i64 z2] w fun e w' => e = .returned (.bool true) ∧ Below w.heap.size w w' := by
  have K7 : Hid (Kz ≤ 70000) := by unfold Hid; omega
  have KI : (Kz : Int) ≤ 70000 := by omega
  have mI : (m : Int) ≤ 4095 := by omega
  have kI0 : (0 : Int) ≤ (kk : Int) := by omega
  have cw : IntKind.u64.wrap (kk : Int) = (kk : Int) := by rw [IntKind.wrap_u64]; omega
  have LD : Hid (Calls Try.prog 15 #[vb] w fun e w' => Laid w w' u Kz e) := laid_is w vb n Kz u hb hK
  have i1 : IsW (V (kk : Int) 0 0 0) (kk : Int) 0 0 0 := (isW_lit (kk : Int) (by omega) (by omega)).self
  have i2 : IsW (V (kk : Int) 1 0 0) (kk : Int) 1 0 0 := isW_mk ⟨by omega, by unfold Bd; omega⟩ ⟨by omega, by unfold Bd; omega⟩ ⟨by omega, by unfold Bd; omega⟩ ⟨by omega, by unfold Bd; omega⟩
  obtain ⟨y, ey⟩ : ∃ y, lay u Kz = y := ⟨_, rfl⟩
  have R1 : Hid (∀ W v, By W v Kz y → Calls Try.prog 16 #[v, .agg #[.int .u64 (kk : Int), .int .u64 0, .int .u64 0, .int .u64 0], .int .i64 (m : Int)] W fun e w' => ∃ g, e = .returned (.tuple #[.slice (some ⟨g, 0, none⟩) m m, .int .i64 0]) ∧ CB w' g (bD (fun i => if kk + i < Kz then y (kk + i) else 0) m) ∧ Below W.heap.size W w') := fun W v h => row_good W v Kz y _ (kk : Int) 0 0 0 m h i1 (by omega) (by rw [show loW (kk : Int) 0 0 0 = (kk : Int) by unfold loW; rw [if_pos ⟨rfl, rfl, rfl⟩], show smW 0 0 0 = true from rfl]; exact rowF_in y Kz kk)
  have R2 : Hid (∀ W v, By W v Kz y → Calls Try.prog 16 #[v, .agg #[.int .u64 (kk : Int), .int .u64 1, .int .u64 0, .int .u64 0], .int .i64 (m : Int)] W fun e w' => ∃ g, e = .returned (.tuple #[.slice (some ⟨g, 0, none⟩) m m, .int .i64 0]) ∧ CB w' g (bD (fun _ => 0) m) ∧ Below W.heap.size W w') := fun W v h => row_good W v Kz y _ (kk : Int) 1 0 0 m h i2 (by omega) (by rw [show smW 1 0 0 = false from rfl]; exact rowF_out y Kz _)
  obtain ⟨m1, em1⟩ : ∃ m1 : Int, (-1 : Int) - (m : Int) = m1 := ⟨_, rfl⟩
  obtain ⟨m2, em2⟩ : ∃ m2 : Int, (4194305 : Int) + (m : Int) = m2 := ⟨_, rfl⟩
  have wm1 : IntKind.i64.wrap m1 = m1 := by rw [IntKind.wrap_i64]; omega
  have wm2 : IntKind.i64.wrap m2 = m2 := by rw [IntKind.wrap_i64]; omega
  have R3 : Hid (∀ W v, By W v Kz y → Calls Try.prog 16 #[v, .agg #[.int .u64 0, .int .u64 0, .int .u64 0, .int .u64 0], .int .i64 m1] W fun e w' => e = .returned (.tuple #[.slice none 0 0, .int .i64 1]) ∧ Below W.heap.size W w') := fun W v h => row_bad W v Kz y 0 0 0 0 m1 h isW_0.self ⟨by omega, by omega⟩ (by omega)
  have R4 : Hid (∀ W, Calls Try.prog 16 #[.slice none 0 0, .agg #[.int .u64 0, .int .u64 0, .int .u64 0, .int .u64 0], .int .i64 m2] W fun e w' => e = .returned (.tuple #[.slice none 0 0, .int .i64 1]) ∧ Below W.heap.size W w') := fun W => row_bad W (.slice none 0 0) 0 (fun _ => 0) 0 0 0 0 m2 ⟨none, 0, rfl, by omega, by omega, fun h => absurd h (by omega)⟩ isW_0.self ⟨by omega, by omega⟩ (by omega)
  have EY : Hid (lay u Kz = y) := ey
  clear hb hK hm i1 i2 ey hk
  go_enter Try.func8, Try.ntmps8
  go_upto_region 3 with (go_at_call 15; refine (Calls.mono LD.out) ?_; rintro e v ⟨g, c, rfl, hc, hO, hg, hB⟩)
  have M1 : Hid (ByC v g 0 (Kz + 75) y ∧ Below w.heap.size w v ∧ Kz + 75 ≤ c) := ⟨fun i hi => by rw [← EY.out, Nat.zero_add, hO.cellAt i (by omega), bD_at _ _ _ hi], hB, hc⟩
  clear hc hO hg hB LD EY
  go_upto_region 6 with fail
  have BYv : Hid (∀ W, ByC W g 0 (Kz + 75) y → By W (.slice (some ⟨g, 0, none⟩) Kz c) Kz y) := fun W h => ⟨_, c, rfl, by have := M1.out.2.2; omega, by have := K7.out; omega, fun _ => ⟨g, 0, rfl, fun i hi => h i (by omega)⟩⟩
  go_upto_region 7 with (go_at_call 16; refine (R1.out _ _ (BYv.out _ M1.out.1)).mono ?_; rintro e v1 ⟨g1, rfl, hc, hB⟩)
  have M2 : Hid (ByC v1 g 0 (Kz + 75) y ∧ Below w.heap.size w v1 ∧ CB v1 g1 (bD (fun i => if kk + i < Kz then y (kk + i) else 0) m)) := ⟨M1.out.1.past hB, M1.out.2.1.trans (hB.mono M1.out.2.1.size), hc⟩
  have CL : Hid (Kz + 75 ≤ c) := M1.out.2.2
  clear hc hB M1
  go_upto_region 8 with (go_at_call 16; refine (R2.out _ _ (BYv.out _ M2.out.1)).mono ?_; rintro e v2 ⟨g2, rfl, hc, hB⟩)
  have M3 : Hid (ByC v2 g 0 (Kz + 75) y ∧ Below w.heap.size w v2 ∧ CB v2 g1 (bD (fun i => if kk + i < Kz then y (kk + i) else 0) m) ∧ CB v2 g2 (bD (fun _ => 0) m)) := ⟨M2.out.1.past hB, M2.out.2.1.trans (hB.mono M2.out.2.1.size), M2.out.2.2.past hB, hc⟩
  clear hc hB M2 R1 R2
  go_upto_region 10 with fail
  go_wp2
  go_loopw [13] (fun si wr => ∃ i : Nat, si = .int .i64 (i : Int) ∧ i ≤ m ∧ wr = v2) (fun si _ => m - (intOf si).toNat)
  case atStart => exact ⟨0, rfl, by omega, rfl⟩
  case round =>
    obtain ⟨i, rfl, hi, rfl⟩ := hrel
    by_cases e : i < m
    · have iI : (i : Int) < (m : Int) := by omega
      have d1 := M3.out.2.2.1.cell i
      rw [bD_at _ _ _ e] at d1
      have d2 := M3.out.2.2.2.cell i
      rw [bD_at _ _ _ e] at d2
      have d2' : wr.cell? ⟨g2, i, none⟩ = some (.int .u8 0) := d2
      have MX : Hid (i + 1 ≤ m) := e
      clear d2
      by_cases c1 : kk < Kz
      · have c1I : (kk : Int) < (Kz : Int) := by omega
        obtain ⟨d, ed⟩ : ∃ d : Nat, d + kk = Kz := ⟨Kz - kk, by omega⟩
        have dI : (Kz : Int) - (kk : Int) = (d : Int) := by omega
        have dw : IntKind.i64.wrap (d : Int) = (d : Int) := by rw [IntKind.wrap_i64]; omega
        by_cases c2 : i < d
        · have c2I : (i : Int) < (d : Int) := by omega
          obtain ⟨q, eq⟩ : ∃ q : Nat, q = kk + i := ⟨_, rfl⟩
          have c3 := M3.out.1 q (by omega)
          rw [Nat.zero_add] at c3
          rw [if_pos (by omega), ← eq] at d1
          have qI : (kk : Int) + (i : Int) = (q : Int) := by omega
          have qw : IntKind.i64.wrap (q : Int) = (q : Int) := by rw [IntKind.wrap_i64]; omega
          have qK : (q : Int) < (Kz : Int) := by omega
          generalize y q = z at c3 d1
          clear ed eq
          go_wp2
          go_roundw
          case rel => exact ⟨i + 1, by go_num, MX.out, trivial⟩
          case measure => simp [intOf]; omega
        · have c2I : ¬ (i : Int) < (d : Int) := by omega
          rw [if_neg (by omega)] at d1
          have d1' : wr.cell? ⟨g1, i, none⟩ = some (.int .u8 0) := d1
          clear d1 ed
          go_wp2
          go_roundw
          case rel => exact ⟨i + 1, by go_num, MX.out, trivial⟩
          case measure => simp [intOf]; omega
      · have c1I : ¬ (kk : Int) < (Kz : Int) := by omega
        rw [if_neg (by omega)] at d1
        have d1' : wr.cell? ⟨g1, i, none⟩ = some (.int .u8 0) := d1
        clear d1
        go_wp2
        go_roundw
        case rel => exact ⟨i + 1, by go_num, MX.out, trivial⟩
        case measure => simp [intOf]; omega
    · have iI : ¬ (i : Int) < (m : Int) := by omega
      go_upto_region 19 with (go_at_call 16; refine (R3.out _ _ (BYv.out _ M3.out.1)).mono ?_; rintro e v3 ⟨rfl, hB⟩)
      have B3 : Hid (Below w.heap.size w v3) := M3.out.2.1.trans (hB.mono M3.out.2.1.size)
      clear hB M3 BYv R3
      go_upto_region 20 with (go_at_call 16; refine (R4.out _).mono ?_; rintro e v4 ⟨rfl, hB⟩)
      have B4 : Hid (Below w.heap.size w v4) := B3.out.trans (hB.mono B3.out.size)
      clear hB B3 R4
      go_wp2_with (go_at_call 14; refine (wrote_is _).mono ?_; rintro e v9 ⟨rfl, hB9⟩)
      go_ret
      exact ⟨rfl, B4.out.trans (hB9.mono B4.out.size)⟩
set_option maxHeartbeats 4000000 in
set_option maxRecDepth 100000 in
theorem machRowed_neg (w : World) (vb : Value) (n Kz : Nat) (u : Nat → Nat) (z1 z2 : Int) (m kk : Nat) (hz1 : z1 < 0) (hz2 : IntKind.i64.wrap (z1 + 1) = z1 + 1) (hz3 : -(z1 + 1) = (kk : Int)) (hz4 : IntKind.i64.wrap (kk : Int) = (kk : Int)) (hb : By w vb n u) (hK : Kz = min n 70000) (hs : bits .and .i64 z2 4095 = (m : Int)) (hm : m ≤ 4095) (hk : (kk : Int) ≤ 9223372036854775807) : Calls Try.prog 8 #[vb, .int .i64 z1, .int .i64 z2] w fun e w' => e = .returned (.bool true) ∧ Below w.heap.size w w' := by
  have K7 : Hid (Kz ≤ 70000) := by unfold Hid; omega
  have KI : (Kz : Int) ≤ 70000 := by omega
  have mI : (m : Int) ≤ 4095 := by omega
  have kI0 : (0 : Int) ≤ (kk : Int) := by omega
  have cw : IntKind.u64.wrap (kk : Int) = (kk : Int) := by rw [IntKind.wrap_u64]; omega
  have LD : Hid (Calls Try.prog 15 #[vb] w fun e w' => Laid w w' u Kz e) := laid_is w vb n Kz u hb hK
  have i1 : IsW (V (kk : Int) 0 0 0) (kk : Int) 0 0 0 := (isW_lit (kk : Int) (by omega) (by omega)).self
  have i2 : IsW (V (kk : Int) 1 0 0) (kk : Int) 1 0 0 := isW_mk ⟨by omega, by unfold Bd; omega⟩ ⟨by omega, by unfold Bd; omega⟩ ⟨by omega, by unfold Bd; omega⟩ ⟨by omega, by unfold Bd; omega⟩
  obtain ⟨y, ey⟩ : ∃ y, lay u Kz = y := ⟨_, rfl⟩
  have R1 : Hid (∀ W v, By W v Kz y → Calls Try.prog 16 #[v, .agg #[.int .u64 (kk : Int), .int .u64 0, .int .u64 0, .int .u64 0], .int .i64 (m : Int)] W fun e w' => ∃ g, e = .returned (.tuple #[.slice (some ⟨g, 0, none⟩) m m, .int .i64 0]) ∧ CB w' g (bD (fun i => if kk + i < Kz then y (kk + i) else 0) m) ∧ Below W.heap.size W w') := fun W v h => row_good W v Kz y _ (kk : Int) 0 0 0 m h i1 (by omega) (by rw [show loW (kk : Int) 0 0 0 = (kk : Int) by unfold loW; rw [if_pos ⟨rfl, rfl, rfl⟩], show smW 0 0 0 = true from rfl]; exact rowF_in y Kz kk)
  have R2 : Hid (∀ W v, By W v Kz y → Calls Try.prog 16 #[v, .agg #[.int .u64 (kk : Int), .int .u64 1, .int .u64 0, .int .u64 0], .int .i64 (m : Int)] W fun e w' => ∃ g, e = .returned (.tuple #[.slice (some ⟨g, 0, none⟩) m m, .int .i64 0]) ∧ CB w' g (bD (fun _ => 0) m) ∧ Below W.heap.size W w') := fun W v h => row_good W v Kz y _ (kk : Int) 1 0 0 m h i2 (by omega) (by rw [show smW 1 0 0 = false from rfl]; exact rowF_out y Kz _)
  obtain ⟨m1, em1⟩ : ∃ m1 : Int, (-1 : Int) - (m : Int) = m1 := ⟨_, rfl⟩
  obtain ⟨m2, em2⟩ : ∃ m2 : Int, (4194305 : Int) + (m : Int) = m2 := ⟨_, rfl⟩
  have wm1 : IntKind.i64.wrap m1 = m1 := by rw [IntKind.wrap_i64]; omega
  have wm2 : IntKind.i64.wrap m2 = m2 := by rw [IntKind.wrap_i64]; omega
  have R3 : Hid (∀ W v, By W v Kz y → Calls Try.prog 16 #[v, .agg #[.int .u64 0, .int .u64 0, .int .u64 0, .int .u64 0], .int .i64 m1] W fun e w' => e = .returned (.tuple #[.slice none 0 0, .int .i64 1]) ∧ Below W.heap.size W w') := fun W v h => row_bad W v Kz y 0 0 0 0 m1 h isW_0.self ⟨by omega, by omega⟩ (by omega)
  have R4 : Hid (∀ W, Calls Try.prog 16 #[.slice none 0 0, .agg #[.int .u64 0, .int .u64 0, .int .u64 0, .int .u64 0], .int .i64 m2] W fun e w' => e = .returned (.tuple #[.slice none 0 0, .int .i64 1]) ∧ Below W.heap.size W w') := fun W => row_bad W (.slice none 0 0) 0 (fun _ => 0) 0 0 0 0 m2 ⟨none, 0, rfl, by omega, by omega, fun h => absurd h (by omega)⟩ isW_0.self ⟨by omega, by omega⟩ (by omega)
  have EY : Hid (lay u Kz = y) := ey
  clear hb hK hm i1 i2 ey hk
  go_enter Try.func8, Try.ntmps8
  go_upto_region 3 with (go_at_call 15; refine (Calls.mono LD.out) ?_; rintro e v ⟨g, c, rfl, hc, hO, hg, hB⟩)
  have M1 : Hid (ByC v g 0 (Kz + 75) y ∧ Below w.heap.size w v ∧ Kz + 75 ≤ c) := ⟨fun i hi => by rw [← EY.out, Nat.zero_add, hO.cellAt i (by omega), bD_at _ _ _ hi], hB, hc⟩
  clear hc hO hg hB LD EY
  go_upto_region 6 with fail
  have BYv : Hid (∀ W, ByC W g 0 (Kz + 75) y → By W (.slice (some ⟨g, 0, none⟩) Kz c) Kz y) := fun W h => ⟨_, c, rfl, by have := M1.out.2.2; omega, by have := K7.out; omega, fun _ => ⟨g, 0, rfl, fun i hi => h i (by omega)⟩⟩
  go_upto_region 7 with (go_at_call 16; refine (R1.out _ _ (BYv.out _ M1.out.1)).mono ?_; rintro e v1 ⟨g1, rfl, hc, hB⟩)
  have M2 : Hid (ByC v1 g 0 (Kz + 75) y ∧ Below w.heap.size w v1 ∧ CB v1 g1 (bD (fun i => if kk + i < Kz then y (kk + i) else 0) m)) := ⟨M1.out.1.past hB, M1.out.2.1.trans (hB.mono M1.out.2.1.size), hc⟩
  have CL : Hid (Kz + 75 ≤ c) := M1.out.2.2
  clear hc hB M1
  go_upto_region 8 with (go_at_call 16; refine (R2.out _ _ (BYv.out _ M2.out.1)).mono ?_; rintro e v2 ⟨g2, rfl, hc, hB⟩)
  have M3 : Hid (ByC v2 g 0 (Kz + 75) y ∧ Below w.heap.size w v2 ∧ CB v2 g1 (bD (fun i => if kk + i < Kz then y (kk + i) else 0) m) ∧ CB v2 g2 (bD (fun _ => 0) m)) := ⟨M2.out.1.past hB, M2.out.2.1.trans (hB.mono M2.out.2.1.size), M2.out.2.2.past hB, hc⟩
  clear hc hB M2 R1 R2
  go_upto_region 10 with fail
  go_wp2
  go_loopw [13] (fun si wr => ∃ i : Nat, si = .int .i64 (i : Int) ∧ i ≤ m ∧ wr = v2) (fun si _ => m - (intOf si).toNat)
  case atStart => exact ⟨0, rfl, by omega, rfl⟩
  case round =>
    obtain ⟨i, rfl, hi, rfl⟩ := hrel
    by_cases e : i < m
    · have iI : (i : Int) < (m : Int) := by omega
      have d1 := M3.out.2.2.1.cell i
      rw [bD_at _ _ _ e] at d1
      have d2 := M3.out.2.2.2.cell i
      rw [bD_at _ _ _ e] at d2
      have d2' : wr.cell? ⟨g2, i, none⟩ = some (.int .u8 0) := d2
      have MX : Hid (i + 1 ≤ m) := e
      clear d2
      by_cases c1 : kk < Kz
      · have c1I : (kk : Int) < (Kz : Int) := by omega
        obtain ⟨d, ed⟩ : ∃ d : Nat, d + kk = Kz := ⟨Kz - kk, by omega⟩
        have dI : (Kz : Int) - (kk : Int) = (d : Int) := by omega
        have dw : IntKind.i64.wrap (d : Int) = (d : Int) := by rw [IntKind.wrap_i64]; omega
        by_cases c2 : i < d
        · have c2I : (i : Int) < (d : Int) := by omega
          obtain ⟨q, eq⟩ : ∃ q : Nat, q = kk + i := ⟨_, rfl⟩
          have c3 := M3.out.1 q (by omega)
          rw [Nat.zero_add] at c3
          rw [if_pos (by omega), ← eq] at d1
          have qI : (kk : Int) + (i : Int) = (q : Int) := by omega
          have qw : IntKind.i64.wrap (q : Int) = (q : Int) := by rw [IntKind.wrap_i64]; omega
          have qK : (q : Int) < (Kz : Int) := by omega
          generalize y q = z at c3 d1
          clear ed eq
          go_wp2
          go_roundw
          case rel => exact ⟨i + 1, by go_num, MX.out, trivial⟩
          case measure => simp [intOf]; omega
        · have c2I : ¬ (i : Int) < (d : Int) := by omega
          rw [if_neg (by omega)] at d1
          have d1' : wr.cell? ⟨g1, i, none⟩ = some (.int .u8 0) := d1
          clear d1 ed
          go_wp2
          go_roundw
          case rel => exact ⟨i + 1, by go_num, MX.out, trivial⟩
          case measure => simp [intOf]; omega
      · have c1I : ¬ (kk : Int) < (Kz : Int) := by omega
        rw [if_neg (by omega)] at d1
        have d1' : wr.cell? ⟨g1, i, none⟩ = some (.int .u8 0) := d1
        clear d1
        go_wp2
        go_roundw
        case rel => exact ⟨i + 1, by go_num, MX.out, trivial⟩
        case measure => simp [intOf]; omega
    · have iI : ¬ (i : Int) < (m : Int) := by omega
      go_upto_region 19 with (go_at_call 16; refine (R3.out _ _ (BYv.out _ M3.out.1)).mono ?_; rintro e v3 ⟨rfl, hB⟩)
      have B3 : Hid (Below w.heap.size w v3) := M3.out.2.1.trans (hB.mono M3.out.2.1.size)
      clear hB M3 BYv R3
      go_upto_region 20 with (go_at_call 16; refine (R4.out _).mono ?_; rintro e v4 ⟨rfl, hB⟩)
      have B4 : Hid (Below w.heap.size w v4) := B3.out.trans (hB.mono B3.out.size)
      clear hB B3 R4
      go_wp2_with (go_at_call 14; refine (wrote_is _).mono ?_; rintro e v9 ⟨rfl, hB9⟩)
      go_ret
      exact ⟨rfl, B4.out.trans (hB9.mono B4.out.size)⟩
theorem machRowed_walk (w : World) (vb : Value) (n : Nat) (u : Nat → Nat) (z1 z2 : Int) (hb : By w vb n u) (_ : True) (h1 : -9223372036854775808 ≤ z1 ∧ z1 ≤ 9223372036854775807) (_ : -9223372036854775808 ≤ z2 ∧ z2 ≤ 9223372036854775807) : Calls Try.prog 8 #[vb, .int .i64 z1, .int .i64 z2] w fun e w' => e = .returned (.bool true) ∧ Below w.heap.size w w' := by
  have hs : bits .and .i64 z2 4095 = (((z2 % 4096).toNat : Nat) : Int) := by rw [i64_and4095]; omega
  by_cases h : z1 < 0
  · exact machRowed_neg w vb n _ u z1 z2 (z2 % 4096).toNat (-(z1 + 1)).toNat h (by rw [IntKind.wrap_i64]; omega) (by omega) (by rw [IntKind.wrap_i64]; omega) hb rfl hs (by omega) (by omega)
  · obtain ⟨kk, rfl⟩ : ∃ kk : Nat, z1 = (kk : Int) := ⟨z1.toNat, by omega⟩
    exact machRowed_pos w vb n _ u z2 (z2 % 4096).toNat kk hb rfl hs (by omega) h1.2
end Go.Proofs.Ytlemnjhdnciddaa
