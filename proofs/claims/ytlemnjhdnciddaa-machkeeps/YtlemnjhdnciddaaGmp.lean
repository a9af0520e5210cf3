/- Whether a word is a number of 64 bits: the program's answer, and the document's. -/
import Derived.Test.YtlemnjhdnciddaaGmo
import Derived.Deep.RegionHeld3
namespace Go.Proofs.Ytlemnjhdnciddaa
open Go.RowKit
structure Bz (w : World) (a0 a1 a2 a3 : Int) (b : Nat) (W : World) : Prop where
  cells : W.cell? ⟨b, 0, none⟩ = some (.int .u64 a0) ∧ W.cell? ⟨b, 1, none⟩ = some (.int .u64 a1) ∧ W.cell? ⟨b, 2, none⟩ = some (.int .u64 a2) ∧ W.cell? ⟨b, 3, none⟩ = some (.int .u64 a3) ∧ True
  bel : Below w.heap.size w W
theorem Bz.new (w : World) (a0 a1 a2 a3 : Int) : Bz w a0 a1 a2 a3 w.heap.size (w.alloc (.cells #[.int .u64 a0, .int .u64 a1, .int .u64 a2, .int .u64 a3] 30)) :=
  ⟨⟨box_cell w a0 a1 a2 a3 _ 0 (by omega), box_cell w a0 a1 a2 a3 _ 1 (by omega), box_cell w a0 a1 a2 a3 _ 2 (by omega), box_cell w a0 a1 a2 a3 _ 3 (by omega), trivial⟩, (Below.refl _ _).alloc (Nat.le_refl _) _⟩
theorem Bz.past {w W W' : World} {a0 a1 a2 a3 : Int} {b : Nat} (h : Bz w a0 a1 a2 a3 b W) (k : Below W.heap.size W W') : Bz w a0 a1 a2 a3 b W' := by
  obtain ⟨⟨c0, c1, c2, c3, _⟩, hb⟩ := h
  have l : b < W.heap.size := World.block_lt_of_cell? W _ c0
  exact ⟨⟨(k.cell (p := ⟨b, _, none⟩) l).trans c0, (k.cell (p := ⟨b, _, none⟩) l).trans c1, (k.cell (p := ⟨b, _, none⟩) l).trans c2, (k.cell (p := ⟨b, _, none⟩) l).trans c3, trivial⟩, hb.trans (k.mono hb.size)⟩
theorem Bz.drew {w W : World} {a0 a1 a2 a3 : Int} {b : Nat} (h : Bz w a0 a1 a2 a3 b W) : Bz w a0 a1 a2 a3 b W.drew := h.past ((Below.refl _ _).drew)
set_option maxHeartbeats 4000000 in
set_option maxRecDepth 100000 in
theorem rsz_r (a0 a1 a2 a3 : Int) (X n : Nat) (OA : ∀ W : World, Calls Try.prog 75 #[.agg #[.int .u64 a0, .int .u64 a1, .int .u64 a2, .int .u64 a3]] W fun e w' => ∃ v, e = .returned v ∧ RowAt w' v 32 (dig X) ∧ Below W.heap.size W w') (NL : n ≤ 32) (Z : ∀ j, n ≤ j → j < 32 → dig X j = 0) (O : 0 < n → dig X (n - 1) ≠ 0) (w : World) :
    Calls Try.prog 68 #[.agg #[.int .u64 a0, .int .u64 a1, .int .u64 a2, .int .u64 a3]] w fun e w' => e = .returned (.int .i64 (n : Int)) ∧ Below w.heap.size w w' := by
  have HOA : Hid (∀ W : World, Calls Try.prog 75 #[.agg #[.int .u64 a0, .int .u64 a1, .int .u64 a2, .int .u64 a3]] W fun e w' => ∃ v, e = .returned v ∧ RowAt w' v 32 (dig X) ∧ Below W.heap.size W w') := OA
  have HNL : Hid (n ≤ 32) := NL
  have HZ : Hid (∀ j, n ≤ j → j < 32 → dig X j = 0) := Z
  have HO : Hid (0 < n → dig X (n - 1) ≠ 0) := O
  clear OA NL Z O
  have K0 : Hid (Bz w a0 a1 a2 a3 w.heap.size (w.alloc (.cells #[.int .u64 a0, .int .u64 a1, .int .u64 a2, .int .u64 a3] 30))) := Bz.new w a0 a1 a2 a3
  go_enter Try.func68, Try.ntmps68
  go_upto_region 1 with fail
  generalize (w.alloc (.cells #[.int .u64 a0, .int .u64 a1, .int .u64 a2, .int .u64 a3] 30)) = W0 at K0 ⊢
  obtain ⟨c0, c1, c2, c3, _⟩ := K0.out.cells
  go_wp2_with (go_at_call 75; refine (HOA.out _).mono ?_; rintro e v1 ⟨rv, rfl, hrow, hB⟩; (have K1 : Hid (Below w.heap.size w v1 ∧ RowAt v1 rv 32 (dig X)) := ⟨K0.out.bel.trans (hB.mono K0.out.bel.size), hrow⟩); clear hB hrow c0 c1 c2 c3 K0)
  have K4 := K1.out.2
  obtain ⟨_, _, _, ad, cap, rfl, hc⟩ := K4
  obtain ⟨g, o, rfl, hc2⟩ := hc (by decide)
  have HC : Hid (∀ i, i < 32 → v1.cell? ⟨g, o + i, none⟩ = some (.int .i64 (dig X i : Int))) := hc2
  clear hc hc2
  go_loopw [4] (fun s wr => ∃ k : Nat, s = .int .i64 (k : Int) ∧ n ≤ k ∧ k ≤ 32 ∧ wr = v1) (fun s _ => (intOf s).toNat)
  case atStart => exact ⟨32, rfl, HNL.out, by omega, rfl⟩
  case round =>
    obtain ⟨k, rfl, hk, hk2, hw⟩ := hrel
    have hw2 := hw.symm
    clear hw
    subst hw2
    by_cases h0 : 0 < k
    · have kI : (0 : Int) < (k : Int) := by omega
      obtain ⟨q, eq⟩ : ∃ q, q = k - 1 := ⟨_, rfl⟩
      have w1 : (k : Int) - 1 = (q : Int) := by omega
      have w2 : IntKind.i64.wrap (q : Int) = (q : Int) := by rw [IntKind.wrap_i64]; omega
      have qI : (q : Int) < 32 := by omega
      have cz := HC.out q (by omega)
      by_cases hk5 : n < k
      · rw [HZ.out q (by omega) (by omega)] at cz
        have nq : n ≤ q := by omega
        have qk : q < k := by omega
        clear eq
        go_wp2
        go_roundw
        case rel => exact ⟨q, rfl, nq, by omega, trivial⟩
        case measure => simp [intOf]; omega
      · obtain rfl : k = n := by omega
        have hd := HO.out h0
        rw [← eq] at hd
        obtain ⟨d, ed⟩ : ∃ d, d = dig X q := ⟨_, rfl⟩
        rw [← ed] at cz hd
        have d0 : ((d : Int) == 0) = false := by simp; omega
        have d1 : ¬ (d : Int) = 0 := by omega
        clear eq ed hd
        go_wp2
        go_ret
        exact ⟨rfl, K1.out.1⟩
    · obtain rfl : k = 0 := by omega
      obtain rfl : n = 0 := by omega
      go_wp2
      go_ret
      exact ⟨rfl, K1.out.1⟩
theorem downN (X n : Nat) : ∀ m, (∀ j, n ≤ j → j < n + m → X / 256 ^ j % 256 = 0) → X / 256 ^ (n + m) = 0 → X / 256 ^ n = 0
  | 0, _, h => h
  | m + 1, hz, h => by
    refine downN X n m (fun j a b => hz j a (by omega)) ?_
    have h1 := hz (n + m) (by omega) (by omega)
    rw [show n + (m + 1) = n + m + 1 by omega, Nat.pow_succ, ← Nat.div_div_eq_div_mul] at h
    omega
/-- how many digits a number has -/
theorem digs_ex (X : Nat) : ∀ i, ∃ n, n ≤ i ∧ (0 < n → dig X (n - 1) ≠ 0) ∧ ∀ j, n ≤ j → j < i → dig X j = 0
  | 0 => ⟨0, by omega, fun h => absurd h (by omega), fun j a b => absurd b (by omega)⟩
  | i + 1 => by
    obtain ⟨n, h1, h2, h3⟩ := digs_ex X i
    by_cases e : dig X i = 0
    · exact ⟨n, by omega, h2, fun j a b => by
        by_cases e2 : j = i
        · rw [e2]; exact e
        · exact h3 j a (by omega)⟩
    · exact ⟨i + 1, by omega, fun _ => e, fun j a b => absurd b (by omega)⟩
/-- of 64 bits -/
def smW (a1 a2 a3 : Int) : Bool := decide (a1 = 0 ∧ a2 = 0 ∧ a3 = 0)
def loW (a0 a1 a2 a3 : Int) : Int := if a1 = 0 ∧ a2 = 0 ∧ a3 = 0 then a0 else 0
theorem digs_small {a0 a1 a2 a3 : Int} (h : IsW (V a0 a1 a2 a3) a0 a1 a2 a3) (X : Nat) (hX : V a0 a1 a2 a3 = (X : Int)) (n : Nat) (h1 : n ≤ 32) (h2 : 0 < n → dig X (n - 1) ≠ 0) (h3 : ∀ j, n ≤ j → j < 32 → dig X j = 0) : (n ≤ 8) ↔ (a1 = 0 ∧ a2 = 0 ∧ a3 = 0) := by
  have u0 := h.u0
  have u1 := h.u1
  have u2 := h.u2
  have u3 := h.u3
  have hr := V_range u0 u1 u2 u3
  have key : (a1 = 0 ∧ a2 = 0 ∧ a3 = 0) ↔ X < 256 ^ 8 := by
    rw [show (256 : Nat) ^ 8 = 18446744073709551616 by decide]
    unfold V U64 Bd at *
    omega
  rw [key]
  constructor
  · intro hn
    have hX32 : X < 256 ^ 32 := by
      have h9 := hr.2
      rw [hX] at h9
      have e9 : MM = ((256 ^ 32 : Nat) : Int) := by unfold MM; decide
      rw [e9] at h9
      exact_mod_cast h9
    have a8 : X / 256 ^ 8 = 0 := downN X 8 24 (fun j a b => by
      have h9 := h3 j (by omega) (by omega)
      unfold dig at h9
      rwa [if_pos (by omega)] at h9) (Nat.div_eq_of_lt hX32)
    rcases (Nat.div_eq_zero_iff).1 a8 with h | h
    · exact absurd h (by decide)
    · exact h
  · intro hlt
    refine Classical.byContradiction fun hn => ?_
    refine h2 (by omega) ?_
    unfold dig
    rw [if_pos (by omega), Nat.div_eq_of_lt (Nat.lt_of_lt_of_le hlt (Nat.pow_le_pow_right (by decide) (by omega)))]
set_option maxHeartbeats 1000000 in
set_option maxRecDepth 100000 in
theorem uintR_is (a0 a1 a2 a3 : Int) (w : World) (h : IsW (V a0 a1 a2 a3) a0 a1 a2 a3) : Calls Try.prog 46 #[.agg #[.int .u64 a0, .int .u64 a1, .int .u64 a2, .int .u64 a3]] w fun e w' => e = .returned (.tuple #[.int .u64 (loW a0 a1 a2 a3), .bool (smW a1 a2 a3)]) ∧ Below w.heap.size w w' := by
  have hr := V_range h.u0 h.u1 h.u2 h.u3
  obtain ⟨X, hX⟩ := Int.eq_ofNat_of_zero_le hr.1
  obtain ⟨n, h1, h2, h3⟩ := digs_ex X 32
  have hs := digs_small h X hX n h1 h2 h3
  have SZ : Hid (∀ W, Calls Try.prog 68 #[.agg #[.int .u64 a0, .int .u64 a1, .int .u64 a2, .int .u64 a3]] W fun e w' => e = .returned (.int .i64 (n : Int)) ∧ Below W.heap.size W w') := fun W => rsz_r a0 a1 a2 a3 X n (fun W => of_is _ a0 a1 a2 a3 W h X hX) h1 h3 h2 W
  have K0 : Hid (Bz w a0 a1 a2 a3 w.heap.size (w.alloc (.cells #[.int .u64 a0, .int .u64 a1, .int .u64 a2, .int .u64 a3] 30))) := Bz.new w a0 a1 a2 a3
  have nI : (n : Int) ≤ 32 := by omega
  by_cases hn : n ≤ 8
  · have e1 : smW a1 a2 a3 = true := by unfold smW; simp only [decide_eq_true_eq]; exact hs.1 hn
    have e2 : loW a0 a1 a2 a3 = a0 := by unfold loW; rw [if_pos (hs.1 hn)]
    rw [e1, e2]
    have n8 : ¬ (8 : Int) < (n : Int) := by omega
    clear hs h1 h2 h3 hr hX h hn e1 e2
    go_enter Try.func46, Try.ntmps46
    go_upto_region 1 with fail
    generalize (w.alloc (.cells #[.int .u64 a0, .int .u64 a1, .int .u64 a2, .int .u64 a3] 30)) = W0 at K0 ⊢
    obtain ⟨c0, c1, c2, c3, _⟩ := K0.out.cells
    go_wp2_with (go_at_call 68; refine (SZ.out _).mono ?_; rintro e v1 ⟨rfl, hB⟩; (have K1 := K0.out.past hB); (obtain ⟨d0, d1, d2, d3, _⟩ := K1.cells); (have HB : Hid (Below w.heap.size w v1) := K1.bel); clear hB K1 c0 c1 c2 c3 K0)
    go_ret2
    exact ⟨rfl, HB.out⟩
  · have e1 : smW a1 a2 a3 = false := by unfold smW; simp only [decide_eq_false_iff_not]; exact fun h => hn (hs.2 h)
    have e2 : loW a0 a1 a2 a3 = 0 := by unfold loW; rw [if_neg (fun h => hn (hs.2 h))]
    rw [e1, e2]
    have n8 : (8 : Int) < (n : Int) := by omega
    clear hs h1 h2 h3 hr hX h hn e1 e2
    go_enter Try.func46, Try.ntmps46
    go_upto_region 1 with fail
    generalize (w.alloc (.cells #[.int .u64 a0, .int .u64 a1, .int .u64 a2, .int .u64 a3] 30)) = W0 at K0 ⊢
    obtain ⟨c0, c1, c2, c3, _⟩ := K0.out.cells
    go_wp2_with (go_at_call 68; refine (SZ.out _).mono ?_; rintro e v1 ⟨rfl, hB⟩; (have K1 := K0.out.past hB); (have HB : Hid (Below w.heap.size w v1) := K1.bel); clear hB K1 c0 c1 c2 c3 K0)
    go_ret2
    exact ⟨rfl, HB.out⟩
end Go.Proofs.Ytlemnjhdnciddaa
