/- The document's numbers: rows of digits of base 256. -/
import Derived.Test.YtlemnjhdnciddaaWa
import Derived.Test.YtlemnjhdnciddaaXm
import Derived.OwnWalk
import Derived.Laws.AppendOwnNone
import Derived.Laws.OwnMore
import Derived.Deep.CutRange
import Derived.Deep.DeepCutAuto
namespace Go.Proofs.Ytlemnjhdnciddaa
open Go.RowKit
/-- the number of the first n digits -/
def dsum (d : Nat → Nat) : Nat → Nat
  | 0 => 0
  | n + 1 => dsum d n + d n * 256 ^ n
theorem dsum_lt {d : Nat → Nat} (h : ∀ i, d i < 256) : ∀ n, dsum d n < 256 ^ n
  | 0 => by simp [dsum]
  | n + 1 => by
    have h1 := dsum_lt h n
    have h2 : (d n + 1) * 256 ^ n ≤ 256 * 256 ^ n := Nat.mul_le_mul_right _ (h n)
    rw [Nat.add_mul, Nat.one_mul] at h2
    rw [dsum, Nat.pow_succ, Nat.mul_comm (256 ^ n) 256]; omega
theorem dsum_ext {d e : Nat → Nat} : ∀ n, (∀ i, i < n → d i = e i) → dsum d n = dsum e n
  | 0, _ => rfl
  | n + 1, h => by rw [dsum, dsum, dsum_ext n (fun i hi => h i (by omega)), h n (by omega)]
theorem dsum_more {d : Nat → Nat} {n : Nat} (h : ∀ i, n ≤ i → d i = 0) : ∀ m, n ≤ m → dsum d m = dsum d n
  | 0, hm => by rw [show n = 0 by omega]
  | m + 1, hm => by
    by_cases e : n = m + 1
    · rw [e]
    · rw [dsum, h m (by omega), Nat.zero_mul, Nat.add_zero, dsum_more h m (by omega)]
theorem dsum_zero {d : Nat → Nat} : ∀ n, (∀ i, i < n → d i = 0) → dsum d n = 0
  | 0, _ => rfl
  | n + 1, h => by rw [dsum, dsum_zero n (fun i hi => h i (by omega)), h n (by omega)]; simp
/-- above j the digits agree -/
theorem dsum_agree {d e : Nat → Nat} (j : Nat) : ∀ n, j ≤ n → (∀ i, j ≤ i → i < n → d i = e i) → dsum d n + dsum e j = dsum e n + dsum d j
  | 0, hn, _ => by obtain rfl : j = 0 := by omega
                   rfl
  | n + 1, hn, h => by
    by_cases q : j = n + 1
    · subst q; omega
    · have := dsum_agree j n (by omega) (fun i h1 h2 => h i h1 (by omega))
      rw [dsum, dsum, h n (by omega) (by omega)]; omega
theorem dsum_less {d e : Nat → Nat} (hd : ∀ i, d i < 256) (j n : Nat) (hj : j < n) (hlt : d j < e j) (h : ∀ i, j + 1 ≤ i → i < n → d i = e i) : dsum d n < dsum e n := by
  have h1 := dsum_agree (j + 1) n (by omega) h
  have h2 := dsum_lt hd j
  have h3 : (d j + 1) * 256 ^ j ≤ e j * 256 ^ j := Nat.mul_le_mul_right _ hlt
  rw [Nat.add_mul, Nat.one_mul] at h3
  have h4 : dsum d (j + 1) < dsum e (j + 1) := by rw [dsum, dsum]; omega
  omega
/-- the digits of a number -/
def dig (X : Nat) (i : Nat) : Nat := if i < 32 then X / 256 ^ i % 256 else 0
theorem dig_lt (X i : Nat) : dig X i < 256 := by unfold dig; split <;> omega
theorem dig_sum (X : Nat) : ∀ n, n ≤ 32 → dsum (dig X) n = X % 256 ^ n
  | 0, _ => by simp [dsum, Nat.mod_one]
  | n + 1, h => by
    rw [dsum, dig_sum X n (by omega), dig, if_pos (by omega), Nat.pow_succ, Nat.mod_mul, Nat.mul_comm (256 ^ n)]
/-- the value is a row of these n digits -/
def RowAt (W : World) (v : Value) (n : Nat) (d : Nat → Nat) : Prop := (∀ i, n ≤ i → d i = 0) ∧ (∀ i, d i < 256) ∧ n ≤ 1073741824 ∧ ∃ ad cap, v = .slice ad n cap ∧ (n ≠ 0 → ∃ g o, ad = some ⟨g, o, none⟩ ∧ ∀ i, i < n → W.cell? ⟨g, o + i, none⟩ = some (.int .i64 (d i : Int)))
theorem RowAt.below {W W' : World} {v : Value} {n : Nat} {d : Nat → Nat} (h : RowAt W v n d) (k : Below W.heap.size W W') : RowAt W' v n d := by
  obtain ⟨h1, h2, h3, ad, cap, e, hc⟩ := h
  refine ⟨h1, h2, h3, ad, cap, e, fun hn => ?_⟩
  obtain ⟨g, o, e1, hc⟩ := hc hn
  exact ⟨g, o, e1, fun i hi => (k.cell (p := ⟨g, o + i, none⟩) (World.block_lt_of_cell? W _ (hc i hi))).trans (hc i hi)⟩
def intsD (d : Nat → Nat) (n : Nat) : List Value := (List.range n).map fun i => .int .i64 (d i : Int)
theorem intsD_snoc (d : Nat → Nat) (n : Nat) : intsD d (n + 1) = intsD d n ++ [.int .i64 (d n : Int)] := by simp [intsD, List.range_succ]
theorem intsD_at (d : Nat → Nat) (n i : Nat) (h : i < n) : (intsD d n)[i]? = some (.int .i64 (d i : Int)) := by simp [intsD, h]
theorem RowAt.own {W : World} {B n : Nat} {v : Value} {d : Nat → Nat} (h : W.ownsRow B 3 1 v n (intsD d n)) (hd : ∀ i, d i < 256) (hz : ∀ i, n ≤ i → d i = 0) (hn : n ≤ 1073741824) : RowAt W v n d := by
  have h' := h
  obtain ⟨_, ⟨rfl, rfl⟩ | ⟨g, c, cur, rfl, hb, hh, _⟩⟩ := h'
  · exact ⟨hz, hd, hn, none, 0, rfl, fun e => absurd rfl e⟩
  · exact ⟨hz, hd, hn, _, c, rfl, fun _ => ⟨g, 0, rfl, fun i hi => by rw [Nat.zero_add, h.cellAt i (by omega), intsD_at d n i hi]⟩⟩
theorem Try.infoI : (Try.prog.info? 3).map (fun i => (i.zero, i.size, i.bytes)) = some (some (.int .i64 0), 1, 8) := by kernel_rfl
set_option maxHeartbeats 400000 in
theorem digit_is (W : World) (v : Value) (n : Nat) (d : Nat → Nat) (i : Nat) (h : RowAt W v n d) : Calls Try.prog 105 #[v, .int .i64 (i : Int)] W fun e w' => e = .returned (.int .i64 (d i : Int)) ∧ w' = W := by
  obtain ⟨hz, _, hn, ad, cap, rfl, hc⟩ := h
  by_cases hi : i < n
  · obtain ⟨g, o, rfl, hcc⟩ := hc (by omega)
    have c := hcc i hi
    have iI : (i : Int) < (n : Int) := by omega
    clear hc hcc hz
    go_enter Try.func105, Try.ntmps105
    go_wp2
    go_ret
    exact ⟨rfl, rfl⟩
  · have iI : ¬ ((i : Int) < (n : Int)) := by omega
    rw [hz i (by omega)]
    clear hc hz
    go_enter Try.func105, Try.ntmps105
    go_wp2
    go_ret
    exact ⟨rfl, rfl⟩
set_option maxHeartbeats 400000 in
theorem longer_is (W : World) (ad bd : Option Addr) (n m c1 c2 : Nat) : Calls Try.prog 104 #[.slice ad n c1, .slice bd m c2] W fun e w' => e = .returned (.int .i64 ((max n m : Nat) : Int)) ∧ w' = W := by
  by_cases hi : m < n
  · have iI : (m : Int) < (n : Int) := by omega
    rw [show max n m = n by omega]
    go_enter Try.func104, Try.ntmps104
    go_wp2
    go_ret
    exact ⟨rfl, rfl⟩
  · have iI : ¬ ((m : Int) < (n : Int)) := by omega
    rw [show max n m = m by omega]
    go_enter Try.func104, Try.ntmps104
    go_wp2
    go_ret
    exact ⟨rfl, rfl⟩
set_option maxHeartbeats 1000000 in
theorem compare_is (W : World) (v u : Value) (n m : Nat) (d e : Nat → Nat) (hv : RowAt W v n d) (hu : RowAt W u m e) (N : Nat) (hN : max n m ≤ N) :
    Calls Try.prog 78 #[v, u] W fun r w' => r = .returned (.int .i64 (cmpv (dsum d N : Int) (dsum e N : Int))) ∧ w' = W := by
  have HV : Hid (RowAt W v n d) := hv
  have HU : Hid (RowAt W u m e) := hu
  obtain ⟨hz, hd, hn, ad, cap, rfl, _⟩ := hv
  obtain ⟨hz', hd', hn', bd, cap', rfl, _⟩ := hu
  obtain ⟨K, eK⟩ : ∃ K, K = max n m := ⟨_, rfl⟩
  have e1 : dsum d N = dsum d K := dsum_more (fun i hi => hz i (by omega)) N (by omega)
  have e2 : dsum e N = dsum e K := dsum_more (fun i hi => hz' i (by omega)) N (by omega)
  rw [e1, e2]
  have HD : Hid _ := hd
  have HE : Hid _ := hd'
  have LG : Hid (Calls Try.prog 104 #[.slice ad n cap, .slice bd m cap'] W fun e w' => e = .returned (.int .i64 (K : Int)) ∧ w' = W) := by rw [eK]; exact longer_is W ad bd n m cap cap'
  have kI : (K : Int) ≤ 1073741824 := by omega
  clear hz hz' hd hd' e1 e2 eK hN
  go_enter Try.func78, Try.ntmps78
  go_wp2_with (go_at_call 104; refine Calls.mono LG.out ?_; rintro e0 w' ⟨rfl, hw⟩; (have hw2 := hw.symm); clear hw; subst hw2)
  go_loop [5] (fun s => ∃ j : Nat, s = .int .i64 ((j : Int) - 1) ∧ j ≤ K ∧ (∀ i, j ≤ i → i < K → d i = e i)) (fun s => (intOf s + 1).toNat)
  case atStart => exact ⟨K, rfl, Nat.le_refl _, fun i h1 h2 => by omega⟩
  case round =>
    obtain ⟨j, rfl, hj, hag⟩ := hrel
    have HAG : Hid _ := hag
    clear hag
    rcases j with _ | j
    · go_wp2
      go_ret
      refine ⟨ret_int ?_, rfl⟩
      rw [dsum_ext K (fun i hi => HAG.out i (by omega) hi)]; simp [cmpv]
    · rw [show ((j + 1 : Nat) : Int) - 1 = (j : Int) by omega]
      have jI : (0 : Int) ≤ (j : Int) := by omega
      obtain ⟨x, ex⟩ : ∃ x, x = d j := ⟨_, rfl⟩
      obtain ⟨y, ey⟩ : ∃ y, y = e j := ⟨_, rfl⟩
      have D1 : Hid (Calls Try.prog 105 #[.slice ad n cap, .int .i64 (j : Int)] W fun e w' => e = .returned (.int .i64 (x : Int)) ∧ w' = W) := by rw [ex]; exact digit_is W _ n d j HV.out
      have D2 : Hid (Calls Try.prog 105 #[.slice bd m cap', .int .i64 (j : Int)] W fun e w' => e = .returned (.int .i64 (y : Int)) ∧ w' = W) := by rw [ey]; exact digit_is W _ m e j HU.out
      have EX : Hid _ := ex
      have EY : Hid _ := ey
      clear ex ey
      go_upto_region 5 with (go_at_call 105; refine Calls.mono D1.out ?_; rintro e0 w' ⟨rfl, hw⟩; (have hw2 := hw.symm); clear hw; subst hw2)
      go_upto_region 6 with (go_at_call 105; refine Calls.mono D2.out ?_; rintro e0 w' ⟨rfl, hw⟩; (have hw2 := hw.symm); clear hw; subst hw2)
      by_cases h1 : x < y
      · have xI : (x : Int) < (y : Int) := by omega
        go_wp2
        go_ret
        refine ⟨ret_int ?_, rfl⟩
        have := dsum_less HD.out j K (by omega) (by rw [← EX.out, ← EY.out]; exact h1) (fun i h1 h2 => HAG.out i (by omega) h2)
        rw [cmpv, if_pos (by omega)]
      · by_cases h2 : y < x
        · have xI : (y : Int) < (x : Int) := by omega
          have xI2 : ¬ ((x : Int) < (y : Int)) := by omega
          go_wp2
          go_ret
          refine ⟨ret_int ?_, rfl⟩
          have := dsum_less HE.out j K (by omega) (by rw [← EX.out, ← EY.out]; exact h2) (fun i h1 h2 => (HAG.out i (by omega) h2).symm)
          rw [cmpv, if_neg (by omega), if_pos (by omega)]
        · obtain rfl : x = y := by omega
          have xI2 : ¬ ((x : Int) < (x : Int)) := by omega
          go_wp2
          go_round
          case rel => exact ⟨j, rfl, by omega, fun i h1 h2 => by by_cases q : i = j; (rw [q, ← EX.out, ← EY.out]); exact HAG.out i (by omega) h2⟩
          case measure => simp [intOf]
end Go.Proofs.Ytlemnjhdnciddaa
