/- A memory of package mach: what it is; Len, look, Store8, Read. -/
import Derived.Test.YtlemnjhdnciddaaGms
namespace Go.Proofs.Ytlemnjhdnciddaa
open Go.RowKit
/-- block b holds the memory of these n bytes, in a row of its own -/
structure Mem (W : World) (b B : Nat) (ad : Option Addr) (n cap : Nat) (u : Nat → Nat) : Prop where
  c : W.cell? ⟨b, 0, none⟩ = some (.slice ad n cap)
  f : W.frozen? ⟨b, 0, none⟩ = false
  own : W.ownsRow B 5 1 (.slice ad n cap) n (bD u n)
  bb : b < B
  sz : B ≤ W.heap.size
  le : n ≤ 4194304
/-- all but block b and the row at ad is as it was -/
structure Off (b : Nat) (ad : Option Addr) (w w' : World) : Prop where
  os : w'.os = w.os
  tape : w'.tape = w.tape
  output : w'.output = w.output
  size : w.heap.size ≤ w'.heap.size
  block : ∀ k, k < w.heap.size → k ≠ b → (∀ a, ad = some a → k ≠ a.block) → w'.heap[k]? = w.heap[k]?
theorem Off.refl (b : Nat) (ad : Option Addr) (w : World) : Off b ad w w := ⟨rfl, rfl, rfl, Nat.le_refl _, fun _ _ _ _ => rfl⟩
theorem Off.of_below {b : Nat} {ad : Option Addr} {w w' : World} (h : Below w.heap.size w w') : Off b ad w w' := ⟨h.os, h.tape, h.output, h.size, fun k hk _ _ => h.block k hk⟩
theorem Mem.lt {W : World} {b B : Nat} {ad : Option Addr} {n cap : Nat} {u : Nat → Nat} (h : Mem W b B ad n cap u) : b < W.heap.size := World.block_lt_of_cell? W _ h.c
theorem Mem.past {W W' : World} {b B : Nat} {ad : Option Addr} {n cap : Nat} {u : Nat → Nat} (h : Mem W b B ad n cap u) (k : Below W.heap.size W W') : Mem W' b B ad n cap u :=
  ⟨(k.cell (p := ⟨b, 0, none⟩) h.lt).trans h.c, (k.frozen (p := ⟨b, 0, none⟩) h.lt).trans h.f, h.own.kept (row := none) ⟨k.os, k.tape, k.output, k.size, fun i hi _ => k.block i hi⟩ (by cases e : (Value.slice ad n cap).ownBlock with | none => exact Or.inl rfl | some x => exact Or.inr (by simp)), h.bb, Nat.le_trans h.sz k.size, h.le⟩
theorem Mem.form {W : World} {b B : Nat} {ad : Option Addr} {n cap : Nat} {u : Nat → Nat} (h : Mem W b B ad n cap u) (hn : 0 < n) : ∃ g, ad = some ⟨g, 0, none⟩ ∧ B ≤ g ∧ n ≤ cap ∧ g < W.heap.size ∧ ∀ i, i < n → W.cell? ⟨g, i, none⟩ = some (.int .u8 (u i : Int)) ∧ W.frozen? ⟨g, i, none⟩ = false := by
  obtain ⟨g, c, e, hg, hc⟩ := owns_slice hn h.own
  injection e with e1 e2 e3
  subst e1
  subst e3
  have ho := h.own
  refine ⟨g, rfl, hg, hc, (ho.lt g rfl).2, fun i hi => ⟨?_, ho.frozenAt i⟩⟩
  rw [ho.cellAt i (by omega), bD_at u n i hi]
/-- the error of a piece -/
def lk (n : Nat) (i m : Int) : Int := if i < 0 ∨ m < 0 then 1 else if 0 < m ∧ ((n : Int) ≤ i ∨ (n : Int) - i < m) then 92 else 0
theorem lk_arg {n : Nat} {i m : Int} (h : i < 0 ∨ m < 0) : lk n i m = 1 := if_pos h
theorem lk_mem {n : Nat} {i m : Int} (h : ¬ (i < 0 ∨ m < 0)) (k : 0 < m ∧ ((n : Int) ≤ i ∨ (n : Int) - i < m)) : lk n i m = 92 := by unfold lk; rw [if_neg h, if_pos k]
theorem lk_ok {n : Nat} {i m : Int} (h : ¬ (i < 0 ∨ m < 0)) (k : ¬ (0 < m ∧ ((n : Int) ≤ i ∨ (n : Int) - i < m))) : lk n i m = 0 := by unfold lk; rw [if_neg h, if_neg k]
theorem lk_zero {n : Nat} {i m : Int} (h : lk n i m = 0) : 0 ≤ i ∧ 0 ≤ m ∧ (0 < m → i + m ≤ (n : Int)) := by unfold lk at h; split at h <;> (try split at h) <;> omega
theorem lk_vals (n : Nat) (i m : Int) : lk n i m = 0 ∨ lk n i m = 1 ∨ lk n i m = 92 := by unfold lk; split <;> (try split) <;> simp
theorem len_is (w : World) (b B : Nat) (ad : Option Addr) (n cap : Nat) (u : Nat → Nat) (h : Mem w b B ad n cap u) : Calls Try.prog 12 #[.pointer (some ⟨b, 0, none⟩)] w fun e w' => e = .returned (.int .i64 (n : Int)) ∧ w' = w := by
  have c := h.c
  go_enter Try.func12, Try.ntmps12
  go_wp2
  go_ret
  exact ⟨rfl, rfl⟩
set_option maxHeartbeats 1000000 in
theorem look_is (w : World) (b B : Nat) (ad : Option Addr) (n cap : Nat) (u : Nat → Nat) (h : Mem w b B ad n cap u) (i m : Int) (hi : i ≤ 9223372036854775807) (hm : m ≤ 9223372036854775807) : Calls Try.prog 48 #[.pointer (some ⟨b, 0, none⟩), .int .i64 i, .int .i64 m] w fun e w' => e = .returned (.int .i64 (lk n i m)) ∧ w' = w := by
  have LN : Hid (Calls Try.prog 12 #[.pointer (some ⟨b, 0, none⟩)] w fun e w' => e = .returned (.int .i64 (n : Int)) ∧ w' = w) := len_is w b B ad n cap u h
  have nI : (n : Int) ≤ 4194304 := by have := h.le; omega
  clear h
  by_cases c0 : i < 0
  · rw [lk_arg (Or.inl c0)]
    go_enter Try.func48, Try.ntmps48
    go_wp2
    go_ret
    exact ⟨rfl, rfl⟩
  by_cases c1 : m < 0
  · rw [lk_arg (Or.inr c1)]
    go_enter Try.func48, Try.ntmps48
    go_wp2
    go_ret
    exact ⟨rfl, rfl⟩
  by_cases c2 : 0 < m
  · by_cases c3 : (n : Int) ≤ i
    · rw [lk_mem (by omega) ⟨c2, Or.inl c3⟩]
      go_enter Try.func48, Try.ntmps48
      go_wp2_with (go_at_call 12; refine (LN.out).mono ?_; rintro e w' ⟨rfl, hw⟩; (have hw2 := hw.symm); clear hw; subst hw2)
      go_ret
      exact ⟨rfl, rfl⟩
    · by_cases c4 : (n : Int) - i < m
      · rw [lk_mem (by omega) ⟨c2, Or.inr c4⟩]
        go_enter Try.func48, Try.ntmps48
        go_wp2_with (go_at_call 12; refine (LN.out).mono ?_; rintro e w' ⟨rfl, hw⟩; (have hw2 := hw.symm); clear hw; subst hw2)
        go_ret
        exact ⟨rfl, rfl⟩
      · rw [lk_ok (by omega) (by omega)]
        go_enter Try.func48, Try.ntmps48
        go_wp2_with (go_at_call 12; refine (LN.out).mono ?_; rintro e w' ⟨rfl, hw⟩; (have hw2 := hw.symm); clear hw; subst hw2)
        go_ret
        exact ⟨rfl, rfl⟩
  · rw [lk_ok (by omega) (by omega)]
    go_enter Try.func48, Try.ntmps48
    go_wp2
    go_ret
    exact ⟨rfl, rfl⟩
theorem rounded_is (w : World) (k : Nat) (hk : k ≤ 4194304) : Calls Try.prog 47 #[.int .i64 (k : Int)] w fun e w' => e = .returned (.int .i64 (((k + 31) / 32 * 32 : Nat) : Int)) ∧ w' = w := by
  have kI : (k : Int) ≤ 4194304 := by omega
  have k0 : 0 ≤ (k : Int) := by omega
  go_enter Try.func47, Try.ntmps47
  go_wp2
  go_ret
  exact ⟨ret_int (by omega), rfl⟩
end Go.Proofs.Ytlemnjhdnciddaa
