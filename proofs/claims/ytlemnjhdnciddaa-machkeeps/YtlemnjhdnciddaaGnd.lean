/- A memory of package mach: NewMemory, Grow. -/
import Derived.Test.YtlemnjhdnciddaaGnc
namespace Go.Proofs.Ytlemnjhdnciddaa
open Go.RowKit
def upN (k : Nat) : Nat := (k + 31) / 32 * 32
/-- how many bytes there are behind Grow; the error -/
def grN (n : Nat) (tz : Int) : Nat := if tz < 0 ∨ 4194304 < tz then n else max n (upN tz.toNat)
def grE (tz : Int) : Int := if tz < 0 then 1 else if 4194304 < tz then 92 else 0
def grU (u : Nat → Nat) (n i : Nat) : Nat := if i < n then u i else 0
/-- what is there behind Grow -/
def GrRes (w w' : World) (b B : Nat) (ad : Option Addr) (n : Nat) (u : Nat → Nat) : Prop := ∃ ad' cap', Mem w' b B ad' n cap' u ∧ Off b ad w w' ∧ NewR w ad ad'
theorem Off.grown {b : Nat} {ad : Option Addr} {n cap : Nat} {w w' : World} (h : w.grownBy w' (Value.slice ad n cap).ownBlock) : Off b ad w w' := ⟨h.os, h.tape, h.output, h.size, fun k hk _ h2 => h.block k hk (by
  cases ad with
  | none => simp [Value.ownBlock]
  | some a => intro e; exact h2 a rfl (by simpa [Value.ownBlock] using e))⟩
theorem Off.set {b : Nat} {ad : Option Addr} {w w' : World} (h : Off b ad w w') (x : Value) : Off b ad w (w'.setCell ⟨b, 0, none⟩ x) :=
  ⟨h.os, h.tape, h.output, by simpa [World.setCell] using h.size, fun k hk h1 h2 => (Below.heap_setCell _ _ _ _ h1).trans (h.block k hk h1 h2)⟩
theorem own_setBox {W : World} {B b n : Nat} {v x : Value} {xs : List Value} (h : W.ownsRow B 5 1 v n xs) (hb : b < B) : (W.setCell ⟨b, 0, none⟩ x).ownsRow B 5 1 v n xs :=
  h.kept (row := some b) ⟨rfl, rfl, rfl, by simp [World.setCell], fun k _ hne => Below.heap_setCell _ _ _ _ (fun e => hne (by rw [e]))⟩ (by
    cases e : v.ownBlock with
    | none => exact Or.inl rfl
    | some q => exact Or.inr (by intro e2; have := (h.lt q e).1; rw [Option.some.inj e2] at this; omega))
set_option maxHeartbeats 1000000 in
theorem newMemory_is (w : World) : Calls Try.prog 19 #[] w fun e w' => e = .returned (.pointer (some ⟨w.heap.size, 0, none⟩)) ∧ Mem w' w.heap.size w'.heap.size none 0 0 (fun _ => 0) ∧ Below w.heap.size w w' := by
  have HB : Hid (Mem (w.alloc (.cells #[.slice none 0 0] 75)) w.heap.size (w.alloc (.cells #[.slice none 0 0] 75)).heap.size none 0 0 (fun _ => 0) ∧ Below w.heap.size w (w.alloc (.cells #[.slice none 0 0] 75))) := ⟨⟨by simp [World.cell?_alloc_at], by simp [World.frozen?_alloc_at], World.ownsRow_nil _ _ _ _, by simp, Nat.le_refl _, by omega⟩, (Below.refl _ _).alloc (Nat.le_refl _) _⟩
  go_enter Try.func19, Try.ntmps19
  go_wp2
  go_ret
  exact ⟨rfl, HB.out⟩
set_option maxHeartbeats 2000000 in
set_option maxRecDepth 100000 in
theorem grow_is (w : World) (b B : Nat) (ad : Option Addr) (n cap : Nat) (u : Nat → Nat) (h : Mem w b B ad n cap u) (tz : Int) : Calls Try.prog 20 #[.pointer (some ⟨b, 0, none⟩), .int .i64 tz] w fun e w' => e = .returned (.int .i64 (grE tz)) ∧ GrRes w w' b B ad (grN n tz) (grU u n) := by
  have HM : Hid (Mem w b B ad n cap (grU u n)) := h.ext fun i hi => by unfold grU; rw [if_pos hi]
  have hb := h.lt
  have nI : (n : Int) ≤ 4194304 := by have := h.le; omega
  by_cases c0 : tz < 0
  · rw [show grE tz = 1 by unfold grE; rw [if_pos c0], show grN n tz = n by unfold grN; rw [if_pos (Or.inl c0)]]
    clear h
    go_enter Try.func20, Try.ntmps20
    go_wp2
    go_ret
    exact ⟨rfl, ad, cap, HM.out, Off.refl _ _ _, Or.inl rfl⟩
  by_cases c1 : 4194304 < tz
  · rw [show grE tz = 92 by unfold grE; rw [if_neg c0, if_pos c1], show grN n tz = n by unfold grN; rw [if_pos (Or.inr c1)]]
    clear h
    go_enter Try.func20, Try.ntmps20
    go_wp2
    go_ret
    exact ⟨rfl, ad, cap, HM.out, Off.refl _ _ _, Or.inl rfl⟩
  obtain ⟨t, rfl⟩ : ∃ t : Nat, tz = (t : Int) := ⟨tz.toNat, by omega⟩
  rw [show grE (t : Int) = 0 by unfold grE; rw [if_neg c0, if_neg c1], show grN n (t : Int) = max n (upN t) by unfold grN; rw [if_neg (by omega), Int.toNat_natCast]]
  have hup : upN t ≤ 4194304 := by unfold upN; omega
  have LN : Hid (Calls Try.prog 12 #[.pointer (some ⟨b, 0, none⟩)] w fun e w' => e = .returned (.int .i64 (n : Int)) ∧ w' = w) := len_is w b B ad n cap u h
  have RD : Hid (Calls Try.prog 47 #[.int .i64 (t : Int)] w fun e w' => e = .returned (.int .i64 (upN t : Int)) ∧ w' = w) := rounded_is w t (by omega)
  generalize upN t = r at *
  have rI : (r : Int) ≤ 4194304 := by omega
  by_cases hr : n < r
  · rw [show max n r = r by omega]
    obtain ⟨k, ek⟩ : ∃ k : Nat, r = n + k := ⟨r - n, by omega⟩
    have s1 : (r : Int) - (n : Int) = (k : Int) := by omega
    have s2 : IntKind.i64.wrap (k : Int) = (k : Int) := by rw [IntKind.wrap_i64]; omega
    have s3 : (0 : Int) < (k : Int) := by omega
    have hz : ∀ ty : TypeId, ∃ ad' cap' W', (Builtin.append_ #[31, 3] ty #[.slice ad n cap, .int .i64 (k : Int)]).run Try.prog w = .ok (.slice ad' (n + k) cap') W' ∧ W'.ownsRow B 5 1 (.slice ad' (n + k) cap') (n + k) (bD (fun i => if i < n then u i else 0) (n + k)) ∧ w.grownBy W' (Value.slice ad n cap).ownBlock ∧ NewR w ad ad' := fun ty => append_zeros w B n k ad cap u ty h.own h.sz (by omega) (by omega)
    have HZ : Hid _ := hz
    have c := h.c
    have HS : Hid (Mem w b B ad n cap u) := h
    have EK : Hid (r = n + k) := ek
    clear h hz ek hup
    go_enter Try.func20, Try.ntmps20
    go_upto_region 6 with (first | (go_at_call 47; refine (RD.out).mono ?_; rintro e w' ⟨rfl, hw⟩; (have hw2 := hw.symm); clear hw; subst hw2) | (go_at_call 12; refine (LN.out).mono ?_; rintro e w' ⟨rfl, hw⟩; (have hw2 := hw.symm); clear hw; subst hw2))
    obtain ⟨ad', cap', W1, hrun, hown, hgr, hnw⟩ := HZ.out 31
    have HNW : Hid (NewR w ad ad') := hnw
    clear hnw
    have hcb : W1.heap[b]? = w.heap[b]? := hgr.block b hb (by
      intro e
      have := (HS.out.own.lt b e.symm).1
      have := HS.out.bb
      omega)
    have d1 : W1.cell? ⟨b, 0, none⟩ = some (.slice ad n cap) := (World.cell?_of_block (w := w) hcb).trans c
    have d2 : W1.frozen? ⟨b, 0, none⟩ = false := (World.frozen?_of_block (w := w) hcb).trans HS.out.f
    have HF : Hid (Mem (W1.setCell ⟨b, 0, none⟩ (.slice ad' (n + k) cap')) b B ad' r cap' (grU u n) ∧ Off b ad w (W1.setCell ⟨b, 0, none⟩ (.slice ad' (n + k) cap'))) := by
      have e9 := EK.out
      subst e9
      refine ⟨⟨World.cell?_setCell_same _ _ _ d1, by rw [World.frozen?_setCell]; exact d2, own_setBox hown HS.out.bb, HS.out.bb, by have := hgr.size; have := HS.out.sz; simp [World.setCell]; omega, by omega⟩, (Off.grown hgr).set _⟩
    clear hown hgr hcb
    go_wp2_with (at_builtin; refine Lib.wpList_append_run _ rfl _ _ _ _ rfl _ _ rfl rfl _ _ hrun ?_)
    go_ret
    exact ⟨rfl, ad', cap', HF.out.1, HF.out.2, HNW.out⟩
  · rw [show max n r = n by omega]
    have s1 : ¬ (0 : Int) < (r : Int) - (n : Int) := by omega
    clear h hup
    go_enter Try.func20, Try.ntmps20
    go_upto_region 6 with (first | (go_at_call 47; refine (RD.out).mono ?_; rintro e w' ⟨rfl, hw⟩; (have hw2 := hw.symm); clear hw; subst hw2) | (go_at_call 12; refine (LN.out).mono ?_; rintro e w' ⟨rfl, hw⟩; (have hw2 := hw.symm); clear hw; subst hw2))
    go_wp2
    go_ret
    exact ⟨rfl, ad, cap, HM.out, Off.refl _ _ _, Or.inl rfl⟩
end Go.Proofs.Ytlemnjhdnciddaa
