/- The document's memory: NewMemory, Len, up, lies, Grow. -/
import Derived.Test.YtlemnjhdnciddaaGnd
namespace Go.Proofs.Ytlemnjhdnciddaa
open Go.RowKit
set_option maxHeartbeats 1000000 in
theorem newMemoryR_is (w : World) : Calls Try.prog 36 #[] w fun e w' => e = .returned (.pointer (some ⟨w.heap.size, 0, none⟩)) ∧ Mem w' w.heap.size w'.heap.size none 0 0 (fun _ => 0) ∧ Below w.heap.size w w' := by
  have HB : Hid (Mem (w.alloc (.cells #[.slice none 0 0] 77)) w.heap.size (w.alloc (.cells #[.slice none 0 0] 77)).heap.size none 0 0 (fun _ => 0) ∧ Below w.heap.size w (w.alloc (.cells #[.slice none 0 0] 77))) := ⟨⟨by simp [World.cell?_alloc_at], by simp [World.frozen?_alloc_at], World.ownsRow_nil _ _ _ _, by simp, Nat.le_refl _, by omega⟩, (Below.refl _ _).alloc (Nat.le_refl _) _⟩
  go_enter Try.func36, Try.ntmps36
  go_wp2
  go_ret
  exact ⟨rfl, HB.out⟩
theorem lenR_is (w : World) (b B : Nat) (ad : Option Addr) (n cap : Nat) (u : Nat → Nat) (h : Mem w b B ad n cap u) : Calls Try.prog 13 #[.pointer (some ⟨b, 0, none⟩)] w fun e w' => e = .returned (.int .i64 (n : Int)) ∧ w' = w := by
  have c := h.c
  go_enter Try.func13, Try.ntmps13
  go_wp2
  go_ret
  exact ⟨rfl, rfl⟩
theorem upR_is (w : World) (k : Nat) (hk : k ≤ 4194304) : Calls Try.prog 63 #[.int .i64 (k : Int)] w fun e w' => e = .returned (.int .i64 (upN k : Int)) ∧ w' = w := by
  have kI : (k : Int) ≤ 4194304 := by omega
  have k0 : 0 ≤ (k : Int) := by omega
  unfold upN
  go_enter Try.func63, Try.ntmps63
  go_wp2
  go_ret
  exact ⟨ret_int (by omega), rfl⟩
set_option maxHeartbeats 2000000 in
theorem liesR_is (w : World) (b B : Nat) (ad : Option Addr) (n cap : Nat) (u : Nat → Nat) (h : Mem w b B ad n cap u) (i m : Int) (hi : i ≤ 9223372036854775807) (hm : m ≤ 9223372036854775807) : Calls Try.prog 64 #[.pointer (some ⟨b, 0, none⟩), .int .i64 i, .int .i64 m] w fun e w' => e = .returned (.int .i64 (lk n i m)) ∧ w' = w := by
  have c := h.c
  have nI : (n : Int) ≤ 4194304 := by have := h.le; omega
  clear h
  by_cases c0 : i < 0
  · rw [lk_arg (Or.inl c0)]
    go_enter Try.func64, Try.ntmps64
    go_wp2
    go_ret
    exact ⟨rfl, rfl⟩
  by_cases c1 : m < 0
  · rw [lk_arg (Or.inr c1)]
    go_enter Try.func64, Try.ntmps64
    go_wp2
    go_ret
    exact ⟨rfl, rfl⟩
  by_cases c2 : 0 < m
  · by_cases c3 : (n : Int) < m
    · rw [lk_mem (by omega) ⟨c2, by omega⟩]
      go_enter Try.func64, Try.ntmps64
      go_wp2
      go_ret
      exact ⟨rfl, rfl⟩
    · by_cases c4 : (n : Int) - m < i
      · rw [lk_mem (by omega) ⟨c2, by omega⟩]
        go_enter Try.func64, Try.ntmps64
        go_wp2
        go_ret
        exact ⟨rfl, rfl⟩
      · rw [lk_ok (by omega) (by omega)]
        go_enter Try.func64, Try.ntmps64
        go_wp2
        go_ret
        exact ⟨rfl, rfl⟩
  · rw [lk_ok (by omega) (by omega)]
    go_enter Try.func64, Try.ntmps64
    go_wp2
    go_ret
    exact ⟨rfl, rfl⟩
theorem splice_grow (u : Nat → Nat) (n r : Nat) (h : n ≤ r) : splice (bD (fun _ => 0) r) 0 (bD u n) = bD (grU u n) r := by
  apply List.ext_getElem?
  intro i
  unfold splice
  rw [List.take_zero, List.nil_append, bD_len, Nat.zero_add]
  by_cases h1 : i < n
  · rw [List.getElem?_append_left (by rw [bD_len]; exact h1), bD_at _ _ _ h1, bD_at _ _ _ (by omega)]; unfold grU; rw [if_pos h1]
  · rw [List.getElem?_append_right (by rw [bD_len]; omega), bD_len, List.getElem?_drop, show n + (i - n) = i by omega]
    by_cases h2 : i < r
    · rw [bD_at _ _ _ h2, bD_at _ _ _ h2]; unfold grU; rw [if_neg h1]
    · rw [List.getElem?_eq_none (by simp [bD_len]; omega), List.getElem?_eq_none (by simp [bD_len]; omega)]
theorem CB.own {W : World} {B g n : Nat} {u : Nat → Nat} (h : CB W g (bD u n)) (hB : B ≤ g) (hn : n ≤ 4194304) : W.ownsRow B 5 1 (.slice (some ⟨g, 0, none⟩) n n) n (bD u n) :=
  ⟨by rw [bD_len]; omega, Or.inr ⟨g, n, _, rfl, hB, h, Nat.le_refl _, by unfold maxLen; omega, by simp [bD_len], by rw [Nat.mul_one]; exact List.take_of_length_le (by rw [show (bD u n).toArray.toList = bD u n from rfl, bD_len]; exact Nat.le_refl _)⟩⟩
set_option maxHeartbeats 2000000 in
set_option maxRecDepth 100000 in
theorem growR_is (w : World) (b B : Nat) (ad : Option Addr) (n cap : Nat) (u : Nat → Nat) (h : Mem w b B ad n cap u) (tz : Int) : Calls Try.prog 38 #[.pointer (some ⟨b, 0, none⟩), .int .i64 tz] w fun e w' => e = .returned (.int .i64 (grE tz)) ∧ GrRes w w' b B ad (grN n tz) (grU u n) := by
  have HM : Hid (Mem w b B ad n cap (grU u n)) := h.ext fun i hi => by unfold grU; rw [if_pos hi]
  have hb := h.lt
  have c := h.c
  have nI : (n : Int) ≤ 4194304 := by have := h.le; omega
  by_cases c0 : tz < 0
  · rw [show grE tz = 1 by unfold grE; rw [if_pos c0], show grN n tz = n by unfold grN; rw [if_pos (Or.inl c0)]]
    clear h
    go_enter Try.func38, Try.ntmps38
    go_wp2
    go_ret
    exact ⟨rfl, ad, cap, HM.out, Off.refl _ _ _, Or.inl rfl⟩
  by_cases c1 : 4194304 < tz
  · rw [show grE tz = 92 by unfold grE; rw [if_neg c0, if_pos c1], show grN n tz = n by unfold grN; rw [if_pos (Or.inr c1)]]
    clear h
    go_enter Try.func38, Try.ntmps38
    go_wp2
    go_ret
    exact ⟨rfl, ad, cap, HM.out, Off.refl _ _ _, Or.inl rfl⟩
  obtain ⟨t, rfl⟩ : ∃ t : Nat, tz = (t : Int) := ⟨tz.toNat, by omega⟩
  rw [show grE (t : Int) = 0 by unfold grE; rw [if_neg c0, if_neg c1], show grN n (t : Int) = max n (upN t) by unfold grN; rw [if_neg (by omega), Int.toNat_natCast]]
  have hup : upN t ≤ 4194304 := by unfold upN; omega
  have RD : Hid (Calls Try.prog 63 #[.int .i64 (t : Int)] w fun e w' => e = .returned (.int .i64 (upN t : Int)) ∧ w' = w) := upR_is w t (by omega)
  generalize upN t = r at *
  have rI : (r : Int) ≤ 4194304 := by omega
  by_cases hr : n < r
  · rw [show max n r = r by omega]
    have s1 : (n : Int) < (r : Int) := by omega
    obtain ⟨W1, hmk, hcb, hB1⟩ := make_is w r hup
    have c' := (hB1.cell (p := ⟨b, 0, none⟩) hb).trans c
    have f' := (hB1.frozen (p := ⟨b, 0, none⟩) hb).trans h.f
    have hcopy : ∃ W2 nc, (∀ ty : TypeId, (Builtin.copy_ #[31, 31] ty #[.slice (some ⟨w.heap.size, 0, none⟩) r r, .slice ad n cap]).run Try.prog W1 = .ok (.int .i64 nc) W2) ∧ CB W2 w.heap.size (bD (grU u n) r) ∧ Below w.heap.size w W2 := by
      by_cases hn0 : n = 0
      · subst hn0
        refine ⟨W1, 0, fun ty => run_copy_none (P := Try.prog) W1 31 31 ty 5 _ _ r r 0 cap Try.underlying31 info8s (by simp), ?_, hB1⟩
        rw [show bD (grU u 0) r = bD (fun _ => 0) r from bD_ext fun i _ => by unfold grU; rw [if_neg (by omega)]]
        exact hcb
      · obtain ⟨g, rfl, hg, hnc, hgl, hcl⟩ := h.form (by omega)
        obtain ⟨W2, hcp, hcb2, hB2⟩ := copy_run W1 w w.heap.size w.heap.size r (fun _ => 0) hcb ⟨g, 0, none⟩ n cap (bD u n) (by rw [bD_len]; exact (Nat.min_eq_left (by omega)).symm) (fun j v hv => by
          have hj : j < n := by have h9 := (List.getElem?_eq_some_iff.1 hv).1; rwa [bD_len] at h9
          rw [bD_at _ _ _ hj] at hv
          obtain rfl := Option.some.inj hv
          rw [Addr.add_mid, Nat.zero_add]
          exact (hB1.cell (p := ⟨g, j, none⟩) hgl).trans (hcl j hj).1) (bD_one _ _) hB1 (Nat.le_refl _)
        rw [splice_grow u n r (by omega)] at hcb2
        exact ⟨W2, _, hcp, hcb2, hB2⟩
    obtain ⟨W2, nc, hcp, hcb2, hB2⟩ := hcopy
    have d1 := (hB2.cell (p := ⟨b, 0, none⟩) hb).trans c
    have d2 := (hB2.frozen (p := ⟨b, 0, none⟩) hb).trans h.f
    have HF : Hid (Mem (W2.setCell ⟨b, 0, none⟩ (.slice (some ⟨w.heap.size, 0, none⟩) r r)) b B (some ⟨w.heap.size, 0, none⟩) r r (grU u n) ∧ Off b ad w (W2.setCell ⟨b, 0, none⟩ (.slice (some ⟨w.heap.size, 0, none⟩) r r))) :=
      ⟨⟨World.cell?_setCell_same _ _ _ d1, by rw [World.frozen?_setCell]; exact d2, own_setBox (hcb2.own h.sz hup) h.bb, h.bb, by have := hB2.size; have := h.sz; simp [World.setCell]; omega, hup⟩, (Off.of_below hB2).set _⟩
    clear h hcb hcb2 hB1 hB2 hr hup
    go_enter Try.func38, Try.ntmps38
    go_wp2_with (go_at_call 63; refine (RD.out).mono ?_; rintro e w' ⟨rfl, hw⟩; (have hw2 := hw.symm); clear hw; subst hw2)
    go_ret
    exact ⟨rfl, _, _, HF.out.1, HF.out.2, Or.inr fun a e => by obtain rfl := Option.some.inj e; exact Nat.le_refl _⟩
  · rw [show max n r = n by omega]
    have s1 : ¬ (n : Int) < (r : Int) := by omega
    clear h hup
    go_enter Try.func38, Try.ntmps38
    go_wp2_with (go_at_call 63; refine (RD.out).mono ?_; rintro e w' ⟨rfl, hw⟩; (have hw2 := hw.symm); clear hw; subst hw2)
    go_ret
    exact ⟨rfl, ad, cap, HM.out, Off.refl _ _ _, Or.inl rfl⟩
end Go.Proofs.Ytlemnjhdnciddaa
