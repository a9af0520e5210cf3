/- The document's memory: Store8, Move. -/
import Derived.Test.YtlemnjhdnciddaaGnh
namespace Go.Proofs.Ytlemnjhdnciddaa
open Go.RowKit
theorem Off.past {b : Nat} {ad : Option Addr} {u v w : World} (h : Below u.heap.size u v) (k : Off b ad v w) : Off b ad u w := ⟨k.os.trans h.os, k.tape.trans h.tape, k.output.trans h.output, Nat.le_trans h.size k.size, fun j hj h1 h2 => (k.block j (Nat.lt_of_lt_of_le hj h.size) h1 h2).trans (h.block j hj)⟩
theorem Mem.adlt {W : World} {b B : Nat} {ad : Option Addr} {n cap : Nat} {u : Nat → Nat} (h : Mem W b B ad n cap u) (y : Addr) (e : ad = some y) : y.block < W.heap.size := by subst e; exact (h.own.lt y.block rfl).2
set_option maxHeartbeats 1000000 in
theorem store8R_is (w : World) (b B : Nat) (ad : Option Addr) (n cap : Nat) (u : Nat → Nat) (h : Mem w b B ad n cap u) (i : Int) (hi : i ≤ 9223372036854775807) (x : Nat) : Calls Try.prog 41 #[.pointer (some ⟨b, 0, none⟩), .int .i64 i, .int .u8 (x : Int)] w fun e w' => e = .returned (.int .i64 (lk n i 1)) ∧ Mem w' b B ad n cap (if lk n i 1 = 0 then ins u i.toNat (fun _ => x) 1 else u) ∧ Off b ad w w' := by
  have hB : Below w.heap.size w (w.alloc (.cells #[.int .u8 (x : Int)] 5)) := (Below.refl _ _).alloc (Nat.le_refl _) _
  have WR : Hid (Calls Try.prog 43 #[.pointer (some ⟨b, 0, none⟩), .int .i64 i, .slice (some ⟨w.heap.size, 0, none⟩) 1 1] (w.alloc (.cells #[.int .u8 (x : Int)] 5)) fun e w' => e = .returned (.int .i64 (lk n i (1 : Nat))) ∧ Mem w' b B ad n cap (if lk n i (1 : Nat) = 0 then ins u i.toNat (fun _ => x) 1 else u) ∧ Off b ad (w.alloc (.cells #[.int .u8 (x : Int)] 5)) w') := writeR_is _ b B ad n cap u (h.past hB) i hi (some ⟨w.heap.size, 0, none⟩) 1 1 (fun _ => x) ⟨_, 1, rfl, by omega, by omega, fun _ => ⟨w.heap.size, 0, rfl, fun j hj => by
    obtain rfl : j = 0 := by omega
    simp [World.cell?_alloc_at]⟩⟩ (fun a y e1 e2 => by obtain rfl := Option.some.inj e1; have := h.adlt y e2; intro e3; simp at e3; omega)
  have HB : Hid (Below w.heap.size w (w.alloc (.cells #[.int .u8 (x : Int)] 5))) := hB
  have e1 : lk n i (1 : Nat) = lk n i 1 := rfl
  rw [e1] at WR
  clear h hB e1
  generalize lk n i 1 = L at *
  generalize hF : (if L = 0 then ins u i.toNat (fun _ => x) 1 else u) = F at *
  clear hF
  go_enter Try.func41, Try.ntmps41
  go_wp2_with (go_at_call 43; refine (WR.out).mono ?_; rintro e v ⟨rfl, h1, h2⟩; (have HF : Hid (Mem v b B ad n cap F ∧ Off b ad w v) := ⟨h1, Off.past HB.out h2⟩); clear h1 h2)
  go_ret
  exact ⟨rfl, HF.out⟩
theorem lk_max {n : Nat} {t f m : Int} (ht : 0 ≤ t) (hf : 0 ≤ f) (hm : 0 ≤ m) : (lk n f m ≠ 0 → lk n f m = lk n (max t f) m) ∧ (lk n f m = 0 → lk n t m ≠ 0 → lk n t m = lk n (max t f) m) ∧ (lk n f m = 0 → lk n t m = 0 → lk n (max t f) m = 0) := by
  unfold lk
  refine ⟨?_, ?_, ?_⟩ <;> (repeat' split) <;> (try simp) <;> omega
set_option maxHeartbeats 4000000 in
set_option maxRecDepth 100000 in
theorem moveR_is (w : World) (b B : Nat) (ad : Option Addr) (n cap : Nat) (u : Nat → Nat) (h : Mem w b B ad n cap u) (tz fz m : Int) (ht : tz ≤ 9223372036854775807) (hf : fz ≤ 9223372036854775807) (hm : m ≤ 9223372036854775807) : Calls Try.prog 44 #[.pointer (some ⟨b, 0, none⟩), .int .i64 tz, .int .i64 fz, .int .i64 m] w fun e w' => e = .returned (.int .i64 (mvE n tz fz m)) ∧ Mem w' b B ad n cap (if mvE n tz fz m = 0 then ins u tz.toNat (fun j => u (fz.toNat + j)) m.toNat else u) ∧ Off b ad w w' := by
  have HM : Hid (Mem w b B ad n cap u) := h
  by_cases c0 : tz < 0
  · rw [show mvE n tz fz m = 1 by unfold mvE; rw [if_pos (Or.inl c0)], if_neg (by omega)]
    clear h
    go_enter Try.func44, Try.ntmps44
    go_wp2
    go_ret
    exact ⟨rfl, HM.out, Off.refl _ _ _⟩
  by_cases c1 : fz < 0
  · rw [show mvE n tz fz m = 1 by unfold mvE; rw [if_pos (Or.inr (Or.inl c1))], if_neg (by omega)]
    clear h
    go_enter Try.func44, Try.ntmps44
    go_wp2
    go_ret
    exact ⟨rfl, HM.out, Off.refl _ _ _⟩
  by_cases c2 : m < 0
  · rw [show mvE n tz fz m = 1 by unfold mvE; rw [if_pos (Or.inr (Or.inr c2))], if_neg (by omega)]
    clear h
    go_enter Try.func44, Try.ntmps44
    go_wp2
    go_ret
    exact ⟨rfl, HM.out, Off.refl _ _ _⟩
  rw [show mvE n tz fz m = lk n (max tz fz) m by unfold mvE; rw [if_neg (by omega)]]
  have hx := lk_max (n := n) (t := tz) (f := fz) (m := m) (by omega) (by omega) (by omega)
  have RD : Hid (Calls Try.prog 42 #[.pointer (some ⟨b, 0, none⟩), .int .i64 fz, .int .i64 m] w fun e w' => ∃ vR, e = .returned (.tuple #[vR, .int .i64 (lk n fz m)]) ∧ By w' vR (if lk n fz m = 0 then m.toNat else 0) (fun j => u (fz.toNat + j)) ∧ (∀ q, vR.ownBlock = some q → w.heap.size ≤ q) ∧ Below w.heap.size w w') := readR_is w b B ad n cap u h fz m hf hm
  have LI : Hid (∀ V, Below w.heap.size w V → Calls Try.prog 64 #[.pointer (some ⟨b, 0, none⟩), .int .i64 tz, .int .i64 m] V fun e w' => e = .returned (.int .i64 (lk n tz m)) ∧ w' = V) := fun V hV => liesR_is V b B ad n cap u (h.past hV) tz m ht hm
  have AD : Hid (∀ y, ad = some y → y.block < w.heap.size) := h.adlt
  clear h
  by_cases h1 : lk n fz m = 0
  · rw [h1] at RD
    rw [if_pos rfl] at RD
    by_cases h2 : lk n tz m = 0
    · rw [hx.2.2 h1 h2, if_pos rfl]
      rw [h2] at LI
      obtain ⟨k, ek⟩ : ∃ k : Nat, m = (k : Int) := ⟨m.toNat, by omega⟩
      have H2 : Hid (lk n tz (k : Int) = 0) := by unfold Hid; rw [← ek]; exact h2
      subst ek
      rw [Int.toNat_natCast] at *
      clear hx h1 h2
      go_enter Try.func44, Try.ntmps44
      go_upto_region 4 with (go_at_call 42; refine (RD.out).mono ?_; rintro e v ⟨vR, rfl, hy, hfr, hB⟩)
      have YY : Hid (By v vR k (fun j => u (fz.toNat + j)) ∧ (∀ q, vR.ownBlock = some q → w.heap.size ≤ q) ∧ Below w.heap.size w v) := ⟨hy, hfr, hB⟩
      obtain ⟨ab, cb, e9, _, _, _⟩ := hy
      subst e9
      clear hfr hB RD
      have WR : Hid (Calls Try.prog 43 #[.pointer (some ⟨b, 0, none⟩), .int .i64 tz, .slice ab k cb] v fun e w' => e = .returned (.int .i64 0) ∧ Mem w' b B ad n cap (ins u tz.toNat (fun j => u (fz.toNat + j)) k) ∧ Off b ad v w') := by
        have h9 := writeR_is v b B ad n cap u (HM.out.past YY.out.2.2) tz ht ab k cb (fun j => u (fz.toNat + j)) YY.out.1 (fun x y e1 e2 => by
          subst e1
          have q1 := YY.out.2.1 x.block rfl
          have q2 := AD.out y e2
          omega)
        rw [H2.out, if_pos rfl] at h9
        exact h9
      go_upto_region 5 with (go_at_call 64; refine (LI.out v YY.out.2.2).mono ?_; rintro e w' ⟨rfl, hw⟩; (have hw2 := hw.symm); clear hw; subst hw2)
      go_wp2_with (go_at_call 43; refine (WR.out).mono ?_; rintro e v2 ⟨rfl, h1, h2⟩; (have HF : Hid (Mem v2 b B ad n cap (ins u tz.toNat (fun j => u (fz.toNat + j)) k) ∧ Off b ad w v2) := ⟨h1, Off.past YY.out.2.2 h2⟩); clear h1 h2)
      go_ret
      exact ⟨rfl, HF.out⟩
    · rw [← hx.2.1 h1 h2, if_neg h2]
      clear hx h1
      generalize lk n tz m = L at *
      have hk2 : (L == 0) = false := by simpa using h2
      go_enter Try.func44, Try.ntmps44
      go_upto_region 4 with (go_at_call 42; refine (RD.out).mono ?_; rintro e v ⟨vR, rfl, hy, hfr, hB⟩)
      have HF : Hid (Mem v b B ad n cap u ∧ Below w.heap.size w v) := ⟨HM.out.past hB, hB⟩
      clear hy hfr hB
      go_upto_region 5 with (go_at_call 64; refine (LI.out v HF.out.2).mono ?_; rintro e w' ⟨rfl, hw⟩; (have hw2 := hw.symm); clear hw; subst hw2)
      go_wp2
      go_ret
      exact ⟨rfl, HF.out.1, Off.of_below HF.out.2⟩
  · rw [← hx.1 h1, if_neg h1]
    clear hx
    generalize lk n fz m = L at *
    have hk2 : (L == 0) = false := by simpa using h1
    generalize lk n tz m = L2 at *
    go_enter Try.func44, Try.ntmps44
    go_upto_region 4 with (go_at_call 42; refine (RD.out).mono ?_; rintro e v ⟨vR, rfl, hy, hfr, hB⟩)
    have HF : Hid (Mem v b B ad n cap u ∧ Below w.heap.size w v) := ⟨HM.out.past hB, hB⟩
    clear hy hfr hB
    go_upto_region 5 with (go_at_call 64; refine (LI.out v HF.out.2).mono ?_; rintro e w' ⟨rfl, hw⟩; (have hw2 := hw.symm); clear hw; subst hw2)
    go_wp2
    go_ret
    exact ⟨rfl, HF.out.1, Off.of_below HF.out.2⟩
end Go.Proofs.Ytlemnjhdnciddaa
