/- The document's memory: Read, Write. -/
import Derived.Test.YtlemnjhdnciddaaGnf
import Derived.Test.YtlemnjhdnciddaaGne
namespace Go.Proofs.Ytlemnjhdnciddaa
open Go.RowKit
set_option maxHeartbeats 2000000 in
set_option maxRecDepth 100000 in
theorem readR_is (w : World) (b B : Nat) (ad : Option Addr) (n cap : Nat) (u : Nat → Nat) (h : Mem w b B ad n cap u) (i m : Int) (hi : i ≤ 9223372036854775807) (hm : m ≤ 9223372036854775807) : Calls Try.prog 42 #[.pointer (some ⟨b, 0, none⟩), .int .i64 i, .int .i64 m] w fun e w' => ∃ vR, e = .returned (.tuple #[vR, .int .i64 (lk n i m)]) ∧ By w' vR (if lk n i m = 0 then m.toNat else 0) (fun j => u (i.toNat + j)) ∧ (∀ q, vR.ownBlock = some q → w.heap.size ≤ q) ∧ Below w.heap.size w w' := by
  have LK : Hid (Calls Try.prog 64 #[.pointer (some ⟨b, 0, none⟩), .int .i64 i, .int .i64 m] w fun e w' => e = .returned (.int .i64 (lk n i m)) ∧ w' = w) := liesR_is w b B ad n cap u h i m hi hm
  have nil : ∀ f : Nat → Nat, By w (.slice none 0 0) 0 f := fun f => ⟨none, 0, rfl, by omega, by omega, fun h => absurd h (by omega)⟩
  have NIL : Hid _ := nil
  clear nil
  by_cases hk : lk n i m = 0
  · rw [if_pos hk]
    have hz := lk_zero hk
    by_cases hm0 : m = 0
    · subst hm0
      rw [hk] at LK ⊢
      clear hz hk h
      go_enter Try.func42, Try.ntmps42
      go_wp2_with (go_at_call 64; refine (LK.out).mono ?_; rintro e w' ⟨rfl, hw⟩; (have hw2 := hw.symm); clear hw; subst hw2)
      go_ret2
      exact ⟨_, rfl, NIL.out _, fun q hq => (by cases hq), Below.refl _ _⟩
    · obtain ⟨g, rfl, hg, hnc, hgl, hcl⟩ := h.form (by omega)
      obtain ⟨q, rfl⟩ : ∃ q : Nat, i = (q : Int) := ⟨i.toNat, by omega⟩
      obtain ⟨k, rfl⟩ : ∃ k : Nat, m = (k : Int) := ⟨m.toNat, by omega⟩
      have hle := h.le
      have hsl := slice_mid (some ⟨g, 0, none⟩) n cap q (q + k) (by omega) (by omega)
      rw [if_neg (show ¬ cap = q by omega), show (some (⟨g, 0, none⟩ : Addr)).map (·.add q) = some ⟨g, q, none⟩ by (show some ((⟨g, 0, none⟩ : Addr).add q) = _; rw [Addr.add_mid, Nat.zero_add]), show q + k - q = k by omega] at hsl
      have c := h.c
      have s1 : (q : Int) + (k : Int) = ((q + k : Nat) : Int) := by omega
      have s2 : ((q + k : Nat) : Int) ≤ 4194304 := by omega
      have k1 : ((k : Int) == 0) = false := by simp; omega
      have HC : Hid (∀ j v, (bD (fun j => u (q + j)) k)[j]? = some v → w.cell? ((⟨g, q, none⟩ : Addr).add j) = some v) := fun j v hv => by
        have hj : j < k := by have h9 := (List.getElem?_eq_some_iff.1 hv).1; rwa [bD_len] at h9
        rw [bD_at _ _ _ hj] at hv
        obtain rfl := Option.some.inj hv
        rw [Addr.add_mid]; exact (hcl (q + j) (by omega)).1
      have KB : Hid (0 < k ∧ k ≤ 4194304) := by unfold Hid; omega
      rw [Int.toNat_natCast, Int.toNat_natCast, hk]
      rw [hk] at LK
      generalize hsk : q + k = s at *
      obtain ⟨i0, hi0, hz0, hz1, hz2⟩ := info_partsB Try.info8
      clear hsk hk hz h hcl hg hgl hnc hm0 hle
      go_enter Try.func42, Try.ntmps42
      go_wp2_with (first | (go_at_call 64; refine (LK.out).mono ?_; rintro e w' ⟨rfl, hw⟩; (have hw2 := hw.symm); clear hw; subst hw2) | (at_builtin; refine wpList_append_own _ rfl _ _ 31 rfl w.heap.size 5 i0 (.int .u8 0) 1 1 Try.underlying31 hi0 hz0 hz1 hz2 rfl (by decide) (.slice none 0 0) 0 [] rfl (World.ownsRow_nil _ _ _ _) ⟨g, q, none⟩ k (cap - q) (bD (fun j => u (q + j)) k) rfl (by rw [bD_len]; omega) HC.out (bD_one _ _) (by have := KB.out; unfold maxLen; omega) (by have := KB.out; omega) (Nat.le_refl _) ?_; intro v' w' hown hgr _))
      have HF : Hid (By w' v' k (fun j => u (q + j)) ∧ (∀ q, v'.ownBlock = some q → w.heap.size ≤ q) ∧ Below w.heap.size w w') := by
        rw [Nat.zero_add, List.nil_append] at hown
        exact ⟨By.own hown (by have := KB.out; omega), fun q hq => (hown.lt q hq).1, ⟨hgr.os, hgr.tape, hgr.output, hgr.size, fun j hj => hgr.block j hj (by simp [Value.ownBlock])⟩⟩
      clear hown hgr
      go_ret2
      exact ⟨_, rfl, HF.out⟩
  · rw [if_neg hk]
    generalize lk n i m = L at *
    have hk2 : (L == 0) = false := by simpa using hk
    clear h
    go_enter Try.func42, Try.ntmps42
    go_wp2_with (go_at_call 64; refine (LK.out).mono ?_; rintro e w' ⟨rfl, hw⟩; (have hw2 := hw.symm); clear hw; subst hw2)
    go_ret2
    exact ⟨_, rfl, NIL.out _, fun q hq => (by cases hq), Below.refl _ _⟩
end Go.Proofs.Ytlemnjhdnciddaa
