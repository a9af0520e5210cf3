/- GasWhole: the walk. -/
import Derived.Test.YtpgjchkfglkgcaaUq
import Derived.Test.YtpgjchkfglkgcaaUg
namespace Go.Proofs.Ytpgjchkfglkgcaa
open Go.RowKit
/-- the law's meter, and what was there -/
structure GW (w W : World) (b : Nat) (h : Int) : Prop where
  m : Met W b h
  ge : w.heap.size ≤ b
  bel : Below w.heap.size w W
theorem GW.step {w W W' : World} {b : Nat} {h h' : Int} (g : GW w W b h) (k : Met W' b h') (l : Only b W W') : GW w W' b h' := ⟨k, g.ge, g.bel.trans (l.below g.ge g.bel.size)⟩
/-- what the list tells, in any later world -/
def UsIn (w : World) (ad : Option Addr) (n : Nat) (x : Nat → Int) : Prop := 0 < n → ∃ g a, ad = some ⟨g, a, none⟩ ∧ ∀ i, i < n → ∀ W, Below w.heap.size w W → W.cell? ⟨g, a + i, none⟩ = some (.int .u64 (x i)) ∧ 0 ≤ x i ∧ x i ≤ 18446744073709551615
theorem Us.in {w : World} {v : Value} {n : Nat} {x : Nat → Int} (h : Us w v n x) : ∃ ad cap, v = .slice ad n cap ∧ UsIn w ad n x := by
  obtain ⟨ad, cap, rfl, h1⟩ := h
  refine ⟨ad, cap, rfl, fun hn => ?_⟩
  obtain ⟨g, a, e, h2⟩ := h1 hn
  refine ⟨g, a, e, fun i hi W k => ?_⟩
  have h3 := h2 i hi
  exact ⟨(k.cell (p := ⟨g, a + i, none⟩) (World.block_lt_of_cell? w _ h3.1)).trans h3.1, h3.2⟩
set_option maxHeartbeats 4000000 in
set_option maxRecDepth 100000 in
theorem gasWhole_walk (w : World) (s : Int) (vl : Value) (n : Nat) (x : Nat → Int) (hs : 0 ≤ s ∧ s ≤ 18446744073709551615) (hx : Us w vl n x) (hn : n ≤ 17592186044416) : Calls Try.prog 9 #[.int .u64 s, vl] w fun e w' => e = .returned (.bool true) ∧ Below w.heap.size w w' := by
  obtain ⟨s0, s1⟩ := hs
  obtain ⟨ad, cap, rfl, hu⟩ := hx.in
  have HU : Hid (UsIn w ad n x) := hu
  have NM : Hid (Calls Try.prog 34 #[.int .u64 s] w fun e w' => NewMet w w' s e) := newMeter_is w s s0 s1
  have PY : Hid (∀ W b m z, Met W b m → 0 ≤ z → Calls Try.prog 36 #[.pointer (some ⟨b, 0, none⟩), .int .u64 z] W fun e w' => e = .returned (.bool (pyB m z)) ∧ Met w' b (pyL m z) ∧ Only b W w') := fun W b m z h k => pay_is W b m z h k
  have GN : Hid (∀ W b m z, Met W b m → 0 ≤ z → Calls Try.prog 38 #[.pointer (some ⟨b, 0, none⟩), .int .u64 z] W fun e w' => e = .returned (.bool (gnB m z)) ∧ Met w' b (gnL m z) ∧ Only b W w') := fun W b m z h k => gain_is W b m z h k
  have LF : Hid (∀ W b m, Met W b m → Calls Try.prog 40 #[.pointer (some ⟨b, 0, none⟩)] W fun e w' => e = .returned (.int .u64 m) ∧ w' = W) := fun W b m h => left_is W b m h
  have nI : (n : Int) ≤ 17592186044416 := by omega
  clear hu hx hn
  go_enter Try.func9, Try.ntmps9
  go_upto_region 2 with (go_at_call 34; refine (NM.out).mono ?_; rintro e v ⟨rfl, hM, hB⟩)
  generalize hb : w.heap.size = b at hM ⊢
  have G0 : Hid (GW w v b s) := ⟨hM, by omega, hB⟩
  clear hM hB NM hb
  by_cases hbig : (1048576 : Int) < (n : Int)
  · go_wp2
    go_ret
    exact ⟨rfl, G0.out.bel⟩
  have hnI : (n : Int) ≤ 1048576 := by omega
  clear hbig
  go_wp2
  go_loopw [6, 7] (fun s6 s7 wr => ∃ (k : Nat) (h : Int), s6 = .int .u64 h ∧ s7 = .int .i64 (k : Int) ∧ k ≤ n ∧ GW w wr b h) (fun _ s7 _ => n - (intOf s7).toNat)
  case atStart => exact ⟨0, s, rfl, rfl, by omega, G0.out⟩
  case round =>
    obtain ⟨k, h, rfl, rfl, hk, hG⟩ := hrel
    have GG : Hid (GW w wr b h) := hG
    have h0 := hG.m.lo
    have h1 := hG.m.hi
    clear hG G0
    have kI : (k : Int) ≤ (n : Int) := by omega
    by_cases e : k = n
    · subst e
      have L1 : Hid (Calls Try.prog 40 #[.pointer (some ⟨b, 0, none⟩)] wr fun e w' => e = .returned (.int .u64 h) ∧ w' = wr) := LF.out wr b h GG.out.m
      have e1 : pyB h h = true := by simp [pyB]
      have e2 : pyL h h = 0 := by simp [pyL]
      have e3 : pyB 0 1 = false := by simp [pyB]
      have P1 : Hid (Calls Try.prog 36 #[.pointer (some ⟨b, 0, none⟩), .int .u64 h] wr fun e w' => e = .returned (.bool true) ∧ Met w' b 0 ∧ Only b wr w') := by have := PY.out wr b h h GG.out.m h0; rw [e1, e2] at this; exact this
      have P2 : Hid (∀ W, Met W b 0 → Calls Try.prog 36 #[.pointer (some ⟨b, 0, none⟩), .int .u64 1] W fun e w' => e = .returned (.bool false) ∧ Met w' b (pyL 0 1) ∧ Only b W w') := fun W hW => by have := PY.out W b 0 1 hW (by omega); rw [e3] at this; exact this
      clear e1 e2 e3 PY GN
      go_upto_region 24 with (go_at_call 40; refine (L1.out).mono ?_; rintro e w' ⟨rfl, hw⟩; (have hw2 := hw.symm); clear hw; subst hw2)
      go_upto_region 25 with (go_at_call 36; refine (P1.out).mono ?_; rintro e v1 ⟨rfl, hM, hO⟩)
      have G1 : Hid (GW w v1 b 0) := GG.out.step hM hO
      clear hM hO P1
      go_upto_region 26 with (go_at_call 40; refine (LF.out v1 b 0 G1.out.m).mono ?_; rintro e w' ⟨rfl, hw⟩; (have hw2 := hw.symm); clear hw; subst hw2)
      go_upto_region 27 with (go_at_call 36; refine (P2.out v1 G1.out.m).mono ?_; rintro e v2 ⟨rfl, hM, hO⟩)
      have G2 : Hid (GW w v2 b (pyL 0 1)) := G1.out.step hM hO
      clear hM hO P2 L1
      go_wp2
      go_ret
      exact ⟨rfl, G2.out.bel⟩
    · have kn : (k : Int) < (n : Int) := by omega
      obtain ⟨g, a, rfl, hc⟩ := HU.out (by omega)
      obtain ⟨c, z0, z1⟩ := hc k (by omega) wr GG.out.bel
      generalize x k = z at c z0 z1
      clear hc
      by_cases ho : z % 2 = 1
      · have ho2 : z % 2 = 1 := ho
        clear ho
        by_cases hy : z ≤ h
        · have HC : Hid (Calls Try.prog 36 #[.pointer (some ⟨b, 0, none⟩), .int .u64 z] wr fun e w' => e = .returned (.bool true) ∧ Met w' b (h - z) ∧ Only b wr w') := by
            have h9 := PY.out wr b h z GG.out.m z0
            rw [show pyB h z = true by simp [pyB, hy], show pyL h z = h - z by simp [pyL, hy]] at h9
            exact h9
          have hz : z ≤ h := hy
          go_upto_region 11 with (go_at_call 36; refine (HC.out).mono ?_; rintro e v1 ⟨rfl, hM, hO⟩)
          have G1 : Hid (GW w v1 b (h - z)) := GG.out.step hM hO
          clear hM hO HC
          go_upto_region 21 with (go_at_call 40; refine (LF.out v1 b _ G1.out.m).mono ?_; rintro e w' ⟨rfl, hw⟩; (have hw2 := hw.symm); clear hw; subst hw2)
          go_wp2
          go_roundw
          case rel => exact ⟨k + 1, h - z, by first | rfl | go_num, by first | rfl | go_num, by omega, G1.out⟩
          case measure => simp [intOf]; omega
        · have HC : Hid (Calls Try.prog 36 #[.pointer (some ⟨b, 0, none⟩), .int .u64 z] wr fun e w' => e = .returned (.bool false) ∧ Met w' b (h) ∧ Only b wr w') := by
            have h9 := PY.out wr b h z GG.out.m z0
            rw [show pyB h z = false by simp [pyB, hy], show pyL h z = h by simp [pyL, hy]] at h9
            exact h9
          have hz : ¬ z ≤ h := hy
          go_upto_region 11 with (go_at_call 36; refine (HC.out).mono ?_; rintro e v1 ⟨rfl, hM, hO⟩)
          have G1 : Hid (GW w v1 b (h)) := GG.out.step hM hO
          clear hM hO HC
          go_upto_region 21 with (go_at_call 40; refine (LF.out v1 b _ G1.out.m).mono ?_; rintro e w' ⟨rfl, hw⟩; (have hw2 := hw.symm); clear hw; subst hw2)
          go_wp2
          go_roundw
          case rel => exact ⟨k + 1, h, by first | rfl | go_num, by first | rfl | go_num, by omega, G1.out⟩
          case measure => simp [intOf]; omega
      · have ho2 : (z % 2 == 1) = false := by simpa using ho
        clear ho
        by_cases hy : h + z ≤ 18446744073709551615
        · have HC : Hid (Calls Try.prog 38 #[.pointer (some ⟨b, 0, none⟩), .int .u64 z] wr fun e w' => e = .returned (.bool true) ∧ Met w' b (h + z) ∧ Only b wr w') := by
            have h9 := GN.out wr b h z GG.out.m z0
            rw [show gnB h z = true by simp [gnB, hy], show gnL h z = h + z by simp [gnL, hy]] at h9
            exact h9
          have hz : h ≤ h + z := by omega
          have hv : 0 ≤ h + z := by omega
          go_upto_region 16 with (go_at_call 38; refine (HC.out).mono ?_; rintro e v1 ⟨rfl, hM, hO⟩)
          have G1 : Hid (GW w v1 b (h + z)) := GG.out.step hM hO
          clear hM hO HC
          go_upto_region 21 with (go_at_call 40; refine (LF.out v1 b _ G1.out.m).mono ?_; rintro e w' ⟨rfl, hw⟩; (have hw2 := hw.symm); clear hw; subst hw2)
          go_wp2
          go_roundw
          case rel => exact ⟨k + 1, h + z, by first | rfl | go_num, by first | rfl | go_num, by omega, G1.out⟩
          case measure => simp [intOf]; omega
        · have HC : Hid (Calls Try.prog 38 #[.pointer (some ⟨b, 0, none⟩), .int .u64 z] wr fun e w' => e = .returned (.bool false) ∧ Met w' b (h) ∧ Only b wr w') := by
            have h9 := GN.out wr b h z GG.out.m z0
            rw [show gnB h z = false by simp [gnB, hy], show gnL h z = h by simp [gnL, hy]] at h9
            exact h9
          obtain ⟨q, hq⟩ : ∃ q, q = h + z - 18446744073709551616 := ⟨_, rfl⟩
          have hv : IntKind.u64.wrap (h + z) = q := by rw [IntKind.wrap_u64]; omega
          have hz : ¬ h ≤ q := by omega
          clear hq
          go_upto_region 16 with (go_at_call 38; refine (HC.out).mono ?_; rintro e v1 ⟨rfl, hM, hO⟩)
          have G1 : Hid (GW w v1 b (h)) := GG.out.step hM hO
          clear hM hO HC
          go_upto_region 21 with (go_at_call 40; refine (LF.out v1 b _ G1.out.m).mono ?_; rintro e w' ⟨rfl, hw⟩; (have hw2 := hw.symm); clear hw; subst hw2)
          go_wp2
          go_roundw
          case rel => exact ⟨k + 1, h, by first | rfl | go_num, by first | rfl | go_num, by omega, G1.out⟩
          case measure => simp [intOf]; omega
end Go.Proofs.Ytpgjchkfglkgcaa
