/- GasMeters: the walk. -/
import Derived.Test.YtpgjchkfglkgcaaUs
namespace Go.Proofs.Ytpgjchkfglkgcaa
open Go.RowKit
set_option maxHeartbeats 8000000 in
set_option maxRecDepth 100000 in
theorem gasMeters_walk (w : World) (s t : Int) (vl : Value) (n : Nat) (x : Nat → StR) (hs : 0 ≤ s ∧ s ≤ 18446744073709551615) (ht : 0 ≤ t ∧ t ≤ 18446744073709551615) (hx : StsAt w vl n x) (hn : n ≤ 5864062014806) : Calls Try.prog 8 #[.int .u64 s, .int .u64 t, vl] w fun e w' => e = .returned (.bool true) ∧ Below w.heap.size w w' := by
  obtain ⟨ad, cap, rfl, hu⟩ := hx.in
  have HU : Hid (StsIn w ad n x) := hu
  have PY : Hid (∀ W b m z, Met W b m → 0 ≤ z → Calls Try.prog 36 #[.pointer (some ⟨b, 0, none⟩), .int .u64 z] W fun e w' => e = .returned (.bool (pyB m z)) ∧ Met w' b (pyL m z) ∧ Only b W w') := fun W b m z h k => pay_is W b m z h k
  have PR : Hid (∀ W b m z, Met W b m → 0 ≤ z → Calls Try.prog 37 #[.pointer (some ⟨b, 0, none⟩), .int .u64 z] W fun e w' => e = .returned (.bool (pyB m z)) ∧ Met w' b (pyL m z) ∧ Only b W w') := fun W b m z h k => payR_is W b m z h k
  have GN : Hid (∀ W b m z, Met W b m → 0 ≤ z → Calls Try.prog 38 #[.pointer (some ⟨b, 0, none⟩), .int .u64 z] W fun e w' => e = .returned (.bool (gnB m z)) ∧ Met w' b (gnL m z) ∧ Only b W w') := fun W b m z h k => gain_is W b m z h k
  have GR : Hid (∀ W b m z, Met W b m → 0 ≤ z → Calls Try.prog 39 #[.pointer (some ⟨b, 0, none⟩), .int .u64 z] W fun e w' => e = .returned (.bool (gnB m z)) ∧ Met w' b (gnL m z) ∧ Only b W w') := fun W b m z h k => gainR_is W b m z h k
  have LF : Hid (∀ W b m, Met W b m → Calls Try.prog 40 #[.pointer (some ⟨b, 0, none⟩)] W fun e w' => e = .returned (.int .u64 m) ∧ w' = W) := fun W b m h => left_is W b m h
  have LR : Hid (∀ W b m, Met W b m → Calls Try.prog 41 #[.pointer (some ⟨b, 0, none⟩)] W fun e w' => e = .returned (.int .u64 m) ∧ w' = W) := fun W b m h => leftR_is W b m h
  have NB : Hid (∀ W z, 0 ≤ z → z ≤ 18446744073709551615 → Calls Try.prog 34 #[.int .u64 z] W fun e w' => NewMet W w' z e) := fun W z h k => newMeter_is W z h k
  have NC : Hid (∀ W z, 0 ≤ z → z ≤ 18446744073709551615 → Calls Try.prog 35 #[.int .u64 z] W fun e w' => NewMet W w' z e) := fun W z h k => newMeterR_is W z h k
  have nI : (n : Int) ≤ 5864062014806 := by omega
  have HS : Hid (0 ≤ s ∧ s ≤ 18446744073709551615) := hs
  have HT : Hid (0 ≤ t ∧ t ≤ 18446744073709551615) := ht
  clear hu hx hn hs ht
  go_enter Try.func8, Try.ntmps8
  go_upto_region 2 with (go_at_call 34; first | (refine (NB.out w s HS.out.1 HS.out.2).mono ?_; rintro e v1 ⟨rfl, hb0, k1⟩) | (refine (NB.out v1 t HT.out.1 HT.out.2).mono ?_; rintro e v2 ⟨rfl, hb1, k2⟩))
  obtain ⟨v3, e3⟩ : ∃ v3, v3 = v2.alloc (.cells #[.pointer (some ⟨w.heap.size, 0, none⟩), .pointer (some ⟨v1.heap.size, 0, none⟩)] 40) := ⟨_, rfl⟩
  rw [← e3]
  have k3 : Below v2.heap.size v2 v3 := by rw [e3]; exact (Below.refl _ _).alloc (Nat.le_refl _) _
  have p0 : v3.cell? ⟨v2.heap.size, 0, none⟩ = some (.pointer (some ⟨w.heap.size, 0, none⟩)) ∧ v3.frozen? ⟨v2.heap.size, 0, none⟩ = false := by rw [e3]; exact ⟨by simp [World.cell?_alloc_at], by simp [World.frozen?_alloc_at]⟩
  have p1 : v3.cell? ⟨v2.heap.size, 1, none⟩ = some (.pointer (some ⟨v1.heap.size, 0, none⟩)) ∧ v3.frozen? ⟨v2.heap.size, 1, none⟩ = false := by rw [e3]; exact ⟨by simp [World.cell?_alloc_at], by simp [World.frozen?_alloc_at]⟩
  have A1 : Hid (Met v3 w.heap.size s ∧ Met v3 v1.heap.size t ∧ (v3.cell? ⟨v2.heap.size, 0, none⟩ = some (.pointer (some ⟨w.heap.size, 0, none⟩)) ∧ v3.frozen? ⟨v2.heap.size, 0, none⟩ = false) ∧ (v3.cell? ⟨v2.heap.size, 1, none⟩ = some (.pointer (some ⟨v1.heap.size, 0, none⟩)) ∧ v3.frozen? ⟨v2.heap.size, 1, none⟩ = false) ∧ w.heap.size < v1.heap.size ∧ v1.heap.size < v2.heap.size ∧ v2.heap.size < v3.heap.size ∧ Below w.heap.size w v3) := ⟨(hb0.past k2).past k3, hb1.past k3, p0, p1, hb0.lt, hb1.lt, World.block_lt_of_cell? v3 _ p0.1, (k1.trans (k2.mono k1.size)).trans (k3.mono (Nat.le_trans k1.size k2.size))⟩
  clear hb0 hb1 p0 p1 k1 k2 k3 e3
  obtain ⟨b0, eb0⟩ : ∃ b0, b0 = w.heap.size := ⟨_, rfl⟩
  have A1 : Hid (Met v3 b0 s ∧ Met v3 v1.heap.size t ∧ (v3.cell? ⟨v2.heap.size, 0, none⟩ = some (.pointer (some ⟨b0, 0, none⟩)) ∧ v3.frozen? ⟨v2.heap.size, 0, none⟩ = false) ∧ (v3.cell? ⟨v2.heap.size, 1, none⟩ = some (.pointer (some ⟨v1.heap.size, 0, none⟩)) ∧ v3.frozen? ⟨v2.heap.size, 1, none⟩ = false) ∧ (w.heap.size ≤ b0 ∧ b0 < v1.heap.size) ∧ v1.heap.size < v2.heap.size ∧ v2.heap.size < v3.heap.size ∧ Below w.heap.size w v3) := by obtain ⟨a1, a2, a3, a4, a5, a6, a7, a8⟩ := A1.out; exact ⟨eb0 ▸ a1, a2, eb0 ▸ a3, a4, ⟨by omega, by omega⟩, a6, a7, a8⟩
  rw [← eb0]
  clear eb0
  generalize v1.heap.size = b1 at A1 ⊢
  generalize v2.heap.size = gm at A1 ⊢
  go_upto_region 3 with (go_at_call 35; first | (refine (NC.out v3 s HS.out.1 HS.out.2).mono ?_; rintro e v4 ⟨rfl, hc0, k4⟩) | (refine (NC.out v4 t HT.out.1 HT.out.2).mono ?_; rintro e v5 ⟨rfl, hc1, k5⟩))
  obtain ⟨v6, e6⟩ : ∃ v6, v6 = v5.alloc (.cells #[.pointer (some ⟨v3.heap.size, 0, none⟩), .pointer (some ⟨v4.heap.size, 0, none⟩)] 43) := ⟨_, rfl⟩
  rw [← e6]
  have k6 : Below v5.heap.size v5 v6 := by rw [e6]; exact (Below.refl _ _).alloc (Nat.le_refl _) _
  have q0 : v6.cell? ⟨v5.heap.size, 0, none⟩ = some (.pointer (some ⟨v3.heap.size, 0, none⟩)) ∧ v6.frozen? ⟨v5.heap.size, 0, none⟩ = false := by rw [e6]; exact ⟨by simp [World.cell?_alloc_at], by simp [World.frozen?_alloc_at]⟩
  have q1 : v6.cell? ⟨v5.heap.size, 1, none⟩ = some (.pointer (some ⟨v4.heap.size, 0, none⟩)) ∧ v6.frozen? ⟨v5.heap.size, 1, none⟩ = false := by rw [e6]; exact ⟨by simp [World.cell?_alloc_at], by simp [World.frozen?_alloc_at]⟩
  have k7 : Below v3.heap.size v3 v6 := (k4.trans (k5.mono k4.size)).trans (k6.mono (Nat.le_trans k4.size k5.size))
  have G0 : Hid (∃ (b c : Nat → Nat) (p : Nat → Int), GM w v6 gm v5.heap.size b c p p) := by
    obtain ⟨a1, a2, a3, a4, a5, a6, a7, a8⟩ := A1.out
    have old : ∀ i, v6.cell? ⟨gm, i, none⟩ = v3.cell? ⟨gm, i, none⟩ ∧ v6.frozen? ⟨gm, i, none⟩ = v3.frozen? ⟨gm, i, none⟩ := fun i => ⟨k7.cell (p := ⟨gm, i, none⟩) a7, k7.frozen (p := ⟨gm, i, none⟩) a7⟩
    exact ⟨_, _, _, GM.new (a1.past k7) (a2.past k7) ((hc0.past k5).past k6) (hc1.past k6) ⟨(old 0).1.trans a3.1, (old 0).2.trans a3.2⟩ ⟨(old 1).1.trans a4.1, (old 1).2.trans a4.2⟩ q0 q1 a5.1 a5.2 a6 a7 hc0.lt hc1.lt (a8.trans (k7.mono a8.size))⟩
  have C0 : Hid (v6.cell? ⟨gm, 0, none⟩ = some (.pointer (some ⟨b0, 0, none⟩)) ∧ v6.cell? ⟨gm, 1, none⟩ = some (.pointer (some ⟨b1, 0, none⟩))) := ⟨(k7.cell (p := ⟨gm, 0, none⟩) A1.out.2.2.2.2.2.2.1).trans A1.out.2.2.1.1, (k7.cell (p := ⟨gm, 1, none⟩) A1.out.2.2.2.2.2.2.1).trans A1.out.2.2.2.1.1⟩
  clear hc0 hc1 q0 q1 k4 k5 k6 k7 e6 A1
  generalize v5.heap.size = gr at G0 ⊢
  generalize v4.heap.size = c1_ at ⊢
  generalize v3.heap.size = c0_ at ⊢
  obtain ⟨pc0, pc1⟩ := C0.out
  clear C0
  go_upto_region 5 with fail
  clear pc0 pc1
  go_wp2
  go_loopw [9] (fun s9 wr => ∃ (k : Nat) (b c : Nat → Nat) (p : Nat → Int), s9 = .int .i64 (k : Int) ∧ k ≤ n ∧ GM w wr gm gr b c p p) (fun s9 _ => n - (intOf s9).toNat)
  case atStart => obtain ⟨b, c, p, h⟩ := G0.out; exact ⟨0, b, c, p, rfl, by omega, h⟩
  case round =>
    obtain ⟨k, b, c, p, rfl, hk, hG⟩ := hrel
    have GG : Hid (GM w wr gm gr b c p p) := hG
    clear hG G0
    have kI : (k : Int) ≤ (n : Int) := by omega
    by_cases e : k = n
    · subst e
      obtain ⟨d0, _⟩ := GG.out.pm 0 (by omega)
      obtain ⟨d1, _⟩ := GG.out.pm 1 (by omega)
      have L0 : Hid (Calls Try.prog 40 #[.pointer (some ⟨b 0, 0, none⟩)] wr fun e w' => e = .returned (.int .u64 (p 0)) ∧ w' = wr) := LF.out wr _ _ (GG.out.mb 0 (by omega))
      have L1 : Hid (Calls Try.prog 40 #[.pointer (some ⟨b 1, 0, none⟩)] wr fun e w' => e = .returned (.int .u64 (p 1)) ∧ w' = wr) := LF.out wr _ _ (GG.out.mb 1 (by omega))
      have M0 : Hid (Calls Try.prog 41 #[.pointer (some ⟨c 0, 0, none⟩)] wr fun e w' => e = .returned (.int .u64 (p 0)) ∧ w' = wr) := LR.out wr _ _ (GG.out.mc 0 (by omega))
      have M1 : Hid (Calls Try.prog 41 #[.pointer (some ⟨c 1, 0, none⟩)] wr fun e w' => e = .returned (.int .u64 (p 1)) ∧ w' = wr) := LR.out wr _ _ (GG.out.mc 1 (by omega))
      obtain ⟨f0, _⟩ := GG.out.pr 0 (by omega)
      obtain ⟨f1, _⟩ := GG.out.pr 1 (by omega)
      have HB : Hid (Below w.heap.size w wr) := GG.out.bel
      clear GG
      generalize p 0 = P0 at *
      generalize p 1 = P1 at *
      generalize b 0 = B0 at *
      generalize b 1 = B1 at *
      generalize c 0 = D0 at *
      generalize c 1 = D1 at *
      go_upto_region 31 with (go_at_call 40; refine (L0.out).mono ?_; rintro e w' ⟨rfl, hw⟩; (have hw2 := hw.symm); clear hw; subst hw2)
      go_upto_region 32 with (go_at_call 40; refine (L1.out).mono ?_; rintro e w' ⟨rfl, hw⟩; (have hw2 := hw.symm); clear hw; subst hw2)
      refine wp_region_lit ?_
      refine lst_val (v := .int .u64 P0) (by rfl) ?_ ?_
      · go_simp
      simp only [Act.put, List.setIfInBounds_toArray, List.set_cons_zero, List.set_cons_succ]
      refine lst_val (v := .slice (some ⟨gr, 0, none⟩) 2 2) (by rfl) ?_ ?_
      · go_simp
      simp only [Act.put, List.setIfInBounds_toArray, List.set_cons_zero, List.set_cons_succ]
      refine lst_val (v := .pointer (some ⟨gr, 0, none⟩)) (by rfl) ?_ ?_
      · go_simp
      simp only [Act.put, List.setIfInBounds_toArray, List.set_cons_zero, List.set_cons_succ]
      refine lst_val (v := .pointer (some ⟨D0, 0, none⟩)) (by rfl) ?_ ?_
      · go_simp
      simp only [Act.put, List.setIfInBounds_toArray, List.set_cons_zero, List.set_cons_succ]
      refine lst_call (by rfl) (by first | (go_simp; done) | (go_simp; first | exact rfl | exact ⟨rfl, rfl⟩ | exact ⟨rfl, rfl, rfl⟩)) (M0.out) ?_
      rintro e w' ⟨rfl, hw⟩
      have hw2 := hw.symm
      clear hw
      subst hw2
      refine ⟨_, rfl, ?_⟩
      simp only [Act.put, List.setIfInBounds_toArray, List.set_cons_zero, List.set_cons_succ]
      refine lst_val (v := .bool true) (by rfl) ?_ ?_
      · go_simp
      simp only [Act.put, List.setIfInBounds_toArray, List.set_cons_zero, List.set_cons_succ]
      refine lst_val (v := .bool true) (by rfl) ?_ ?_
      · go_simp
      simp only [Act.put, List.setIfInBounds_toArray, List.set_cons_zero, List.set_cons_succ]
      refine lst_val (v := .int .u64 P1) (by rfl) ?_ ?_
      · go_simp
      simp only [Act.put, List.setIfInBounds_toArray, List.set_cons_zero, List.set_cons_succ]
      refine lst_val (v := .slice (some ⟨gr, 0, none⟩) 2 2) (by rfl) ?_ ?_
      · go_simp
      simp only [Act.put, List.setIfInBounds_toArray, List.set_cons_zero, List.set_cons_succ]
      refine lst_val (v := .pointer (some ⟨gr, 1, none⟩)) (by rfl) ?_ ?_
      · go_simp
      simp only [Act.put, List.setIfInBounds_toArray, List.set_cons_zero, List.set_cons_succ]
      refine lst_val (v := .pointer (some ⟨D1, 0, none⟩)) (by rfl) ?_ ?_
      · go_simp
      simp only [Act.put, List.setIfInBounds_toArray, List.set_cons_zero, List.set_cons_succ]
      refine lst_call (by rfl) (by first | (go_simp; done) | (go_simp; first | exact rfl | exact ⟨rfl, rfl⟩ | exact ⟨rfl, rfl, rfl⟩)) (M1.out) ?_
      rintro e w' ⟨rfl, hw⟩
      have hw2 := hw.symm
      clear hw
      subst hw2
      refine ⟨_, rfl, ?_⟩
      simp only [Act.put, List.setIfInBounds_toArray, List.set_cons_zero, List.set_cons_succ]
      refine lst_val (v := .bool true) (by rfl) ?_ ?_
      · go_simp
      simp only [Act.put, List.setIfInBounds_toArray, List.set_cons_zero, List.set_cons_succ]
      refine lst_val (v := .bool true) (by rfl) ?_ ?_
      · go_simp
      simp only [Act.put, List.setIfInBounds_toArray, List.set_cons_zero, List.set_cons_succ]
      refine lst_val (v := .bool true) (by rfl) ?_ ?_
      · go_simp
      simp only [Act.put, List.setIfInBounds_toArray, List.set_cons_zero, List.set_cons_succ]
      refine wpList_nil ?_
      go_wp2
      go_ret
      exact ⟨rfl, HB.out⟩
    · have kn : (k : Int) < (n : Int) := by omega
      obtain ⟨g, a, rfl, hc⟩ := HU.out (by omega)
      obtain ⟨hA, hO⟩ := hc k (by omega)
      have st := hA wr GG.out.bel
      generalize x k = o at st hO
      clear hA hc
      obtain ⟨kd, wh, nm⟩ := o
      obtain ⟨n0, n1⟩ := hO
      dsimp only at n0 n1
      obtain ⟨s0, s1, s2⟩ := st
      dsimp only at s0 s1 s2
      go_upto_region 9 with fail
      obtain ⟨v, ev⟩ : ∃ v, v = wr.alloc (.cells #[.int .i64 kd, .int .i64 wh, .int .u64 nm] 47) := ⟨_, rfl⟩
      rw [← ev]
      have XX : Hid (GX w v gm gr b c p p wr.heap.size ⟨kd, wh, nm⟩) := by
        rw [ev]
        refine ⟨GG.out.past ((Below.refl _ _).alloc (Nat.le_refl _) _), ⟨by simp [World.cell?_alloc_at], by simp [World.cell?_alloc_at], by simp [World.cell?_alloc_at]⟩, fun i hi => ?_, ?_⟩
        · have h1 := (GG.out.mb i hi).lt; have h2 := (GG.out.mc i hi).lt; exact ⟨by omega, by omega⟩
        · have h1 := GG.out.pm.lt; have h2 := GG.out.pr.lt; exact ⟨by omega, by omega⟩
      clear ev s0 s1 s2 GG
      generalize wr.heap.size = bx at XX ⊢
      obtain ⟨j, ej⟩ : ∃ j : Nat, j = (wh % 2).toNat := ⟨_, rfl⟩
      have hj : j < 2 := by omega
      have hw2 : bits .and .i64 wh 1 = (j : Int) := by rw [i64_and1]; omega
      have jI : (j : Int) < 2 := by omega
      clear ej
      obtain ⟨x0, x1, x2⟩ := XX.out.x
      dsimp only at x0 x1 x2
      simp only [Nat.zero_add] at x1 x2
      go_upto_region 11 with fail
      clear x0 x1 x2 hw2
      by_cases q1 : kd = 1
      · subst q1
        go_upto_region 12 with fail
        refine wp_region_held_drew (S := fun V' => (∀ i, i < 2 → V'.cell? ⟨gm, i, none⟩ = some (.pointer (some ⟨b i, 0, none⟩))) ∧ V'.cell? ⟨bx, 2, none⟩ = some (.int .u64 nm)) (by kernel_rfl) ⟨fun i hi => (XX.out.drew.g.pm i hi).1, XX.out.drew.x.2.2⟩ (fun hHeld => ?_)
        have D1 : Hid (GX w v.drew gm gr b c p p bx ⟨1, wh, nm⟩) := XX.out.drew
        generalize v.drew = z1 at hHeld D1 ⊢
        refine wpAnyH_take (i := 0) (v := .slice (some ⟨gm, 0, none⟩) 2 2) ov0 (by kernel_rfl) (by kernel_rfl) (by kernel_rfl) (fun _ _ _ h => h) (Or.inl ⟨by rfl, fun V' hS => ?_⟩) hHeld ?_
        · go_simp
        simp only [Act.put, List.setIfInBounds_toArray, List.set_cons_zero, List.set_cons_succ]
        refine wpAnyH_take (i := 1) (v := .int .i64 (j : Int)) ov1 (by kernel_rfl) (by kernel_rfl) (by kernel_rfl) (fun _ _ _ h => h) (Or.inl ⟨by rfl, fun V' hS => ?_⟩) hHeld ?_
        · go_simp
        simp only [Act.put, List.setIfInBounds_toArray, List.set_cons_zero, List.set_cons_succ]
        refine wpAnyH_take (i := 2) (v := .pointer (some ⟨gm, j, none⟩)) ov2 (by kernel_rfl) (by kernel_rfl) (by kernel_rfl) (fun _ _ _ h => h) (Or.inl ⟨by rfl, fun V' hS => ?_⟩) hHeld ?_
        · go_simp
        simp only [Act.put, List.setIfInBounds_toArray, List.set_cons_zero, List.set_cons_succ]
        refine wpAnyH_take (i := 3) (v := .pointer (some ⟨(b j), 0, none⟩)) ov3 (by kernel_rfl) (by kernel_rfl) (by kernel_rfl) (fun _ _ _ h => h) (Or.inl ⟨by rfl, fun V' hS => ?_⟩) hHeld ?_
        · have h9 := hS.1 j hj
          go_simp
        simp only [Act.put, List.setIfInBounds_toArray, List.set_cons_zero, List.set_cons_succ]
        refine wpAnyH_take (i := 4) (v := .pointer (some ⟨bx, 2, none⟩)) ov4 (by kernel_rfl) (by kernel_rfl) (by kernel_rfl) (fun _ _ _ h => h) (Or.inl ⟨by rfl, fun V' hS => ?_⟩) hHeld ?_
        · go_simp
        simp only [Act.put, List.setIfInBounds_toArray, List.set_cons_zero, List.set_cons_succ]
        refine wpAnyH_take (i := 5) (v := .int .u64 nm) ov5 (by kernel_rfl) (by kernel_rfl) (by kernel_rfl) (fun _ _ _ h => h) (Or.inl ⟨by rfl, fun V' hS => ?_⟩) hHeld ?_
        · have h9 := hS.2
          go_simp
        simp only [Act.put, List.setIfInBounds_toArray, List.set_cons_zero, List.set_cons_succ]
        refine wpAnyH_ready (rs := [6]) (by kernel_rfl) (by simp) ?_
        refine AllReadyH.cons ov6 (fun K hK => ?_) AllReadyH.nil
        rw [if_pos (by rfl)]
        go_simp
        refine (PY.out _ (b j) (p j) nm (D1.out.g.mb j hj) n0).mono ?_
        rintro e y1 ⟨rfl, hM, hO⟩
        have H1 : Hid (GX w y1 gm gr b c (upd p j (pyL (p j) nm)) p bx ⟨1, wh, nm⟩) := ⟨(D1.out.g).callB hj hM hO, (D1.out.x).only hO (D1.out.ab j hj).1, D1.out.ab, D1.out.ag⟩
        (try go_wp2_with fail)
        refine hK.out _ _ ⟨fun i hi => (H1.out.g.pm i hi).1, H1.out.x.2.2⟩ (fun _ => ?_)
        clear hK K
        (try simp only [Act.put, List.setIfInBounds_toArray, List.set_cons_zero, List.set_cons_succ])
        refine wpAnyH_take (i := 7) (v := .bool (pyB (p j) nm)) ov7 (by kernel_rfl) (by kernel_rfl) (by kernel_rfl) (fun _ _ _ h => h) (Or.inl ⟨by rfl, fun V' hS => ?_⟩) (⟨fun i hi => (H1.out.g.pm i hi).1, H1.out.x.2.2⟩) ?_
        · go_simp
        simp only [Act.put, List.setIfInBounds_toArray, List.set_cons_zero, List.set_cons_succ]
        refine wpAnyH_done (by kernel_rfl) ?_ _
        go_upto_region 13 with fail
        refine wp_region_held_drew (S := fun V' => (∀ i, i < 2 → V'.cell? ⟨gr, i, none⟩ = some (.pointer (some ⟨c i, 0, none⟩))) ∧ V'.cell? ⟨bx, 2, none⟩ = some (.int .u64 nm)) (by kernel_rfl) ⟨fun i hi => (H1.out.drew.g.pr i hi).1, H1.out.drew.x.2.2⟩ (fun hHeld => ?_)
        have D2 : Hid (GX w y1.drew gm gr b c (upd p j (pyL (p j) nm)) p bx ⟨1, wh, nm⟩) := H1.out.drew
        generalize y1.drew = z2 at hHeld D2 ⊢
        refine wpAnyH_take (i := 0) (v := .slice (some ⟨gr, 0, none⟩) 2 2) ov0 (by kernel_rfl) (by kernel_rfl) (by kernel_rfl) (fun _ _ _ h => h) (Or.inl ⟨by rfl, fun V' hS => ?_⟩) hHeld ?_
        · go_simp
        simp only [Act.put, List.setIfInBounds_toArray, List.set_cons_zero, List.set_cons_succ]
        refine wpAnyH_take (i := 1) (v := .int .i64 (j : Int)) ov1 (by kernel_rfl) (by kernel_rfl) (by kernel_rfl) (fun _ _ _ h => h) (Or.inl ⟨by rfl, fun V' hS => ?_⟩) hHeld ?_
        · go_simp
        simp only [Act.put, List.setIfInBounds_toArray, List.set_cons_zero, List.set_cons_succ]
        refine wpAnyH_take (i := 2) (v := .pointer (some ⟨gr, j, none⟩)) ov2 (by kernel_rfl) (by kernel_rfl) (by kernel_rfl) (fun _ _ _ h => h) (Or.inl ⟨by rfl, fun V' hS => ?_⟩) hHeld ?_
        · go_simp
        simp only [Act.put, List.setIfInBounds_toArray, List.set_cons_zero, List.set_cons_succ]
        refine wpAnyH_take (i := 3) (v := .pointer (some ⟨(c j), 0, none⟩)) ov3 (by kernel_rfl) (by kernel_rfl) (by kernel_rfl) (fun _ _ _ h => h) (Or.inl ⟨by rfl, fun V' hS => ?_⟩) hHeld ?_
        · have h9 := hS.1 j hj
          go_simp
        simp only [Act.put, List.setIfInBounds_toArray, List.set_cons_zero, List.set_cons_succ]
        refine wpAnyH_take (i := 4) (v := .pointer (some ⟨bx, 2, none⟩)) ov4 (by kernel_rfl) (by kernel_rfl) (by kernel_rfl) (fun _ _ _ h => h) (Or.inl ⟨by rfl, fun V' hS => ?_⟩) hHeld ?_
        · go_simp
        simp only [Act.put, List.setIfInBounds_toArray, List.set_cons_zero, List.set_cons_succ]
        refine wpAnyH_take (i := 5) (v := .int .u64 nm) ov5 (by kernel_rfl) (by kernel_rfl) (by kernel_rfl) (fun _ _ _ h => h) (Or.inl ⟨by rfl, fun V' hS => ?_⟩) hHeld ?_
        · have h9 := hS.2
          go_simp
        simp only [Act.put, List.setIfInBounds_toArray, List.set_cons_zero, List.set_cons_succ]
        refine wpAnyH_ready (rs := [6]) (by kernel_rfl) (by simp) ?_
        refine AllReadyH.cons ov6 (fun K hK => ?_) AllReadyH.nil
        rw [if_pos (by rfl)]
        go_simp
        refine (PR.out _ (c j) (p j) nm (D2.out.g.mc j hj) n0).mono ?_
        rintro e y2 ⟨rfl, hM, hO⟩
        have H2 : Hid (GX w y2 gm gr b c (upd p j (pyL (p j) nm)) (upd p j (pyL (p j) nm)) bx ⟨1, wh, nm⟩) := ⟨(D2.out.g).callC hj hM hO, (D2.out.x).only hO (D2.out.ab j hj).2, D2.out.ab, D2.out.ag⟩
        (try go_wp2_with fail)
        refine hK.out _ _ ⟨fun i hi => (H2.out.g.pr i hi).1, H2.out.x.2.2⟩ (fun _ => ?_)
        clear hK K
        (try simp only [Act.put, List.setIfInBounds_toArray, List.set_cons_zero, List.set_cons_succ])
        refine wpAnyH_take (i := 7) (v := .bool (pyB (p j) nm)) ov7 (by kernel_rfl) (by kernel_rfl) (by kernel_rfl) (fun _ _ _ h => h) (Or.inl ⟨by rfl, fun V' hS => ?_⟩) (⟨fun i hi => (H2.out.g.pr i hi).1, H2.out.x.2.2⟩) ?_
        · go_simp
        simp only [Act.put, List.setIfInBounds_toArray, List.set_cons_zero, List.set_cons_succ]
        refine wpAnyH_done (by kernel_rfl) ?_ _
        go_upto_region 14 with fail
        generalize pyB (p j) nm = bb at ⊢
        have HF : Hid (GM w y2 gm gr b c (upd p j (pyL (p j) nm)) (upd p j (pyL (p j) nm))) := H2.out.g
        generalize (upd p j (pyL (p j) nm)) = p' at HF
        clear H1 H2 D1 D2
        (try clear hHeld)
        go_wp2
        go_roundw
        case rel => exact ⟨k + 1, b, c, p', by first | rfl | go_num, by omega, HF.out⟩
        case measure => simp [intOf]; omega
      have r1 : (kd == 1) = false := by simpa using q1
      by_cases q2 : kd = 2
      · subst q2
        clear q1 r1
        go_upto_region 17 with fail
        refine wp_region_held_drew (S := fun V' => (∀ i, i < 2 → V'.cell? ⟨gm, i, none⟩ = some (.pointer (some ⟨b i, 0, none⟩))) ∧ V'.cell? ⟨bx, 2, none⟩ = some (.int .u64 nm)) (by kernel_rfl) ⟨fun i hi => (XX.out.drew.g.pm i hi).1, XX.out.drew.x.2.2⟩ (fun hHeld => ?_)
        have D1 : Hid (GX w v.drew gm gr b c p p bx ⟨2, wh, nm⟩) := XX.out.drew
        generalize v.drew = z1 at hHeld D1 ⊢
        refine wpAnyH_take (i := 0) (v := .slice (some ⟨gm, 0, none⟩) 2 2) ov0 (by kernel_rfl) (by kernel_rfl) (by kernel_rfl) (fun _ _ _ h => h) (Or.inl ⟨by rfl, fun V' hS => ?_⟩) hHeld ?_
        · go_simp
        simp only [Act.put, List.setIfInBounds_toArray, List.set_cons_zero, List.set_cons_succ]
        refine wpAnyH_take (i := 1) (v := .int .i64 (j : Int)) ov1 (by kernel_rfl) (by kernel_rfl) (by kernel_rfl) (fun _ _ _ h => h) (Or.inl ⟨by rfl, fun V' hS => ?_⟩) hHeld ?_
        · go_simp
        simp only [Act.put, List.setIfInBounds_toArray, List.set_cons_zero, List.set_cons_succ]
        refine wpAnyH_take (i := 2) (v := .pointer (some ⟨gm, j, none⟩)) ov2 (by kernel_rfl) (by kernel_rfl) (by kernel_rfl) (fun _ _ _ h => h) (Or.inl ⟨by rfl, fun V' hS => ?_⟩) hHeld ?_
        · go_simp
        simp only [Act.put, List.setIfInBounds_toArray, List.set_cons_zero, List.set_cons_succ]
        refine wpAnyH_take (i := 3) (v := .pointer (some ⟨(b j), 0, none⟩)) ov3 (by kernel_rfl) (by kernel_rfl) (by kernel_rfl) (fun _ _ _ h => h) (Or.inl ⟨by rfl, fun V' hS => ?_⟩) hHeld ?_
        · have h9 := hS.1 j hj
          go_simp
        simp only [Act.put, List.setIfInBounds_toArray, List.set_cons_zero, List.set_cons_succ]
        refine wpAnyH_take (i := 4) (v := .pointer (some ⟨bx, 2, none⟩)) ov4 (by kernel_rfl) (by kernel_rfl) (by kernel_rfl) (fun _ _ _ h => h) (Or.inl ⟨by rfl, fun V' hS => ?_⟩) hHeld ?_
        · go_simp
        simp only [Act.put, List.setIfInBounds_toArray, List.set_cons_zero, List.set_cons_succ]
        refine wpAnyH_take (i := 5) (v := .int .u64 nm) ov5 (by kernel_rfl) (by kernel_rfl) (by kernel_rfl) (fun _ _ _ h => h) (Or.inl ⟨by rfl, fun V' hS => ?_⟩) hHeld ?_
        · have h9 := hS.2
          go_simp
        simp only [Act.put, List.setIfInBounds_toArray, List.set_cons_zero, List.set_cons_succ]
        refine wpAnyH_ready (rs := [6]) (by kernel_rfl) (by simp) ?_
        refine AllReadyH.cons ov6 (fun K hK => ?_) AllReadyH.nil
        rw [if_pos (by rfl)]
        go_simp
        refine (GN.out _ (b j) (p j) nm (D1.out.g.mb j hj) n0).mono ?_
        rintro e y1 ⟨rfl, hM, hO⟩
        have H1 : Hid (GX w y1 gm gr b c (upd p j (gnL (p j) nm)) p bx ⟨2, wh, nm⟩) := ⟨(D1.out.g).callB hj hM hO, (D1.out.x).only hO (D1.out.ab j hj).1, D1.out.ab, D1.out.ag⟩
        (try go_wp2_with fail)
        refine hK.out _ _ ⟨fun i hi => (H1.out.g.pm i hi).1, H1.out.x.2.2⟩ (fun _ => ?_)
        clear hK K
        (try simp only [Act.put, List.setIfInBounds_toArray, List.set_cons_zero, List.set_cons_succ])
        refine wpAnyH_take (i := 7) (v := .bool (gnB (p j) nm)) ov7 (by kernel_rfl) (by kernel_rfl) (by kernel_rfl) (fun _ _ _ h => h) (Or.inl ⟨by rfl, fun V' hS => ?_⟩) (⟨fun i hi => (H1.out.g.pm i hi).1, H1.out.x.2.2⟩) ?_
        · go_simp
        simp only [Act.put, List.setIfInBounds_toArray, List.set_cons_zero, List.set_cons_succ]
        refine wpAnyH_done (by kernel_rfl) ?_ _
        go_upto_region 18 with fail
        refine wp_region_held_drew (S := fun V' => (∀ i, i < 2 → V'.cell? ⟨gr, i, none⟩ = some (.pointer (some ⟨c i, 0, none⟩))) ∧ V'.cell? ⟨bx, 2, none⟩ = some (.int .u64 nm)) (by kernel_rfl) ⟨fun i hi => (H1.out.drew.g.pr i hi).1, H1.out.drew.x.2.2⟩ (fun hHeld => ?_)
        have D2 : Hid (GX w y1.drew gm gr b c (upd p j (gnL (p j) nm)) p bx ⟨2, wh, nm⟩) := H1.out.drew
        generalize y1.drew = z2 at hHeld D2 ⊢
        refine wpAnyH_take (i := 0) (v := .slice (some ⟨gr, 0, none⟩) 2 2) ov0 (by kernel_rfl) (by kernel_rfl) (by kernel_rfl) (fun _ _ _ h => h) (Or.inl ⟨by rfl, fun V' hS => ?_⟩) hHeld ?_
        · go_simp
        simp only [Act.put, List.setIfInBounds_toArray, List.set_cons_zero, List.set_cons_succ]
        refine wpAnyH_take (i := 1) (v := .int .i64 (j : Int)) ov1 (by kernel_rfl) (by kernel_rfl) (by kernel_rfl) (fun _ _ _ h => h) (Or.inl ⟨by rfl, fun V' hS => ?_⟩) hHeld ?_
        · go_simp
        simp only [Act.put, List.setIfInBounds_toArray, List.set_cons_zero, List.set_cons_succ]
        refine wpAnyH_take (i := 2) (v := .pointer (some ⟨gr, j, none⟩)) ov2 (by kernel_rfl) (by kernel_rfl) (by kernel_rfl) (fun _ _ _ h => h) (Or.inl ⟨by rfl, fun V' hS => ?_⟩) hHeld ?_
        · go_simp
        simp only [Act.put, List.setIfInBounds_toArray, List.set_cons_zero, List.set_cons_succ]
        refine wpAnyH_take (i := 3) (v := .pointer (some ⟨(c j), 0, none⟩)) ov3 (by kernel_rfl) (by kernel_rfl) (by kernel_rfl) (fun _ _ _ h => h) (Or.inl ⟨by rfl, fun V' hS => ?_⟩) hHeld ?_
        · have h9 := hS.1 j hj
          go_simp
        simp only [Act.put, List.setIfInBounds_toArray, List.set_cons_zero, List.set_cons_succ]
        refine wpAnyH_take (i := 4) (v := .pointer (some ⟨bx, 2, none⟩)) ov4 (by kernel_rfl) (by kernel_rfl) (by kernel_rfl) (fun _ _ _ h => h) (Or.inl ⟨by rfl, fun V' hS => ?_⟩) hHeld ?_
        · go_simp
        simp only [Act.put, List.setIfInBounds_toArray, List.set_cons_zero, List.set_cons_succ]
        refine wpAnyH_take (i := 5) (v := .int .u64 nm) ov5 (by kernel_rfl) (by kernel_rfl) (by kernel_rfl) (fun _ _ _ h => h) (Or.inl ⟨by rfl, fun V' hS => ?_⟩) hHeld ?_
        · have h9 := hS.2
          go_simp
        simp only [Act.put, List.setIfInBounds_toArray, List.set_cons_zero, List.set_cons_succ]
        refine wpAnyH_ready (rs := [6]) (by kernel_rfl) (by simp) ?_
        refine AllReadyH.cons ov6 (fun K hK => ?_) AllReadyH.nil
        rw [if_pos (by rfl)]
        go_simp
        refine (GR.out _ (c j) (p j) nm (D2.out.g.mc j hj) n0).mono ?_
        rintro e y2 ⟨rfl, hM, hO⟩
        have H2 : Hid (GX w y2 gm gr b c (upd p j (gnL (p j) nm)) (upd p j (gnL (p j) nm)) bx ⟨2, wh, nm⟩) := ⟨(D2.out.g).callC hj hM hO, (D2.out.x).only hO (D2.out.ab j hj).2, D2.out.ab, D2.out.ag⟩
        (try go_wp2_with fail)
        refine hK.out _ _ ⟨fun i hi => (H2.out.g.pr i hi).1, H2.out.x.2.2⟩ (fun _ => ?_)
        clear hK K
        (try simp only [Act.put, List.setIfInBounds_toArray, List.set_cons_zero, List.set_cons_succ])
        refine wpAnyH_take (i := 7) (v := .bool (gnB (p j) nm)) ov7 (by kernel_rfl) (by kernel_rfl) (by kernel_rfl) (fun _ _ _ h => h) (Or.inl ⟨by rfl, fun V' hS => ?_⟩) (⟨fun i hi => (H2.out.g.pr i hi).1, H2.out.x.2.2⟩) ?_
        · go_simp
        simp only [Act.put, List.setIfInBounds_toArray, List.set_cons_zero, List.set_cons_succ]
        refine wpAnyH_done (by kernel_rfl) ?_ _
        go_upto_region 19 with fail
        generalize gnB (p j) nm = bb at ⊢
        have HF : Hid (GM w y2 gm gr b c (upd p j (gnL (p j) nm)) (upd p j (gnL (p j) nm))) := H2.out.g
        generalize (upd p j (gnL (p j) nm)) = p' at HF
        clear H1 H2 D1 D2
        (try clear hHeld)
        go_wp2
        go_roundw
        case rel => exact ⟨k + 1, b, c, p', by first | rfl | go_num, by omega, HF.out⟩
        case measure => simp [intOf]; omega
      have r2 : (kd == 2) = false := by simpa using q2
      by_cases q3 : kd = 3
      · subst q3
        clear q1 r1 q2 r2
        obtain ⟨d0, _⟩ := XX.out.g.pm j hj
        obtain ⟨f0, _⟩ := XX.out.g.pr j hj
        have L0 : Hid (Calls Try.prog 40 #[.pointer (some ⟨b j, 0, none⟩)] v fun e w' => e = .returned (.int .u64 (p j)) ∧ w' = v) := LF.out v _ _ (XX.out.g.mb j hj)
        have M0 : Hid (Calls Try.prog 41 #[.pointer (some ⟨c j, 0, none⟩)] v fun e w' => e = .returned (.int .u64 (p j)) ∧ w' = v) := LR.out v _ _ (XX.out.g.mc j hj)
        have HF : Hid (GM w v gm gr b c p p) := XX.out.g
        clear XX
        obtain ⟨P0, eP⟩ : ∃ P0, P0 = p j := ⟨_, rfl⟩
        rw [← eP] at L0 M0
        clear eP
        go_wp2_with (first | (go_at_call 40; refine (L0.out).mono ?_; rintro e w' ⟨rfl, hw⟩; (have hw2 := hw.symm); clear hw; subst hw2) | (go_at_call 41; refine (M0.out).mono ?_; rintro e w' ⟨rfl, hw⟩; (have hw2 := hw.symm); clear hw; subst hw2))
        go_roundw
        case rel => exact ⟨k + 1, b, c, p, by first | rfl | go_num, by omega, HF.out⟩
        case measure => simp [intOf]; omega
      have r3 : (kd == 3) = false := by simpa using q3
      by_cases q4 : kd = 4
      · subst q4
        clear q1 r1 q2 r2 q3 r3
        obtain ⟨_, _, x2⟩ := XX.out.x
        dsimp only at x2
        simp only [Nat.zero_add] at x2
        go_upto_region 27 with (go_at_call 34; refine (NB.out v nm n0 n1).mono ?_; rintro e y1 ⟨rfl, hM, hB⟩; (obtain ⟨t1, t2⟩ := (XX.out.g.pm.past hB) j hj); (have t3 := ((XX.out.past hB).x).2.2); dsimp only at t3; simp only [Nat.zero_add] at t3)
        have Y1 : Hid (GX w (y1.setCell ⟨gm, j, none⟩ (.pointer (some ⟨v.heap.size, 0, none⟩))) gm gr (upd b j v.heap.size) c (upd p j nm) p bx ⟨4, wh, nm⟩) := XX.out.newB hj rfl hM hB
        clear hM hB t1 t2 t3 x2 XX
        generalize v.heap.size = nb at Y1 ⊢
        generalize y1.setCell ⟨gm, j, none⟩ (.pointer (some ⟨nb, 0, none⟩)) = y2 at Y1 ⊢
        obtain ⟨_, _, x2⟩ := Y1.out.x
        dsimp only at x2
        simp only [Nat.zero_add] at x2
        go_upto_region 28 with (go_at_call 35; refine (NC.out y2 nm n0 n1).mono ?_; rintro e y3 ⟨rfl, hM, hB⟩; (obtain ⟨t1, t2⟩ := (Y1.out.g.pr.past hB) j hj))
        have Y2 : Hid (GM w (y3.setCell ⟨gr, j, none⟩ (.pointer (some ⟨y2.heap.size, 0, none⟩))) gm gr (upd b j nb) (upd c j y2.heap.size) (upd p j nm) (upd p j nm)) := Y1.out.g.newC hj rfl hM hB
        clear hM hB t1 t2 x2 Y1
        generalize y2.heap.size = nc at Y2 ⊢
        generalize y3.setCell ⟨gr, j, none⟩ (.pointer (some ⟨nc, 0, none⟩)) = y4 at Y2 ⊢
        obtain ⟨t1, _⟩ := Y2.out.pm j hj
        rw [upd_same] at t1
        go_wp2
        go_roundw
        case rel => exact ⟨k + 1, _, _, _, by first | rfl | go_num, by omega, Y2.out⟩
        case measure => simp [intOf]; omega
      have r4 : (kd == 4) = false := by simpa using q4
      have HF : Hid (GM w v gm gr b c p p) := XX.out.g
      clear XX q1 q2 q3 q4
      go_wp2
      go_roundw
      case rel => exact ⟨k + 1, b, c, p, by first | rfl | go_num, by omega, HF.out⟩
      case measure => simp [intOf]; omega
end Go.Proofs.Ytpgjchkfglkgcaa
