/- The law's 'stands'. -/
import Derived.Test.YtlemnjhdnciddaaGma
import Derived.Deep.RegionHeld3
namespace Go.Proofs.Ytlemnjhdnciddaa
open Go.RowKit
set_option maxHeartbeats 2000000 in
set_option maxRecDepth 100000 in
theorem stands_is (w : World) (g c K n : Nat) (vb : Value) (u : Nat → Nat) (hr : ByC w g 0 (K + 75) (lay u K)) (hb : By w vb n u) (hK : K ≤ n) (K7 : Hid (K ≤ 70000)) (hc : K + 75 ≤ c) : Calls Try.prog 18 #[.slice (some ⟨g, 0, none⟩) K c, vb] w fun e w' => e = .returned (.bool true) ∧ Below w.heap.size w w' := by
  obtain ⟨ad, cap, rfl, hc0, hc1, hh⟩ := hb
  have HH : Hid (0 < n → ∃ g a, ad = some ⟨g, a, none⟩ ∧ ByC w g a n u) := hh
  have HR : Hid (ByC w g 0 (K + 75) (lay u K)) := hr
  have HKn : Hid (K ≤ n) := hK
  have KI : (K : Int) ≤ 70000 := by have := K7.out; omega
  have hsl : ∀ W : World, Sem.run Try.prog (Instr.slice 31 (.slice (some ⟨g, 0, none⟩) K c) none (some (.int .i64 ((K : Int) + 75))) none) W = .ok (.slice (some ⟨g, 0, none⟩) (K + 75) c) W := fun W => by have h := slice_toC (some ⟨g, 0, none⟩) K c (K + 75) hc W; rwa [show ((K + 75 : Nat) : Int) = (K : Int) + 75 by omega] at h
  have nI : (n : Int) ≤ 1152921504606846976 := by omega
  have Kn : (K : Int) ≤ (n : Int) := by omega
  clear hh hr hK hc0 hc1 hc
  go_enter Try.func18, Try.ntmps18
  go_upto_region 3 with fail
  clear hsl
  generalize hT : K + 75 = T at *
  have HT : Hid (K + 75 = T) := hT
  clear hT
  go_wp2
  go_loopw [7] (fun s7 wr => ∃ k : Nat, s7 = .int .i64 (k : Int) ∧ k ≤ K ∧ Below w.heap.size w wr) (fun s7 _ => K - (intOf s7).toNat)
  case atStart => exact ⟨0, rfl, by omega, Below.refl _ _⟩
  case round =>
    obtain ⟨k, rfl, hk, hB⟩ := hrel
    have HB : Hid (Below w.heap.size w wr) := hB
    have kI : (k : Int) ≤ (K : Int) := by omega
    clear hB
    by_cases e : k = K
    · subst e
      go_upto_region 8 with fail
      go_wp2
      go_loopw [8] (fun s8 wq => ∃ j : Nat, s8 = .int .i64 (j : Int) ∧ j ≤ 75 ∧ Below w.heap.size w wq) (fun s8 _ => 75 - (intOf s8).toNat)
      case atStart => exact ⟨0, rfl, by omega, HB.out⟩
      case round =>
        obtain ⟨j, rfl, hj, hB⟩ := hrel
        have HB2 : Hid (Below w.heap.size w wr) := hB
        have jI : (j : Int) ≤ 75 := by omega
        clear hB
        by_cases e2 : j = 75
        · subst e2
          go_wp2
          go_ret
          exact ⟨rfl, HB2.out⟩
        · have j75 : (j : Int) < 75 := by omega
          have c0 := HR.out (k + j) (by have := HT.out; omega)
          have c1 := (HB2.out.cell (p := ⟨g, 0 + (k + j), none⟩) (World.block_lt_of_cell? w _ c0)).trans c0
          rw [lay_hi, Nat.zero_add] at c1
          have s1 : (k : Int) + (j : Int) = ((k + j : Nat) : Int) := by omega
          have s2 : ((k + j : Nat) : Int) < (T : Int) := by have := HT.out; omega
          have s3 : ((k + j : Nat) : Int) ≤ 70075 := by omega
          generalize k + j = m at c1 s1 s2 s3
          obtain ⟨q, hq⟩ : ∃ q : Nat, q = j % 5 := ⟨_, rfl⟩
          have t2 : Int.tmod (j : Int) 5 = (q : Int) := by rw [Int.tmod_eq_emod_of_nonneg (by omega)]; omega
          have t2' : (j : Int) % 5 = (q : Int) := by omega
          have q5 : (q : Int) < 5 := by omega
          obtain ⟨y, hy⟩ : ∃ y : Int, (201 : Int) + (q : Int) = y := ⟨_, rfl⟩
          have wy : IntKind.i64.wrap y = y := by rw [IntKind.wrap_i64]; omega
          have wy8 : IntKind.u8.wrap y = y := by rw [IntKind.wrap_u8]; omega
          have wq2 : IntKind.i64.wrap (q : Int) = (q : Int) := by rw [IntKind.wrap_i64]; omega
          rw [← hq, show ((201 + q : Nat) : Int) = y by omega] at c1
          clear hq c0
          go_wp2
          go_roundw
          case rel => exact ⟨j + 1, by first | rfl | go_num, by omega, HB2.out⟩
          case measure => simp [intOf]; omega
    · have kn : (k : Int) < (K : Int) := by omega
      have knn : (k : Int) < (n : Int) := by omega
      have kT : (k : Int) < (T : Int) := by have := HT.out; omega
      obtain ⟨g2, a2, rfl, hc⟩ := HH.out (by have := HKn.out; omega)
      have C1 : Hid (∀ V, Below w.heap.size w V → V.cell? ⟨g, k, none⟩ = some (.int .u8 (u k : Int)) ∧ V.cell? ⟨g2, a2 + k, none⟩ = some (.int .u8 (u k : Int))) := fun V hV => by
        have c0 := HR.out k (by have := HT.out; omega)
        rw [lay_lo (by omega)] at c0
        have c1 := hc k (by have := HKn.out; omega)
        refine ⟨?_, (hV.cell (p := ⟨g2, a2 + k, none⟩) (World.block_lt_of_cell? w _ c1)).trans c1⟩
        have c2 := (hV.cell (p := ⟨g, 0 + k, none⟩) (World.block_lt_of_cell? w _ c0)).trans c0
        rwa [Nat.zero_add] at c2
      generalize (u k : Int) = y at C1
      clear hc
      go_upto_region 6 with fail
      refine wp_region_held_drew (S := fun V' => V'.cell? ⟨g, k, none⟩ = some (.int .u8 y) ∧ V'.cell? ⟨g2, a2 + k, none⟩ = some (.int .u8 y)) (by kernel_rfl) (C1.out _ HB.out.drew) (fun hHeld => ?_)
      have HB3 : Hid (Below w.heap.size w wr.drew) := HB.out.drew
      generalize wr.drew = z0 at hHeld HB3 ⊢
      refine wpAnyH_take (i := 0) (v := .slice (some ⟨g, 0, none⟩) T c) ov0 (by kernel_rfl) (by kernel_rfl) (by kernel_rfl) (fun _ _ _ h => h) (Or.inl ⟨by rfl, fun V' hS => ?_⟩) hHeld ?_
      · go_simp
      simp only [Act.put, List.setIfInBounds_toArray, List.set_cons_zero, List.set_cons_succ]
      refine wpAnyH_take (i := 1) (v := .int .i64 (k : Int)) ov1 (by kernel_rfl) (by kernel_rfl) (by kernel_rfl) (fun _ _ _ h => h) (Or.inl ⟨by rfl, fun V' hS => ?_⟩) hHeld ?_
      · go_simp
      simp only [Act.put, List.setIfInBounds_toArray, List.set_cons_zero, List.set_cons_succ]
      refine wpAnyH_take (i := 2) (v := .pointer (some ⟨g, k, none⟩)) ov2 (by kernel_rfl) (by kernel_rfl) (by kernel_rfl) (fun _ _ _ h => h) (Or.inl ⟨by rfl, fun V' hS => ?_⟩) hHeld ?_
      · go_simp
      simp only [Act.put, List.setIfInBounds_toArray, List.set_cons_zero, List.set_cons_succ]
      refine wpAnyH_take (i := 3) (v := .int .u8 y) ov3 (by kernel_rfl) (by kernel_rfl) (by kernel_rfl) (fun _ _ _ h => h) (Or.inl ⟨by rfl, fun V' hS => ?_⟩) hHeld ?_
      · have h9 := hS.1
        go_simp
      simp only [Act.put, List.setIfInBounds_toArray, List.set_cons_zero, List.set_cons_succ]
      refine wpAnyH_take (i := 4) (v := .slice (some ⟨g2, a2, none⟩) n cap) ov4 (by kernel_rfl) (by kernel_rfl) (by kernel_rfl) (fun _ _ _ h => h) (Or.inl ⟨by rfl, fun V' hS => ?_⟩) hHeld ?_
      · go_simp
      simp only [Act.put, List.setIfInBounds_toArray, List.set_cons_zero, List.set_cons_succ]
      refine wpAnyH_take (i := 5) (v := .int .i64 (k : Int)) ov5 (by kernel_rfl) (by kernel_rfl) (by kernel_rfl) (fun _ _ _ h => h) (Or.inl ⟨by rfl, fun V' hS => ?_⟩) hHeld ?_
      · go_simp
      simp only [Act.put, List.setIfInBounds_toArray, List.set_cons_zero, List.set_cons_succ]
      refine wpAnyH_take (i := 6) (v := .pointer (some ⟨g2, a2 + k, none⟩)) ov6 (by kernel_rfl) (by kernel_rfl) (by kernel_rfl) (fun _ _ _ h => h) (Or.inl ⟨by rfl, fun V' hS => ?_⟩) hHeld ?_
      · go_simp
      simp only [Act.put, List.setIfInBounds_toArray, List.set_cons_zero, List.set_cons_succ]
      refine wpAnyH_take (i := 7) (v := .int .u8 y) ov7 (by kernel_rfl) (by kernel_rfl) (by kernel_rfl) (fun _ _ _ h => h) (Or.inl ⟨by rfl, fun V' hS => ?_⟩) hHeld ?_
      · have h9 := hS.2
        go_simp
      simp only [Act.put, List.setIfInBounds_toArray, List.set_cons_zero, List.set_cons_succ]
      refine wpAnyH_take (i := 8) (v := .bool false) ov8 (by kernel_rfl) (by kernel_rfl) (by kernel_rfl) (fun _ _ _ h => h) (Or.inl ⟨by rfl, fun V' hS => ?_⟩) hHeld ?_
      · go_simp
      simp only [Act.put, List.setIfInBounds_toArray, List.set_cons_zero, List.set_cons_succ]
      refine wpAnyH_done (by kernel_rfl) ?_ _
      go_wp2
      go_roundw
      case rel => exact ⟨k + 1, by first | rfl | go_num, by omega, HB3.out⟩
      case measure => simp [intOf]; omega
end Go.Proofs.Ytlemnjhdnciddaa
