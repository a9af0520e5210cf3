/- A memory of package mach: Move. -/
import Derived.Test.YtlemnjhdnciddaaGnd
namespace Go.Proofs.Ytlemnjhdnciddaa
open Go.RowKit
theorem slice_mid (ad : Option Addr) (n cap p q : Nat) (hpq : p ≤ q) (hq : q ≤ cap) (W : World) : Sem.run Try.prog (Instr.slice 31 (.slice ad n cap) (some (.int .i64 (p : Int))) (some (.int .i64 (q : Int))) none) W = .ok (.slice (if cap = p then ad else ad.map (·.add p)) (q - p) (cap - p)) W := by
  simp [Instr.slice, Instr.sliceBounds, run_underlying Try.underlying31, run_sliceBound W .i64 (q : Int) cap _ (by omega) (by omega), run_sliceBound W .i64 (p : Int) q _ (by omega) (by omega)]
def mvE (n : Nat) (tz fz m : Int) : Int := if tz < 0 ∨ fz < 0 ∨ m < 0 then 1 else lk n (max tz fz) m
set_option maxHeartbeats 4000000 in
set_option maxRecDepth 100000 in
theorem move_is (w : World) (b B : Nat) (ad : Option Addr) (n cap : Nat) (u : Nat → Nat) (h : Mem w b B ad n cap u) (tz fz m : Int) (ht : tz ≤ 9223372036854775807) (hf : fz ≤ 9223372036854775807) (hm : m ≤ 9223372036854775807) : Calls Try.prog 26 #[.pointer (some ⟨b, 0, none⟩), .int .i64 tz, .int .i64 fz, .int .i64 m] w fun e w' => e = .returned (.int .i64 (mvE n tz fz m)) ∧ Mem w' b B ad n cap (if mvE n tz fz m = 0 then ins u tz.toNat (fun j => u (fz.toNat + j)) m.toNat else u) ∧ Off b ad w w' := by
  have HM : Hid (Mem w b B ad n cap u) := h
  by_cases c0 : tz < 0
  · rw [show mvE n tz fz m = 1 by unfold mvE; rw [if_pos (Or.inl c0)], if_neg (by omega)]
    clear h
    go_enter Try.func26, Try.ntmps26
    go_wp2
    go_ret
    exact ⟨rfl, HM.out, Off.refl _ _ _⟩
  by_cases c1 : fz < 0
  · rw [show mvE n tz fz m = 1 by unfold mvE; rw [if_pos (Or.inr (Or.inl c1))], if_neg (by omega)]
    clear h
    go_enter Try.func26, Try.ntmps26
    go_wp2
    go_ret
    exact ⟨rfl, HM.out, Off.refl _ _ _⟩
  by_cases c2 : m < 0
  · rw [show mvE n tz fz m = 1 by unfold mvE; rw [if_pos (Or.inr (Or.inr c2))], if_neg (by omega)]
    clear h
    go_enter Try.func26, Try.ntmps26
    go_wp2
    go_ret
    exact ⟨rfl, HM.out, Off.refl _ _ _⟩
  rw [show mvE n tz fz m = lk n (max tz fz) m by unfold mvE; rw [if_neg (by omega)]]
  obtain ⟨x, ex⟩ : ∃ x, x = max tz fz := ⟨_, rfl⟩
  have LK : Hid (Calls Try.prog 48 #[.pointer (some ⟨b, 0, none⟩), .int .i64 x, .int .i64 m] w fun e w' => e = .returned (.int .i64 (lk n x m)) ∧ w' = w) := look_is w b B ad n cap u h x m (by omega) hm
  rw [← ex]
  have HX : Hid (x = max tz fz) := ex
  by_cases hk : lk n x m = 0
  · rw [if_pos hk]
    have hz := lk_zero hk
    by_cases hm0 : m = 0
    · subst hm0
      have HE : Hid (Mem w b B ad n cap (ins u tz.toNat (fun j => u (fz.toNat + j)) (Int.toNat 0))) := h.ext fun j _ => by unfold ins; rw [if_neg (by simp)]
      rw [hk] at LK ⊢
      have EXX : Hid (∀ W, Below W.heap.size W W) := fun W => Below.refl _ _
      clear hz hk h EXX
      by_cases hc : tz < fz
      · have e1 : x = fz := by omega
        subst e1
        clear ex HX
        go_enter Try.func26, Try.ntmps26
        go_wp2_with (go_at_call 48; refine (LK.out).mono ?_; rintro e w' ⟨rfl, hw⟩; (have hw2 := hw.symm); clear hw; subst hw2)
        all_goals (go_ret; exact ⟨rfl, HE.out, Off.refl _ _ _⟩)
      · have e1 : x = tz := by omega
        subst e1
        clear ex HX
        go_enter Try.func26, Try.ntmps26
        go_wp2_with (go_at_call 48; refine (LK.out).mono ?_; rintro e w' ⟨rfl, hw⟩; (have hw2 := hw.symm); clear hw; subst hw2)
        all_goals (go_ret; exact ⟨rfl, HE.out, Off.refl _ _ _⟩)
    · obtain ⟨g, rfl, hg, hnc, hgl, hcl⟩ := h.form (by omega)
      have hx1 := hz.2.2 (by omega)
      have bt : tz + m ≤ (n : Int) := by omega
      have bf : fz + m ≤ (n : Int) := by omega
      obtain ⟨t, rfl⟩ : ∃ t : Nat, tz = (t : Int) := ⟨tz.toNat, by omega⟩
      obtain ⟨f, rfl⟩ : ∃ f : Nat, fz = (f : Int) := ⟨fz.toNat, by omega⟩
      obtain ⟨k, rfl⟩ : ∃ k : Nat, m = (k : Int) := ⟨m.toNat, by omega⟩
      simp only [Int.toNat_natCast]
      have hle := h.le
      have hsl1 := slice_fromI (some ⟨g, 0, none⟩) n cap t (by omega)
      rw [if_neg (show ¬ cap = t by omega), show (some (⟨g, 0, none⟩ : Addr)).map (·.add t) = some ⟨g, t, none⟩ by (show some ((⟨g, 0, none⟩ : Addr).add t) = _; rw [Addr.add_mid, Nat.zero_add])] at hsl1
      have hsl2 := slice_mid (some ⟨g, 0, none⟩) n cap f (f + k) (by omega) (by omega)
      rw [if_neg (show ¬ cap = f by omega), show (some (⟨g, 0, none⟩ : Addr)).map (·.add f) = some ⟨g, f, none⟩ by (show some ((⟨g, 0, none⟩ : Addr).add f) = _; rw [Addr.add_mid, Nat.zero_add]), show f + k - f = k by omega] at hsl2
      have CP : Hid (∀ V, Mem V b B (some ⟨g, 0, none⟩) n cap u → (∀ ty : TypeId, (Builtin.copy_ #[31, 31] ty #[.slice (some ⟨g, t, none⟩) (n - t) (cap - t), .slice (some ⟨g, f, none⟩) k (cap - f)]).run Try.prog V = .ok (.int .i64 (k : Int)) (V.setCells g t (bD (fun j => u (f + j)) k))) ∧ Mem (V.setCells g t (bD (fun j => u (f + j)) k)) b B (some ⟨g, 0, none⟩) n cap (ins u t (fun j => u (f + j)) k) ∧ Only g V (V.setCells g t (bD (fun j => u (f + j)) k))) := fun V hV => by
        obtain ⟨g', e', _, _, _, hcV⟩ := hV.form (by omega)
        obtain rfl : g = g' := by injection e' with e2; injection e2
        refine ⟨fun ty => ?_, Mem.sets k V u _ t hV (by omega), (Only.refl _ _).sets _ _⟩
        have h9 := run_copy_cells (P := Try.prog) V 31 31 ty 5 g t (n - t) (cap - t) ⟨g, f, none⟩ k (cap - f) (bD (fun j => u (f + j)) k) Try.underlying31 info8s (by rw [bD_len]; exact (Nat.min_eq_left (by omega)).symm) (fun j v hv => by
          have hj : j < k := by have h8 := (List.getElem?_eq_some_iff.1 hv).1; rwa [bD_len] at h8
          rw [bD_at _ _ _ hj] at hv
          obtain rfl := Option.some.inj hv
          rw [Addr.add_mid]; exact (hcV (f + j) (by omega)).1) (fun j hj => by rw [bD_len] at hj; rw [(hcV (t + j) (by omega)).1]; rfl) (fun j hj => by rw [bD_len] at hj; exact (hcV (t + j) (by omega)).2) (bD_one _ _)
        rw [bD_len] at h9
        exact h9
      have s1 : (f : Int) + (k : Int) = ((f + k : Nat) : Int) := by omega
      have s2 : ((f + k : Nat) : Int) ≤ 4194304 := by omega
      have k1 : ((k : Int) == 0) = false := by simp; omega
      rw [hk]
      rw [hk] at LK
      generalize hsk : f + k = s at *
      have s4 : IntKind.i64.wrap (s : Int) = (s : Int) := by rw [IntKind.wrap_i64]; omega
      have D0 : Hid (Mem w.drew b B (some ⟨g, 0, none⟩) n cap u) := h.past ((Below.refl _ _).drew)
      clear hsk hk hz h hcl hg hgl hnc hm0 hle hx1 bt bf
      by_cases hc : (t : Int) < (f : Int)
      · have e1 : x = (f : Int) := by omega
        subst e1
        clear ex HX
        go_enter Try.func26, Try.ntmps26
        go_upto_region 6 with (go_at_call 48; refine (LK.out).mono ?_; rintro e w' ⟨rfl, hw⟩; (have hw2 := hw.symm); clear hw; subst hw2)
        have HO0 : Hid (Only g w w.drew) := (Only.refl _ _).drew
        refine wp_region_held_drew (S := fun V' => V'.cell? ⟨b, 0, none⟩ = some (.slice (some ⟨g, 0, none⟩) n cap)) (by kernel_rfl) D0.out.c (fun hHeld => ?_)
        generalize w.drew = z0 at hHeld D0 HO0 ⊢
        refine wpAnyH_take (i := 0) (v := .pointer (some ⟨b, 0, none⟩)) ov0 (by kernel_rfl) (by kernel_rfl) (by kernel_rfl) (fun _ _ _ h => h) (Or.inl ⟨by rfl, fun V' hS => ?_⟩) hHeld ?_
        · go_simp
        simp only [Act.put, List.setIfInBounds_toArray, List.set_cons_zero, List.set_cons_succ]
        refine wpAnyH_take (i := 1) (v := .pointer (some ⟨b, 0, none⟩)) ov1 (by kernel_rfl) (by kernel_rfl) (by kernel_rfl) (fun _ _ _ h => h) (Or.inl ⟨by rfl, fun V' hS => ?_⟩) hHeld ?_
        · go_simp
        simp only [Act.put, List.setIfInBounds_toArray, List.set_cons_zero, List.set_cons_succ]
        refine wpAnyH_take (i := 2) (v := .pointer (some ⟨b, 0, none⟩)) ov2 (by kernel_rfl) (by kernel_rfl) (by kernel_rfl) (fun _ _ _ h => h) (Or.inl ⟨by rfl, fun V' hS => ?_⟩) hHeld ?_
        · go_simp
        simp only [Act.put, List.setIfInBounds_toArray, List.set_cons_zero, List.set_cons_succ]
        refine wpAnyH_take (i := 3) (v := .slice (some ⟨g, 0, none⟩) n cap) ov3 (by kernel_rfl) (by kernel_rfl) (by kernel_rfl) (fun _ _ _ h => h) (Or.inl ⟨by rfl, fun V' hS => ?_⟩) hHeld ?_
        · have h9 := hS
          go_simp
        simp only [Act.put, List.setIfInBounds_toArray, List.set_cons_zero, List.set_cons_succ]
        refine wpAnyH_take (i := 4) (v := .int .i64 (t : Int)) ov4 (by kernel_rfl) (by kernel_rfl) (by kernel_rfl) (fun _ _ _ h => h) (Or.inl ⟨by rfl, fun V' hS => ?_⟩) hHeld ?_
        · go_simp
        simp only [Act.put, List.setIfInBounds_toArray, List.set_cons_zero, List.set_cons_succ]
        refine wpAnyH_take (i := 5) (v := .slice (some ⟨g, t, none⟩) (n - t) (cap - t)) ov5 (by kernel_rfl) (by kernel_rfl) (by kernel_rfl) (fun _ _ _ h => h) (Or.inl ⟨by rfl, fun V' hS => ?_⟩) hHeld ?_
        · go_simp
        simp only [Act.put, List.setIfInBounds_toArray, List.set_cons_zero, List.set_cons_succ]
        refine wpAnyH_take (i := 6) (v := .pointer (some ⟨b, 0, none⟩)) ov6 (by kernel_rfl) (by kernel_rfl) (by kernel_rfl) (fun _ _ _ h => h) (Or.inl ⟨by rfl, fun V' hS => ?_⟩) hHeld ?_
        · go_simp
        simp only [Act.put, List.setIfInBounds_toArray, List.set_cons_zero, List.set_cons_succ]
        refine wpAnyH_take (i := 7) (v := .pointer (some ⟨b, 0, none⟩)) ov7 (by kernel_rfl) (by kernel_rfl) (by kernel_rfl) (fun _ _ _ h => h) (Or.inl ⟨by rfl, fun V' hS => ?_⟩) hHeld ?_
        · go_simp
        simp only [Act.put, List.setIfInBounds_toArray, List.set_cons_zero, List.set_cons_succ]
        refine wpAnyH_take (i := 8) (v := .pointer (some ⟨b, 0, none⟩)) ov8 (by kernel_rfl) (by kernel_rfl) (by kernel_rfl) (fun _ _ _ h => h) (Or.inl ⟨by rfl, fun V' hS => ?_⟩) hHeld ?_
        · go_simp
        simp only [Act.put, List.setIfInBounds_toArray, List.set_cons_zero, List.set_cons_succ]
        refine wpAnyH_take (i := 9) (v := .slice (some ⟨g, 0, none⟩) n cap) ov9 (by kernel_rfl) (by kernel_rfl) (by kernel_rfl) (fun _ _ _ h => h) (Or.inl ⟨by rfl, fun V' hS => ?_⟩) hHeld ?_
        · have h9 := hS
          go_simp
        simp only [Act.put, List.setIfInBounds_toArray, List.set_cons_zero, List.set_cons_succ]
        refine wpAnyH_take (i := 10) (v := .int .i64 (f : Int)) ov10 (by kernel_rfl) (by kernel_rfl) (by kernel_rfl) (fun _ _ _ h => h) (Or.inl ⟨by rfl, fun V' hS => ?_⟩) hHeld ?_
        · go_simp
        simp only [Act.put, List.setIfInBounds_toArray, List.set_cons_zero, List.set_cons_succ]
        refine wpAnyH_take (i := 11) (v := .int .i64 (f : Int)) ov11 (by kernel_rfl) (by kernel_rfl) (by kernel_rfl) (fun _ _ _ h => h) (Or.inl ⟨by rfl, fun V' hS => ?_⟩) hHeld ?_
        · go_simp
        simp only [Act.put, List.setIfInBounds_toArray, List.set_cons_zero, List.set_cons_succ]
        refine wpAnyH_take (i := 12) (v := .int .i64 (k : Int)) ov12 (by kernel_rfl) (by kernel_rfl) (by kernel_rfl) (fun _ _ _ h => h) (Or.inl ⟨by rfl, fun V' hS => ?_⟩) hHeld ?_
        · go_simp
        simp only [Act.put, List.setIfInBounds_toArray, List.set_cons_zero, List.set_cons_succ]
        refine wpAnyH_take (i := 13) (v := .int .i64 (s : Int)) ov13 (by kernel_rfl) (by kernel_rfl) (by kernel_rfl) (fun _ _ _ h => h) (Or.inl ⟨by rfl, fun V' hS => ?_⟩) hHeld ?_
        · go_simp
        simp only [Act.put, List.setIfInBounds_toArray, List.set_cons_zero, List.set_cons_succ]
        refine wpAnyH_take (i := 14) (v := .slice (some ⟨g, f, none⟩) k (cap - f)) ov14 (by kernel_rfl) (by kernel_rfl) (by kernel_rfl) (fun _ _ _ h => h) (Or.inl ⟨by rfl, fun V' hS => ?_⟩) hHeld ?_
        · go_simp
        simp only [Act.put, List.setIfInBounds_toArray, List.set_cons_zero, List.set_cons_succ]
        refine wpAnyH_ready (rs := [15]) (by kernel_rfl) (by simp) ?_
        refine AllReadyH.cons ov15 (fun K hK => ?_) AllReadyH.nil
        rw [if_pos (by rfl)]
        obtain ⟨c2, hN, hO⟩ := CP.out z0 D0.out
        go_simp
        have HN : Hid (Mem (z0.setCells g t (bD (fun j => u (f + j)) k)) b B (some ⟨g, 0, none⟩) n cap (ins u t (fun j => u (f + j)) k) ∧ Only g z0 (z0.setCells g t (bD (fun j => u (f + j)) k))) := ⟨hN, hO⟩
        clear c2
        refine hK.out _ (z0.setCells g t (bD (fun j => u (f + j)) k)) hN.c (fun _ => ?_)
        clear hK K
        (try simp only [Act.put, List.setIfInBounds_toArray, List.set_cons_zero, List.set_cons_succ])
        generalize (z0.setCells g t (bD (fun j => u (f + j)) k)) = z1 at HN ⊢
        refine wpAnyH_done (by kernel_rfl) ?_ _
        go_wp2
        go_ret
        exact ⟨rfl, HN.out.1, Off.of_only (HO0.out.trans HN.out.2)⟩
      · have e1 : x = (t : Int) := by omega
        subst e1
        clear ex HX
        go_enter Try.func26, Try.ntmps26
        go_upto_region 6 with (go_at_call 48; refine (LK.out).mono ?_; rintro e w' ⟨rfl, hw⟩; (have hw2 := hw.symm); clear hw; subst hw2)
        have HO0 : Hid (Only g w w.drew) := (Only.refl _ _).drew
        refine wp_region_held_drew (S := fun V' => V'.cell? ⟨b, 0, none⟩ = some (.slice (some ⟨g, 0, none⟩) n cap)) (by kernel_rfl) D0.out.c (fun hHeld => ?_)
        generalize w.drew = z0 at hHeld D0 HO0 ⊢
        refine wpAnyH_take (i := 0) (v := .pointer (some ⟨b, 0, none⟩)) ov0 (by kernel_rfl) (by kernel_rfl) (by kernel_rfl) (fun _ _ _ h => h) (Or.inl ⟨by rfl, fun V' hS => ?_⟩) hHeld ?_
        · go_simp
        simp only [Act.put, List.setIfInBounds_toArray, List.set_cons_zero, List.set_cons_succ]
        refine wpAnyH_take (i := 1) (v := .pointer (some ⟨b, 0, none⟩)) ov1 (by kernel_rfl) (by kernel_rfl) (by kernel_rfl) (fun _ _ _ h => h) (Or.inl ⟨by rfl, fun V' hS => ?_⟩) hHeld ?_
        · go_simp
        simp only [Act.put, List.setIfInBounds_toArray, List.set_cons_zero, List.set_cons_succ]
        refine wpAnyH_take (i := 2) (v := .pointer (some ⟨b, 0, none⟩)) ov2 (by kernel_rfl) (by kernel_rfl) (by kernel_rfl) (fun _ _ _ h => h) (Or.inl ⟨by rfl, fun V' hS => ?_⟩) hHeld ?_
        · go_simp
        simp only [Act.put, List.setIfInBounds_toArray, List.set_cons_zero, List.set_cons_succ]
        refine wpAnyH_take (i := 3) (v := .slice (some ⟨g, 0, none⟩) n cap) ov3 (by kernel_rfl) (by kernel_rfl) (by kernel_rfl) (fun _ _ _ h => h) (Or.inl ⟨by rfl, fun V' hS => ?_⟩) hHeld ?_
        · have h9 := hS
          go_simp
        simp only [Act.put, List.setIfInBounds_toArray, List.set_cons_zero, List.set_cons_succ]
        refine wpAnyH_take (i := 4) (v := .int .i64 (t : Int)) ov4 (by kernel_rfl) (by kernel_rfl) (by kernel_rfl) (fun _ _ _ h => h) (Or.inl ⟨by rfl, fun V' hS => ?_⟩) hHeld ?_
        · go_simp
        simp only [Act.put, List.setIfInBounds_toArray, List.set_cons_zero, List.set_cons_succ]
        refine wpAnyH_take (i := 5) (v := .slice (some ⟨g, t, none⟩) (n - t) (cap - t)) ov5 (by kernel_rfl) (by kernel_rfl) (by kernel_rfl) (fun _ _ _ h => h) (Or.inl ⟨by rfl, fun V' hS => ?_⟩) hHeld ?_
        · go_simp
        simp only [Act.put, List.setIfInBounds_toArray, List.set_cons_zero, List.set_cons_succ]
        refine wpAnyH_take (i := 6) (v := .pointer (some ⟨b, 0, none⟩)) ov6 (by kernel_rfl) (by kernel_rfl) (by kernel_rfl) (fun _ _ _ h => h) (Or.inl ⟨by rfl, fun V' hS => ?_⟩) hHeld ?_
        · go_simp
        simp only [Act.put, List.setIfInBounds_toArray, List.set_cons_zero, List.set_cons_succ]
        refine wpAnyH_take (i := 7) (v := .pointer (some ⟨b, 0, none⟩)) ov7 (by kernel_rfl) (by kernel_rfl) (by kernel_rfl) (fun _ _ _ h => h) (Or.inl ⟨by rfl, fun V' hS => ?_⟩) hHeld ?_
        · go_simp
        simp only [Act.put, List.setIfInBounds_toArray, List.set_cons_zero, List.set_cons_succ]
        refine wpAnyH_take (i := 8) (v := .pointer (some ⟨b, 0, none⟩)) ov8 (by kernel_rfl) (by kernel_rfl) (by kernel_rfl) (fun _ _ _ h => h) (Or.inl ⟨by rfl, fun V' hS => ?_⟩) hHeld ?_
        · go_simp
        simp only [Act.put, List.setIfInBounds_toArray, List.set_cons_zero, List.set_cons_succ]
        refine wpAnyH_take (i := 9) (v := .slice (some ⟨g, 0, none⟩) n cap) ov9 (by kernel_rfl) (by kernel_rfl) (by kernel_rfl) (fun _ _ _ h => h) (Or.inl ⟨by rfl, fun V' hS => ?_⟩) hHeld ?_
        · have h9 := hS
          go_simp
        simp only [Act.put, List.setIfInBounds_toArray, List.set_cons_zero, List.set_cons_succ]
        refine wpAnyH_take (i := 10) (v := .int .i64 (f : Int)) ov10 (by kernel_rfl) (by kernel_rfl) (by kernel_rfl) (fun _ _ _ h => h) (Or.inl ⟨by rfl, fun V' hS => ?_⟩) hHeld ?_
        · go_simp
        simp only [Act.put, List.setIfInBounds_toArray, List.set_cons_zero, List.set_cons_succ]
        refine wpAnyH_take (i := 11) (v := .int .i64 (f : Int)) ov11 (by kernel_rfl) (by kernel_rfl) (by kernel_rfl) (fun _ _ _ h => h) (Or.inl ⟨by rfl, fun V' hS => ?_⟩) hHeld ?_
        · go_simp
        simp only [Act.put, List.setIfInBounds_toArray, List.set_cons_zero, List.set_cons_succ]
        refine wpAnyH_take (i := 12) (v := .int .i64 (k : Int)) ov12 (by kernel_rfl) (by kernel_rfl) (by kernel_rfl) (fun _ _ _ h => h) (Or.inl ⟨by rfl, fun V' hS => ?_⟩) hHeld ?_
        · go_simp
        simp only [Act.put, List.setIfInBounds_toArray, List.set_cons_zero, List.set_cons_succ]
        refine wpAnyH_take (i := 13) (v := .int .i64 (s : Int)) ov13 (by kernel_rfl) (by kernel_rfl) (by kernel_rfl) (fun _ _ _ h => h) (Or.inl ⟨by rfl, fun V' hS => ?_⟩) hHeld ?_
        · go_simp
        simp only [Act.put, List.setIfInBounds_toArray, List.set_cons_zero, List.set_cons_succ]
        refine wpAnyH_take (i := 14) (v := .slice (some ⟨g, f, none⟩) k (cap - f)) ov14 (by kernel_rfl) (by kernel_rfl) (by kernel_rfl) (fun _ _ _ h => h) (Or.inl ⟨by rfl, fun V' hS => ?_⟩) hHeld ?_
        · go_simp
        simp only [Act.put, List.setIfInBounds_toArray, List.set_cons_zero, List.set_cons_succ]
        refine wpAnyH_ready (rs := [15]) (by kernel_rfl) (by simp) ?_
        refine AllReadyH.cons ov15 (fun K hK => ?_) AllReadyH.nil
        rw [if_pos (by rfl)]
        obtain ⟨c2, hN, hO⟩ := CP.out z0 D0.out
        go_simp
        have HN : Hid (Mem (z0.setCells g t (bD (fun j => u (f + j)) k)) b B (some ⟨g, 0, none⟩) n cap (ins u t (fun j => u (f + j)) k) ∧ Only g z0 (z0.setCells g t (bD (fun j => u (f + j)) k))) := ⟨hN, hO⟩
        clear c2
        refine hK.out _ (z0.setCells g t (bD (fun j => u (f + j)) k)) hN.c (fun _ => ?_)
        clear hK K
        (try simp only [Act.put, List.setIfInBounds_toArray, List.set_cons_zero, List.set_cons_succ])
        generalize (z0.setCells g t (bD (fun j => u (f + j)) k)) = z1 at HN ⊢
        refine wpAnyH_done (by kernel_rfl) ?_ _
        go_wp2
        go_ret
        exact ⟨rfl, HN.out.1, Off.of_only (HO0.out.trans HN.out.2)⟩
  · rw [if_neg hk]
    generalize lk n x m = L at *
    have hk2 : (L == 0) = false := by simpa using hk
    clear h
    by_cases hc : tz < fz
    · have e1 : x = fz := by omega
      subst e1
      clear ex HX
      go_enter Try.func26, Try.ntmps26
      go_wp2_with (go_at_call 48; refine (LK.out).mono ?_; rintro e w' ⟨rfl, hw⟩; (have hw2 := hw.symm); clear hw; subst hw2)
      all_goals (go_ret; exact ⟨rfl, HM.out, Off.refl _ _ _⟩)
    · have e1 : x = tz := by omega
      subst e1
      clear ex HX
      go_enter Try.func26, Try.ntmps26
      go_wp2_with (go_at_call 48; refine (LK.out).mono ?_; rintro e w' ⟨rfl, hw⟩; (have hw2 := hw.symm); clear hw; subst hw2)
      all_goals (go_ret; exact ⟨rfl, HM.out, Off.refl _ _ _⟩)
end Go.Proofs.Ytlemnjhdnciddaa
