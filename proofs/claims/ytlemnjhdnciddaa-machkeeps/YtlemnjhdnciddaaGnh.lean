/- The document's memory: Write. -/
import Derived.Test.YtlemnjhdnciddaaGng
namespace Go.Proofs.Ytlemnjhdnciddaa
open Go.RowKit
theorem ins_snoc (u : Nat → Nat) (q : Nat) (t : Nat → Nat) (j i : Nat) : (if i = q + j then t j else ins u q t j i) = ins u q t (j + 1) i := by
  unfold ins
  by_cases e : i = q + j
  · subst e; rw [if_pos rfl, if_pos (by omega), show q + j - q = j by omega]
  · rw [if_neg e]
    by_cases e2 : q ≤ i ∧ i < q + j
    · rw [if_pos e2, if_pos (by omega)]
    · rw [if_neg e2, if_neg (by omega)]
set_option maxHeartbeats 4000000 in
set_option maxRecDepth 100000 in
theorem writeR_is (w : World) (b B : Nat) (ad : Option Addr) (n cap : Nat) (u : Nat → Nat) (h : Mem w b B ad n cap u) (i : Int) (hi : i ≤ 9223372036854775807) (ab : Option Addr) (m cb : Nat) (t : Nat → Nat) (hb : By w (.slice ab m cb) m t) (ha : ∀ x y, ab = some x → ad = some y → x.block ≠ y.block) : Calls Try.prog 43 #[.pointer (some ⟨b, 0, none⟩), .int .i64 i, .slice ab m cb] w fun e w' => e = .returned (.int .i64 (lk n i m)) ∧ Mem w' b B ad n cap (if lk n i m = 0 then ins u i.toNat t m else u) ∧ Off b ad w w' := by
  obtain ⟨ab', cb', e9, hb0, hb1, hbb⟩ := hb
  injection e9 with e1 e2 e3
  subst e1
  subst e3
  have LK : Hid (Calls Try.prog 64 #[.pointer (some ⟨b, 0, none⟩), .int .i64 i, .int .i64 (m : Int)] w fun e w' => e = .returned (.int .i64 (lk n i m)) ∧ w' = w) := liesR_is w b B ad n cap u h i m hi (by omega)
  have HM : Hid (Mem w b B ad n cap u) := h
  have mI : (m : Int) ≤ 1152921504606846976 := by omega
  by_cases hk : lk n i m = 0
  · rw [if_pos hk]
    have hz := lk_zero hk
    by_cases hm0 : m = 0
    · subst hm0
      have HE : Hid (Mem w b B ad n cap (ins u i.toNat t 0)) := h.ext fun j _ => by unfold ins; rw [if_neg (by omega)]
      rw [hk] at LK ⊢
      clear hz hk h hbb hb0 hb1 ha e2
      go_enter Try.func43, Try.ntmps43
      go_upto_region 4 with (go_at_call 64; refine (LK.out).mono ?_; rintro e w' ⟨rfl, hw⟩; (have hw2 := hw.symm); clear hw; subst hw2)
      go_wp2
      go_loop [8] (fun s8 => s8 = .int .i64 0) (fun _ => 0)
      case atStart => rfl
      case round =>
        obtain rfl := hrel
        go_wp2
        go_ret
        exact ⟨rfl, HE.out, Off.refl _ _ _⟩
    · obtain ⟨g, rfl, hg, hnc, hgl, hcl⟩ := h.form (by omega)
      obtain ⟨gs, sa, rfl, hs⟩ := hbb (by omega)
      obtain ⟨q, rfl⟩ : ∃ q : Nat, i = (q : Int) := ⟨i.toNat, by omega⟩
      have hne : gs ≠ g := ha _ _ rfl rfl
      have hgb : g ≠ b := by have := h.bb; omega
      have hgs : gs < w.heap.size := World.block_lt_of_cell? w _ (hs 0 (by omega))
      have HS : Hid (∀ V, Only g w V → ∀ j, j < m → V.cell? ⟨gs, sa + j, none⟩ = some (.int .u8 (t j : Int))) := fun V hV j hj => (hV.cell (p := ⟨gs, sa + j, none⟩) hgs hne).trans (hs j hj)
      have QN : Hid (q + m ≤ n ∧ n ≤ 4194304 ∧ 0 < m) := by unfold Hid; have := h.le; omega
      rw [Int.toNat_natCast, hk]
      rw [hk] at LK
      have HNE : Hid (gs ≠ g ∧ g ≠ b) := ⟨hne, hgb⟩
      clear hk hz h hbb hb0 hb1 hs hcl hg hgl hm0 hnc ha e2 hne hgb hgs
      go_enter Try.func43, Try.ntmps43
      go_upto_region 4 with (go_at_call 64; refine (LK.out).mono ?_; rintro e w' ⟨rfl, hw⟩; (have hw2 := hw.symm); clear hw; subst hw2)
      go_wp2
      go_loopw [8] (fun s8 wr => ∃ j : Nat, s8 = .int .i64 (j : Int) ∧ j ≤ m ∧ Mem wr b B (some ⟨g, 0, none⟩) n cap (ins u q t j) ∧ Only g w wr) (fun s8 _ => m - (intOf s8).toNat)
      case atStart => exact ⟨0, rfl, by omega, HM.out.ext fun i _ => by unfold ins; rw [if_neg (by omega)], Only.refl _ _⟩
      case round =>
        obtain ⟨j, rfl, hj, hMj, hO⟩ := hrel
        have MJ : Hid (Mem wr b B (some ⟨g, 0, none⟩) n cap (ins u q t j)) := hMj
        have OJ : Hid (Only g w wr) := hO
        have jI : (j : Int) ≤ (m : Int) := by omega
        clear hMj hO
        by_cases e : j = m
        · subst e
          go_wp2
          go_ret
          exact ⟨rfl, MJ.out, Off.of_only OJ.out⟩
        · have jm : (j : Int) < (m : Int) := by omega
          obtain ⟨s, hs⟩ : ∃ s : Nat, s = q + j := ⟨_, rfl⟩
          have s1 : (q : Int) + (j : Int) = (s : Int) := by omega
          have s2 : (s : Int) < (n : Int) := by have := QN.out; omega
          have s3 : IntKind.i64.wrap (s : Int) = (s : Int) := by rw [IntKind.wrap_i64]; have := QN.out; omega
          have ES : Hid (s = q + j) := hs
          have DM : Hid (Mem wr.drew b B (some ⟨g, 0, none⟩) n cap (ins u q t j)) := MJ.out.past ((Below.refl _ _).drew)
          have DO : Hid (Only g w wr.drew) := OJ.out.drew
          have DS : Hid (wr.drew.cell? ⟨gs, sa + j, none⟩ = some (.int .u8 (t j : Int))) := HS.out _ OJ.out.drew j (by omega)
          have NX : Hid (∀ V, Mem V b B (some ⟨g, 0, none⟩) n cap (ins u q t j) → Only g w V → (V.cell? ⟨g, s, none⟩).isSome = true ∧ V.frozen? ⟨g, s, none⟩ = false ∧ Mem (V.setCell ⟨g, s, none⟩ (.int .u8 (t j : Int))) b B (some ⟨g, 0, none⟩) n cap (ins u q t (j + 1)) ∧ Only g w (V.setCell ⟨g, s, none⟩ (.int .u8 (t j : Int))) ∧ (V.setCell ⟨g, s, none⟩ (.int .u8 (t j : Int))).cell? ⟨gs, sa + j, none⟩ = some (.int .u8 (t j : Int))) := fun V hV hW => by
            obtain ⟨g', e', _, _, _, hcV⟩ := hV.form (by have := QN.out; omega)
            obtain rfl : g = g' := by injection e' with e2; injection e2
            have hsn : s < n := by omega
            refine ⟨by rw [(hcV s hsn).1]; rfl, (hcV s hsn).2, (hV.set1 s (t j) hsn).ext fun i _ => by rw [ES.out]; exact ins_snoc u q t j i, hW.set _ _, HS.out _ (hW.set _ _) j (by omega)⟩
          generalize (t j : Int) = y at DS NX
          clear hs MJ OJ
          go_upto_region 7 with fail
          refine wp_region_held_drew (S := fun V' => V'.cell? ⟨b, 0, none⟩ = some (.slice (some ⟨g, 0, none⟩) n cap) ∧ V'.cell? ⟨gs, sa + j, none⟩ = some (.int .u8 y)) (by kernel_rfl) ⟨DM.out.c, DS.out⟩ (fun hHeld => ?_)
          generalize wr.drew = z0 at hHeld DM DO DS ⊢
          refine wpAnyH_take (i := 0) (v := .pointer (some ⟨b, 0, none⟩)) ov0 (by kernel_rfl) (by kernel_rfl) (by kernel_rfl) (fun _ _ _ h => h) (Or.inl ⟨by rfl, fun V' hS => ?_⟩) hHeld ?_
          · go_simp
          simp only [Act.put, List.setIfInBounds_toArray, List.set_cons_zero, List.set_cons_succ]
          refine wpAnyH_take (i := 1) (v := .pointer (some ⟨b, 0, none⟩)) ov1 (by kernel_rfl) (by kernel_rfl) (by kernel_rfl) (fun _ _ _ h => h) (Or.inl ⟨by rfl, fun V' hS => ?_⟩) hHeld ?_
          · go_simp
          simp only [Act.put, List.setIfInBounds_toArray, List.set_cons_zero, List.set_cons_succ]
          refine wpAnyH_take (i := 2) (v := .pointer (some ⟨b, 0, none⟩)) ov2 (by kernel_rfl) (by kernel_rfl) (by kernel_rfl) (fun _ _ _ h => h) (Or.inl ⟨by rfl, fun V' hS => ?_⟩) hHeld ?_
          · go_simp
          simp only [Act.put, List.setIfInBounds_toArray, List.set_cons_zero, List.set_cons_succ]
          refine wpAnyH_take (i := 3) (v := .slice (some ⟨g, 0, none⟩) n cap) ov3 (by kernel_rfl) (by kernel_rfl) (by kernel_rfl) (fun _ _ _ h => h) (Or.inl ⟨by rfl, fun V' hS => ?_⟩) hHeld ?_
          · have h9 := hS.1
            go_simp
          simp only [Act.put, List.setIfInBounds_toArray, List.set_cons_zero, List.set_cons_succ]
          refine wpAnyH_take (i := 4) (v := .int .i64 (q : Int)) ov4 (by kernel_rfl) (by kernel_rfl) (by kernel_rfl) (fun _ _ _ h => h) (Or.inl ⟨by rfl, fun V' hS => ?_⟩) hHeld ?_
          · go_simp
          simp only [Act.put, List.setIfInBounds_toArray, List.set_cons_zero, List.set_cons_succ]
          refine wpAnyH_take (i := 5) (v := .int .i64 (j : Int)) ov5 (by kernel_rfl) (by kernel_rfl) (by kernel_rfl) (fun _ _ _ h => h) (Or.inl ⟨by rfl, fun V' hS => ?_⟩) hHeld ?_
          · go_simp
          simp only [Act.put, List.setIfInBounds_toArray, List.set_cons_zero, List.set_cons_succ]
          refine wpAnyH_take (i := 6) (v := .int .i64 (s : Int)) ov6 (by kernel_rfl) (by kernel_rfl) (by kernel_rfl) (fun _ _ _ h => h) (Or.inl ⟨by rfl, fun V' hS => ?_⟩) hHeld ?_
          · go_simp
          simp only [Act.put, List.setIfInBounds_toArray, List.set_cons_zero, List.set_cons_succ]
          refine wpAnyH_take (i := 7) (v := .slice (some ⟨gs, sa, none⟩) m cb) ov7 (by kernel_rfl) (by kernel_rfl) (by kernel_rfl) (fun _ _ _ h => h) (Or.inl ⟨by rfl, fun V' hS => ?_⟩) hHeld ?_
          · go_simp
          simp only [Act.put, List.setIfInBounds_toArray, List.set_cons_zero, List.set_cons_succ]
          refine wpAnyH_take (i := 8) (v := .int .i64 (j : Int)) ov8 (by kernel_rfl) (by kernel_rfl) (by kernel_rfl) (fun _ _ _ h => h) (Or.inl ⟨by rfl, fun V' hS => ?_⟩) hHeld ?_
          · go_simp
          simp only [Act.put, List.setIfInBounds_toArray, List.set_cons_zero, List.set_cons_succ]
          refine wpAnyH_take (i := 9) (v := .pointer (some ⟨gs, sa + j, none⟩)) ov9 (by kernel_rfl) (by kernel_rfl) (by kernel_rfl) (fun _ _ _ h => h) (Or.inl ⟨by rfl, fun V' hS => ?_⟩) hHeld ?_
          · go_simp
          simp only [Act.put, List.setIfInBounds_toArray, List.set_cons_zero, List.set_cons_succ]
          refine wpAnyH_take (i := 10) (v := .int .u8 y) ov10 (by kernel_rfl) (by kernel_rfl) (by kernel_rfl) (fun _ _ _ h => h) (Or.inl ⟨by rfl, fun V' hS => ?_⟩) hHeld ?_
          · have h9 := hS.2
            go_simp
          simp only [Act.put, List.setIfInBounds_toArray, List.set_cons_zero, List.set_cons_succ]
          refine wpAnyH_take (i := 11) (v := .pointer (some ⟨g, s, none⟩)) ov11 (by kernel_rfl) (by kernel_rfl) (by kernel_rfl) (fun _ _ _ h => h) (Or.inl ⟨by rfl, fun V' hS => ?_⟩) hHeld ?_
          · go_simp
          simp only [Act.put, List.setIfInBounds_toArray, List.set_cons_zero, List.set_cons_succ]
          refine wpAnyH_ready (rs := [12]) (by kernel_rfl) (by simp) ?_
          refine AllReadyH.cons ov12 (fun K hK => ?_) AllReadyH.nil
          rw [if_pos (by rfl)]
          obtain ⟨n1, n2, n3, n4, n5⟩ := NX.out z0 DM.out DO.out
          obtain ⟨o9, ho9⟩ := Option.isSome_iff_exists.1 n1
          go_simp
          have HN : Hid (Mem (z0.setCell ⟨g, s, none⟩ (.int .u8 y)) b B (some ⟨g, 0, none⟩) n cap (ins u q t (j + 1)) ∧ Only g w (z0.setCell ⟨g, s, none⟩ (.int .u8 y))) := ⟨n3, n4⟩
          refine hK.out _ (z0.setCell ⟨g, s, none⟩ (.int .u8 y)) ⟨n3.c, n5⟩ (fun _ => ?_)
          clear hK K
          (try simp only [Act.put, List.setIfInBounds_toArray, List.set_cons_zero, List.set_cons_succ])
          clear n1 n2 n3 n4 n5 ho9
          generalize (z0.setCell ⟨g, s, none⟩ (.int .u8 y)) = z1 at HN ⊢
          refine wpAnyH_done (by kernel_rfl) ?_ _
          go_wp2
          go_roundw
          case rel => exact ⟨j + 1, by first | rfl | go_num, by omega, HN.out⟩
          case measure => simp [intOf]; omega
  · rw [if_neg hk]
    generalize lk n i m = L at *
    have hk2 : (L == 0) = false := by simpa using hk
    clear h hbb hb0 hb1 ha e2
    go_enter Try.func43, Try.ntmps43
    go_wp2_with (go_at_call 64; refine (LK.out).mono ?_; rintro e w' ⟨rfl, hw⟩; (have hw2 := hw.symm); clear hw; subst hw2)
    go_ret
    exact ⟨rfl, HM.out, Off.refl _ _ _⟩
end Go.Proofs.Ytlemnjhdnciddaa
