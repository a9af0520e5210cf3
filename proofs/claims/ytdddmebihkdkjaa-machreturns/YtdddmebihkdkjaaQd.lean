/- The document's stacks: the calls that do not look. -/
import Derived.Test.YtdddmebihkdkjaaQc
namespace Go.Proofs.Ytdddmebihkdkjaa
open Go.RowKit
theorem tm1024 (i : Int) : ∃ t : Int, Int.tmod i 1024 = t ∧ -1024 < t ∧ t < 1024 ∧ (if t < 0 then t + 1024 else t) = (pl i : Int) := by
  refine ⟨_, rfl, Int.lt_tmod_of_pos _ (by omega), Int.tmod_lt_of_pos _ (by omega), ?_⟩
  rw [pl_eq]
  rcases Int.le_total 0 i with h | h
  · rw [Int.tmod_eq_emod_of_nonneg h, if_neg (by omega)]
  · have e1 : Int.tmod i 1024 = - Int.tmod (-i) 1024 := by rw [Int.neg_tmod]; omega
    rw [e1, Int.tmod_eq_emod_of_nonneg (by omega)]
    split <;> omega
set_option maxHeartbeats 400000 in
theorem placeR_is (w : World) (i : Int) : Calls Try.prog 51 #[.int .i64 i, .int .i64 1024] w fun e w' => e = .returned (.int .i64 (pl i : Int)) ∧ w' = w := by
  obtain ⟨t, et, t1, t2, t3⟩ := tm1024 i
  have q1 : IntKind.i64.wrap t = t := by rw [IntKind.wrap_i64]; omega
  have q2 : wrap64 t = t := by rw [wrap64]; omega
  by_cases h : t < 0
  · rw [if_pos h] at t3
    go_enter Try.func51, Try.ntmps51
    go_wp2
    go_ret
    exact ⟨rfl, rfl⟩
  · rw [if_neg h] at t3
    go_enter Try.func51, Try.ntmps51
    go_wp2
    go_ret
    exact ⟨by rw [← t3]; rfl, rfl⟩
set_option maxHeartbeats 400000 in
theorem numberR_is (w : World) (b : Nat) (f : Ring) (n k : Int) (h : Stk w b 1 0 f n) : Calls Try.prog 59 #[.pointer (some ⟨b, 0, none⟩), .int .i64 k] w fun e w' => e = .returned (.int .i64 ((pl n : Int) - (pl k : Int))) ∧ w' = w := by
  have cz := h.sz.1
  have P1 : Hid (Calls Try.prog 51 #[.int .i64 n, .int .i64 1024] w fun e w' => e = .returned (.int .i64 (pl n : Int)) ∧ w' = w) := placeR_is w n
  have P2 : Hid (Calls Try.prog 51 #[.int .i64 k, .int .i64 1024] w fun e w' => e = .returned (.int .i64 (pl k : Int)) ∧ w' = w) := placeR_is w k
  have h1 := pl_lt n
  have h2 := pl_lt k
  generalize pl n = p at *
  generalize pl k = q at *
  have h1I : (p : Int) < 1024 := by omega
  have h2I : (q : Int) < 1024 := by omega
  clear h
  go_enter Try.func59, Try.ntmps59
  go_wp2_with (first | (go_at_call 51; refine (P1.out).mono ?_; rintro e w' ⟨rfl, hw⟩; (have hw2 := hw.symm); clear hw P1; subst hw2) | (go_at_call 51; refine (P2.out).mono ?_; rintro e w' ⟨rfl, hw⟩; (have hw2 := hw.symm); clear hw P2; subst hw2))
  go_ret
  exact ⟨rfl, rfl⟩
theorem pl_diff (n k : Int) : pl ((pl n : Int) - (pl k : Int)) = pl (n - k) := by
  have h1 := pl_eq n
  have h2 := pl_eq k
  unfold pl at *; omega
set_option maxHeartbeats 1000000 in
set_option maxRecDepth 100000 in
theorem putR_is (w : World) (b : Nat) (f : Ring) (n : Int) (h : Stk w b 1 0 f n) (x : W4) : Calls Try.prog 54 #[.pointer (some ⟨b, 0, none⟩), x.v] w fun e w' => e = .returned (.tuple #[]) ∧ Stk w' b 1 0 (rput f (pl n) x) (wrap64 (n + 1)) ∧ Only b w w' := by
  have e1 : bits .and .i64 n 1023 = (pl n : Int) := by rw [i64_and1023, pl_eq]
  have hp := pl_lt n
  have hb := h.lt
  obtain ⟨ob, eo⟩ : ∃ ob, ob = Obj.cells #[.int .u64 x.a, .int .u64 x.b, .int .u64 x.c, .int .u64 x.d] 30 := ⟨_, rfl⟩
  have HS : Hid (Stk (w.alloc ob) b 1 0 f n) := h.alloc ob
  have HO : Hid (Only b w (w.alloc ob)) := (Only.refl b w).alloc ob
  have HB : Hid (Wd (w.alloc ob) w.heap.size 0 x) := by rw [eo]; exact Wd.new w _ _
  have PLC : Hid (∀ W : World, Calls Try.prog 51 #[.int .i64 n, .int .i64 1024] W fun e w' => e = .returned (.int .i64 (pl (n) : Int)) ∧ w' = W) := fun W => placeR_is W n
  generalize pl n = p at *
  have hpI : (p : Int) < 1024 := by omega
  clear h
  unfold W4.v
  go_enter Try.func54, Try.ntmps54
  go_upto_region 1 with fail
  rw [← eo]
  clear eo
  generalize w.alloc ob = v at HS HO HB ⊢
  generalize w.heap.size = bx at HB hb ⊢
  refine wp_region_held_drew (S := fun V' => V'.cell? ⟨b, 0, none⟩ = some (.int .i64 n) ∧ Wd V' bx 0 x) (by kernel_rfl) ⟨HS.out.drew.sz.1, HB.out.drew⟩ (fun hHeld => ?_)
  have HZ : Hid (Stk v.drew b 1 0 f n) := HS.out.drew
  have HY : Hid (Only b w v.drew) := HO.out.drew
  replace HB : Hid (Wd v.drew bx 0 x) := HB.out.drew
  have hbx : bx ≠ b := by omega
  generalize v.drew = z0 at hHeld HZ HY HB ⊢
  clear HS HO
  refine wpAnyH_take (i := 0) (v := .pointer (some ⟨b, 0, none⟩)) ov0 (by kernel_rfl) (by kernel_rfl) (by kernel_rfl) (fun _ _ _ h => h) (Or.inl ⟨by rfl, fun V' hS => ?_⟩) hHeld ?_
  · go_simp
  simp only [Act.put, List.setIfInBounds_toArray, List.set_cons_zero, List.set_cons_succ]
  refine wpAnyH_take (i := 1) (v := .pointer (some ⟨b, 0, none⟩)) ov1 (by kernel_rfl) (by kernel_rfl) (by kernel_rfl) (fun _ _ _ h => h) (Or.inl ⟨by rfl, fun V' hS => ?_⟩) hHeld ?_
  · go_simp
  simp only [Act.put, List.setIfInBounds_toArray, List.set_cons_zero, List.set_cons_succ]
  refine wpAnyH_take (i := 2) (v := .pointer (some ⟨b, 0, none⟩)) ov2 (by kernel_rfl) (by kernel_rfl) (by kernel_rfl) (fun _ _ _ h => h) (Or.inl ⟨by rfl, fun V' hS => ?_⟩) hHeld ?_
  · go_simp
  simp only [Act.put, List.setIfInBounds_toArray, List.set_cons_zero, List.set_cons_succ]
  refine wpAnyH_take (i := 3) (v := .pointer (some ⟨b, 0, none⟩)) ov3 (by kernel_rfl) (by kernel_rfl) (by kernel_rfl) (fun _ _ _ h => h) (Or.inl ⟨by rfl, fun V' hS => ?_⟩) hHeld ?_
  · go_simp
  simp only [Act.put, List.setIfInBounds_toArray, List.set_cons_zero, List.set_cons_succ]
  refine wpAnyH_take (i := 4) (v := .int .i64 n) ov4 (by kernel_rfl) (by kernel_rfl) (by kernel_rfl) (fun _ _ _ h => h) (Or.inl ⟨by rfl, fun V' hS => ?_⟩) hHeld ?_
  · have hh := hS.1
    go_simp
  simp only [Act.put, List.setIfInBounds_toArray, List.set_cons_zero, List.set_cons_succ]
  refine wpAnyH_take (i := 6) (v := .agg #[.int .u64 x.a, .int .u64 x.b, .int .u64 x.c, .int .u64 x.d]) ov6 (by kernel_rfl) (by kernel_rfl) (by kernel_rfl) (fun _ _ _ h => h) (Or.inl ⟨by rfl, fun V' hS => ?_⟩) hHeld ?_
  · obtain ⟨c0, c1, c2, c3, _⟩ := hS.2
    go_simp
  simp only [Act.put, List.setIfInBounds_toArray, List.set_cons_zero, List.set_cons_succ]
  refine wpAnyH_take (i := 7) (v := .pointer (some ⟨b, 0, none⟩)) ov7 (by kernel_rfl) (by kernel_rfl) (by kernel_rfl) (fun _ _ _ h => h) (Or.inl ⟨by rfl, fun V' hS => ?_⟩) hHeld ?_
  · go_simp
  simp only [Act.put, List.setIfInBounds_toArray, List.set_cons_zero, List.set_cons_succ]
  refine wpAnyH_take (i := 8) (v := .pointer (some ⟨b, 1, none⟩)) ov8 (by kernel_rfl) (by kernel_rfl) (by kernel_rfl) (fun _ _ _ h => h) (Or.inl ⟨by rfl, fun V' hS => ?_⟩) hHeld ?_
  · go_simp
  simp only [Act.put, List.setIfInBounds_toArray, List.set_cons_zero, List.set_cons_succ]
  refine wpAnyH_ready (rs := [5]) (by kernel_rfl) (by simp) ?_
  refine AllReadyH.cons ov5 (fun K hK => ?_) AllReadyH.nil
  rw [if_pos (by rfl)]
  go_simp
  refine (PLC.out z0).mono ?_
  rintro e w' ⟨rfl, hw⟩
  have hw2 := hw.symm
  clear hw
  subst hw2
  (try go_wp2_with fail)
  refine hK.out _ _ hHeld (fun _ => ?_)
  clear hK K
  (try simp only [Act.put, List.setIfInBounds_toArray, List.set_cons_zero, List.set_cons_succ])
  refine wpAnyH_take (i := 9) (v := .pointer (some ⟨b, 1 + p * 4, none⟩)) ov9 (by kernel_rfl) (by kernel_rfl) (by kernel_rfl) (fun _ _ _ h => h) (Or.inl ⟨by rfl, fun V' hS => ?_⟩) hHeld ?_
  · go_simp
  simp only [Act.put, List.setIfInBounds_toArray, List.set_cons_zero, List.set_cons_succ]
  refine wpAnyH_ready (rs := [10]) (by kernel_rfl) (by simp) ?_
  refine AllReadyH.cons ov10 (fun K hK => ?_) AllReadyH.nil
  rw [if_pos (by rfl)]
  obtain ⟨c0, c1, c2, c3, g0, g1, g2, g3⟩ := HZ.out.wd p hp
  go_simp
  have HP : Hid (Stk (put4 z0 b (1 + p * 4) x) b 1 0 (rput f p x) n ∧ Only b w (put4 z0 b (1 + p * 4) x)) := ⟨by have h1 := HZ.out.put p hp x; exact h1, only_put4 HY.out _ _⟩
  refine hK.out _ _ ⟨HP.out.1.sz.1, HB.out.only (only_put4 (Only.refl b z0) _ _) hbx⟩ (fun _ => ?_)
  clear hK K
  (try simp only [Act.put, List.setIfInBounds_toArray, List.set_cons_zero, List.set_cons_succ])
  refine wpAnyH_done (by kernel_rfl) ?_ _
  obtain ⟨h1, h2⟩ := HP.out
  have cz := h1.sz.1
  have fz := h1.sz.2
  have HE : Hid _ := And.intro (h1.num (wrap64 (n + 1))) (h2.set 0 (.int .i64 (wrap64 (n + 1))))
  clear HP h1 h2 HZ HY HB hHeld
  show Exit.then _ _ _ _ (put4 z0 b (1 + p * 4) x)
  generalize put4 z0 b (1 + p * 4) x = y at HE cz fz ⊢
  go_wp2
  go_end0
  exact ⟨rfl, HE.out⟩
set_option maxHeartbeats 1000000 in
set_option maxRecDepth 100000 in
theorem takeR_is (w : World) (b : Nat) (f : Ring) (n : Int) (h : Stk w b 1 0 f n) : Calls Try.prog 55 #[.pointer (some ⟨b, 0, none⟩)] w fun e w' => e = .returned (f (pl (n - 1))).v ∧ Stk w' b 1 0 f (wrap64 (n - 1)) ∧ Only b w w' := by
  have e1 : bits .and .i64 (wrap64 (n - 1)) 1023 = (pl (n - 1) : Int) := by rw [i64_and1023, pl_eq, wrap64]; omega
  have hp := pl_lt (n - 1)
  have hb := h.lt
  have PLC : Hid (∀ W : World, Calls Try.prog 51 #[.int .i64 (wrap64 (n - 1)), .int .i64 1024] W fun e w' => e = .returned (.int .i64 (pl (n - 1) : Int)) ∧ w' = W) := fun W => by have := placeR_is W (wrap64 (n - 1)); rwa [pl_wrap64] at this
  have cz := h.sz.1
  have fz := h.sz.2
  obtain ⟨ob, eo⟩ : ∃ ob, ob = Obj.cells #[.int .u64 0, .int .u64 0, .int .u64 0, .int .u64 0] 30 := ⟨_, rfl⟩
  obtain ⟨m, em⟩ : ∃ m, m = wrap64 (n - 1) := ⟨_, rfl⟩
  rw [← em] at e1
  (try rw [← em] at PLC)
  rw [← em]
  have HS : Hid (Stk ((w.setCell ⟨b, 0, none⟩ (.int .i64 m)).alloc ob) b 1 0 f m) := (h.num m).alloc ob
  have HO : Hid (Only b w ((w.setCell ⟨b, 0, none⟩ (.int .i64 m)).alloc ob)) := ((Only.refl b w).set _ _).alloc ob
  have HB : Hid (Wd ((w.setCell ⟨b, 0, none⟩ (.int .i64 m)).alloc ob) w.heap.size 0 w0) := by
    have h1 := Wd.new (w.setCell ⟨b, 0, none⟩ (.int .i64 m)) 30 w0
    rw [World.size_setCell] at h1
    rw [eo]; exact h1
  have hsz : w.heap.size ≤ w.heap.size := Nat.le_refl _
  generalize pl (n - 1) = p at *
  have hpI : (p : Int) < 1024 := by omega
  clear h
  go_enter Try.func55, Try.ntmps55
  go_upto_region 2 with fail
  rw [← eo, ← em]
  clear eo cz fz em
  generalize (w.setCell ⟨b, 0, none⟩ (.int .i64 m)).alloc ob = v at HS HO HB ⊢
  generalize hbx0 : w.heap.size = bx at HB hb ⊢
  replace hbx0 : Hid (w.heap.size = bx) := hbx0
  refine wp_region_held_drew (S := fun V' => Stk V' b 1 0 f m) (by kernel_rfl) HS.out.drew (fun hHeld => ?_)
  have HY : Hid (Only b w v.drew) := HO.out.drew
  replace HB : Hid (Wd v.drew bx 0 w0) := HB.out.drew
  have hbx : b ≠ bx := by omega
  generalize v.drew = z0 at hHeld HY HB ⊢
  clear HS HO
  refine wpAnyH_take (i := 0) (v := .pointer (some ⟨b, 0, none⟩)) ov0 (by kernel_rfl) (by kernel_rfl) (by kernel_rfl) (fun _ _ _ h => h) (Or.inl ⟨by rfl, fun V' hS => ?_⟩) hHeld ?_
  · go_simp
  simp only [Act.put, List.setIfInBounds_toArray, List.set_cons_zero, List.set_cons_succ]
  refine wpAnyH_take (i := 1) (v := .pointer (some ⟨b, 0, none⟩)) ov1 (by kernel_rfl) (by kernel_rfl) (by kernel_rfl) (fun _ _ _ h => h) (Or.inl ⟨by rfl, fun V' hS => ?_⟩) hHeld ?_
  · go_simp
  simp only [Act.put, List.setIfInBounds_toArray, List.set_cons_zero, List.set_cons_succ]
  refine wpAnyH_take (i := 2) (v := .pointer (some ⟨b, 0, none⟩)) ov2 (by kernel_rfl) (by kernel_rfl) (by kernel_rfl) (fun _ _ _ h => h) (Or.inl ⟨by rfl, fun V' hS => ?_⟩) hHeld ?_
  · go_simp
  simp only [Act.put, List.setIfInBounds_toArray, List.set_cons_zero, List.set_cons_succ]
  refine wpAnyH_take (i := 3) (v := .pointer (some ⟨b, 0, none⟩)) ov3 (by kernel_rfl) (by kernel_rfl) (by kernel_rfl) (fun _ _ _ h => h) (Or.inl ⟨by rfl, fun V' hS => ?_⟩) hHeld ?_
  · go_simp
  simp only [Act.put, List.setIfInBounds_toArray, List.set_cons_zero, List.set_cons_succ]
  refine wpAnyH_take (i := 4) (v := .int .i64 m) ov4 (by kernel_rfl) (by kernel_rfl) (by kernel_rfl) (fun _ _ _ h => h) (Or.inl ⟨by rfl, fun V' hS => ?_⟩) hHeld ?_
  · have hh := hS.sz.1
    go_simp
  simp only [Act.put, List.setIfInBounds_toArray, List.set_cons_zero, List.set_cons_succ]
  refine wpAnyH_take (i := 6) (v := .pointer (some ⟨b, 0, none⟩)) ov6 (by kernel_rfl) (by kernel_rfl) (by kernel_rfl) (fun _ _ _ h => h) (Or.inl ⟨by rfl, fun V' hS => ?_⟩) hHeld ?_
  · go_simp
  simp only [Act.put, List.setIfInBounds_toArray, List.set_cons_zero, List.set_cons_succ]
  refine wpAnyH_take (i := 7) (v := .pointer (some ⟨b, 1, none⟩)) ov7 (by kernel_rfl) (by kernel_rfl) (by kernel_rfl) (fun _ _ _ h => h) (Or.inl ⟨by rfl, fun V' hS => ?_⟩) hHeld ?_
  · go_simp
  simp only [Act.put, List.setIfInBounds_toArray, List.set_cons_zero, List.set_cons_succ]
  refine wpAnyH_ready (rs := [5]) (by kernel_rfl) (by simp) ?_
  refine AllReadyH.cons ov5 (fun K hK => ?_) AllReadyH.nil
  rw [if_pos (by rfl)]
  go_simp
  refine (PLC.out z0).mono ?_
  rintro e w' ⟨rfl, hw⟩
  have hw2 := hw.symm
  clear hw
  subst hw2
  (try go_wp2_with fail)
  refine hK.out _ _ hHeld (fun _ => ?_)
  clear hK K
  (try simp only [Act.put, List.setIfInBounds_toArray, List.set_cons_zero, List.set_cons_succ])
  refine wpAnyH_take (i := 8) (v := .pointer (some ⟨b, 1 + p * 4, none⟩)) ov8 (by kernel_rfl) (by kernel_rfl) (by kernel_rfl) (fun _ _ _ h => h) (Or.inl ⟨by rfl, fun V' hS => ?_⟩) hHeld ?_
  · go_simp
  simp only [Act.put, List.setIfInBounds_toArray, List.set_cons_zero, List.set_cons_succ]
  refine wpAnyH_take (i := 9) (v := .agg #[.int .u64 (f p).a, .int .u64 (f p).b, .int .u64 (f p).c, .int .u64 (f p).d]) ov9 (by kernel_rfl) (by kernel_rfl) (by kernel_rfl) (fun _ _ _ h => h) (Or.inl ⟨by rfl, fun V' hS => ?_⟩) hHeld ?_
  · obtain ⟨c0, c1, c2, c3, _⟩ := hS.wd p hp
    go_simp
  simp only [Act.put, List.setIfInBounds_toArray, List.set_cons_zero, List.set_cons_succ]
  refine wpAnyH_ready (rs := [10]) (by kernel_rfl) (by simp) ?_
  refine AllReadyH.cons ov10 (fun K hK => ?_) AllReadyH.nil
  rw [if_pos (by rfl)]
  obtain ⟨c0, c1, c2, c3, g0, g1, g2, g3⟩ := HB.out
  go_simp
  have HP : Hid (Wd (put4 z0 bx 0 (f p)) bx 0 (f p) ∧ Stk (put4 z0 bx 0 (f p)) b 1 0 f m ∧ Only b w (put4 z0 bx 0 (f p))) := ⟨HB.out.put _, hHeld.putS bx hbx _ _, only_new HY.out (by rw [hbx0.out]; exact Nat.le_refl _) _ _⟩
  refine hK.out _ _ HP.out.2.1 (fun _ => ?_)
  clear hK K
  (try simp only [Act.put, List.setIfInBounds_toArray, List.set_cons_zero, List.set_cons_succ])
  refine wpAnyH_done (by kernel_rfl) ?_ _
  show Exit.then _ _ _ _ (put4 z0 bx 0 (f p))
  clear HY HB hHeld
  generalize put4 z0 bx 0 (f p) = y at HP ⊢
  go_wp2
  refine bodyPost_ret (v := (f p).v) ?_ rfl ⟨rfl, HP.out.2⟩
  exact results_c Try.results55 _ _ _ ⟨bx, 0, none⟩ rfl (loadWd HP.out.1)
set_option maxHeartbeats 1000000 in
set_option maxRecDepth 100000 in
theorem peekR_is (w : World) (b : Nat) (f : Ring) (n k : Int) (h : Stk w b 1 0 f n) : Calls Try.prog 56 #[.pointer (some ⟨b, 0, none⟩), .int .i64 k] w fun e w' => e = .returned (f (pl (n - k))).v ∧ Below w.heap.size w w' := by
  have hp := pl_lt (n - k)
  have hb := h.lt
  have PLC : Hid (∀ W : World, Stk W b 1 0 f n → Calls Try.prog 59 #[.pointer (some ⟨b, 0, none⟩), .int .i64 k] W fun e w' => e = .returned (.int .i64 ((pl n : Int) - (pl k : Int))) ∧ w' = W) := fun W hW => numberR_is W b f n k hW
  have PLD : Hid (∀ W : World, Calls Try.prog 51 #[.int .i64 ((pl n : Int) - (pl k : Int)), .int .i64 1024] W fun e w' => e = .returned (.int .i64 (pl (n - k) : Int)) ∧ w' = W) := fun W => by have := placeR_is W ((pl n : Int) - (pl k : Int)); rwa [pl_diff] at this
  obtain ⟨ob, eo⟩ : ∃ ob, ob = Obj.cells #[.int .u64 0, .int .u64 0, .int .u64 0, .int .u64 0] 30 := ⟨_, rfl⟩
  have HS : Hid (Stk (w.alloc ob) b 1 0 f n) := h.alloc ob
  have HO : Hid (Below w.heap.size w (w.alloc ob)) := (Below.refl _ _).alloc (Nat.le_refl _) ob
  have HB : Hid (Wd (w.alloc ob) w.heap.size 0 w0) := by rw [eo]; exact Wd.new w 30 w0
  generalize pl (n - k) = p at *
  have hpI : (p : Int) < 1024 := by omega
  clear h
  go_enter Try.func56, Try.ntmps56
  go_upto_region 1 with fail
  rw [← eo]
  clear eo
  generalize w.alloc ob = v at HS HO HB ⊢
  generalize hbx0 : w.heap.size = bx at HB HO hb ⊢
  refine wp_region_held_drew (S := fun V' => Stk V' b 1 0 f n) (by kernel_rfl) HS.out.drew (fun hHeld => ?_)
  have HY : Hid (Below bx w v.drew) := HO.out.drew
  replace HB : Hid (Wd v.drew bx 0 w0) := HB.out.drew
  have hbx : b ≠ bx := by omega
  generalize v.drew = z0 at hHeld HY HB ⊢
  clear HS HO
  refine wpAnyH_take (i := 0) (v := .pointer (some ⟨b, 0, none⟩)) ov0 (by kernel_rfl) (by kernel_rfl) (by kernel_rfl) (fun _ _ _ h => h) (Or.inl ⟨by rfl, fun V' hS => ?_⟩) hHeld ?_
  · go_simp
  simp only [Act.put, List.setIfInBounds_toArray, List.set_cons_zero, List.set_cons_succ]
  refine wpAnyH_take (i := 1) (v := .pointer (some ⟨b, 0, none⟩)) ov1 (by kernel_rfl) (by kernel_rfl) (by kernel_rfl) (fun _ _ _ h => h) (Or.inl ⟨by rfl, fun V' hS => ?_⟩) hHeld ?_
  · go_simp
  simp only [Act.put, List.setIfInBounds_toArray, List.set_cons_zero, List.set_cons_succ]
  refine wpAnyH_take (i := 2) (v := .int .i64 k) ov2 (by kernel_rfl) (by kernel_rfl) (by kernel_rfl) (fun _ _ _ h => h) (Or.inl ⟨by rfl, fun V' hS => ?_⟩) hHeld ?_
  · go_simp
  simp only [Act.put, List.setIfInBounds_toArray, List.set_cons_zero, List.set_cons_succ]
  refine wpAnyH_take (i := 5) (v := .pointer (some ⟨b, 0, none⟩)) ov5 (by kernel_rfl) (by kernel_rfl) (by kernel_rfl) (fun _ _ _ h => h) (Or.inl ⟨by rfl, fun V' hS => ?_⟩) hHeld ?_
  · go_simp
  simp only [Act.put, List.setIfInBounds_toArray, List.set_cons_zero, List.set_cons_succ]
  refine wpAnyH_take (i := 6) (v := .pointer (some ⟨b, 1, none⟩)) ov6 (by kernel_rfl) (by kernel_rfl) (by kernel_rfl) (fun _ _ _ h => h) (Or.inl ⟨by rfl, fun V' hS => ?_⟩) hHeld ?_
  · go_simp
  simp only [Act.put, List.setIfInBounds_toArray, List.set_cons_zero, List.set_cons_succ]
  refine wpAnyH_ready (rs := [3]) (by kernel_rfl) (by simp) ?_
  refine AllReadyH.cons ov3 (fun K hK => ?_) AllReadyH.nil
  rw [if_pos (by rfl)]
  go_simp
  refine (PLC.out z0 hHeld).mono ?_
  rintro e w' ⟨rfl, hw⟩
  have hw2 := hw.symm
  clear hw
  subst hw2
  (try go_wp2_with fail)
  refine hK.out _ _ hHeld (fun _ => ?_)
  clear hK K
  (try simp only [Act.put, List.setIfInBounds_toArray, List.set_cons_zero, List.set_cons_succ])
  refine wpAnyH_ready (rs := [4]) (by kernel_rfl) (by simp) ?_
  refine AllReadyH.cons ov4 (fun K hK => ?_) AllReadyH.nil
  rw [if_pos (by rfl)]
  go_simp
  refine (PLD.out z0).mono ?_
  rintro e w' ⟨rfl, hw⟩
  have hw2 := hw.symm
  clear hw
  subst hw2
  (try go_wp2_with fail)
  refine hK.out _ _ hHeld (fun _ => ?_)
  clear hK K
  (try simp only [Act.put, List.setIfInBounds_toArray, List.set_cons_zero, List.set_cons_succ])
  refine wpAnyH_take (i := 7) (v := .pointer (some ⟨b, 1 + p * 4, none⟩)) ov7 (by kernel_rfl) (by kernel_rfl) (by kernel_rfl) (fun _ _ _ h => h) (Or.inl ⟨by rfl, fun V' hS => ?_⟩) hHeld ?_
  · go_simp
  simp only [Act.put, List.setIfInBounds_toArray, List.set_cons_zero, List.set_cons_succ]
  refine wpAnyH_take (i := 8) (v := .agg #[.int .u64 (f p).a, .int .u64 (f p).b, .int .u64 (f p).c, .int .u64 (f p).d]) ov8 (by kernel_rfl) (by kernel_rfl) (by kernel_rfl) (fun _ _ _ h => h) (Or.inl ⟨by rfl, fun V' hS => ?_⟩) hHeld ?_
  · obtain ⟨c0, c1, c2, c3, _⟩ := hS.wd p hp
    go_simp
  simp only [Act.put, List.setIfInBounds_toArray, List.set_cons_zero, List.set_cons_succ]
  refine wpAnyH_ready (rs := [9]) (by kernel_rfl) (by simp) ?_
  refine AllReadyH.cons ov9 (fun K hK => ?_) AllReadyH.nil
  rw [if_pos (by rfl)]
  obtain ⟨c0, c1, c2, c3, g0, g1, g2, g3⟩ := HB.out
  go_simp
  have HP : Hid (Wd (put4 z0 bx 0 (f p)) bx 0 (f p) ∧ Stk (put4 z0 bx 0 (f p)) b 1 0 f n ∧ Below bx w (put4 z0 bx 0 (f p))) := ⟨HB.out.put _, hHeld.putS bx hbx _ _, (only_put4 (Only.refl bx z0) 0 (f p)).below (Nat.le_refl _) (by have := HB.out.lt; omega) |> fun q => HY.out.trans q⟩
  refine hK.out _ _ HP.out.2.1 (fun _ => ?_)
  clear hK K
  (try simp only [Act.put, List.setIfInBounds_toArray, List.set_cons_zero, List.set_cons_succ])
  refine wpAnyH_done (by kernel_rfl) ?_ _
  show Exit.then _ _ _ _ (put4 z0 bx 0 (f p))
  clear HY HB hHeld
  generalize put4 z0 bx 0 (f p) = y at HP ⊢
  go_wp2
  refine bodyPost_ret (v := (f p).v) ?_ rfl ⟨rfl, by rw [hbx0]; exact HP.out.2.2⟩
  exact results_c Try.results56 _ _ _ ⟨bx, 0, none⟩ rfl (loadWd HP.out.1)
end Go.Proofs.Ytdddmebihkdkjaa
