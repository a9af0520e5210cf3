/- Return stacks of both kinds: their calls. -/
import Derived.Test.YtdddmebihkdkjaaYa
namespace Go.Proofs.Ytdddmebihkdkjaa
open Go.RowKit
theorem rlen_is (w : World) (b : Nat) (f : PRing) (n : Int) (h : Rtn w b 0 2048 f n) : Calls Try.prog 23 #[.pointer (some ⟨b, 0, none⟩)] w fun e w' => e = .returned (.int .i64 n) ∧ w' = w := by
  have cz := h.sz.1
  go_enter Try.func23, Try.ntmps23
  go_wp2
  go_ret
  exact ⟨rfl, rfl⟩
theorem rlenR_is (w : World) (b : Nat) (f : PRing) (n : Int) (h : Rtn w b 1 0 f n) : Calls Try.prog 24 #[.pointer (some ⟨b, 0, none⟩)] w fun e w' => e = .returned (.int .i64 n) ∧ w' = w := by
  have cz := h.sz.1
  go_enter Try.func24, Try.ntmps24
  go_wp2
  go_ret
  exact ⟨rfl, rfl⟩
set_option maxHeartbeats 1000000 in
set_option maxRecDepth 100000 in
theorem rput_is (w : World) (b : Nat) (f : PRing) (n : Int) (h : Rtn w b 0 2048 f n) (x : P2) : Calls Try.prog 19 #[.pointer (some ⟨b, 0, none⟩), x.v] w fun e w' => e = .returned (.tuple #[]) ∧ Rtn w' b 0 2048 (pput f (pl n) x) (wrap64 (n + 1)) ∧ Only b w w' := by
  have e1 : bits .and .i64 n 1023 = (pl n : Int) := by rw [i64_and1023, pl_eq]
  have hp := pl_lt n
  have hb := h.lt
  obtain ⟨ob, eo⟩ : ∃ ob, ob = x.o := ⟨_, rfl⟩
  have HS : Hid (Rtn (w.alloc ob) b 0 2048 f n) := h.alloc ob
  have HO : Hid (Only b w (w.alloc ob)) := (Only.refl b w).alloc ob
  have HB : Hid (Pd (w.alloc ob) w.heap.size 0 x) := by rw [eo]; exact Pd.new w x
  have PLC : Hid (∀ W : World, True) := fun _ => trivial
  generalize pl n = p at *
  have hpI : (p : Int) < 1024 := by omega
  clear h
  unfold P2.v
  go_enter Try.func19, Try.ntmps19
  go_upto_region 1 with fail
  change Code.wp _ _ _ _ (w.alloc x.o)
  rw [← eo]
  clear eo
  generalize w.alloc ob = v at HS HO HB ⊢
  generalize w.heap.size = bx at HB hb ⊢
  refine wp_region_held_drew (S := fun V' => V'.cell? ⟨b, 2048, none⟩ = some (.int .i64 n) ∧ Pd V' bx 0 x) (by kernel_rfl) ⟨HS.out.drew.sz.1, HB.out.drew⟩ (fun hHeld => ?_)
  have HZ : Hid (Rtn v.drew b 0 2048 f n) := HS.out.drew
  have HY : Hid (Only b w v.drew) := HO.out.drew
  replace HB : Hid (Pd v.drew bx 0 x) := HB.out.drew
  have hbx : bx ≠ b := by omega
  generalize v.drew = z0 at hHeld HZ HY HB ⊢
  clear HS HO
  refine wpAnyH_take (i := 0) (v := .pointer (some ⟨b, 0, none⟩)) ov0 (by kernel_rfl) (by kernel_rfl) (by kernel_rfl) (fun _ _ _ h => h) (Or.inl ⟨by rfl, fun V' hS => ?_⟩) hHeld ?_
  · go_simp
  simp only [Act.put, List.setIfInBounds_toArray, List.set_cons_zero, List.set_cons_succ]
  refine wpAnyH_take (i := 1) (v := .pointer (some ⟨b, 0, none⟩)) ov1 (by kernel_rfl) (by kernel_rfl) (by kernel_rfl) (fun _ _ _ h => h) (Or.inl ⟨by rfl, fun V' hS => ?_⟩) hHeld ?_
  · go_simp
  simp only [Act.put, List.setIfInBounds_toArray, List.set_cons_zero, List.set_cons_succ]
  refine wpAnyH_take (i := 2) (v := .pointer (some ⟨b, 0, none⟩)) ov2 (by kernel_rfl) (by kernel_rfl) (by kernel_rfl) (fun _ _ _ h => h) (Or.inl ⟨by rfl, fun V' hS => ?_⟩) hHeld ?_
  · go_simp
  simp only [Act.put, List.setIfInBounds_toArray, List.set_cons_zero, List.set_cons_succ]
  refine wpAnyH_take (i := 3) (v := .pointer (some ⟨b, 2048, none⟩)) ov3 (by kernel_rfl) (by kernel_rfl) (by kernel_rfl) (fun _ _ _ h => h) (Or.inl ⟨by rfl, fun V' hS => ?_⟩) hHeld ?_
  · go_simp
  simp only [Act.put, List.setIfInBounds_toArray, List.set_cons_zero, List.set_cons_succ]
  refine wpAnyH_take (i := 4) (v := .int .i64 n) ov4 (by kernel_rfl) (by kernel_rfl) (by kernel_rfl) (fun _ _ _ h => h) (Or.inl ⟨by rfl, fun V' hS => ?_⟩) hHeld ?_
  · have hh := hS.1
    go_simp
  simp only [Act.put, List.setIfInBounds_toArray, List.set_cons_zero, List.set_cons_succ]
  refine wpAnyH_take (i := 5) (v := .int .i64 (p : Int)) ov5 (by kernel_rfl) (by kernel_rfl) (by kernel_rfl) (fun _ _ _ h => h) (Or.inl ⟨by rfl, fun V' hS => ?_⟩) hHeld ?_
  · go_simp
  simp only [Act.put, List.setIfInBounds_toArray, List.set_cons_zero, List.set_cons_succ]
  refine wpAnyH_take (i := 6) (v := .agg #[.int .i64 x.a, .int .i64 x.b]) ov6 (by kernel_rfl) (by kernel_rfl) (by kernel_rfl) (fun _ _ _ h => h) (Or.inl ⟨by rfl, fun V' hS => ?_⟩) hHeld ?_
  · obtain ⟨c0, c1, _⟩ := hS.2
    go_simp
  simp only [Act.put, List.setIfInBounds_toArray, List.set_cons_zero, List.set_cons_succ]
  refine wpAnyH_take (i := 7) (v := .pointer (some ⟨b, 0, none⟩)) ov7 (by kernel_rfl) (by kernel_rfl) (by kernel_rfl) (fun _ _ _ h => h) (Or.inl ⟨by rfl, fun V' hS => ?_⟩) hHeld ?_
  · go_simp
  simp only [Act.put, List.setIfInBounds_toArray, List.set_cons_zero, List.set_cons_succ]
  refine wpAnyH_take (i := 8) (v := .pointer (some ⟨b, 0, none⟩)) ov8 (by kernel_rfl) (by kernel_rfl) (by kernel_rfl) (fun _ _ _ h => h) (Or.inl ⟨by rfl, fun V' hS => ?_⟩) hHeld ?_
  · go_simp
  simp only [Act.put, List.setIfInBounds_toArray, List.set_cons_zero, List.set_cons_succ]
  refine wpAnyH_take (i := 9) (v := .pointer (some ⟨b, p * 2, none⟩)) ov9 (by kernel_rfl) (by kernel_rfl) (by kernel_rfl) (fun _ _ _ h => h) (Or.inl ⟨by rfl, fun V' hS => ?_⟩) hHeld ?_
  · go_simp
  simp only [Act.put, List.setIfInBounds_toArray, List.set_cons_zero, List.set_cons_succ]
  refine wpAnyH_ready (rs := [10]) (by kernel_rfl) (by simp) ?_
  refine AllReadyH.cons ov10 (fun K hK => ?_) AllReadyH.nil
  rw [if_pos (by rfl)]
  obtain ⟨c0, c1, g0, g1⟩ := Pd.of0 HZ.out p hp
  go_simp
  have HP : Hid (Rtn (put2 z0 b (p * 2) x) b 0 2048 (pput f p x) n ∧ Only b w (put2 z0 b (p * 2) x)) := ⟨by have h1 := HZ.out.put p hp x; rw [Nat.zero_add] at h1; exact h1, only_put2 HY.out _ _⟩
  refine hK.out _ _ ⟨HP.out.1.sz.1, HB.out.only (only_put2 (Only.refl b z0) _ _) hbx⟩ (fun _ => ?_)
  clear hK K
  (try simp only [Act.put, List.setIfInBounds_toArray, List.set_cons_zero, List.set_cons_succ])
  refine wpAnyH_done (by kernel_rfl) ?_ _
  obtain ⟨h1, h2⟩ := HP.out
  have cz := h1.sz.1
  have fz := h1.sz.2
  have HE : Hid _ := And.intro (h1.num (wrap64 (n + 1))) (h2.set 2048 (.int .i64 (wrap64 (n + 1))))
  clear HP h1 h2 HZ HY HB hHeld
  show Exit.then _ _ _ _ (put2 z0 b (p * 2) x)
  generalize put2 z0 b (p * 2) x = y at HE cz fz ⊢
  go_wp2
  go_end0
  exact ⟨rfl, HE.out⟩
set_option maxHeartbeats 1000000 in
set_option maxRecDepth 100000 in
theorem rtake_is (w : World) (b : Nat) (f : PRing) (n : Int) (h : Rtn w b 0 2048 f n) : Calls Try.prog 21 #[.pointer (some ⟨b, 0, none⟩)] w fun e w' => e = .returned (f (pl (n - 1))).v ∧ Rtn w' b 0 2048 f (wrap64 (n - 1)) ∧ Only b w w' := by
  have e1 : bits .and .i64 (wrap64 (n - 1)) 1023 = (pl (n - 1) : Int) := by rw [i64_and1023, pl_eq, wrap64]; omega
  have hp := pl_lt (n - 1)
  have hb := h.lt
  have PLC : Hid (∀ W : World, True) := fun _ => trivial
  have cz := h.sz.1
  have fz := h.sz.2
  obtain ⟨ob, eo⟩ : ∃ ob, ob = q0.o := ⟨_, rfl⟩
  obtain ⟨m, em⟩ : ∃ m, m = wrap64 (n - 1) := ⟨_, rfl⟩
  rw [← em] at e1
  (try rw [← em] at PLC)
  rw [← em]
  have HS : Hid (Rtn ((w.setCell ⟨b, 2048, none⟩ (.int .i64 m)).alloc ob) b 0 2048 f m) := (h.num m).alloc ob
  have HO : Hid (Only b w ((w.setCell ⟨b, 2048, none⟩ (.int .i64 m)).alloc ob)) := ((Only.refl b w).set _ _).alloc ob
  have HB : Hid (Pd ((w.setCell ⟨b, 2048, none⟩ (.int .i64 m)).alloc ob) w.heap.size 0 q0) := by
    have h1 := Pd.new (w.setCell ⟨b, 2048, none⟩ (.int .i64 m)) q0
    rw [World.size_setCell] at h1
    rw [eo]; exact h1
  have hsz : w.heap.size ≤ w.heap.size := Nat.le_refl _
  generalize pl (n - 1) = p at *
  have hpI : (p : Int) < 1024 := by omega
  clear h
  go_enter Try.func21, Try.ntmps21
  go_upto_region 2 with fail
  rw [← em]
  change Code.wp _ _ _ _ ((w.setCell ⟨b, 2048, none⟩ (.int .i64 m)).alloc q0.o)
  rw [← eo]
  clear eo cz fz em
  generalize (w.setCell ⟨b, 2048, none⟩ (.int .i64 m)).alloc ob = v at HS HO HB ⊢
  generalize hbx0 : w.heap.size = bx at HB hb ⊢
  replace hbx0 : Hid (w.heap.size = bx) := hbx0
  refine wp_region_held_drew (S := fun V' => Rtn V' b 0 2048 f m) (by kernel_rfl) HS.out.drew (fun hHeld => ?_)
  have HY : Hid (Only b w v.drew) := HO.out.drew
  replace HB : Hid (Pd v.drew bx 0 q0) := HB.out.drew
  have hbx : b ≠ bx := by omega
  generalize v.drew = z0 at hHeld HY HB ⊢
  clear HS HO
  refine wpAnyH_take (i := 0) (v := .pointer (some ⟨b, 0, none⟩)) ov0 (by kernel_rfl) (by kernel_rfl) (by kernel_rfl) (fun _ _ _ h => h) (Or.inl ⟨by rfl, fun V' hS => ?_⟩) hHeld ?_
  · go_simp
  simp only [Act.put, List.setIfInBounds_toArray, List.set_cons_zero, List.set_cons_succ]
  refine wpAnyH_take (i := 1) (v := .pointer (some ⟨b, 0, none⟩)) ov1 (by kernel_rfl) (by kernel_rfl) (by kernel_rfl) (fun _ _ _ h => h) (Or.inl ⟨by rfl, fun V' hS => ?_⟩) hHeld ?_
  · go_simp
  simp only [Act.put, List.setIfInBounds_toArray, List.set_cons_zero, List.set_cons_succ]
  refine wpAnyH_take (i := 2) (v := .pointer (some ⟨b, 0, none⟩)) ov2 (by kernel_rfl) (by kernel_rfl) (by kernel_rfl) (fun _ _ _ h => h) (Or.inl ⟨by rfl, fun V' hS => ?_⟩) hHeld ?_
  · go_simp
  simp only [Act.put, List.setIfInBounds_toArray, List.set_cons_zero, List.set_cons_succ]
  refine wpAnyH_take (i := 3) (v := .pointer (some ⟨b, 2048, none⟩)) ov3 (by kernel_rfl) (by kernel_rfl) (by kernel_rfl) (fun _ _ _ h => h) (Or.inl ⟨by rfl, fun V' hS => ?_⟩) hHeld ?_
  · go_simp
  simp only [Act.put, List.setIfInBounds_toArray, List.set_cons_zero, List.set_cons_succ]
  refine wpAnyH_take (i := 4) (v := .int .i64 m) ov4 (by kernel_rfl) (by kernel_rfl) (by kernel_rfl) (fun _ _ _ h => h) (Or.inl ⟨by rfl, fun V' hS => ?_⟩) hHeld ?_
  · have hh := hS.sz.1
    go_simp
  simp only [Act.put, List.setIfInBounds_toArray, List.set_cons_zero, List.set_cons_succ]
  refine wpAnyH_take (i := 5) (v := .int .i64 (p : Int)) ov5 (by kernel_rfl) (by kernel_rfl) (by kernel_rfl) (fun _ _ _ h => h) (Or.inl ⟨by rfl, fun V' hS => ?_⟩) hHeld ?_
  · go_simp
  simp only [Act.put, List.setIfInBounds_toArray, List.set_cons_zero, List.set_cons_succ]
  refine wpAnyH_take (i := 6) (v := .pointer (some ⟨b, 0, none⟩)) ov6 (by kernel_rfl) (by kernel_rfl) (by kernel_rfl) (fun _ _ _ h => h) (Or.inl ⟨by rfl, fun V' hS => ?_⟩) hHeld ?_
  · go_simp
  simp only [Act.put, List.setIfInBounds_toArray, List.set_cons_zero, List.set_cons_succ]
  refine wpAnyH_take (i := 7) (v := .pointer (some ⟨b, 0, none⟩)) ov7 (by kernel_rfl) (by kernel_rfl) (by kernel_rfl) (fun _ _ _ h => h) (Or.inl ⟨by rfl, fun V' hS => ?_⟩) hHeld ?_
  · go_simp
  simp only [Act.put, List.setIfInBounds_toArray, List.set_cons_zero, List.set_cons_succ]
  refine wpAnyH_take (i := 8) (v := .pointer (some ⟨b, p * 2, none⟩)) ov8 (by kernel_rfl) (by kernel_rfl) (by kernel_rfl) (fun _ _ _ h => h) (Or.inl ⟨by rfl, fun V' hS => ?_⟩) hHeld ?_
  · go_simp
  simp only [Act.put, List.setIfInBounds_toArray, List.set_cons_zero, List.set_cons_succ]
  refine wpAnyH_take (i := 9) (v := .agg #[.int .i64 (f p).a, .int .i64 (f p).b]) ov9 (by kernel_rfl) (by kernel_rfl) (by kernel_rfl) (fun _ _ _ h => h) (Or.inl ⟨by rfl, fun V' hS => ?_⟩) hHeld ?_
  · obtain ⟨c0, c1, _⟩ := Pd.of0 hS p hp
    go_simp
  simp only [Act.put, List.setIfInBounds_toArray, List.set_cons_zero, List.set_cons_succ]
  refine wpAnyH_ready (rs := [10]) (by kernel_rfl) (by simp) ?_
  refine AllReadyH.cons ov10 (fun K hK => ?_) AllReadyH.nil
  rw [if_pos (by rfl)]
  obtain ⟨c0, c1, g0, g1⟩ := HB.out
  go_simp
  have HP : Hid (Pd (put2 z0 bx 0 (f p)) bx 0 (f p) ∧ Rtn (put2 z0 bx 0 (f p)) b 0 2048 f m ∧ Only b w (put2 z0 bx 0 (f p))) := ⟨HB.out.put _, hHeld.putS bx hbx _ _, only_new2 HY.out (by rw [hbx0.out]; exact Nat.le_refl _) _ _⟩
  refine hK.out _ _ HP.out.2.1 (fun _ => ?_)
  clear hK K
  (try simp only [Act.put, List.setIfInBounds_toArray, List.set_cons_zero, List.set_cons_succ])
  refine wpAnyH_done (by kernel_rfl) ?_ _
  show Exit.then _ _ _ _ (put2 z0 bx 0 (f p))
  clear HY HB hHeld
  generalize put2 z0 bx 0 (f p) = y at HP ⊢
  go_wp2
  refine bodyPost_ret (v := (f p).v) ?_ rfl ⟨rfl, HP.out.2⟩
  exact results_c Try.results21 _ _ _ ⟨bx, 0, none⟩ rfl (loadPd HP.out.1)
set_option maxHeartbeats 1000000 in
set_option maxRecDepth 100000 in
theorem rputR_is (w : World) (b : Nat) (f : PRing) (n : Int) (h : Rtn w b 1 0 f n) (x : P2) : Calls Try.prog 20 #[.pointer (some ⟨b, 0, none⟩), x.v] w fun e w' => e = .returned (.tuple #[]) ∧ Rtn w' b 1 0 (pput f (pl n) x) (wrap64 (n + 1)) ∧ Only b w w' := by
  have e1 : bits .and .i64 n 1023 = (pl n : Int) := by rw [i64_and1023, pl_eq]
  have hp := pl_lt n
  have hb := h.lt
  obtain ⟨ob, eo⟩ : ∃ ob, ob = x.o := ⟨_, rfl⟩
  have HS : Hid (Rtn (w.alloc ob) b 1 0 f n) := h.alloc ob
  have HO : Hid (Only b w (w.alloc ob)) := (Only.refl b w).alloc ob
  have HB : Hid (Pd (w.alloc ob) w.heap.size 0 x) := by rw [eo]; exact Pd.new w x
  have PLC : Hid (∀ W : World, Calls Try.prog 51 #[.int .i64 n, .int .i64 1024] W fun e w' => e = .returned (.int .i64 (pl (n) : Int)) ∧ w' = W) := fun W => placeR_is W n
  generalize pl n = p at *
  have hpI : (p : Int) < 1024 := by omega
  clear h
  unfold P2.v
  go_enter Try.func20, Try.ntmps20
  go_upto_region 1 with fail
  change Code.wp _ _ _ _ (w.alloc x.o)
  rw [← eo]
  clear eo
  generalize w.alloc ob = v at HS HO HB ⊢
  generalize w.heap.size = bx at HB hb ⊢
  refine wp_region_held_drew (S := fun V' => V'.cell? ⟨b, 0, none⟩ = some (.int .i64 n) ∧ Pd V' bx 0 x) (by kernel_rfl) ⟨HS.out.drew.sz.1, HB.out.drew⟩ (fun hHeld => ?_)
  have HZ : Hid (Rtn v.drew b 1 0 f n) := HS.out.drew
  have HY : Hid (Only b w v.drew) := HO.out.drew
  replace HB : Hid (Pd v.drew bx 0 x) := HB.out.drew
  have hbx : bx ≠ b := by omega
  generalize v.drew = z0 at hHeld HZ HY HB ⊢
  clear HS HO
  refine wpAnyH_take (i := 0) (v := .pointer (some ⟨b, 0, none⟩)) ov0 (by kernel_rfl) (by kernel_rfl) (by kernel_rfl) (fun _ _ _ h => h) (Or.inl ⟨by rfl, fun V' hS => ?_⟩) hHeld ?_
  · go_simp
  simp only [Act.put, List.setIfInBounds_toArray, List.set_cons_zero, List.set_cons_succ]
  refine wpAnyH_take (i := 1) (v := .pointer (some ⟨b, 0, none⟩)) ov1 (by kernel_rfl) (by kernel_rfl) (by kernel_rfl) (fun _ _ _ h => h) (Or.inl ⟨by rfl, fun V' hS => ?_⟩) hHeld ?_
  · go_simp
  simp only [Act.put, List.setIfInBounds_toArray, List.set_cons_zero, List.set_cons_succ]
  refine wpAnyH_take (i := 2) (v := .pointer (some ⟨b, 0, none⟩)) ov2 (by kernel_rfl) (by kernel_rfl) (by kernel_rfl) (fun _ _ _ h => h) (Or.inl ⟨by rfl, fun V' hS => ?_⟩) hHeld ?_
  · go_simp
  simp only [Act.put, List.setIfInBounds_toArray, List.set_cons_zero, List.set_cons_succ]
  refine wpAnyH_take (i := 3) (v := .pointer (some ⟨b, 0, none⟩)) ov3 (by kernel_rfl) (by kernel_rfl) (by kernel_rfl) (fun _ _ _ h => h) (Or.inl ⟨by rfl, fun V' hS => ?_⟩) hHeld ?_
  · go_simp
  simp only [Act.put, List.setIfInBounds_toArray, List.set_cons_zero, List.set_cons_succ]
  refine wpAnyH_take (i := 4) (v := .int .i64 n) ov4 (by kernel_rfl) (by kernel_rfl) (by kernel_rfl) (fun _ _ _ h => h) (Or.inl ⟨by rfl, fun V' hS => ?_⟩) hHeld ?_
  · have hh := hS.1
    go_simp
  simp only [Act.put, List.setIfInBounds_toArray, List.set_cons_zero, List.set_cons_succ]
  refine wpAnyH_take (i := 6) (v := .agg #[.int .i64 x.a, .int .i64 x.b]) ov6 (by kernel_rfl) (by kernel_rfl) (by kernel_rfl) (fun _ _ _ h => h) (Or.inl ⟨by rfl, fun V' hS => ?_⟩) hHeld ?_
  · obtain ⟨c0, c1, _⟩ := hS.2
    go_simp
  simp only [Act.put, List.setIfInBounds_toArray, List.set_cons_zero, List.set_cons_succ]
  refine wpAnyH_take (i := 7) (v := .pointer (some ⟨b, 0, none⟩)) ov7 (by kernel_rfl) (by kernel_rfl) (by kernel_rfl) (fun _ _ _ h => h) (Or.inl ⟨by rfl, fun V' hS => ?_⟩) hHeld ?_
  · go_simp
  simp only [Act.put, List.setIfInBounds_toArray, List.set_cons_zero, List.set_cons_succ]
  refine wpAnyH_take (i := 8) (v := .pointer (some ⟨b, 1, none⟩)) ov8 (by kernel_rfl) (by kernel_rfl) (by kernel_rfl) (fun _ _ _ h => h) (Or.inl ⟨by rfl, fun V' hS => ?_⟩) hHeld ?_
  · go_simp
  simp only [Act.put, List.setIfInBounds_toArray, List.set_cons_zero, List.set_cons_succ]
  refine wpAnyH_ready (rs := [5]) (by kernel_rfl) (by simp) ?_
  refine AllReadyH.cons ov5 (fun K hK => ?_) AllReadyH.nil
  rw [if_pos (by rfl)]
  go_simp
  refine (PLC.out z0).mono ?_
  rintro e w' ⟨rfl, hw⟩
  have hw2 := hw.symm
  clear hw
  subst hw2
  (try go_wp2_with fail)
  refine hK.out _ _ hHeld (fun _ => ?_)
  clear hK K
  (try simp only [Act.put, List.setIfInBounds_toArray, List.set_cons_zero, List.set_cons_succ])
  refine wpAnyH_take (i := 9) (v := .pointer (some ⟨b, 1 + p * 2, none⟩)) ov9 (by kernel_rfl) (by kernel_rfl) (by kernel_rfl) (fun _ _ _ h => h) (Or.inl ⟨by rfl, fun V' hS => ?_⟩) hHeld ?_
  · go_simp
  simp only [Act.put, List.setIfInBounds_toArray, List.set_cons_zero, List.set_cons_succ]
  refine wpAnyH_ready (rs := [10]) (by kernel_rfl) (by simp) ?_
  refine AllReadyH.cons ov10 (fun K hK => ?_) AllReadyH.nil
  rw [if_pos (by rfl)]
  obtain ⟨c0, c1, g0, g1⟩ := HZ.out.wd p hp
  go_simp
  have HP : Hid (Rtn (put2 z0 b (1 + p * 2) x) b 1 0 (pput f p x) n ∧ Only b w (put2 z0 b (1 + p * 2) x)) := ⟨by have h1 := HZ.out.put p hp x; exact h1, only_put2 HY.out _ _⟩
  refine hK.out _ _ ⟨HP.out.1.sz.1, HB.out.only (only_put2 (Only.refl b z0) _ _) hbx⟩ (fun _ => ?_)
  clear hK K
  (try simp only [Act.put, List.setIfInBounds_toArray, List.set_cons_zero, List.set_cons_succ])
  refine wpAnyH_done (by kernel_rfl) ?_ _
  obtain ⟨h1, h2⟩ := HP.out
  have cz := h1.sz.1
  have fz := h1.sz.2
  have HE : Hid _ := And.intro (h1.num (wrap64 (n + 1))) (h2.set 0 (.int .i64 (wrap64 (n + 1))))
  clear HP h1 h2 HZ HY HB hHeld
  show Exit.then _ _ _ _ (put2 z0 b (1 + p * 2) x)
  generalize put2 z0 b (1 + p * 2) x = y at HE cz fz ⊢
  go_wp2
  go_end0
  exact ⟨rfl, HE.out⟩
set_option maxHeartbeats 1000000 in
set_option maxRecDepth 100000 in
theorem rtakeR_is (w : World) (b : Nat) (f : PRing) (n : Int) (h : Rtn w b 1 0 f n) : Calls Try.prog 22 #[.pointer (some ⟨b, 0, none⟩)] w fun e w' => e = .returned (f (pl (n - 1))).v ∧ Rtn w' b 1 0 f (wrap64 (n - 1)) ∧ Only b w w' := by
  have e1 : bits .and .i64 (wrap64 (n - 1)) 1023 = (pl (n - 1) : Int) := by rw [i64_and1023, pl_eq, wrap64]; omega
  have hp := pl_lt (n - 1)
  have hb := h.lt
  have PLC : Hid (∀ W : World, Calls Try.prog 51 #[.int .i64 (wrap64 (n - 1)), .int .i64 1024] W fun e w' => e = .returned (.int .i64 (pl (n - 1) : Int)) ∧ w' = W) := fun W => by have := placeR_is W (wrap64 (n - 1)); rwa [pl_wrap64] at this
  have cz := h.sz.1
  have fz := h.sz.2
  obtain ⟨ob, eo⟩ : ∃ ob, ob = q0.o := ⟨_, rfl⟩
  obtain ⟨m, em⟩ : ∃ m, m = wrap64 (n - 1) := ⟨_, rfl⟩
  rw [← em] at e1
  (try rw [← em] at PLC)
  rw [← em]
  have HS : Hid (Rtn ((w.setCell ⟨b, 0, none⟩ (.int .i64 m)).alloc ob) b 1 0 f m) := (h.num m).alloc ob
  have HO : Hid (Only b w ((w.setCell ⟨b, 0, none⟩ (.int .i64 m)).alloc ob)) := ((Only.refl b w).set _ _).alloc ob
  have HB : Hid (Pd ((w.setCell ⟨b, 0, none⟩ (.int .i64 m)).alloc ob) w.heap.size 0 q0) := by
    have h1 := Pd.new (w.setCell ⟨b, 0, none⟩ (.int .i64 m)) q0
    rw [World.size_setCell] at h1
    rw [eo]; exact h1
  have hsz : w.heap.size ≤ w.heap.size := Nat.le_refl _
  generalize pl (n - 1) = p at *
  have hpI : (p : Int) < 1024 := by omega
  clear h
  go_enter Try.func22, Try.ntmps22
  go_upto_region 2 with fail
  rw [← em]
  change Code.wp _ _ _ _ ((w.setCell ⟨b, 0, none⟩ (.int .i64 m)).alloc q0.o)
  rw [← eo]
  clear eo cz fz em
  generalize (w.setCell ⟨b, 0, none⟩ (.int .i64 m)).alloc ob = v at HS HO HB ⊢
  generalize hbx0 : w.heap.size = bx at HB hb ⊢
  replace hbx0 : Hid (w.heap.size = bx) := hbx0
  refine wp_region_held_drew (S := fun V' => Rtn V' b 1 0 f m) (by kernel_rfl) HS.out.drew (fun hHeld => ?_)
  have HY : Hid (Only b w v.drew) := HO.out.drew
  replace HB : Hid (Pd v.drew bx 0 q0) := HB.out.drew
  have hbx : b ≠ bx := by omega
  generalize v.drew = z0 at hHeld HY HB ⊢
  clear HS HO
  refine wpAnyH_take (i := 0) (v := .pointer (some ⟨b, 0, none⟩)) ov0 (by kernel_rfl) (by kernel_rfl) (by kernel_rfl) (fun _ _ _ h => h) (Or.inl ⟨by rfl, fun V' hS => ?_⟩) hHeld ?_
  · go_simp
  simp only [Act.put, List.setIfInBounds_toArray, List.set_cons_zero, List.set_cons_succ]
  refine wpAnyH_take (i := 1) (v := .pointer (some ⟨b, 0, none⟩)) ov1 (by kernel_rfl) (by kernel_rfl) (by kernel_rfl) (fun _ _ _ h => h) (Or.inl ⟨by rfl, fun V' hS => ?_⟩) hHeld ?_
  · go_simp
  simp only [Act.put, List.setIfInBounds_toArray, List.set_cons_zero, List.set_cons_succ]
  refine wpAnyH_take (i := 2) (v := .pointer (some ⟨b, 0, none⟩)) ov2 (by kernel_rfl) (by kernel_rfl) (by kernel_rfl) (fun _ _ _ h => h) (Or.inl ⟨by rfl, fun V' hS => ?_⟩) hHeld ?_
  · go_simp
  simp only [Act.put, List.setIfInBounds_toArray, List.set_cons_zero, List.set_cons_succ]
  refine wpAnyH_take (i := 3) (v := .pointer (some ⟨b, 0, none⟩)) ov3 (by kernel_rfl) (by kernel_rfl) (by kernel_rfl) (fun _ _ _ h => h) (Or.inl ⟨by rfl, fun V' hS => ?_⟩) hHeld ?_
  · go_simp
  simp only [Act.put, List.setIfInBounds_toArray, List.set_cons_zero, List.set_cons_succ]
  refine wpAnyH_take (i := 4) (v := .int .i64 m) ov4 (by kernel_rfl) (by kernel_rfl) (by kernel_rfl) (fun _ _ _ h => h) (Or.inl ⟨by rfl, fun V' hS => ?_⟩) hHeld ?_
  · have hh := hS.sz.1
    go_simp
  simp only [Act.put, List.setIfInBounds_toArray, List.set_cons_zero, List.set_cons_succ]
  refine wpAnyH_take (i := 6) (v := .pointer (some ⟨b, 0, none⟩)) ov6 (by kernel_rfl) (by kernel_rfl) (by kernel_rfl) (fun _ _ _ h => h) (Or.inl ⟨by rfl, fun V' hS => ?_⟩) hHeld ?_
  · go_simp
  simp only [Act.put, List.setIfInBounds_toArray, List.set_cons_zero, List.set_cons_succ]
  refine wpAnyH_take (i := 7) (v := .pointer (some ⟨b, 1, none⟩)) ov7 (by kernel_rfl) (by kernel_rfl) (by kernel_rfl) (fun _ _ _ h => h) (Or.inl ⟨by rfl, fun V' hS => ?_⟩) hHeld ?_
  · go_simp
  simp only [Act.put, List.setIfInBounds_toArray, List.set_cons_zero, List.set_cons_succ]
  refine wpAnyH_ready (rs := [5]) (by kernel_rfl) (by simp) ?_
  refine AllReadyH.cons ov5 (fun K hK => ?_) AllReadyH.nil
  rw [if_pos (by rfl)]
  go_simp
  refine (PLC.out z0).mono ?_
  rintro e w' ⟨rfl, hw⟩
  have hw2 := hw.symm
  clear hw
  subst hw2
  (try go_wp2_with fail)
  refine hK.out _ _ hHeld (fun _ => ?_)
  clear hK K
  (try simp only [Act.put, List.setIfInBounds_toArray, List.set_cons_zero, List.set_cons_succ])
  refine wpAnyH_take (i := 8) (v := .pointer (some ⟨b, 1 + p * 2, none⟩)) ov8 (by kernel_rfl) (by kernel_rfl) (by kernel_rfl) (fun _ _ _ h => h) (Or.inl ⟨by rfl, fun V' hS => ?_⟩) hHeld ?_
  · go_simp
  simp only [Act.put, List.setIfInBounds_toArray, List.set_cons_zero, List.set_cons_succ]
  refine wpAnyH_take (i := 9) (v := .agg #[.int .i64 (f p).a, .int .i64 (f p).b]) ov9 (by kernel_rfl) (by kernel_rfl) (by kernel_rfl) (fun _ _ _ h => h) (Or.inl ⟨by rfl, fun V' hS => ?_⟩) hHeld ?_
  · obtain ⟨c0, c1, _⟩ := hS.wd p hp
    go_simp
  simp only [Act.put, List.setIfInBounds_toArray, List.set_cons_zero, List.set_cons_succ]
  refine wpAnyH_ready (rs := [10]) (by kernel_rfl) (by simp) ?_
  refine AllReadyH.cons ov10 (fun K hK => ?_) AllReadyH.nil
  rw [if_pos (by rfl)]
  obtain ⟨c0, c1, g0, g1⟩ := HB.out
  go_simp
  have HP : Hid (Pd (put2 z0 bx 0 (f p)) bx 0 (f p) ∧ Rtn (put2 z0 bx 0 (f p)) b 1 0 f m ∧ Only b w (put2 z0 bx 0 (f p))) := ⟨HB.out.put _, hHeld.putS bx hbx _ _, only_new2 HY.out (by rw [hbx0.out]; exact Nat.le_refl _) _ _⟩
  refine hK.out _ _ HP.out.2.1 (fun _ => ?_)
  clear hK K
  (try simp only [Act.put, List.setIfInBounds_toArray, List.set_cons_zero, List.set_cons_succ])
  refine wpAnyH_done (by kernel_rfl) ?_ _
  show Exit.then _ _ _ _ (put2 z0 bx 0 (f p))
  clear HY HB hHeld
  generalize put2 z0 bx 0 (f p) = y at HP ⊢
  go_wp2
  refine bodyPost_ret (v := (f p).v) ?_ rfl ⟨rfl, HP.out.2⟩
  exact results_c Try.results22 _ _ _ ⟨bx, 0, none⟩ rfl (loadPd HP.out.1)
end Go.Proofs.Ytdddmebihkdkjaa
