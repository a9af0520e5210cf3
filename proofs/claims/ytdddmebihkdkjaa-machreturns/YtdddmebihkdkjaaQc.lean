/- Stacks of package mach: the calls that do not look. -/
import Derived.Test.YtdddmebihkdkjaaQb
import Derived.Test.YtdddmebihkdkjaaVo
namespace Go.Proofs.Ytdddmebihkdkjaa
open Go.RowKit
theorem Wd.of0 {W : World} {b z : Nat} {f : Ring} {n : Int} (h : Stk W b 0 z f n) (p : Nat) (hp : p < 1024) : Wd W b (p * 4) (f p) := by
  have := h.wd p hp; rwa [Nat.zero_add] at this
theorem only_new {b bx : Nat} {w W : World} (h : Only b w W) (hb : w.heap.size ≤ bx) (o : Nat) (x : W4) : Only b w (put4 W bx o x) := by
  have k := only_put4 (Only.refl bx W) o x
  exact ⟨k.os.trans h.os, k.tape.trans h.tape, k.output.trans h.output, Nat.le_trans h.size k.size, fun i hi hn => (k.block i (Nat.lt_of_lt_of_le hi h.size) (by omega)).trans (h.block i hi hn)⟩
theorem Stk.putS {W : World} {b o z : Nat} {f : Ring} {n : Int} (h : Stk W b o z f n) (bx : Nat) (hb : b ≠ bx) (a : Nat) (x : W4) : Stk (put4 W bx a x) b o z f n := h.only (only_put4 (Only.refl bx W) a x) hb
theorem put4_size (W : World) (b a : Nat) (x : W4) : (put4 W b a x).heap.size = W.heap.size := by unfold put4; simp
set_option maxHeartbeats 1000000 in
set_option maxRecDepth 100000 in
theorem put_is (w : World) (b : Nat) (f : Ring) (n : Int) (h : Stk w b 0 4096 f n) (x : W4) : Calls Try.prog 37 #[.pointer (some ⟨b, 0, none⟩), x.v] w fun e w' => e = .returned (.tuple #[]) ∧ Stk w' b 0 4096 (rput f (pl n) x) (wrap64 (n + 1)) ∧ Only b w w' := by
  have e1 : bits .and .i64 n 1023 = (pl n : Int) := by rw [i64_and1023, pl_eq]
  have hp := pl_lt n
  have hb := h.lt
  obtain ⟨ob, eo⟩ : ∃ ob, ob = Obj.cells #[.int .u64 x.a, .int .u64 x.b, .int .u64 x.c, .int .u64 x.d] 30 := ⟨_, rfl⟩
  have HS : Hid (Stk (w.alloc ob) b 0 4096 f n) := h.alloc ob
  have HO : Hid (Only b w (w.alloc ob)) := (Only.refl b w).alloc ob
  have HB : Hid (Wd (w.alloc ob) w.heap.size 0 x) := by rw [eo]; exact Wd.new w _ _
  have PLC : Hid (∀ W : World, True) := fun _ => trivial
  generalize pl n = p at *
  have hpI : (p : Int) < 1024 := by omega
  clear h
  unfold W4.v
  go_enter Try.func37, Try.ntmps37
  go_upto_region 1 with fail
  rw [← eo]
  clear eo
  generalize w.alloc ob = v at HS HO HB ⊢
  generalize w.heap.size = bx at HB hb ⊢
  refine wp_region_held_drew (S := fun V' => V'.cell? ⟨b, 4096, none⟩ = some (.int .i64 n) ∧ Wd V' bx 0 x) (by kernel_rfl) ⟨HS.out.drew.sz.1, HB.out.drew⟩ (fun hHeld => ?_)
  have HZ : Hid (Stk v.drew b 0 4096 f n) := HS.out.drew
  have HY : Hid (Only b w v.drew) := HO.out.drew
  replace HB : Hid (Wd v.drew bx 0 x) := HB.out.drew
  have hbx : bx ≠ b := by omega
  generalize v.drew = z0 at hHeld HZ HY HB ⊢
  clear HS HO
  refine wpAnyH_take (i := 0) (v := .pointer (some ⟨b, 0, none⟩)) ov0 (by kernel_rfl) (by kernel_rfl) (by kernel_rfl) (fun _ _ _ h => h) (Or.inl ⟨by rfl, fun V' hS => ?_⟩) hHeld ?_
  · go_simp
  simp only [Act.put, List.setIfInBounds_toArray, List.set_cons_zero, List.set_cons_succ]
  refine wpAnyH_take (i := 1) (v := .pointer (some ⟨b, 0, none⟩)) ov1 (by kernel_rfl) (by kernel_rfl) (by kernel_rfl) (fun _ _ _ h => h) (Or.inl ⟨by rfl, fun V' hS => ?_⟩) hHeld ?_
  · go_simp
  simp only [Act.put, List.setIfInBounds_toArray, List.set_cons_zero, List.set_cons_succ]
  refine wpAnyH_take (i := 2) (v := .pointer (some ⟨b, 0, none⟩)) ov2 (by kernel_rfl) (by kernel_rfl) (by kernel_rfl) (fun _ _ _ h => h) (Or.inl ⟨by rfl, fun V' hS => ?_⟩) hHeld ?_
  · go_simp
  simp only [Act.put, List.setIfInBounds_toArray, List.set_cons_zero, List.set_cons_succ]
  refine wpAnyH_take (i := 3) (v := .pointer (some ⟨b, 4096, none⟩)) ov3 (by kernel_rfl) (by kernel_rfl) (by kernel_rfl) (fun _ _ _ h => h) (Or.inl ⟨by rfl, fun V' hS => ?_⟩) hHeld ?_
  · go_simp
  simp only [Act.put, List.setIfInBounds_toArray, List.set_cons_zero, List.set_cons_succ]
  refine wpAnyH_take (i := 4) (v := .int .i64 n) ov4 (by kernel_rfl) (by kernel_rfl) (by kernel_rfl) (fun _ _ _ h => h) (Or.inl ⟨by rfl, fun V' hS => ?_⟩) hHeld ?_
  · have hh := hS.1
    go_simp
  simp only [Act.put, List.setIfInBounds_toArray, List.set_cons_zero, List.set_cons_succ]
  refine wpAnyH_take (i := 5) (v := .int .i64 (p : Int)) ov5 (by kernel_rfl) (by kernel_rfl) (by kernel_rfl) (fun _ _ _ h => h) (Or.inl ⟨by rfl, fun V' hS => ?_⟩) hHeld ?_
  · go_simp
  simp only [Act.put, List.setIfInBounds_toArray, List.set_cons_zero, List.set_cons_succ]
  refine wpAnyH_take (i := 6) (v := .agg #[.int .u64 x.a, .int .u64 x.b, .int .u64 x.c, .int .u64 x.d]) ov6 (by kernel_rfl) (by kernel_rfl) (by kernel_rfl) (fun _ _ _ h => h) (Or.inl ⟨by rfl, fun V' hS => ?_⟩) hHeld ?_
  · obtain ⟨c0, c1, c2, c3, _⟩ := hS.2
    go_simp
  simp only [Act.put, List.setIfInBounds_toArray, List.set_cons_zero, List.set_cons_succ]
  refine wpAnyH_take (i := 7) (v := .pointer (some ⟨b, 0, none⟩)) ov7 (by kernel_rfl) (by kernel_rfl) (by kernel_rfl) (fun _ _ _ h => h) (Or.inl ⟨by rfl, fun V' hS => ?_⟩) hHeld ?_
  · go_simp
  simp only [Act.put, List.setIfInBounds_toArray, List.set_cons_zero, List.set_cons_succ]
  refine wpAnyH_take (i := 8) (v := .pointer (some ⟨b, 0, none⟩)) ov8 (by kernel_rfl) (by kernel_rfl) (by kernel_rfl) (fun _ _ _ h => h) (Or.inl ⟨by rfl, fun V' hS => ?_⟩) hHeld ?_
  · go_simp
  simp only [Act.put, List.setIfInBounds_toArray, List.set_cons_zero, List.set_cons_succ]
  refine wpAnyH_take (i := 9) (v := .pointer (some ⟨b, p * 4, none⟩)) ov9 (by kernel_rfl) (by kernel_rfl) (by kernel_rfl) (fun _ _ _ h => h) (Or.inl ⟨by rfl, fun V' hS => ?_⟩) hHeld ?_
  · go_simp
  simp only [Act.put, List.setIfInBounds_toArray, List.set_cons_zero, List.set_cons_succ]
  refine wpAnyH_ready (rs := [10]) (by kernel_rfl) (by simp) ?_
  refine AllReadyH.cons ov10 (fun K hK => ?_) AllReadyH.nil
  rw [if_pos (by rfl)]
  obtain ⟨c0, c1, c2, c3, g0, g1, g2, g3⟩ := Wd.of0 HZ.out p hp
  go_simp
  have HP : Hid (Stk (put4 z0 b (p * 4) x) b 0 4096 (rput f p x) n ∧ Only b w (put4 z0 b (p * 4) x)) := ⟨by have h1 := HZ.out.put p hp x; rw [Nat.zero_add] at h1; exact h1, only_put4 HY.out _ _⟩
  refine hK.out _ _ ⟨HP.out.1.sz.1, HB.out.only (only_put4 (Only.refl b z0) _ _) hbx⟩ (fun _ => ?_)
  clear hK K
  (try simp only [Act.put, List.setIfInBounds_toArray, List.set_cons_zero, List.set_cons_succ])
  refine wpAnyH_done (by kernel_rfl) ?_ _
  obtain ⟨h1, h2⟩ := HP.out
  have cz := h1.sz.1
  have fz := h1.sz.2
  have HE : Hid _ := And.intro (h1.num (wrap64 (n + 1))) (h2.set 4096 (.int .i64 (wrap64 (n + 1))))
  clear HP h1 h2 HZ HY HB hHeld
  show Exit.then _ _ _ _ (put4 z0 b (p * 4) x)
  generalize put4 z0 b (p * 4) x = y at HE cz fz ⊢
  go_wp2
  go_end0
  exact ⟨rfl, HE.out⟩
set_option maxHeartbeats 1000000 in
set_option maxRecDepth 100000 in
theorem take_is (w : World) (b : Nat) (f : Ring) (n : Int) (h : Stk w b 0 4096 f n) : Calls Try.prog 38 #[.pointer (some ⟨b, 0, none⟩)] w fun e w' => e = .returned (f (pl (n - 1))).v ∧ Stk w' b 0 4096 f (wrap64 (n - 1)) ∧ Only b w w' := by
  have e1 : bits .and .i64 (wrap64 (n - 1)) 1023 = (pl (n - 1) : Int) := by rw [i64_and1023, pl_eq, wrap64]; omega
  have hp := pl_lt (n - 1)
  have hb := h.lt
  have PLC : Hid (∀ W : World, True) := fun _ => trivial
  have cz := h.sz.1
  have fz := h.sz.2
  obtain ⟨ob, eo⟩ : ∃ ob, ob = Obj.cells #[.int .u64 0, .int .u64 0, .int .u64 0, .int .u64 0] 30 := ⟨_, rfl⟩
  obtain ⟨m, em⟩ : ∃ m, m = wrap64 (n - 1) := ⟨_, rfl⟩
  rw [← em] at e1
  (try rw [← em] at PLC)
  rw [← em]
  have HS : Hid (Stk ((w.setCell ⟨b, 4096, none⟩ (.int .i64 m)).alloc ob) b 0 4096 f m) := (h.num m).alloc ob
  have HO : Hid (Only b w ((w.setCell ⟨b, 4096, none⟩ (.int .i64 m)).alloc ob)) := ((Only.refl b w).set _ _).alloc ob
  have HB : Hid (Wd ((w.setCell ⟨b, 4096, none⟩ (.int .i64 m)).alloc ob) w.heap.size 0 w0) := by
    have h1 := Wd.new (w.setCell ⟨b, 4096, none⟩ (.int .i64 m)) 30 w0
    rw [World.size_setCell] at h1
    rw [eo]; exact h1
  have hsz : w.heap.size ≤ w.heap.size := Nat.le_refl _
  generalize pl (n - 1) = p at *
  have hpI : (p : Int) < 1024 := by omega
  clear h
  go_enter Try.func38, Try.ntmps38
  go_upto_region 2 with fail
  rw [← eo, ← em]
  clear eo cz fz em
  generalize (w.setCell ⟨b, 4096, none⟩ (.int .i64 m)).alloc ob = v at HS HO HB ⊢
  generalize hbx0 : w.heap.size = bx at HB hb ⊢
  replace hbx0 : Hid (w.heap.size = bx) := hbx0
  refine wp_region_held_drew (S := fun V' => Stk V' b 0 4096 f m) (by kernel_rfl) HS.out.drew (fun hHeld => ?_)
  have HY : Hid (Only b w v.drew) := HO.out.drew
  replace HB : Hid (Wd v.drew bx 0 w0) := HB.out.drew
  have hbx : b ≠ bx := by omega
  generalize v.drew = z0 at hHeld HY HB ⊢
  clear HS HO
  refine wpAnyH_take (i := 0) (v := .pointer (some ⟨b, 0, none⟩)) ov0 (by kernel_rfl) (by kernel_rfl) (by kernel_rfl) (fun _ _ _ h => h) (Or.inl ⟨by rfl, fun V' hS => ?_⟩) hHeld ?_
  · go_simp
  simp only [Act.put, List.setIfInBounds_toArray, List.set_cons_zero, List.set_cons_succ]
  refine wpAnyH_take (i := 1) (v := .pointer (some ⟨b, 0, none⟩)) ov1 (by kernel_rfl) (by kernel_rfl) (by kernel_rfl) (fun _ _ _ h => h) (Or.inl ⟨by rfl, fun V' hS => ?_⟩) hHeld ?_
  · go_simp
  simp only [Act.put, List.setIfInBounds_toArray, List.set_cons_zero, List.set_cons_succ]
  refine wpAnyH_take (i := 2) (v := .pointer (some ⟨b, 0, none⟩)) ov2 (by kernel_rfl) (by kernel_rfl) (by kernel_rfl) (fun _ _ _ h => h) (Or.inl ⟨by rfl, fun V' hS => ?_⟩) hHeld ?_
  · go_simp
  simp only [Act.put, List.setIfInBounds_toArray, List.set_cons_zero, List.set_cons_succ]
  refine wpAnyH_take (i := 3) (v := .pointer (some ⟨b, 4096, none⟩)) ov3 (by kernel_rfl) (by kernel_rfl) (by kernel_rfl) (fun _ _ _ h => h) (Or.inl ⟨by rfl, fun V' hS => ?_⟩) hHeld ?_
  · go_simp
  simp only [Act.put, List.setIfInBounds_toArray, List.set_cons_zero, List.set_cons_succ]
  refine wpAnyH_take (i := 4) (v := .int .i64 m) ov4 (by kernel_rfl) (by kernel_rfl) (by kernel_rfl) (fun _ _ _ h => h) (Or.inl ⟨by rfl, fun V' hS => ?_⟩) hHeld ?_
  · have hh := hS.sz.1
    go_simp
  simp only [Act.put, List.setIfInBounds_toArray, List.set_cons_zero, List.set_cons_succ]
  refine wpAnyH_take (i := 5) (v := .int .i64 (p : Int)) ov5 (by kernel_rfl) (by kernel_rfl) (by kernel_rfl) (fun _ _ _ h => h) (Or.inl ⟨by rfl, fun V' hS => ?_⟩) hHeld ?_
  · go_simp
  simp only [Act.put, List.setIfInBounds_toArray, List.set_cons_zero, List.set_cons_succ]
  refine wpAnyH_take (i := 6) (v := .pointer (some ⟨b, 0, none⟩)) ov6 (by kernel_rfl) (by kernel_rfl) (by kernel_rfl) (fun _ _ _ h => h) (Or.inl ⟨by rfl, fun V' hS => ?_⟩) hHeld ?_
  · go_simp
  simp only [Act.put, List.setIfInBounds_toArray, List.set_cons_zero, List.set_cons_succ]
  refine wpAnyH_take (i := 7) (v := .pointer (some ⟨b, 0, none⟩)) ov7 (by kernel_rfl) (by kernel_rfl) (by kernel_rfl) (fun _ _ _ h => h) (Or.inl ⟨by rfl, fun V' hS => ?_⟩) hHeld ?_
  · go_simp
  simp only [Act.put, List.setIfInBounds_toArray, List.set_cons_zero, List.set_cons_succ]
  refine wpAnyH_take (i := 8) (v := .pointer (some ⟨b, p * 4, none⟩)) ov8 (by kernel_rfl) (by kernel_rfl) (by kernel_rfl) (fun _ _ _ h => h) (Or.inl ⟨by rfl, fun V' hS => ?_⟩) hHeld ?_
  · go_simp
  simp only [Act.put, List.setIfInBounds_toArray, List.set_cons_zero, List.set_cons_succ]
  refine wpAnyH_take (i := 9) (v := .agg #[.int .u64 (f p).a, .int .u64 (f p).b, .int .u64 (f p).c, .int .u64 (f p).d]) ov9 (by kernel_rfl) (by kernel_rfl) (by kernel_rfl) (fun _ _ _ h => h) (Or.inl ⟨by rfl, fun V' hS => ?_⟩) hHeld ?_
  · obtain ⟨c0, c1, c2, c3, _⟩ := Wd.of0 hS p hp
    go_simp
  simp only [Act.put, List.setIfInBounds_toArray, List.set_cons_zero, List.set_cons_succ]
  refine wpAnyH_ready (rs := [10]) (by kernel_rfl) (by simp) ?_
  refine AllReadyH.cons ov10 (fun K hK => ?_) AllReadyH.nil
  rw [if_pos (by rfl)]
  obtain ⟨c0, c1, c2, c3, g0, g1, g2, g3⟩ := HB.out
  go_simp
  have HP : Hid (Wd (put4 z0 bx 0 (f p)) bx 0 (f p) ∧ Stk (put4 z0 bx 0 (f p)) b 0 4096 f m ∧ Only b w (put4 z0 bx 0 (f p))) := ⟨HB.out.put _, hHeld.putS bx hbx _ _, only_new HY.out (by rw [hbx0.out]; exact Nat.le_refl _) _ _⟩
  refine hK.out _ _ HP.out.2.1 (fun _ => ?_)
  clear hK K
  (try simp only [Act.put, List.setIfInBounds_toArray, List.set_cons_zero, List.set_cons_succ])
  refine wpAnyH_done (by kernel_rfl) ?_ _
  show Exit.then _ _ _ _ (put4 z0 bx 0 (f p))
  clear HY HB hHeld
  generalize put4 z0 bx 0 (f p) = y at HP ⊢
  go_wp2
  refine bodyPost_ret (v := (f p).v) ?_ rfl ⟨rfl, HP.out.2⟩
  exact results_c Try.results38 _ _ _ ⟨bx, 0, none⟩ rfl (loadWd HP.out.1)
set_option maxHeartbeats 1000000 in
set_option maxRecDepth 100000 in
theorem peek_is (w : World) (b : Nat) (f : Ring) (n k : Int) (h : Stk w b 0 4096 f n) : Calls Try.prog 39 #[.pointer (some ⟨b, 0, none⟩), .int .i64 k] w fun e w' => e = .returned (f (pl (n - k))).v ∧ Below w.heap.size w w' := by
  have hp := pl_lt (n - k)
  have hb := h.lt
  have PLC : Hid (∀ W : World, Stk W b 0 4096 f n → Calls Try.prog 53 #[.pointer (some ⟨b, 0, none⟩), .int .i64 k] W fun e w' => e = .returned (.int .i64 (pl (n - k) : Int)) ∧ w' = W) := fun W hW => place_is W b f n k hW
  have PLD : Hid (∀ W : World, True) := fun _ => trivial
  obtain ⟨ob, eo⟩ : ∃ ob, ob = Obj.cells #[.int .u64 0, .int .u64 0, .int .u64 0, .int .u64 0] 30 := ⟨_, rfl⟩
  have HS : Hid (Stk (w.alloc ob) b 0 4096 f n) := h.alloc ob
  have HO : Hid (Below w.heap.size w (w.alloc ob)) := (Below.refl _ _).alloc (Nat.le_refl _) ob
  have HB : Hid (Wd (w.alloc ob) w.heap.size 0 w0) := by rw [eo]; exact Wd.new w 30 w0
  generalize pl (n - k) = p at *
  have hpI : (p : Int) < 1024 := by omega
  clear h
  go_enter Try.func39, Try.ntmps39
  go_upto_region 1 with fail
  rw [← eo]
  clear eo
  generalize w.alloc ob = v at HS HO HB ⊢
  generalize hbx0 : w.heap.size = bx at HB HO hb ⊢
  refine wp_region_held_drew (S := fun V' => Stk V' b 0 4096 f n) (by kernel_rfl) HS.out.drew (fun hHeld => ?_)
  have HY : Hid (Below bx w v.drew) := HO.out.drew
  replace HB : Hid (Wd v.drew bx 0 w0) := HB.out.drew
  have hbx : b ≠ bx := by omega
  generalize v.drew = z0 at hHeld HY HB ⊢
  clear HS HO
  refine wpAnyH_take (i := 0) (v := .pointer (some ⟨b, 0, none⟩)) ov0 (by kernel_rfl) (by kernel_rfl) (by kernel_rfl) (fun _ _ _ h => h) (Or.inl ⟨by rfl, fun V' hS => ?_⟩) hHeld ?_
  · go_simp
  simp only [Act.put, List.setIfInBounds_toArray, List.set_cons_zero, List.set_cons_succ]
  refine wpAnyH_take (i := 1) (v := .pointer (some ⟨b, 0, none⟩)) ov1 (by kernel_rfl) (by kernel_rfl) (by kernel_rfl) (fun _ _ _ h => h) (Or.inl ⟨by rfl, fun V' hS => ?_⟩) hHeld ?_
  · go_simp
  simp only [Act.put, List.setIfInBounds_toArray, List.set_cons_zero, List.set_cons_succ]
  refine wpAnyH_take (i := 2) (v := .int .i64 k) ov2 (by kernel_rfl) (by kernel_rfl) (by kernel_rfl) (fun _ _ _ h => h) (Or.inl ⟨by rfl, fun V' hS => ?_⟩) hHeld ?_
  · go_simp
  simp only [Act.put, List.setIfInBounds_toArray, List.set_cons_zero, List.set_cons_succ]
  refine wpAnyH_take (i := 4) (v := .pointer (some ⟨b, 0, none⟩)) ov4 (by kernel_rfl) (by kernel_rfl) (by kernel_rfl) (fun _ _ _ h => h) (Or.inl ⟨by rfl, fun V' hS => ?_⟩) hHeld ?_
  · go_simp
  simp only [Act.put, List.setIfInBounds_toArray, List.set_cons_zero, List.set_cons_succ]
  refine wpAnyH_take (i := 5) (v := .pointer (some ⟨b, 0, none⟩)) ov5 (by kernel_rfl) (by kernel_rfl) (by kernel_rfl) (fun _ _ _ h => h) (Or.inl ⟨by rfl, fun V' hS => ?_⟩) hHeld ?_
  · go_simp
  simp only [Act.put, List.setIfInBounds_toArray, List.set_cons_zero, List.set_cons_succ]
  refine wpAnyH_ready (rs := [3]) (by kernel_rfl) (by simp) ?_
  refine AllReadyH.cons ov3 (fun K hK => ?_) AllReadyH.nil
  rw [if_pos (by rfl)]
  go_simp
  refine (PLC.out z0 hHeld).mono ?_
  rintro e w' ⟨rfl, hw⟩
  have hw2 := hw.symm
  clear hw
  subst hw2
  (try go_wp2_with fail)
  refine hK.out _ _ hHeld (fun _ => ?_)
  clear hK K
  (try simp only [Act.put, List.setIfInBounds_toArray, List.set_cons_zero, List.set_cons_succ])
  refine wpAnyH_take (i := 6) (v := .pointer (some ⟨b, p * 4, none⟩)) ov6 (by kernel_rfl) (by kernel_rfl) (by kernel_rfl) (fun _ _ _ h => h) (Or.inl ⟨by rfl, fun V' hS => ?_⟩) hHeld ?_
  · go_simp
  simp only [Act.put, List.setIfInBounds_toArray, List.set_cons_zero, List.set_cons_succ]
  refine wpAnyH_take (i := 7) (v := .agg #[.int .u64 (f p).a, .int .u64 (f p).b, .int .u64 (f p).c, .int .u64 (f p).d]) ov7 (by kernel_rfl) (by kernel_rfl) (by kernel_rfl) (fun _ _ _ h => h) (Or.inl ⟨by rfl, fun V' hS => ?_⟩) hHeld ?_
  · obtain ⟨c0, c1, c2, c3, _⟩ := Wd.of0 hS p hp
    go_simp
  simp only [Act.put, List.setIfInBounds_toArray, List.set_cons_zero, List.set_cons_succ]
  refine wpAnyH_ready (rs := [8]) (by kernel_rfl) (by simp) ?_
  refine AllReadyH.cons ov8 (fun K hK => ?_) AllReadyH.nil
  rw [if_pos (by rfl)]
  obtain ⟨c0, c1, c2, c3, g0, g1, g2, g3⟩ := HB.out
  go_simp
  have HP : Hid (Wd (put4 z0 bx 0 (f p)) bx 0 (f p) ∧ Stk (put4 z0 bx 0 (f p)) b 0 4096 f n ∧ Below bx w (put4 z0 bx 0 (f p))) := ⟨HB.out.put _, hHeld.putS bx hbx _ _, (only_put4 (Only.refl bx z0) 0 (f p)).below (Nat.le_refl _) (by have := HB.out.lt; omega) |> fun q => HY.out.trans q⟩
  refine hK.out _ _ HP.out.2.1 (fun _ => ?_)
  clear hK K
  (try simp only [Act.put, List.setIfInBounds_toArray, List.set_cons_zero, List.set_cons_succ])
  refine wpAnyH_done (by kernel_rfl) ?_ _
  show Exit.then _ _ _ _ (put4 z0 bx 0 (f p))
  clear HY HB hHeld
  generalize put4 z0 bx 0 (f p) = y at HP ⊢
  go_wp2
  refine bodyPost_ret (v := (f p).v) ?_ rfl ⟨rfl, by rw [hbx0]; exact HP.out.2.2⟩
  exact results_c Try.results39 _ _ _ ⟨bx, 0, none⟩ rfl (loadWd HP.out.1)
end Go.Proofs.Ytdddmebihkdkjaa
