/- Stacks of both kinds: Again and Turn. -/
import Derived.Test.YtdddmebihkdkjaaQd
namespace Go.Proofs.Ytdddmebihkdkjaa
open Go.RowKit
theorem lenR_is (w : World) (b : Nat) (f : Ring) (n : Int) (h : Stk w b 1 0 f n) : Calls Try.prog 49 #[.pointer (some ⟨b, 0, none⟩)] w fun e w' => e = .returned (.int .i64 n) ∧ w' = w := by
  have cz := h.sz.1
  go_enter Try.func49, Try.ntmps49
  go_wp2
  go_ret
  exact ⟨rfl, rfl⟩
theorem only_past {b : Nat} {u v w : World} (h : Below u.heap.size u v) (k : Only b v w) : Only b u w := (below_only h b).trans k
set_option maxHeartbeats 1000000 in
set_option maxRecDepth 100000 in
theorem again_is (w : World) (b : Nat) (f : Ring) (n k : Int) (h : Stk w b 0 4096 f n) : Calls Try.prog 40 #[.pointer (some ⟨b, 0, none⟩), .int .i64 k] w fun e w' => e = .returned (.tuple #[]) ∧ Stk w' b 0 4096 (rput f (pl n) (f (pl (n - k)))) (wrap64 (n + 1)) ∧ Only b w w' := by
  have PKK : Hid (Calls Try.prog 39 #[.pointer (some ⟨b, 0, none⟩), .int .i64 k] w fun e w' => e = .returned (f (pl (n - k))).v ∧ Below w.heap.size w w') := peek_is w b f n k h
  have PTT : Hid (∀ W, Stk W b 0 4096 f n → Calls Try.prog 37 #[.pointer (some ⟨b, 0, none⟩), (f (pl (n - k))).v] W fun e w' => e = .returned (.tuple #[]) ∧ Stk w' b 0 4096 (rput f (pl n) (f (pl (n - k)))) (wrap64 (n + 1)) ∧ Only b W w') := fun W hW => put_is W b f n hW (f (pl (n - k)))
  have HS : Hid (Stk w b 0 4096 f n) := h
  generalize f (pl (n - k)) = x at *
  clear h
  go_enter Try.func40, Try.ntmps40
  go_wp2_with (first | (go_at_call 39; refine (PKK.out).mono ?_; rintro e v ⟨rfl, hB⟩; (have HB : Hid (Below w.heap.size w v) := hB); clear hB PKK) | (go_at_call 37; refine (PTT.out _ (HS.out.past HB.out)).mono ?_; rintro e v2 ⟨rfl, h1, h2⟩; (have HE : Hid (Stk v2 b 0 4096 (rput f (pl n) x) (wrap64 (n + 1)) ∧ Only b w v2) := ⟨h1, only_past HB.out h2⟩); clear h1 h2 PTT))
  go_end0
  exact ⟨rfl, HE.out⟩
set_option maxHeartbeats 1000000 in
set_option maxRecDepth 100000 in
theorem againR_is (w : World) (b : Nat) (f : Ring) (n k : Int) (h : Stk w b 1 0 f n) : Calls Try.prog 57 #[.pointer (some ⟨b, 0, none⟩), .int .i64 k] w fun e w' => e = .returned (.tuple #[]) ∧ Stk w' b 1 0 (rput f (pl n) (f (pl (n - k)))) (wrap64 (n + 1)) ∧ Only b w w' := by
  have PKK : Hid (Calls Try.prog 56 #[.pointer (some ⟨b, 0, none⟩), .int .i64 k] w fun e w' => e = .returned (f (pl (n - k))).v ∧ Below w.heap.size w w') := peekR_is w b f n k h
  have PTT : Hid (∀ W, Stk W b 1 0 f n → Calls Try.prog 54 #[.pointer (some ⟨b, 0, none⟩), (f (pl (n - k))).v] W fun e w' => e = .returned (.tuple #[]) ∧ Stk w' b 1 0 (rput f (pl n) (f (pl (n - k)))) (wrap64 (n + 1)) ∧ Only b W w') := fun W hW => putR_is W b f n hW (f (pl (n - k)))
  have HS : Hid (Stk w b 1 0 f n) := h
  generalize f (pl (n - k)) = x at *
  clear h
  go_enter Try.func57, Try.ntmps57
  go_upto_region 1 with (go_at_call 56; refine (PKK.out).mono ?_; rintro e v ⟨rfl, hB⟩; (have HB : Hid (Below w.heap.size w v) := hB); clear hB PKK; unfold W4.v)
  have HW := Wd.new v 30 x
  have HX : Hid (Stk (v.alloc (.cells #[.int .u64 x.a, .int .u64 x.b, .int .u64 x.c, .int .u64 x.d] 30)) b 1 0 f n) := (HS.out.past HB.out).alloc _
  have HY : Hid (Below w.heap.size w (v.alloc (.cells #[.int .u64 x.a, .int .u64 x.b, .int .u64 x.c, .int .u64 x.d] 30))) := HB.out.alloc HB.out.size _
  generalize v.alloc (.cells #[.int .u64 x.a, .int .u64 x.b, .int .u64 x.c, .int .u64 x.d] 30) = v3 at *
  generalize v.heap.size = bx at *
  obtain ⟨c0, c1, c2, c3, _⟩ := HW
  go_wp2_with (go_at_call 54; refine (PTT.out _ HX.out).mono ?_; rintro e v2 ⟨rfl, h1, h2⟩; (have HE : Hid (Stk v2 b 1 0 (rput f (pl n) x) (wrap64 (n + 1)) ∧ Only b w v2) := ⟨h1, only_past HY.out h2⟩); clear h1 h2 PTT)
  go_end0
  exact ⟨rfl, HE.out⟩
set_option maxHeartbeats 1000000 in
set_option maxRecDepth 100000 in
theorem turn_is (w : World) (b : Nat) (f : Ring) (n k m : Int) (h : Stk w b 0 4096 f n) : Calls Try.prog 34 #[.pointer (some ⟨b, 0, none⟩), .int .i64 k, .int .i64 m] w fun e w' => e = .returned (.tuple #[]) ∧ Stk w' b 0 4096 (rput (rput f (pl (n - k)) (f (pl (n - m)))) (pl (n - m)) (f (pl (n - k)))) n ∧ Only b w w' := by
  have hp := pl_lt (n - k)
  have hq := pl_lt (n - m)
  have P1 : Hid (Calls Try.prog 53 #[.pointer (some ⟨b, 0, none⟩), .int .i64 k] w fun e w' => e = .returned (.int .i64 (pl (n - k) : Int)) ∧ w' = w) := place_is w b f n k h
  have P2 : Hid (Calls Try.prog 53 #[.pointer (some ⟨b, 0, none⟩), .int .i64 m] w fun e w' => e = .returned (.int .i64 (pl (n - m) : Int)) ∧ w' = w) := place_is w b f n m h
  have HS : Hid (Stk w b 0 4096 f n) := h
  generalize pl (n - k) = p at *
  generalize pl (n - m) = q at *
  have hpI : (p : Int) < 1024 := by omega
  have hqI : (q : Int) < 1024 := by omega
  clear h
  go_enter Try.func34, Try.ntmps34
  go_upto_region 1 with (first | (go_at_call 53; refine (P1.out).mono ?_; rintro e w' ⟨rfl, hw⟩; (have hw2 := hw.symm); clear hw P1; subst hw2) | (go_at_call 53; refine (P2.out).mono ?_; rintro e w' ⟨rfl, hw⟩; (have hw2 := hw.symm); clear hw P2; subst hw2))
  have HY : Hid (Only b w w.drew) := (Only.refl b w).drew
  have HZ : Hid (Stk w.drew b 0 4096 f n) := HS.out.drew
  refine wp_region_held_drew (S := fun V' => True) (by kernel_rfl) trivial (fun hHeld => ?_)
  generalize w.drew = z0 at HY HZ ⊢
  refine wpAnyH_take (i := 0) (v := .pointer (some ⟨b, 0, none⟩)) ov0 (by kernel_rfl) (by kernel_rfl) (by kernel_rfl) (fun _ _ _ h => h) (Or.inl ⟨by rfl, fun V' hS => ?_⟩) hHeld ?_
  · go_simp
  simp only [Act.put, List.setIfInBounds_toArray, List.set_cons_zero, List.set_cons_succ]
  refine wpAnyH_take (i := 1) (v := .int .i64 (p : Int)) ov1 (by kernel_rfl) (by kernel_rfl) (by kernel_rfl) (fun _ _ _ h => h) (Or.inl ⟨by rfl, fun V' hS => ?_⟩) hHeld ?_
  · go_simp
  simp only [Act.put, List.setIfInBounds_toArray, List.set_cons_zero, List.set_cons_succ]
  refine wpAnyH_take (i := 2) (v := .pointer (some ⟨b, 0, none⟩)) ov2 (by kernel_rfl) (by kernel_rfl) (by kernel_rfl) (fun _ _ _ h => h) (Or.inl ⟨by rfl, fun V' hS => ?_⟩) hHeld ?_
  · go_simp
  simp only [Act.put, List.setIfInBounds_toArray, List.set_cons_zero, List.set_cons_succ]
  refine wpAnyH_take (i := 3) (v := .int .i64 (q : Int)) ov3 (by kernel_rfl) (by kernel_rfl) (by kernel_rfl) (fun _ _ _ h => h) (Or.inl ⟨by rfl, fun V' hS => ?_⟩) hHeld ?_
  · go_simp
  simp only [Act.put, List.setIfInBounds_toArray, List.set_cons_zero, List.set_cons_succ]
  refine wpAnyH_take (i := 4) (v := .pointer (some ⟨b, 0, none⟩)) ov4 (by kernel_rfl) (by kernel_rfl) (by kernel_rfl) (fun _ _ _ h => h) (Or.inl ⟨by rfl, fun V' hS => ?_⟩) hHeld ?_
  · go_simp
  simp only [Act.put, List.setIfInBounds_toArray, List.set_cons_zero, List.set_cons_succ]
  refine wpAnyH_take (i := 5) (v := .int .i64 (q : Int)) ov5 (by kernel_rfl) (by kernel_rfl) (by kernel_rfl) (fun _ _ _ h => h) (Or.inl ⟨by rfl, fun V' hS => ?_⟩) hHeld ?_
  · go_simp
  simp only [Act.put, List.setIfInBounds_toArray, List.set_cons_zero, List.set_cons_succ]
  refine wpAnyH_take (i := 6) (v := .pointer (some ⟨b, 0, none⟩)) ov6 (by kernel_rfl) (by kernel_rfl) (by kernel_rfl) (fun _ _ _ h => h) (Or.inl ⟨by rfl, fun V' hS => ?_⟩) hHeld ?_
  · go_simp
  simp only [Act.put, List.setIfInBounds_toArray, List.set_cons_zero, List.set_cons_succ]
  refine wpAnyH_take (i := 7) (v := .pointer (some ⟨b, 0, none⟩)) ov7 (by kernel_rfl) (by kernel_rfl) (by kernel_rfl) (fun _ _ _ h => h) (Or.inl ⟨by rfl, fun V' hS => ?_⟩) hHeld ?_
  · go_simp
  simp only [Act.put, List.setIfInBounds_toArray, List.set_cons_zero, List.set_cons_succ]
  refine wpAnyH_take (i := 8) (v := .pointer (some ⟨b, q * 4, none⟩)) ov8 (by kernel_rfl) (by kernel_rfl) (by kernel_rfl) (fun _ _ _ h => h) (Or.inl ⟨by rfl, fun V' hS => ?_⟩) hHeld ?_
  · go_simp
  simp only [Act.put, List.setIfInBounds_toArray, List.set_cons_zero, List.set_cons_succ]
  refine wpAnyH_take (i := 10) (v := .pointer (some ⟨b, 0, none⟩)) ov10 (by kernel_rfl) (by kernel_rfl) (by kernel_rfl) (fun _ _ _ h => h) (Or.inl ⟨by rfl, fun V' hS => ?_⟩) hHeld ?_
  · go_simp
  simp only [Act.put, List.setIfInBounds_toArray, List.set_cons_zero, List.set_cons_succ]
  refine wpAnyH_take (i := 11) (v := .int .i64 (p : Int)) ov11 (by kernel_rfl) (by kernel_rfl) (by kernel_rfl) (fun _ _ _ h => h) (Or.inl ⟨by rfl, fun V' hS => ?_⟩) hHeld ?_
  · go_simp
  simp only [Act.put, List.setIfInBounds_toArray, List.set_cons_zero, List.set_cons_succ]
  refine wpAnyH_take (i := 12) (v := .pointer (some ⟨b, 0, none⟩)) ov12 (by kernel_rfl) (by kernel_rfl) (by kernel_rfl) (fun _ _ _ h => h) (Or.inl ⟨by rfl, fun V' hS => ?_⟩) hHeld ?_
  · go_simp
  simp only [Act.put, List.setIfInBounds_toArray, List.set_cons_zero, List.set_cons_succ]
  refine wpAnyH_take (i := 13) (v := .pointer (some ⟨b, 0, none⟩)) ov13 (by kernel_rfl) (by kernel_rfl) (by kernel_rfl) (fun _ _ _ h => h) (Or.inl ⟨by rfl, fun V' hS => ?_⟩) hHeld ?_
  · go_simp
  simp only [Act.put, List.setIfInBounds_toArray, List.set_cons_zero, List.set_cons_succ]
  refine wpAnyH_take (i := 14) (v := .pointer (some ⟨b, p * 4, none⟩)) ov14 (by kernel_rfl) (by kernel_rfl) (by kernel_rfl) (fun _ _ _ h => h) (Or.inl ⟨by rfl, fun V' hS => ?_⟩) hHeld ?_
  · go_simp
  simp only [Act.put, List.setIfInBounds_toArray, List.set_cons_zero, List.set_cons_succ]
  refine wpAnyH_take (i := 16) (v := .pointer (some ⟨b, 0, none⟩)) ov16 (by kernel_rfl) (by kernel_rfl) (by kernel_rfl) (fun _ _ _ h => h) (Or.inl ⟨by rfl, fun V' hS => ?_⟩) hHeld ?_
  · go_simp
  simp only [Act.put, List.setIfInBounds_toArray, List.set_cons_zero, List.set_cons_succ]
  refine wpAnyH_take (i := 17) (v := .pointer (some ⟨b, 0, none⟩)) ov17 (by kernel_rfl) (by kernel_rfl) (by kernel_rfl) (fun _ _ _ h => h) (Or.inl ⟨by rfl, fun V' hS => ?_⟩) hHeld ?_
  · go_simp
  simp only [Act.put, List.setIfInBounds_toArray, List.set_cons_zero, List.set_cons_succ]
  refine wpAnyH_take (i := 20) (v := .pointer (some ⟨b, 0, none⟩)) ov20 (by kernel_rfl) (by kernel_rfl) (by kernel_rfl) (fun _ _ _ h => h) (Or.inl ⟨by rfl, fun V' hS => ?_⟩) hHeld ?_
  · go_simp
  simp only [Act.put, List.setIfInBounds_toArray, List.set_cons_zero, List.set_cons_succ]
  refine wpAnyH_take (i := 21) (v := .pointer (some ⟨b, 0, none⟩)) ov21 (by kernel_rfl) (by kernel_rfl) (by kernel_rfl) (fun _ _ _ h => h) (Or.inl ⟨by rfl, fun V' hS => ?_⟩) hHeld ?_
  · go_simp
  simp only [Act.put, List.setIfInBounds_toArray, List.set_cons_zero, List.set_cons_succ]
  refine wpAnyH_ready (rs := [9, 15]) (by kernel_rfl) (by simp) ?_
  refine AllReadyH.cons ov9 (fun K hK => ?_) (AllReadyH.cons ov15 (fun K hK => ?_) AllReadyH.nil)
  · rw [if_pos (by rfl)]
    obtain ⟨c0, c1, c2, c3, g0, g1, g2, g3⟩ := Wd.of0 HZ.out q hq
    go_simp
    clear c0 c1 c2 c3 g0 g1 g2 g3
    refine hK.out _ _ trivial (fun _ => ?_)
    clear hK K
    (try simp only [Act.put, List.setIfInBounds_toArray, List.set_cons_zero, List.set_cons_succ])
    refine wpAnyH_ready (rs := [15]) (by kernel_rfl) (by simp) ?_
    refine AllReadyH.cons ov15 (fun K hK => ?_) AllReadyH.nil
    rw [if_pos (by rfl)]
    obtain ⟨c0, c1, c2, c3, g0, g1, g2, g3⟩ := Wd.of0 HZ.out p hp
    go_simp
    clear c0 c1 c2 c3 g0 g1 g2 g3
    refine hK.out _ _ trivial (fun _ => ?_)
    clear hK K
    (try simp only [Act.put, List.setIfInBounds_toArray, List.set_cons_zero, List.set_cons_succ])
    refine wpAnyH_take (i := 18) (v := .pointer (some ⟨b, p * 4, none⟩)) ov18 (by kernel_rfl) (by kernel_rfl) (by kernel_rfl) (fun _ _ _ h => h) (Or.inl ⟨by rfl, fun V' hS => ?_⟩) hHeld ?_
    · go_simp
    simp only [Act.put, List.setIfInBounds_toArray, List.set_cons_zero, List.set_cons_succ]
    refine wpAnyH_ready (rs := [19]) (by kernel_rfl) (by simp) ?_
    refine AllReadyH.cons ov19 (fun K hK => ?_) AllReadyH.nil
    rw [if_pos (by rfl)]
    obtain ⟨c0, c1, c2, c3, g0, g1, g2, g3⟩ := Wd.of0 HZ.out p hp
    go_simp
    have HZ1 : Hid (Stk (put4 z0 b (p * 4) (f q)) b 0 4096 (rput f p (f q)) n) := by have h1 := HZ.out.put p hp (f q); rw [Nat.zero_add] at h1; exact h1
    have HY1 : Hid (Only b w (put4 z0 b (p * 4) (f q))) := only_put4 HY.out _ _
    clear c0 c1 c2 c3 g0 g1 g2 g3
    refine hK.out _ (put4 z0 b (p * 4) (f q)) trivial (fun _ => ?_)
    clear hK K
    (try simp only [Act.put, List.setIfInBounds_toArray, List.set_cons_zero, List.set_cons_succ])
    generalize put4 z0 b (p * 4) (f q) = z1 at HZ1 HY1 ⊢
    refine wpAnyH_take (i := 22) (v := .pointer (some ⟨b, q * 4, none⟩)) ov22 (by kernel_rfl) (by kernel_rfl) (by kernel_rfl) (fun _ _ _ h => h) (Or.inl ⟨by rfl, fun V' hS => ?_⟩) hHeld ?_
    · go_simp
    simp only [Act.put, List.setIfInBounds_toArray, List.set_cons_zero, List.set_cons_succ]
    refine wpAnyH_ready (rs := [23]) (by kernel_rfl) (by simp) ?_
    refine AllReadyH.cons ov23 (fun K hK => ?_) AllReadyH.nil
    rw [if_pos (by rfl)]
    obtain ⟨c0, c1, c2, c3, g0, g1, g2, g3⟩ := Wd.of0 HZ1.out q hq
    go_simp
    have HZ2 : Hid (Stk (put4 z1 b (q * 4) (f p)) b 0 4096 (rput (rput f p (f q)) q (f p)) n ∧ Only b w (put4 z1 b (q * 4) (f p))) := ⟨by have h1 := HZ1.out.put q hq (f p); rw [Nat.zero_add] at h1; exact h1, only_put4 HY1.out _ _⟩
    clear c0 c1 c2 c3 g0 g1 g2 g3
    refine hK.out _ (put4 z1 b (q * 4) (f p)) trivial (fun _ => ?_)
    clear hK K
    (try simp only [Act.put, List.setIfInBounds_toArray, List.set_cons_zero, List.set_cons_succ])
    generalize put4 z1 b (q * 4) (f p) = z2 at HZ2 ⊢
    refine wpAnyH_done (by kernel_rfl) ?_ _
    go_end0
    exact ⟨rfl, HZ2.out⟩
  · rw [if_pos (by rfl)]
    obtain ⟨c0, c1, c2, c3, g0, g1, g2, g3⟩ := Wd.of0 HZ.out p hp
    go_simp
    clear c0 c1 c2 c3 g0 g1 g2 g3
    refine hK.out _ _ trivial (fun _ => ?_)
    clear hK K
    (try simp only [Act.put, List.setIfInBounds_toArray, List.set_cons_zero, List.set_cons_succ])
    refine wpAnyH_ready (rs := [9]) (by kernel_rfl) (by simp) ?_
    refine AllReadyH.cons ov9 (fun K hK => ?_) AllReadyH.nil
    rw [if_pos (by rfl)]
    obtain ⟨c0, c1, c2, c3, g0, g1, g2, g3⟩ := Wd.of0 HZ.out q hq
    go_simp
    clear c0 c1 c2 c3 g0 g1 g2 g3
    refine hK.out _ _ trivial (fun _ => ?_)
    clear hK K
    (try simp only [Act.put, List.setIfInBounds_toArray, List.set_cons_zero, List.set_cons_succ])
    refine wpAnyH_take (i := 18) (v := .pointer (some ⟨b, p * 4, none⟩)) ov18 (by kernel_rfl) (by kernel_rfl) (by kernel_rfl) (fun _ _ _ h => h) (Or.inl ⟨by rfl, fun V' hS => ?_⟩) hHeld ?_
    · go_simp
    simp only [Act.put, List.setIfInBounds_toArray, List.set_cons_zero, List.set_cons_succ]
    refine wpAnyH_ready (rs := [19]) (by kernel_rfl) (by simp) ?_
    refine AllReadyH.cons ov19 (fun K hK => ?_) AllReadyH.nil
    rw [if_pos (by rfl)]
    obtain ⟨c0, c1, c2, c3, g0, g1, g2, g3⟩ := Wd.of0 HZ.out p hp
    go_simp
    have HZ1 : Hid (Stk (put4 z0 b (p * 4) (f q)) b 0 4096 (rput f p (f q)) n) := by have h1 := HZ.out.put p hp (f q); rw [Nat.zero_add] at h1; exact h1
    have HY1 : Hid (Only b w (put4 z0 b (p * 4) (f q))) := only_put4 HY.out _ _
    clear c0 c1 c2 c3 g0 g1 g2 g3
    refine hK.out _ (put4 z0 b (p * 4) (f q)) trivial (fun _ => ?_)
    clear hK K
    (try simp only [Act.put, List.setIfInBounds_toArray, List.set_cons_zero, List.set_cons_succ])
    generalize put4 z0 b (p * 4) (f q) = z1 at HZ1 HY1 ⊢
    refine wpAnyH_take (i := 22) (v := .pointer (some ⟨b, q * 4, none⟩)) ov22 (by kernel_rfl) (by kernel_rfl) (by kernel_rfl) (fun _ _ _ h => h) (Or.inl ⟨by rfl, fun V' hS => ?_⟩) hHeld ?_
    · go_simp
    simp only [Act.put, List.setIfInBounds_toArray, List.set_cons_zero, List.set_cons_succ]
    refine wpAnyH_ready (rs := [23]) (by kernel_rfl) (by simp) ?_
    refine AllReadyH.cons ov23 (fun K hK => ?_) AllReadyH.nil
    rw [if_pos (by rfl)]
    obtain ⟨c0, c1, c2, c3, g0, g1, g2, g3⟩ := Wd.of0 HZ1.out q hq
    go_simp
    have HZ2 : Hid (Stk (put4 z1 b (q * 4) (f p)) b 0 4096 (rput (rput f p (f q)) q (f p)) n ∧ Only b w (put4 z1 b (q * 4) (f p))) := ⟨by have h1 := HZ1.out.put q hq (f p); rw [Nat.zero_add] at h1; exact h1, only_put4 HY1.out _ _⟩
    clear c0 c1 c2 c3 g0 g1 g2 g3
    refine hK.out _ (put4 z1 b (q * 4) (f p)) trivial (fun _ => ?_)
    clear hK K
    (try simp only [Act.put, List.setIfInBounds_toArray, List.set_cons_zero, List.set_cons_succ])
    generalize put4 z1 b (q * 4) (f p) = z2 at HZ2 ⊢
    refine wpAnyH_done (by kernel_rfl) ?_ _
    go_end0
    exact ⟨rfl, HZ2.out⟩
set_option maxHeartbeats 1000000 in
set_option maxRecDepth 100000 in
theorem turnR_is (w : World) (b : Nat) (f : Ring) (n k m : Int) (h : Stk w b 1 0 f n) : Calls Try.prog 58 #[.pointer (some ⟨b, 0, none⟩), .int .i64 k, .int .i64 m] w fun e w' => e = .returned (.tuple #[]) ∧ Stk w' b 1 0 (rput (rput f (pl (n - k)) (f (pl (n - m)))) (pl (n - m)) (f (pl (n - k)))) n ∧ Only b w w' := by
  have hp := pl_lt (n - k)
  have hq := pl_lt (n - m)
  have P1 : Hid (∀ W, Stk W b 1 0 f n → Calls Try.prog 56 #[.pointer (some ⟨b, 0, none⟩), .int .i64 k] W fun e w' => e = .returned (f (pl (n - k))).v ∧ Below W.heap.size W w') := fun W hW => peekR_is W b f n k hW
  have P2 : Hid (∀ W, Stk W b 1 0 f n → Calls Try.prog 56 #[.pointer (some ⟨b, 0, none⟩), .int .i64 m] W fun e w' => e = .returned (f (pl (n - m))).v ∧ Below W.heap.size W w') := fun W hW => peekR_is W b f n m hW
  obtain ⟨d1, ed1⟩ : ∃ d : Int, d = (pl n : Int) - (pl k : Int) := ⟨_, rfl⟩
  obtain ⟨d2, ed2⟩ : ∃ d : Int, d = (pl n : Int) - (pl m : Int) := ⟨_, rfl⟩
  have N1 : Hid (∀ W f, Stk W b 1 0 f n → Calls Try.prog 59 #[.pointer (some ⟨b, 0, none⟩), .int .i64 k] W fun e w' => e = .returned (.int .i64 d1) ∧ w' = W) := fun W f hW => by rw [ed1]; exact numberR_is W b f n k hW
  have N2 : Hid (∀ W f, Stk W b 1 0 f n → Calls Try.prog 59 #[.pointer (some ⟨b, 0, none⟩), .int .i64 m] W fun e w' => e = .returned (.int .i64 d2) ∧ w' = W) := fun W f hW => by rw [ed2]; exact numberR_is W b f n m hW
  have D1 : Hid (∀ W, Calls Try.prog 51 #[.int .i64 d1, .int .i64 1024] W fun e w' => e = .returned (.int .i64 (pl (n - k) : Int)) ∧ w' = W) := fun W => by have := placeR_is W d1; rwa [ed1, pl_diff, ← ed1] at this
  have D2 : Hid (∀ W, Calls Try.prog 51 #[.int .i64 d2, .int .i64 1024] W fun e w' => e = .returned (.int .i64 (pl (n - m) : Int)) ∧ w' = W) := fun W => by have := placeR_is W d2; rwa [ed2, pl_diff, ← ed2] at this
  have HS : Hid (Stk w b 1 0 f n) := h
  have hb := h.lt
  generalize pl (n - k) = p at *
  generalize pl (n - m) = q at *
  have hpI : (p : Int) < 1024 := by omega
  have hqI : (q : Int) < 1024 := by omega
  clear h ed1 ed2
  go_enter Try.func58, Try.ntmps58
  go_upto_region 1 with (go_at_call 56; refine (P1.out _ HS.out).mono ?_; rintro e v ⟨rfl, hB⟩; (have HB : Hid (Below w.heap.size w v) := hB); clear hB P1; unfold W4.v)
  have HW : Hid (Wd (v.alloc (.cells #[.int .u64 (f p).a, .int .u64 (f p).b, .int .u64 (f p).c, .int .u64 (f p).d] 30)) v.heap.size 0 (f p)) := Wd.new v 30 (f p)
  have HX : Hid (Stk (v.alloc (.cells #[.int .u64 (f p).a, .int .u64 (f p).b, .int .u64 (f p).c, .int .u64 (f p).d] 30)) b 1 0 f n) := (HS.out.past HB.out).alloc _
  have HO : Hid (Only b w (v.alloc (.cells #[.int .u64 (f p).a, .int .u64 (f p).b, .int .u64 (f p).c, .int .u64 (f p).d] 30))) := below_only (HB.out.alloc HB.out.size _) b
  have hbx : v.heap.size ≠ b := by have := HB.out.size; omega
  generalize v.alloc (.cells #[.int .u64 (f p).a, .int .u64 (f p).b, .int .u64 (f p).c, .int .u64 (f p).d] 30) = v3 at *
  generalize v.heap.size = bx at *
  clear HB HS
  go_upto_region 2 with (go_at_call 56; refine (P2.out _ HX.out).mono ?_; rintro e v4 ⟨rfl, hB⟩; (have HB : Hid (Below v3.heap.size v3 v4) := hB); clear hB P2; unfold W4.v)
  have hb3 := HX.out.lt
  have HW2 : Hid (Wd (v4.alloc (.cells #[.int .u64 (f q).a, .int .u64 (f q).b, .int .u64 (f q).c, .int .u64 (f q).d] 30)) v4.heap.size 0 (f q)) := Wd.new v4 30 (f q)
  replace HW : Hid (Wd (v4.alloc (.cells #[.int .u64 (f q).a, .int .u64 (f q).b, .int .u64 (f q).c, .int .u64 (f q).d] 30)) bx 0 (f p)) := (HW.out.past HB.out).alloc _
  replace HX : Hid (Stk (v4.alloc (.cells #[.int .u64 (f q).a, .int .u64 (f q).b, .int .u64 (f q).c, .int .u64 (f q).d] 30)) b 1 0 f n) := (HX.out.past HB.out).alloc _
  replace HO : Hid (Only b w (v4.alloc (.cells #[.int .u64 (f q).a, .int .u64 (f q).b, .int .u64 (f q).c, .int .u64 (f q).d] 30))) := (HO.out.trans (below_only HB.out b)).alloc _
  have hby : v4.heap.size ≠ b := by have := HB.out.size; omega
  generalize v4.alloc (.cells #[.int .u64 (f q).a, .int .u64 (f q).b, .int .u64 (f q).c, .int .u64 (f q).d] 30) = v5 at *
  generalize v4.heap.size = by_ at *
  clear HB hb3
  have HZ : Hid (Stk v5.drew b 1 0 f n) := HX.out.drew
  have HY : Hid (Only b w v5.drew) := HO.out.drew
  refine wp_region_held_drew (S := fun V' => Wd V' bx 0 (f p) ∧ Wd V' by_ 0 (f q)) (by kernel_rfl) ⟨HW.out.drew, HW2.out.drew⟩ (fun hHeld => ?_)
  generalize v5.drew = z0 at hHeld HZ HY ⊢
  clear HW HW2 HX HO
  refine wpAnyH_take (i := 0) (v := .pointer (some ⟨b, 0, none⟩)) ov0 (by kernel_rfl) (by kernel_rfl) (by kernel_rfl) (fun _ _ _ h => h) (Or.inl ⟨by rfl, fun V' hS => ?_⟩) hHeld ?_
  · go_simp
  simp only [Act.put, List.setIfInBounds_toArray, List.set_cons_zero, List.set_cons_succ]
  refine wpAnyH_take (i := 1) (v := .pointer (some ⟨b, 0, none⟩)) ov1 (by kernel_rfl) (by kernel_rfl) (by kernel_rfl) (fun _ _ _ h => h) (Or.inl ⟨by rfl, fun V' hS => ?_⟩) hHeld ?_
  · go_simp
  simp only [Act.put, List.setIfInBounds_toArray, List.set_cons_zero, List.set_cons_succ]
  refine wpAnyH_take (i := 2) (v := .int .i64 k) ov2 (by kernel_rfl) (by kernel_rfl) (by kernel_rfl) (fun _ _ _ h => h) (Or.inl ⟨by rfl, fun V' hS => ?_⟩) hHeld ?_
  · go_simp
  simp only [Act.put, List.setIfInBounds_toArray, List.set_cons_zero, List.set_cons_succ]
  refine wpAnyH_take (i := 5) (v := .agg #[.int .u64 (f q).a, .int .u64 (f q).b, .int .u64 (f q).c, .int .u64 (f q).d]) ov5 (by kernel_rfl) (by kernel_rfl) (by kernel_rfl) (fun _ _ _ h => h) (Or.inl ⟨by rfl, fun V' hS => ?_⟩) hHeld ?_
  · obtain ⟨c0, c1, c2, c3, _⟩ := hS.2
    go_simp
  simp only [Act.put, List.setIfInBounds_toArray, List.set_cons_zero, List.set_cons_succ]
  refine wpAnyH_take (i := 6) (v := .pointer (some ⟨b, 0, none⟩)) ov6 (by kernel_rfl) (by kernel_rfl) (by kernel_rfl) (fun _ _ _ h => h) (Or.inl ⟨by rfl, fun V' hS => ?_⟩) hHeld ?_
  · go_simp
  simp only [Act.put, List.setIfInBounds_toArray, List.set_cons_zero, List.set_cons_succ]
  refine wpAnyH_take (i := 7) (v := .pointer (some ⟨b, 1, none⟩)) ov7 (by kernel_rfl) (by kernel_rfl) (by kernel_rfl) (fun _ _ _ h => h) (Or.inl ⟨by rfl, fun V' hS => ?_⟩) hHeld ?_
  · go_simp
  simp only [Act.put, List.setIfInBounds_toArray, List.set_cons_zero, List.set_cons_succ]
  refine wpAnyH_ready (rs := [3]) (by kernel_rfl) (by simp) ?_
  refine AllReadyH.cons ov3 (fun K hK => ?_) AllReadyH.nil
  rw [if_pos (by rfl)]
  go_simp
  refine (N1.out z0 f HZ.out).mono ?_
  rintro e w' ⟨rfl, hw⟩
  have hw2 := hw.symm
  clear hw
  subst hw2
  (try go_wp2_with fail)
  refine hK.out _ _ hHeld (fun _ => ?_)
  clear hK K
  (try simp only [Act.put, List.setIfInBounds_toArray, List.set_cons_zero, List.set_cons_succ])
  refine wpAnyH_ready (rs := [4]) (by kernel_rfl) (by simp) ?_
  refine AllReadyH.cons ov4 (fun K hK => ?_) AllReadyH.nil
  rw [if_pos (by rfl)]
  go_simp
  refine (D1.out z0).mono ?_
  rintro e w' ⟨rfl, hw⟩
  have hw2 := hw.symm
  clear hw
  subst hw2
  (try go_wp2_with fail)
  refine hK.out _ _ hHeld (fun _ => ?_)
  clear hK K
  (try simp only [Act.put, List.setIfInBounds_toArray, List.set_cons_zero, List.set_cons_succ])
  refine wpAnyH_take (i := 8) (v := .pointer (some ⟨b, 1 + p * 4, none⟩)) ov8 (by kernel_rfl) (by kernel_rfl) (by kernel_rfl) (fun _ _ _ h => h) (Or.inl ⟨by rfl, fun V' hS => ?_⟩) hHeld ?_
  · go_simp
  simp only [Act.put, List.setIfInBounds_toArray, List.set_cons_zero, List.set_cons_succ]
  refine wpAnyH_ready (rs := [9]) (by kernel_rfl) (by simp) ?_
  refine AllReadyH.cons ov9 (fun K hK => ?_) AllReadyH.nil
  rw [if_pos (by rfl)]
  obtain ⟨c0, c1, c2, c3, g0, g1, g2, g3⟩ := HZ.out.wd p hp
  go_simp
  have HZ1 : Hid (Stk (put4 z0 b (1 + p * 4) (f q)) b 1 0 (rput f p (f q)) n) := HZ.out.put p hp (f q)
  have HY1 : Hid (Only b w (put4 z0 b (1 + p * 4) (f q))) := only_put4 HY.out _ _
  have hH1 : Wd (put4 z0 b (1 + p * 4) (f q)) bx 0 (f p) ∧ Wd (put4 z0 b (1 + p * 4) (f q)) by_ 0 (f q) := ⟨hHeld.1.only (only_put4 (Only.refl b z0) _ _) hbx, hHeld.2.only (only_put4 (Only.refl b z0) _ _) hby⟩
  clear c0 c1 c2 c3 g0 g1 g2 g3
  refine hK.out _ (put4 z0 b (1 + p * 4) (f q)) hH1 (fun _ => ?_)
  clear hK K
  (try simp only [Act.put, List.setIfInBounds_toArray, List.set_cons_zero, List.set_cons_succ])
  generalize put4 z0 b (1 + p * 4) (f q) = z1 at HZ1 HY1 hH1 ⊢
  refine wpAnyH_done (by kernel_rfl) ?_ _
  clear HZ HY hHeld
  go_upto_region 3 with fail
  have HZ : Hid (Stk z1.drew b 1 0 (rput f p (f q)) n) := HZ1.out.drew
  have HY : Hid (Only b w z1.drew) := HY1.out.drew
  refine wp_region_held_drew (S := fun V' => Wd V' bx 0 (f p)) (by kernel_rfl) hH1.1.drew (fun hHeld => ?_)
  generalize z1.drew = z2 at hHeld HZ HY ⊢
  refine wpAnyH_take (i := 0) (v := .pointer (some ⟨b, 0, none⟩)) ov0 (by kernel_rfl) (by kernel_rfl) (by kernel_rfl) (fun _ _ _ h => h) (Or.inl ⟨by rfl, fun V' hS => ?_⟩) hHeld ?_
  · go_simp
  simp only [Act.put, List.setIfInBounds_toArray, List.set_cons_zero, List.set_cons_succ]
  refine wpAnyH_take (i := 1) (v := .pointer (some ⟨b, 0, none⟩)) ov1 (by kernel_rfl) (by kernel_rfl) (by kernel_rfl) (fun _ _ _ h => h) (Or.inl ⟨by rfl, fun V' hS => ?_⟩) hHeld ?_
  · go_simp
  simp only [Act.put, List.setIfInBounds_toArray, List.set_cons_zero, List.set_cons_succ]
  refine wpAnyH_take (i := 2) (v := .int .i64 m) ov2 (by kernel_rfl) (by kernel_rfl) (by kernel_rfl) (fun _ _ _ h => h) (Or.inl ⟨by rfl, fun V' hS => ?_⟩) hHeld ?_
  · go_simp
  simp only [Act.put, List.setIfInBounds_toArray, List.set_cons_zero, List.set_cons_succ]
  refine wpAnyH_take (i := 5) (v := .agg #[.int .u64 (f p).a, .int .u64 (f p).b, .int .u64 (f p).c, .int .u64 (f p).d]) ov5 (by kernel_rfl) (by kernel_rfl) (by kernel_rfl) (fun _ _ _ h => h) (Or.inl ⟨by rfl, fun V' hS => ?_⟩) hHeld ?_
  · obtain ⟨c0, c1, c2, c3, _⟩ := hS
    go_simp
  simp only [Act.put, List.setIfInBounds_toArray, List.set_cons_zero, List.set_cons_succ]
  refine wpAnyH_take (i := 6) (v := .pointer (some ⟨b, 0, none⟩)) ov6 (by kernel_rfl) (by kernel_rfl) (by kernel_rfl) (fun _ _ _ h => h) (Or.inl ⟨by rfl, fun V' hS => ?_⟩) hHeld ?_
  · go_simp
  simp only [Act.put, List.setIfInBounds_toArray, List.set_cons_zero, List.set_cons_succ]
  refine wpAnyH_take (i := 7) (v := .pointer (some ⟨b, 1, none⟩)) ov7 (by kernel_rfl) (by kernel_rfl) (by kernel_rfl) (fun _ _ _ h => h) (Or.inl ⟨by rfl, fun V' hS => ?_⟩) hHeld ?_
  · go_simp
  simp only [Act.put, List.setIfInBounds_toArray, List.set_cons_zero, List.set_cons_succ]
  refine wpAnyH_ready (rs := [3]) (by kernel_rfl) (by simp) ?_
  refine AllReadyH.cons ov3 (fun K hK => ?_) AllReadyH.nil
  rw [if_pos (by rfl)]
  go_simp
  refine (N2.out z2 _ HZ.out).mono ?_
  rintro e w' ⟨rfl, hw⟩
  have hw2 := hw.symm
  clear hw
  subst hw2
  (try go_wp2_with fail)
  refine hK.out _ _ hHeld (fun _ => ?_)
  clear hK K
  (try simp only [Act.put, List.setIfInBounds_toArray, List.set_cons_zero, List.set_cons_succ])
  refine wpAnyH_ready (rs := [4]) (by kernel_rfl) (by simp) ?_
  refine AllReadyH.cons ov4 (fun K hK => ?_) AllReadyH.nil
  rw [if_pos (by rfl)]
  go_simp
  refine (D2.out z2).mono ?_
  rintro e w' ⟨rfl, hw⟩
  have hw2 := hw.symm
  clear hw
  subst hw2
  (try go_wp2_with fail)
  refine hK.out _ _ hHeld (fun _ => ?_)
  clear hK K
  (try simp only [Act.put, List.setIfInBounds_toArray, List.set_cons_zero, List.set_cons_succ])
  refine wpAnyH_take (i := 8) (v := .pointer (some ⟨b, 1 + q * 4, none⟩)) ov8 (by kernel_rfl) (by kernel_rfl) (by kernel_rfl) (fun _ _ _ h => h) (Or.inl ⟨by rfl, fun V' hS => ?_⟩) hHeld ?_
  · go_simp
  simp only [Act.put, List.setIfInBounds_toArray, List.set_cons_zero, List.set_cons_succ]
  refine wpAnyH_ready (rs := [9]) (by kernel_rfl) (by simp) ?_
  refine AllReadyH.cons ov9 (fun K hK => ?_) AllReadyH.nil
  rw [if_pos (by rfl)]
  obtain ⟨c0, c1, c2, c3, g0, g1, g2, g3⟩ := HZ.out.wd q hq
  go_simp
  have HE : Hid (Stk (put4 z2 b (1 + q * 4) (f p)) b 1 0 (rput (rput f p (f q)) q (f p)) n ∧ Only b w (put4 z2 b (1 + q * 4) (f p))) := ⟨HZ.out.put q hq (f p), only_put4 HY.out _ _⟩
  have hH2 : Wd (put4 z2 b (1 + q * 4) (f p)) bx 0 (f p) := hHeld.only (only_put4 (Only.refl b z2) _ _) hbx
  clear c0 c1 c2 c3 g0 g1 g2 g3
  refine hK.out _ (put4 z2 b (1 + q * 4) (f p)) hH2 (fun _ => ?_)
  clear hK K
  (try simp only [Act.put, List.setIfInBounds_toArray, List.set_cons_zero, List.set_cons_succ])
  generalize put4 z2 b (1 + q * 4) (f p) = z3 at HE hH2 ⊢
  refine wpAnyH_done (by kernel_rfl) ?_ _
  go_end0
  exact ⟨rfl, HE.out⟩
end Go.Proofs.Ytdddmebihkdkjaa
