/- Stacks of both kinds: the calls that look. -/
import Derived.Test.YtdddmebihkdkjaaQe
namespace Go.Proofs.Ytdddmebihkdkjaa
open Go.RowKit
/-- an error and a stack -/
structure Out where
  e : Int
  f : Ring
  n : Int
def turnF (f : Ring) (n k m : Int) : Ring := rput (rput f (pl (n - k)) (f (pl (n - m)))) (pl (n - m)) (f (pl (n - k)))
def oPush (f : Ring) (n : Int) (x : W4) : Out := if 1024 ≤ n then ⟨91, f, n⟩ else ⟨0, rput f (pl n) x, wrap64 (n + 1)⟩
def oDup (f : Ring) (n k : Int) : Out := if k < 1 then ⟨1, f, n⟩ else if n < k then ⟨90, f, n⟩ else oPush f n (f (pl (n - k)))
def oSwap (f : Ring) (n k : Int) : Out := if k < 1 then ⟨1, f, n⟩ else if n ≤ k then ⟨90, f, n⟩ else ⟨0, turnF f n 1 (k + 1), n⟩
def oExch (f : Ring) (n k m : Int) : Out := if k < 1 ∨ m < 1 then ⟨1, f, n⟩ else if n ≤ k + m then ⟨90, f, n⟩ else ⟨0, turnF f n (k + 1) (k + m + 1), n⟩
/-- and a word -/
def oPopW (f : Ring) (n : Int) : W4 := if n < 1 then w0 else f (pl (n - 1))
def oPop (f : Ring) (n : Int) : Out := if n < 1 then ⟨90, f, n⟩ else ⟨0, f, wrap64 (n - 1)⟩
def oAtW (f : Ring) (n k : Int) : W4 := if k < 1 ∨ n < k then w0 else f (pl (n - k))
def oAtE (n k : Int) : Int := if k < 1 then 1 else if n < k then 90 else 0
def W4.o (x : W4) (t : TypeId) : Obj := .cells #[.int .u64 x.a, .int .u64 x.b, .int .u64 x.c, .int .u64 x.d] t
def zo (t : TypeId) : Obj := .cells #[.int .u64 0, .int .u64 0, .int .u64 0, .int .u64 0] t
set_option maxHeartbeats 1000000 in
set_option maxRecDepth 100000 in
theorem push_is (w : World) (b : Nat) (f : Ring) (n : Int) (h : Stk w b 0 4096 f n) (x : W4) : Calls Try.prog 26 #[.pointer (some ⟨b, 0, none⟩), x.v] w fun e w' => e = .returned (.int .i64 (oPush f n x).e) ∧ Stk w' b 0 4096 (oPush f n x).f (oPush f n x).n ∧ Only b w w' := by
  have cz := h.sz.1
  have hb := h.lt
  have hX : Hid (Stk (w.alloc (x.o 30)) b 0 4096 f n ∧ Only b w (w.alloc (x.o 30))) := ⟨h.alloc _, (Only.refl b w).alloc _⟩
  unfold oPush
  by_cases hn : 1024 ≤ n
  · simp only [if_pos hn]
    clear h
    unfold W4.v
    go_enter Try.func26, Try.ntmps26
    go_wp2
    go_ret
    exact ⟨rfl, hX.out⟩
  · simp only [if_neg hn]
    have PTT : Hid (Calls Try.prog 37 #[.pointer (some ⟨b, 0, none⟩), x.v] (w.alloc (x.o 30)) fun e w' => e = .returned (.tuple #[]) ∧ Stk w' b 0 4096 (rput f (pl n) x) (wrap64 (n + 1)) ∧ Only b (w.alloc (x.o 30)) w') := put_is _ b f n (h.alloc _) x
    clear h
    unfold W4.v
    go_enter Try.func26, Try.ntmps26
    go_wp2_with (go_at_call 37; refine (PTT.out).mono ?_; rintro e v ⟨rfl, h1, h2⟩; (have HE : Hid (Stk v b 0 4096 (rput f (pl n) x) (wrap64 (n + 1)) ∧ Only b w v) := ⟨h1, hX.out.2.trans h2⟩); clear h1 h2 PTT)
    go_ret
    exact ⟨rfl, HE.out⟩
set_option maxHeartbeats 1000000 in
set_option maxRecDepth 100000 in
theorem pop_is (w : World) (b : Nat) (f : Ring) (n : Int) (h : Stk w b 0 4096 f n) : Calls Try.prog 31 #[.pointer (some ⟨b, 0, none⟩)] w fun e w' => e = .returned (.tuple #[(oPopW f n).v, .int .i64 (oPop f n).e]) ∧ Stk w' b 0 4096 (oPop f n).f (oPop f n).n ∧ Only b w w' := by
  have cz := h.sz.1
  have hb := h.lt
  have hX : Hid (Stk (w.alloc (zo 30)) b 0 4096 f n ∧ Only b w (w.alloc (zo 30)) ∧ Wd (w.alloc (zo 30)) w.heap.size 0 w0) := ⟨h.alloc _, (Only.refl b w).alloc _, Wd.new w _ w0⟩
  unfold oPop oPopW
  by_cases hn : n < 1
  · simp only [if_pos hn]
    clear h
    go_enter Try.func31, Try.ntmps31
    go_wp2
    refine bodyPost_ret (v := .tuple #[w0.v, .int .i64 90]) ?_ rfl ⟨rfl, hX.out.1, hX.out.2.1⟩
    exact results_ct Try.results31 _ _ _ ⟨w.heap.size, 0, none⟩ rfl rfl (loadWd hX.out.2.2)
  · simp only [if_neg hn]
    have TKK : Hid (Calls Try.prog 38 #[.pointer (some ⟨b, 0, none⟩)] (w.alloc (zo 30)) fun e w' => e = .returned (f (pl (n - 1))).v ∧ Stk w' b 0 4096 f (wrap64 (n - 1)) ∧ Only b (w.alloc (zo 30)) w') := take_is _ b f n (h.alloc _)
    generalize f (pl (n - 1)) = x at *
    clear h
    go_enter Try.func31, Try.ntmps31
    go_wp2_with (go_at_call 38; refine (TKK.out).mono ?_; rintro e v ⟨rfl, h1, h2⟩; (have HW : Wd v w.heap.size 0 w0 := hX.out.2.2.only h2 (by omega)); (have HE : Hid (Wd (put4 v w.heap.size 0 x) w.heap.size 0 x ∧ Stk (put4 v w.heap.size 0 x) b 0 4096 f (wrap64 (n - 1)) ∧ Only b w (put4 v w.heap.size 0 x)) := ⟨HW.put x, h1.putS _ (by omega) _ _, only_new (hX.out.2.1.trans h2) (Nat.le_refl _) _ _⟩); clear h1 h2 TKK; obtain ⟨c0, c1, c2, c3, g0, g1, g2, g3⟩ := HW; unfold W4.v)
    refine bodyPost_ret (v := .tuple #[x.v, .int .i64 0]) ?_ rfl ⟨rfl, HE.out.2⟩
    exact results_ct Try.results31 _ _ _ ⟨w.heap.size, 0, none⟩ rfl rfl (loadWd HE.out.1)
set_option maxHeartbeats 1000000 in
set_option maxRecDepth 100000 in
theorem pushR_is (w : World) (b : Nat) (f : Ring) (n : Int) (h : Stk w b 1 0 f n) (x : W4) : Calls Try.prog 43 #[.pointer (some ⟨b, 0, none⟩), x.v] w fun e w' => e = .returned (.int .i64 (oPush f n x).e) ∧ Stk w' b 1 0 (oPush f n x).f (oPush f n x).n ∧ Only b w w' := by
  have cz := h.sz.1
  have hb := h.lt
  have hX : Hid (Stk (w.alloc (x.o 30)) b 1 0 f n ∧ Only b w (w.alloc (x.o 30))) := ⟨h.alloc _, (Only.refl b w).alloc _⟩
  unfold oPush
  by_cases hn : 1024 ≤ n
  · simp only [if_pos hn]
    clear h
    unfold W4.v
    go_enter Try.func43, Try.ntmps43
    go_wp2
    go_ret
    exact ⟨rfl, hX.out⟩
  · simp only [if_neg hn]
    have PTT : Hid (Calls Try.prog 54 #[.pointer (some ⟨b, 0, none⟩), x.v] (w.alloc (x.o 30)) fun e w' => e = .returned (.tuple #[]) ∧ Stk w' b 1 0 (rput f (pl n) x) (wrap64 (n + 1)) ∧ Only b (w.alloc (x.o 30)) w') := putR_is _ b f n (h.alloc _) x
    clear h
    unfold W4.v
    go_enter Try.func43, Try.ntmps43
    go_wp2_with (go_at_call 54; refine (PTT.out).mono ?_; rintro e v ⟨rfl, h1, h2⟩; (have HE : Hid (Stk v b 1 0 (rput f (pl n) x) (wrap64 (n + 1)) ∧ Only b w v) := ⟨h1, hX.out.2.trans h2⟩); clear h1 h2 PTT)
    go_ret
    exact ⟨rfl, HE.out⟩
set_option maxHeartbeats 1000000 in
set_option maxRecDepth 100000 in
theorem popR_is (w : World) (b : Nat) (f : Ring) (n : Int) (h : Stk w b 1 0 f n) : Calls Try.prog 44 #[.pointer (some ⟨b, 0, none⟩)] w fun e w' => e = .returned (.tuple #[(oPopW f n).v, .int .i64 (oPop f n).e]) ∧ Stk w' b 1 0 (oPop f n).f (oPop f n).n ∧ Only b w w' := by
  have cz := h.sz.1
  have hb := h.lt
  have hX : Hid (Stk (w.alloc (zo 30)) b 1 0 f n ∧ Only b w (w.alloc (zo 30)) ∧ Wd (w.alloc (zo 30)) w.heap.size 0 w0) := ⟨h.alloc _, (Only.refl b w).alloc _, Wd.new w _ w0⟩
  unfold oPop oPopW
  by_cases hn : n < 1
  · simp only [if_pos hn]
    clear h
    go_enter Try.func44, Try.ntmps44
    go_wp2
    refine bodyPost_ret (v := .tuple #[w0.v, .int .i64 90]) ?_ rfl ⟨rfl, hX.out.1, hX.out.2.1⟩
    exact results_ct Try.results44 _ _ _ ⟨w.heap.size, 0, none⟩ rfl rfl (loadWd hX.out.2.2)
  · simp only [if_neg hn]
    have TKK : Hid (Calls Try.prog 55 #[.pointer (some ⟨b, 0, none⟩)] (w.alloc (zo 30)) fun e w' => e = .returned (f (pl (n - 1))).v ∧ Stk w' b 1 0 f (wrap64 (n - 1)) ∧ Only b (w.alloc (zo 30)) w') := takeR_is _ b f n (h.alloc _)
    generalize f (pl (n - 1)) = x at *
    clear h
    go_enter Try.func44, Try.ntmps44
    go_wp2_with (go_at_call 55; refine (TKK.out).mono ?_; rintro e v ⟨rfl, h1, h2⟩; (have HW : Wd v w.heap.size 0 w0 := hX.out.2.2.only h2 (by omega)); (have HE : Hid (Wd (put4 v w.heap.size 0 x) w.heap.size 0 x ∧ Stk (put4 v w.heap.size 0 x) b 1 0 f (wrap64 (n - 1)) ∧ Only b w (put4 v w.heap.size 0 x)) := ⟨HW.put x, h1.putS _ (by omega) _ _, only_new (hX.out.2.1.trans h2) (Nat.le_refl _) _ _⟩); clear h1 h2 TKK; obtain ⟨c0, c1, c2, c3, g0, g1, g2, g3⟩ := HW; unfold W4.v)
    refine bodyPost_ret (v := .tuple #[x.v, .int .i64 0]) ?_ rfl ⟨rfl, HE.out.2⟩
    exact results_ct Try.results44 _ _ _ ⟨w.heap.size, 0, none⟩ rfl rfl (loadWd HE.out.1)
set_option maxHeartbeats 1000000 in
theorem look_is (w : World) (b : Nat) (f : Ring) (n k : Int) (h : Stk w b 0 4096 f n) : Calls Try.prog 52 #[.pointer (some ⟨b, 0, none⟩), .int .i64 k] w fun e w' => e = .returned (.int .i64 (oAtE n k)) ∧ w' = w := by
  have cz := h.sz.1
  unfold oAtE
  by_cases h1 : k < 1
  · rw [if_pos h1]
    go_enter Try.func52, Try.ntmps52
    go_wp2
    go_ret
    exact ⟨rfl, rfl⟩
  · rw [if_neg h1]
    by_cases h2 : n < k
    · rw [if_pos h2]
      go_enter Try.func52, Try.ntmps52
      go_wp2
      go_ret
      exact ⟨rfl, rfl⟩
    · rw [if_neg h2]
      go_enter Try.func52, Try.ntmps52
      go_wp2
      go_ret
      exact ⟨rfl, rfl⟩
set_option maxHeartbeats 1000000 in
set_option maxRecDepth 100000 in
theorem at_is (w : World) (b : Nat) (f : Ring) (n k : Int) (h : Stk w b 0 4096 f n) : Calls Try.prog 28 #[.pointer (some ⟨b, 0, none⟩), .int .i64 k] w fun e w' => e = .returned (.tuple #[(oAtW f n k).v, .int .i64 (oAtE n k)]) ∧ Below w.heap.size w w' := by
  have cz := h.sz.1
  have hb := h.lt
  have hX : Hid (Below w.heap.size w (w.alloc (zo 30)) ∧ Wd (w.alloc (zo 30)) w.heap.size 0 w0) := ⟨(Below.refl _ _).alloc (Nat.le_refl _) _, Wd.new w _ w0⟩
  unfold oAtE oAtW
  by_cases h1 : k < 1
  · simp only [h1, true_or, if_true]
    have LK : Hid (Calls Try.prog 52 #[.pointer (some ⟨b, 0, none⟩), .int .i64 k] (w.alloc (zo 30)) fun e w' => e = .returned (.int .i64 1) ∧ w' = w.alloc (zo 30)) := by
      have := look_is (w.alloc (zo 30)) b f n k (h.alloc _)
      unfold oAtE at this
      unfold Hid
      simpa only [if_pos h1] using this
    clear h
    go_enter Try.func28, Try.ntmps28
    go_wp2_with (first | (go_at_call 52; refine (LK.out).mono ?_; rintro e w' ⟨rfl, hw⟩; (have hw2 := hw.symm); clear hw LK; subst hw2; unfold zo))
    refine bodyPost_ret (v := .tuple #[w0.v, .int .i64 1]) ?_ rfl ⟨rfl, hX.out.1⟩
    exact results_ct Try.results28 _ _ _ ⟨w.heap.size, 0, none⟩ rfl rfl (loadWd hX.out.2)
  · by_cases h2 : n < k
    · simp only [h1, h2, false_or, if_true, if_false]
      have LK : Hid (Calls Try.prog 52 #[.pointer (some ⟨b, 0, none⟩), .int .i64 k] (w.alloc (zo 30)) fun e w' => e = .returned (.int .i64 90) ∧ w' = w.alloc (zo 30)) := by
        have := look_is (w.alloc (zo 30)) b f n k (h.alloc _)
        unfold oAtE at this
        unfold Hid
        simpa only [if_neg h1, if_pos h2] using this
      clear h
      go_enter Try.func28, Try.ntmps28
      go_wp2_with (first | (go_at_call 52; refine (LK.out).mono ?_; rintro e w' ⟨rfl, hw⟩; (have hw2 := hw.symm); clear hw LK; subst hw2; unfold zo))
      refine bodyPost_ret (v := .tuple #[w0.v, .int .i64 90]) ?_ rfl ⟨rfl, hX.out.1⟩
      exact results_ct Try.results28 _ _ _ ⟨w.heap.size, 0, none⟩ rfl rfl (loadWd hX.out.2)
    · simp only [h1, h2, or_self, if_false]
      have LK : Hid (Calls Try.prog 52 #[.pointer (some ⟨b, 0, none⟩), .int .i64 k] (w.alloc (zo 30)) fun e w' => e = .returned (.int .i64 0) ∧ w' = w.alloc (zo 30)) := by
        have := look_is (w.alloc (zo 30)) b f n k (h.alloc _)
        unfold oAtE at this
        unfold Hid
        simpa only [if_neg h1, if_neg h2] using this
      have PK : Hid (Calls Try.prog 39 #[.pointer (some ⟨b, 0, none⟩), .int .i64 k] (w.alloc (zo 30)) fun e w' => e = .returned (f (pl (n - k))).v ∧ Below (w.alloc (zo 30)).heap.size (w.alloc (zo 30)) w') := peek_is _ b f n k (h.alloc _)
      generalize f (pl (n - k)) = x at *
      clear h
      go_enter Try.func28, Try.ntmps28
      go_wp2_with (first | (go_at_call 52; refine (LK.out).mono ?_; rintro e w' ⟨rfl, hw⟩; (have hw2 := hw.symm); clear hw LK; subst hw2; unfold zo) | (go_at_call 39; refine (PK.out).mono ?_; rintro e v ⟨rfl, hB⟩; (have HW : Wd v w.heap.size 0 w0 := hX.out.2.past hB); (have HE : Hid (Wd (put4 v w.heap.size 0 x) w.heap.size 0 x ∧ Below w.heap.size w (put4 v w.heap.size 0 x)) := ⟨HW.put x, (hX.out.1.trans (hB.mono hX.out.1.size)).trans ((only_put4 (Only.refl w.heap.size v) 0 x).below (Nat.le_refl _) (Nat.le_of_lt HW.lt))⟩); clear hB PK; obtain ⟨c0, c1, c2, c3, g0, g1, g2, g3⟩ := HW; unfold W4.v))
      refine bodyPost_ret (v := .tuple #[x.v, .int .i64 0]) ?_ rfl ⟨rfl, HE.out.2⟩
      exact results_ct Try.results28 _ _ _ ⟨w.heap.size, 0, none⟩ rfl rfl (loadWd HE.out.1)
set_option maxHeartbeats 1000000 in
set_option maxRecDepth 100000 in
theorem atR_is (w : World) (b : Nat) (f : Ring) (n k : Int) (h : Stk w b 1 0 f n) : Calls Try.prog 45 #[.pointer (some ⟨b, 0, none⟩), .int .i64 k] w fun e w' => e = .returned (.tuple #[(oAtW f n k).v, .int .i64 (oAtE n k)]) ∧ Below w.heap.size w w' := by
  have cz := h.sz.1
  have hb := h.lt
  have hX : Hid (Below w.heap.size w (w.alloc (zo 30)) ∧ Wd (w.alloc (zo 30)) w.heap.size 0 w0) := ⟨(Below.refl _ _).alloc (Nat.le_refl _) _, Wd.new w _ w0⟩
  unfold oAtE oAtW
  by_cases h1 : k < 1
  · simp only [h1, true_or, if_true]
    clear h
    go_enter Try.func45, Try.ntmps45
    go_wp2
    refine bodyPost_ret (v := .tuple #[w0.v, .int .i64 1]) ?_ rfl ⟨rfl, hX.out.1⟩
    exact results_ct Try.results45 _ _ _ ⟨w.heap.size, 0, none⟩ rfl rfl (loadWd hX.out.2)
  · by_cases h2 : n < k
    · simp only [h1, h2, false_or, if_true, if_false]
      clear h
      go_enter Try.func45, Try.ntmps45
      go_wp2
      refine bodyPost_ret (v := .tuple #[w0.v, .int .i64 90]) ?_ rfl ⟨rfl, hX.out.1⟩
      exact results_ct Try.results45 _ _ _ ⟨w.heap.size, 0, none⟩ rfl rfl (loadWd hX.out.2)
    · simp only [h1, h2, or_self, if_false]
      have PK : Hid (Calls Try.prog 56 #[.pointer (some ⟨b, 0, none⟩), .int .i64 k] (w.alloc (zo 30)) fun e w' => e = .returned (f (pl (n - k))).v ∧ Below (w.alloc (zo 30)).heap.size (w.alloc (zo 30)) w') := peekR_is _ b f n k (h.alloc _)
      generalize f (pl (n - k)) = x at *
      clear h
      go_enter Try.func45, Try.ntmps45
      go_wp2_with (first | (go_at_call 56; refine (PK.out).mono ?_; rintro e v ⟨rfl, hB⟩; (have HW : Wd v w.heap.size 0 w0 := hX.out.2.past hB); (have HE : Hid (Wd (put4 v w.heap.size 0 x) w.heap.size 0 x ∧ Below w.heap.size w (put4 v w.heap.size 0 x)) := ⟨HW.put x, (hX.out.1.trans (hB.mono hX.out.1.size)).trans ((only_put4 (Only.refl w.heap.size v) 0 x).below (Nat.le_refl _) (Nat.le_of_lt HW.lt))⟩); clear hB PK; obtain ⟨c0, c1, c2, c3, g0, g1, g2, g3⟩ := HW; unfold W4.v))
      refine bodyPost_ret (v := .tuple #[x.v, .int .i64 0]) ?_ rfl ⟨rfl, HE.out.2⟩
      exact results_ct Try.results45 _ _ _ ⟨w.heap.size, 0, none⟩ rfl rfl (loadWd HE.out.1)
set_option maxHeartbeats 1000000 in
set_option maxRecDepth 100000 in
theorem dup_is (w : World) (b : Nat) (f : Ring) (n k : Int) (h : Stk w b 0 4096 f n) : Calls Try.prog 36 #[.pointer (some ⟨b, 0, none⟩), .int .i64 k] w fun e w' => e = .returned (.int .i64 (oDup f n k).e) ∧ Stk w' b 0 4096 (oDup f n k).f (oDup f n k).n ∧ Only b w w' := by
  have cz := h.sz.1
  have HS : Hid (Stk w b 0 4096 f n) := h
  unfold oDup
  by_cases h1 : k < 1
  · simp only [h1, if_true]
    have LK : Hid (Calls Try.prog 52 #[.pointer (some ⟨b, 0, none⟩), .int .i64 k] w fun e w' => e = .returned (.int .i64 1) ∧ w' = w) := by
      have := look_is w b f n k h
      unfold oAtE at this
      unfold Hid
      simpa only [if_pos h1] using this
    clear h
    go_enter Try.func36, Try.ntmps36
    go_wp2_with (go_at_call 52; refine (LK.out).mono ?_; rintro e w' ⟨rfl, hw⟩; (have hw2 := hw.symm); clear hw LK; subst hw2)
    go_ret
    exact ⟨rfl, HS.out, Only.refl b w⟩
  · by_cases h2 : n < k
    · simp only [h1, h2, if_true, if_false]
      have LK : Hid (Calls Try.prog 52 #[.pointer (some ⟨b, 0, none⟩), .int .i64 k] w fun e w' => e = .returned (.int .i64 90) ∧ w' = w) := by
        have := look_is w b f n k h
        unfold oAtE at this
        unfold Hid
        simpa only [if_neg h1, if_pos h2] using this
      clear h
      go_enter Try.func36, Try.ntmps36
      go_wp2_with (go_at_call 52; refine (LK.out).mono ?_; rintro e w' ⟨rfl, hw⟩; (have hw2 := hw.symm); clear hw LK; subst hw2)
      go_ret
      exact ⟨rfl, HS.out, Only.refl b w⟩
    · simp only [h1, h2, if_false]
      have LK : Hid (Calls Try.prog 52 #[.pointer (some ⟨b, 0, none⟩), .int .i64 k] w fun e w' => e = .returned (.int .i64 0) ∧ w' = w) := by
        have := look_is w b f n k h
        unfold oAtE at this
        unfold Hid
        simpa only [if_neg h1, if_neg h2] using this
      have AG : Hid (Calls Try.prog 40 #[.pointer (some ⟨b, 0, none⟩), .int .i64 k] w fun e w' => e = .returned (.tuple #[]) ∧ Stk w' b 0 4096 (rput f (pl n) (f (pl (n - k)))) (wrap64 (n + 1)) ∧ Only b w w') := again_is w b f n k h
      clear h
      unfold oPush
      by_cases hn : 1024 ≤ n
      · simp only [if_pos hn]
        clear AG
        go_enter Try.func36, Try.ntmps36
        go_wp2_with (go_at_call 52; refine (LK.out).mono ?_; rintro e w' ⟨rfl, hw⟩; (have hw2 := hw.symm); clear hw LK; subst hw2)
        go_ret
        exact ⟨rfl, HS.out, Only.refl b w⟩
      · simp only [if_neg hn]
        go_enter Try.func36, Try.ntmps36
        go_wp2_with (first | (go_at_call 52; refine (LK.out).mono ?_; rintro e w' ⟨rfl, hw⟩; (have hw2 := hw.symm); clear hw LK; subst hw2) | (go_at_call 40; refine (AG.out).mono ?_; rintro e v ⟨rfl, h1, h2⟩; (have HE : Hid (Stk v b 0 4096 (rput f (pl n) (f (pl (n - k)))) (wrap64 (n + 1)) ∧ Only b w v) := ⟨h1, h2⟩); clear h1 h2 AG))
        go_ret
        exact ⟨rfl, HE.out⟩
set_option maxHeartbeats 1000000 in
set_option maxRecDepth 100000 in
theorem dupR_is (w : World) (b : Nat) (f : Ring) (n k : Int) (h : Stk w b 1 0 f n) : Calls Try.prog 46 #[.pointer (some ⟨b, 0, none⟩), .int .i64 k] w fun e w' => e = .returned (.int .i64 (oDup f n k).e) ∧ Stk w' b 1 0 (oDup f n k).f (oDup f n k).n ∧ Only b w w' := by
  have HS : Hid (Stk w b 1 0 f n) := h
  unfold oDup
  by_cases h1 : k < 1
  · simp only [h1, if_true]
    have AT : Hid (Calls Try.prog 45 #[.pointer (some ⟨b, 0, none⟩), .int .i64 k] w fun e w' => e = .returned (.tuple #[w0.v, .int .i64 1]) ∧ Below w.heap.size w w') := by
      have := atR_is w b f n k h
      unfold oAtE oAtW at this
      unfold Hid
      simpa only [h1, if_true, true_or] using this
    clear h
    go_enter Try.func46, Try.ntmps46
    go_wp2_with (go_at_call 45; refine (AT.out).mono ?_; rintro e v ⟨rfl, hB⟩; (have HB : Hid (Below w.heap.size w v) := hB); clear hB AT; unfold W4.v w0)
    go_ret
    exact ⟨rfl, (HS.out.past HB.out).alloc _, (below_only HB.out b).alloc _⟩
  · by_cases h2 : n < k
    · simp only [h1, h2, if_true, if_false]
      have AT : Hid (Calls Try.prog 45 #[.pointer (some ⟨b, 0, none⟩), .int .i64 k] w fun e w' => e = .returned (.tuple #[w0.v, .int .i64 90]) ∧ Below w.heap.size w w') := by
        have := atR_is w b f n k h
        unfold oAtE oAtW at this
        unfold Hid
        simpa only [h1, h2, if_true, if_false, false_or] using this
      clear h
      go_enter Try.func46, Try.ntmps46
      go_wp2_with (go_at_call 45; refine (AT.out).mono ?_; rintro e v ⟨rfl, hB⟩; (have HB : Hid (Below w.heap.size w v) := hB); clear hB AT; unfold W4.v w0)
      go_ret
      exact ⟨rfl, (HS.out.past HB.out).alloc _, (below_only HB.out b).alloc _⟩
    · simp only [h1, h2, if_false]
      have AT : Hid (Calls Try.prog 45 #[.pointer (some ⟨b, 0, none⟩), .int .i64 k] w fun e w' => e = .returned (.tuple #[(f (pl (n - k))).v, .int .i64 0]) ∧ Below w.heap.size w w') := by
        have := atR_is w b f n k h
        unfold oAtE oAtW at this
        unfold Hid
        simpa only [h1, h2, if_false, or_self] using this
      generalize f (pl (n - k)) = x at *
      have PS : Hid (∀ W, Stk W b 1 0 f n → Calls Try.prog 43 #[.pointer (some ⟨b, 0, none⟩), x.v] W fun e w' => e = .returned (.int .i64 (oPush f n x).e) ∧ Stk w' b 1 0 (oPush f n x).f (oPush f n x).n ∧ Only b W w') := fun W hW => pushR_is W b f n hW x
      clear h
      go_enter Try.func46, Try.ntmps46
      go_upto_region 4 with (go_at_call 45; refine (AT.out).mono ?_; rintro e v ⟨rfl, hB⟩; (have HB : Hid (Below w.heap.size w v) := hB); clear hB AT; unfold W4.v)
      have HW := Wd.new v 30 x
      have HX : Hid (Stk (v.alloc (.cells #[.int .u64 x.a, .int .u64 x.b, .int .u64 x.c, .int .u64 x.d] 30)) b 1 0 f n ∧ Only b w (v.alloc (.cells #[.int .u64 x.a, .int .u64 x.b, .int .u64 x.c, .int .u64 x.d] 30))) := ⟨(HS.out.past HB.out).alloc _, (below_only HB.out b).alloc _⟩
      generalize v.alloc (.cells #[.int .u64 x.a, .int .u64 x.b, .int .u64 x.c, .int .u64 x.d] 30) = v3 at *
      generalize v.heap.size = bx at *
      obtain ⟨c0, c1, c2, c3, _⟩ := HW
      go_wp2_with (go_at_call 43; refine (PS.out _ HX.out.1).mono ?_; rintro e v2 ⟨rfl, h1, h2⟩; (have HE : Hid (Stk v2 b 1 0 (oPush f n x).f (oPush f n x).n ∧ Only b w v2) := ⟨h1, HX.out.2.trans h2⟩); clear h1 h2 PS)
      go_ret
      exact ⟨rfl, HE.out⟩
set_option maxHeartbeats 1000000 in
set_option maxRecDepth 100000 in
theorem swap_is (w : World) (b : Nat) (f : Ring) (n k : Int) (h : Stk w b 0 4096 f n) (hn : n ≤ 4611686018427387904) : Calls Try.prog 33 #[.pointer (some ⟨b, 0, none⟩), .int .i64 k] w fun e w' => e = .returned (.int .i64 (oSwap f n k).e) ∧ Stk w' b 0 4096 (oSwap f n k).f (oSwap f n k).n ∧ Only b w w' := by
  have cz := h.sz.1
  have HS : Hid (Stk w b 0 4096 f n) := h
  have TN : Hid (Calls Try.prog 34 #[.pointer (some ⟨b, 0, none⟩), .int .i64 1, .int .i64 (k + 1)] w fun e w' => e = .returned (.tuple #[]) ∧ Stk w' b 0 4096 (turnF f n 1 (k + 1)) n ∧ Only b w w') := turn_is w b f n 1 (k + 1) h
  clear h
  unfold oSwap
  by_cases h1 : k < 1
  · simp only [h1, if_true]
    clear TN
    go_enter Try.func33, Try.ntmps33
    go_wp2
    go_ret
    exact ⟨rfl, HS.out, Only.refl b w⟩
  · by_cases h2 : n ≤ k
    · simp only [h1, h2, if_true, if_false]
      clear TN
      go_enter Try.func33, Try.ntmps33
      go_wp2
      go_ret
      exact ⟨rfl, HS.out, Only.refl b w⟩
    · simp only [h1, h2, if_false]
      have hk : k + 1 ≤ 4611686018427387904 := by omega
      have hk0 : 0 ≤ k := by omega
      go_enter Try.func33, Try.ntmps33
      go_wp2_with (go_at_call 34; refine (TN.out).mono ?_; rintro e v ⟨rfl, h1, h2⟩; (have HE : Hid (Stk v b 0 4096 (turnF f n 1 (k + 1)) n ∧ Only b w v) := ⟨h1, h2⟩); clear h1 h2 TN)
      go_ret
      exact ⟨rfl, HE.out⟩
set_option maxHeartbeats 1000000 in
set_option maxRecDepth 100000 in
theorem exch_is (w : World) (b : Nat) (f : Ring) (n k m : Int) (h : Stk w b 0 4096 f n) (hn : n ≤ 4611686018427387904) : Calls Try.prog 35 #[.pointer (some ⟨b, 0, none⟩), .int .i64 k, .int .i64 m] w fun e w' => e = .returned (.int .i64 (oExch f n k m).e) ∧ Stk w' b 0 4096 (oExch f n k m).f (oExch f n k m).n ∧ Only b w w' := by
  have cz := h.sz.1
  have HS : Hid (Stk w b 0 4096 f n) := h
  have TN : Hid (Calls Try.prog 34 #[.pointer (some ⟨b, 0, none⟩), .int .i64 (k + 1), .int .i64 (k + m + 1)] w fun e w' => e = .returned (.tuple #[]) ∧ Stk w' b 0 4096 (turnF f n (k + 1) (k + m + 1)) n ∧ Only b w w') := turn_is w b f n (k + 1) (k + m + 1) h
  clear h
  unfold oExch
  by_cases h1 : k < 1
  · simp only [h1, true_or, if_true]
    clear TN
    go_enter Try.func35, Try.ntmps35
    go_wp2
    go_ret
    exact ⟨rfl, HS.out, Only.refl b w⟩
  · by_cases h2 : m < 1
    · simp only [h1, h2, or_true, if_true]
      clear TN
      go_enter Try.func35, Try.ntmps35
      go_wp2
      go_ret
      exact ⟨rfl, HS.out, Only.refl b w⟩
    · have k0 : 1 ≤ k := by omega
      have m0 : 1 ≤ m := by omega
      by_cases h3 : n ≤ k
      · have h4 : n ≤ k + m := by omega
        simp only [h1, h2, h4, or_self, if_true, if_false]
        clear TN
        go_enter Try.func35, Try.ntmps35
        go_wp2
        go_ret
        exact ⟨rfl, HS.out, Only.refl b w⟩
      · have kn : k < n := by omega
        have wn : wrap64 (n - k) = n - k := by rw [wrap64]; omega
        by_cases h4 : n ≤ k + m
        · have h5 : n - k ≤ m := by omega
          simp only [h1, h2, h4, or_self, if_true, if_false]
          clear TN
          go_enter Try.func35, Try.ntmps35
          go_wp2
          go_ret
          exact ⟨rfl, HS.out, Only.refl b w⟩
        · have h5 : ¬ (n - k ≤ m) := by omega
          have h6 : k + m < n := by omega
          simp only [h1, h2, h4, or_self, if_false]
          go_enter Try.func35, Try.ntmps35
          go_wp2_with (go_at_call 34; refine (TN.out).mono ?_; rintro e v ⟨rfl, h1, h2⟩; (have HE : Hid (Stk v b 0 4096 (turnF f n (k + 1) (k + m + 1)) n ∧ Only b w v) := ⟨h1, h2⟩); clear h1 h2 TN)
          go_ret
          exact ⟨rfl, HE.out⟩
set_option maxHeartbeats 1000000 in
set_option maxRecDepth 100000 in
theorem swapR_is (w : World) (b : Nat) (f : Ring) (n k : Int) (h : Stk w b 1 0 f n) (hn : n ≤ 4611686018427387904) : Calls Try.prog 47 #[.pointer (some ⟨b, 0, none⟩), .int .i64 k] w fun e w' => e = .returned (.int .i64 (oSwap f n k).e) ∧ Stk w' b 1 0 (oSwap f n k).f (oSwap f n k).n ∧ Only b w w' := by
  have cz := h.sz.1
  have HS : Hid (Stk w b 1 0 f n) := h
  have TN : Hid (Calls Try.prog 58 #[.pointer (some ⟨b, 0, none⟩), .int .i64 1, .int .i64 (k + 1)] w fun e w' => e = .returned (.tuple #[]) ∧ Stk w' b 1 0 (turnF f n 1 (k + 1)) n ∧ Only b w w') := turnR_is w b f n 1 (k + 1) h
  clear h
  unfold oSwap
  by_cases h1 : k < 1
  · simp only [h1, if_true]
    clear TN
    go_enter Try.func47, Try.ntmps47
    go_wp2
    go_ret
    exact ⟨rfl, HS.out, Only.refl b w⟩
  · by_cases h2 : n ≤ k
    · simp only [h1, h2, if_true, if_false]
      clear TN
      go_enter Try.func47, Try.ntmps47
      go_wp2
      go_ret
      exact ⟨rfl, HS.out, Only.refl b w⟩
    · simp only [h1, h2, if_false]
      have hk : k + 1 ≤ 4611686018427387904 := by omega
      have hk0 : 0 ≤ k := by omega
      go_enter Try.func47, Try.ntmps47
      go_wp2_with (go_at_call 58; refine (TN.out).mono ?_; rintro e v ⟨rfl, h1, h2⟩; (have HE : Hid (Stk v b 1 0 (turnF f n 1 (k + 1)) n ∧ Only b w v) := ⟨h1, h2⟩); clear h1 h2 TN)
      go_ret
      exact ⟨rfl, HE.out⟩
set_option maxHeartbeats 1000000 in
set_option maxRecDepth 100000 in
theorem exchR_is (w : World) (b : Nat) (f : Ring) (n k m : Int) (h : Stk w b 1 0 f n) (hn : n ≤ 4611686018427387904) : Calls Try.prog 48 #[.pointer (some ⟨b, 0, none⟩), .int .i64 k, .int .i64 m] w fun e w' => e = .returned (.int .i64 (oExch f n k m).e) ∧ Stk w' b 1 0 (oExch f n k m).f (oExch f n k m).n ∧ Only b w w' := by
  have cz := h.sz.1
  have HS : Hid (Stk w b 1 0 f n) := h
  have TN : Hid (Calls Try.prog 58 #[.pointer (some ⟨b, 0, none⟩), .int .i64 (k + 1), .int .i64 (k + m + 1)] w fun e w' => e = .returned (.tuple #[]) ∧ Stk w' b 1 0 (turnF f n (k + 1) (k + m + 1)) n ∧ Only b w w') := turnR_is w b f n (k + 1) (k + m + 1) h
  clear h
  unfold oExch
  by_cases h1 : k < 1
  · simp only [h1, true_or, if_true]
    clear TN
    go_enter Try.func48, Try.ntmps48
    go_wp2
    go_ret
    exact ⟨rfl, HS.out, Only.refl b w⟩
  · by_cases h2 : m < 1
    · simp only [h1, h2, or_true, if_true]
      clear TN
      go_enter Try.func48, Try.ntmps48
      go_wp2
      go_ret
      exact ⟨rfl, HS.out, Only.refl b w⟩
    · have k0 : 1 ≤ k := by omega
      have m0 : 1 ≤ m := by omega
      by_cases h3 : n ≤ k
      · have h4 : n ≤ k + m := by omega
        simp only [h1, h2, h4, or_self, if_true, if_false]
        clear TN
        go_enter Try.func48, Try.ntmps48
        go_wp2
        go_ret
        exact ⟨rfl, HS.out, Only.refl b w⟩
      · have kn : k < n := by omega
        by_cases h5 : n ≤ m
        · have h4 : n ≤ k + m := by omega
          simp only [h1, h2, h4, or_self, if_true, if_false]
          clear TN
          go_enter Try.func48, Try.ntmps48
          go_wp2
          go_ret
          exact ⟨rfl, HS.out, Only.refl b w⟩
        · have mn : m < n := by omega
          by_cases h4 : n ≤ k + m
          · simp only [h1, h2, h4, or_self, if_true, if_false]
            clear TN
            go_enter Try.func48, Try.ntmps48
            go_wp2
            go_ret
            exact ⟨rfl, HS.out, Only.refl b w⟩
          · have h6 : k + m < n := by omega
            simp only [h1, h2, h4, or_self, if_false]
            go_enter Try.func48, Try.ntmps48
            go_wp2_with (go_at_call 58; refine (TN.out).mono ?_; rintro e v ⟨rfl, h1, h2⟩; (have HE : Hid (Stk v b 1 0 (turnF f n (k + 1) (k + m + 1)) n ∧ Only b w v) := ⟨h1, h2⟩); clear h1 h2 TN)
            go_ret
            exact ⟨rfl, HE.out⟩
end Go.Proofs.Ytdddmebihkdkjaa
