/- Return stacks of both kinds: the calls that look. -/
import Derived.Test.YtdddmebihkdkjaaYb
namespace Go.Proofs.Ytdddmebihkdkjaa
open Go.RowKit
structure OutP where
  e : Int
  f : PRing
  n : Int
def pPush (f : PRing) (n : Int) (x : P2) : OutP := if 1024 ≤ n then ⟨91, f, n⟩ else ⟨0, pput f (pl n) x, wrap64 (n + 1)⟩
def pPopW (f : PRing) (n : Int) : P2 := if n < 1 then q0 else f (pl (n - 1))
def pPop (f : PRing) (n : Int) : OutP := if n < 1 then ⟨90, f, n⟩ else ⟨0, f, wrap64 (n - 1)⟩
set_option maxHeartbeats 1000000 in
set_option maxRecDepth 100000 in
theorem rpush_is (w : World) (b : Nat) (f : PRing) (n : Int) (h : Rtn w b 0 2048 f n) (x : P2) : Calls Try.prog 15 #[.pointer (some ⟨b, 0, none⟩), x.v] w fun e w' => e = .returned (.int .i64 (pPush f n x).e) ∧ Rtn w' b 0 2048 (pPush f n x).f (pPush f n x).n ∧ Only b w w' := by
  have cz := h.sz.1
  have hb := h.lt
  have hX : Hid (Rtn (w.alloc x.o) b 0 2048 f n ∧ Only b w (w.alloc x.o)) := ⟨h.alloc _, (Only.refl b w).alloc _⟩
  unfold pPush
  by_cases hn : 1024 ≤ n
  · simp only [if_pos hn]
    clear h
    unfold P2.v
    go_enter Try.func15, Try.ntmps15
    go_wp2
    go_ret
    exact ⟨rfl, hX.out⟩
  · simp only [if_neg hn]
    have PTT : Hid (Calls Try.prog 19 #[.pointer (some ⟨b, 0, none⟩), x.v] (w.alloc x.o) fun e w' => e = .returned (.tuple #[]) ∧ Rtn w' b 0 2048 (pput f (pl n) x) (wrap64 (n + 1)) ∧ Only b (w.alloc x.o) w') := rput_is _ b f n (h.alloc _) x
    clear h
    unfold P2.v
    go_enter Try.func15, Try.ntmps15
    go_wp2_with (go_at_call 19; refine (PTT.out).mono ?_; rintro e v ⟨rfl, h1, h2⟩; (have HE : Hid (Rtn v b 0 2048 (pput f (pl n) x) (wrap64 (n + 1)) ∧ Only b w v) := ⟨h1, hX.out.2.trans h2⟩); clear h1 h2 PTT)
    go_ret
    exact ⟨rfl, HE.out⟩
set_option maxHeartbeats 1000000 in
set_option maxRecDepth 100000 in
theorem rpop_is (w : World) (b : Nat) (f : PRing) (n : Int) (h : Rtn w b 0 2048 f n) : Calls Try.prog 17 #[.pointer (some ⟨b, 0, none⟩)] w fun e w' => e = .returned (.tuple #[(pPopW f n).v, .int .i64 (pPop f n).e]) ∧ Rtn w' b 0 2048 (pPop f n).f (pPop f n).n ∧ Only b w w' := by
  have cz := h.sz.1
  have hb := h.lt
  have hX : Hid (Rtn (w.alloc q0.o) b 0 2048 f n ∧ Only b w (w.alloc q0.o) ∧ Pd (w.alloc q0.o) w.heap.size 0 q0) := ⟨h.alloc _, (Only.refl b w).alloc _, Pd.new w q0⟩
  unfold pPop pPopW
  by_cases hn : n < 1
  · simp only [if_pos hn]
    clear h
    go_enter Try.func17, Try.ntmps17
    go_wp2
    refine bodyPost_ret (v := .tuple #[q0.v, .int .i64 90]) ?_ rfl ⟨rfl, hX.out.1, hX.out.2.1⟩
    exact results_ct Try.results17 _ _ _ ⟨w.heap.size, 0, none⟩ rfl rfl (loadPd hX.out.2.2)
  · simp only [if_neg hn]
    have TKK : Hid (Calls Try.prog 21 #[.pointer (some ⟨b, 0, none⟩)] (w.alloc q0.o) fun e w' => e = .returned (f (pl (n - 1))).v ∧ Rtn w' b 0 2048 f (wrap64 (n - 1)) ∧ Only b (w.alloc q0.o) w') := rtake_is _ b f n (h.alloc _)
    generalize f (pl (n - 1)) = x at *
    clear h
    go_enter Try.func17, Try.ntmps17
    go_wp2_with (go_at_call 21; refine (TKK.out).mono ?_; rintro e v ⟨rfl, h1, h2⟩; (have HW : Pd v w.heap.size 0 q0 := hX.out.2.2.only h2 (by omega)); (have HE : Hid (Pd (put2 v w.heap.size 0 x) w.heap.size 0 x ∧ Rtn (put2 v w.heap.size 0 x) b 0 2048 f (wrap64 (n - 1)) ∧ Only b w (put2 v w.heap.size 0 x)) := ⟨HW.put x, h1.putS _ (by omega) _ _, only_new2 (hX.out.2.1.trans h2) (Nat.le_refl _) _ _⟩); clear h1 h2 TKK; obtain ⟨c0, c1, g0, g1⟩ := HW; unfold P2.v)
    refine bodyPost_ret (v := .tuple #[x.v, .int .i64 0]) ?_ rfl ⟨rfl, HE.out.2⟩
    exact results_ct Try.results17 _ _ _ ⟨w.heap.size, 0, none⟩ rfl rfl (loadPd HE.out.1)
set_option maxHeartbeats 1000000 in
set_option maxRecDepth 100000 in
theorem rpushR_is (w : World) (b : Nat) (f : PRing) (n : Int) (h : Rtn w b 1 0 f n) (x : P2) : Calls Try.prog 16 #[.pointer (some ⟨b, 0, none⟩), x.v] w fun e w' => e = .returned (.int .i64 (pPush f n x).e) ∧ Rtn w' b 1 0 (pPush f n x).f (pPush f n x).n ∧ Only b w w' := by
  have cz := h.sz.1
  have hb := h.lt
  have hX : Hid (Rtn (w.alloc x.o) b 1 0 f n ∧ Only b w (w.alloc x.o)) := ⟨h.alloc _, (Only.refl b w).alloc _⟩
  unfold pPush
  by_cases hn : 1024 ≤ n
  · simp only [if_pos hn]
    clear h
    unfold P2.v
    go_enter Try.func16, Try.ntmps16
    go_wp2
    go_ret
    exact ⟨rfl, hX.out⟩
  · simp only [if_neg hn]
    have PTT : Hid (Calls Try.prog 20 #[.pointer (some ⟨b, 0, none⟩), x.v] (w.alloc x.o) fun e w' => e = .returned (.tuple #[]) ∧ Rtn w' b 1 0 (pput f (pl n) x) (wrap64 (n + 1)) ∧ Only b (w.alloc x.o) w') := rputR_is _ b f n (h.alloc _) x
    clear h
    unfold P2.v
    go_enter Try.func16, Try.ntmps16
    go_wp2_with (go_at_call 20; refine (PTT.out).mono ?_; rintro e v ⟨rfl, h1, h2⟩; (have HE : Hid (Rtn v b 1 0 (pput f (pl n) x) (wrap64 (n + 1)) ∧ Only b w v) := ⟨h1, hX.out.2.trans h2⟩); clear h1 h2 PTT)
    go_ret
    exact ⟨rfl, HE.out⟩
set_option maxHeartbeats 1000000 in
set_option maxRecDepth 100000 in
theorem rpopR_is (w : World) (b : Nat) (f : PRing) (n : Int) (h : Rtn w b 1 0 f n) : Calls Try.prog 18 #[.pointer (some ⟨b, 0, none⟩)] w fun e w' => e = .returned (.tuple #[(pPopW f n).v, .int .i64 (pPop f n).e]) ∧ Rtn w' b 1 0 (pPop f n).f (pPop f n).n ∧ Only b w w' := by
  have cz := h.sz.1
  have hb := h.lt
  have hX : Hid (Rtn (w.alloc q0.o) b 1 0 f n ∧ Only b w (w.alloc q0.o) ∧ Pd (w.alloc q0.o) w.heap.size 0 q0) := ⟨h.alloc _, (Only.refl b w).alloc _, Pd.new w q0⟩
  unfold pPop pPopW
  by_cases hn : n < 1
  · simp only [if_pos hn]
    clear h
    go_enter Try.func18, Try.ntmps18
    go_wp2
    refine bodyPost_ret (v := .tuple #[q0.v, .int .i64 90]) ?_ rfl ⟨rfl, hX.out.1, hX.out.2.1⟩
    exact results_ct Try.results18 _ _ _ ⟨w.heap.size, 0, none⟩ rfl rfl (loadPd hX.out.2.2)
  · simp only [if_neg hn]
    have TKK : Hid (Calls Try.prog 22 #[.pointer (some ⟨b, 0, none⟩)] (w.alloc q0.o) fun e w' => e = .returned (f (pl (n - 1))).v ∧ Rtn w' b 1 0 f (wrap64 (n - 1)) ∧ Only b (w.alloc q0.o) w') := rtakeR_is _ b f n (h.alloc _)
    generalize f (pl (n - 1)) = x at *
    clear h
    go_enter Try.func18, Try.ntmps18
    go_wp2_with (go_at_call 22; refine (TKK.out).mono ?_; rintro e v ⟨rfl, h1, h2⟩; (have HW : Pd v w.heap.size 0 q0 := hX.out.2.2.only h2 (by omega)); (have HE : Hid (Pd (put2 v w.heap.size 0 x) w.heap.size 0 x ∧ Rtn (put2 v w.heap.size 0 x) b 1 0 f (wrap64 (n - 1)) ∧ Only b w (put2 v w.heap.size 0 x)) := ⟨HW.put x, h1.putS _ (by omega) _ _, only_new2 (hX.out.2.1.trans h2) (Nat.le_refl _) _ _⟩); clear h1 h2 TKK; obtain ⟨c0, c1, g0, g1⟩ := HW; unfold P2.v)
    refine bodyPost_ret (v := .tuple #[x.v, .int .i64 0]) ?_ rfl ⟨rfl, HE.out.2⟩
    exact results_ct Try.results18 _ _ _ ⟨w.heap.size, 0, none⟩ rfl rfl (loadPd HE.out.1)
theorem eqI_run (k : Nat) (x y : Int) (W : World) : Sem.run Try.prog (Op.equalIn (k+1) 3 (.int .i64 x) (.int .i64 y)) W = .ok (x == y) W := by
  simp [Op.equalIn, run_underlying Try.underlying3]
end Go.Proofs.Ytdddmebihkdkjaa
