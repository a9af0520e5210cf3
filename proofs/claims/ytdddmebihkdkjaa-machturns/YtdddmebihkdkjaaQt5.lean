/- MachTurns: one of its ways. -/
import Derived.Test.YtdddmebihkdkjaaQt
namespace Go.Proofs.Ytdddmebihkdkjaa
open Go.RowKit
set_option maxHeartbeats 8000000 in
set_option maxRecDepth 100000 in
theorem turns5 (w : World) (v : Value) (n k : Nat) (x : Ring) (hv : WL w v n x) (hn : n ≤ 4398046511104) (ek : min (n + 3) 1024 = k) (N M : Int) (hN : 1 ≤ N) (hN2 : N = (k : Int)) (hM : 1 ≤ M) (hM2 : (k : Int) ≤ N + M) (hk : k = 1024) : Calls Try.prog 6 #[v, .int .i64 N, .int .i64 M] w fun e w' => e = .returned (.bool true) ∧ Below w.heap.size w w' := by
  have FL : Hid (Calls Try.prog 32 #[v] w fun e w' => ∃ b v', e = .returned (.tuple #[.pointer (some ⟨b, 0, none⟩), v']) ∧ Filled w w' v' (min (n + 3) 1024) (lead x) b) := filled_is w v n x hv hn
  obtain ⟨ad, cap, rfl, _⟩ := hv
  have k3 : 3 ≤ k := by omega
  have k24 : k ≤ 1024 := by omega
  have kI : (k : Int) ≤ 1024 := by omega
  have kI3 : 3 ≤ (k : Int) := by omega
  generalize lead x = y at FL
  rw [ek] at FL
  clear ek hn
  have HN2 : Hid (N = (k : Int)) := hN2
  clear hN2
  have HK : Hid (k = 1024) := hk
  have hkI : ¬ ((k : Int) < 1024) := by omega
  clear hk
  have s1 : N ≤ (k : Int) := by have := HN2.out; omega
  have s2 : ¬ (N < (k : Int)) := by have := HN2.out; omega
  obtain ⟨q, eq⟩ : ∃ q : Nat, (k : Int) - N = (q : Int) := ⟨((k : Int) - N).toNat, by omega⟩
  have hq : q < k := by omega
  have qI : (q : Int) < (k : Int) := by omega
  have wq : IntKind.i64.wrap (q : Int) = (q : Int) := wrapI _ (by omega) (by omega)
  obtain ⟨y1, ey1⟩ : ∃ y1, y q = y1 := ⟨_, rfl⟩
  have EY1 : Hid (y q = y1) := ey1
  clear ey1
  go_enter Try.func6, Try.ntmps6
  go_upto_region 2 with (go_at_call 32; refine (FL.out).mono ?_; rintro e v1 ⟨b, v', rfl, B, f, hL, hf⟩; (have L0 : Hid (LF w v1 b B v' f (k : Int) k y) := hL); (have HF : Hid (∀ i, i < k → f i = y i) := hf); clear hL hf FL)
  obtain ⟨ao, co, rfl, how⟩ := owns_words L0.out.ow
  obtain ⟨g, rfl, _, _⟩ := how (by omega)
  clear how
  have AT : Hid (Calls Try.prog 28 #[.pointer (some ⟨b, 0, none⟩), .int .i64 N] v1 fun e w' => e = .returned (.tuple #[y1.v, .int .i64 0]) ∧ Below v1.heap.size v1 w') := by
    have h := at_is v1 b f (k : Int) N L0.out.st
    rw [show oAtW f (k : Int) N = y1 by unfold oAtW; rw [if_neg (by have := HN2.out; omega), pl_sub k q N eq (by omega), HF.out q hq]; exact EY1.out, show oAtE (k : Int) N = 0 by unfold oAtE; rw [if_neg (by omega), if_neg (by have := HN2.out; omega)]] at h
    exact h
  go_upto_region 6 with (go_at_call 28; refine (AT.out).mono ?_; rintro e v2 ⟨rfl, h1⟩; (have L1 : Hid (LF w v2 b B (.slice (some ⟨g, 0, none⟩) k co) f (k : Int) k y) := L0.out.past h1); clear h1 AT L0; unfold W4.v)
  have W1 : Hid (Wd (v2.alloc (.cells #[.int .u64 y1.a, .int .u64 y1.b, .int .u64 y1.c, .int .u64 y1.d] 30)) v2.heap.size 0 y1 ∧ v2.heap.size ≠ b) := ⟨Wd.new v2 _ y1, by have := L1.out.st.lt; omega⟩
  replace L1 : Hid (LF w (v2.alloc (.cells #[.int .u64 y1.a, .int .u64 y1.b, .int .u64 y1.c, .int .u64 y1.d] 30)) b B (.slice (some ⟨g, 0, none⟩) k co) f (k : Int) k y) := L1.out.alloc _
  generalize v2.alloc (.cells #[.int .u64 y1.a, .int .u64 y1.b, .int .u64 y1.c, .int .u64 y1.d] 30) = v3 at L1 W1 ⊢
  generalize v2.heap.size = bx at W1 ⊢
  have W2 : Hid (Wd v3.drew bx 0 y1) := W1.out.1.drew
  have L2 : Hid (LF w v3.drew b B (.slice (some ⟨g, 0, none⟩) k co) f (k : Int) k y) := L1.out.drew
  have RQ : Hid (Rd v3.drew g (q * 4) y1) := by rw [← EY1.out]; exact L2.out.inAt q hq
  clear W1 L1
  refine wp_region_held_drew (S := fun V' => Wd V' bx 0 y1 ∧ Rd V' g (q * 4) y1) (by kernel_rfl) ⟨W2.out, RQ.out⟩ (fun hHeld => ?_)
  generalize v3.drew = z0 at hHeld L2 ⊢
  refine wpAnyH_take (i := 0) (v := .int .i64 0) ov0 (by kernel_rfl) (by kernel_rfl) (by kernel_rfl) (fun _ _ _ h => h) (Or.inl ⟨by rfl, fun V' hS => ?_⟩) hHeld ?_
  · go_simp
  simp only [Act.put, List.setIfInBounds_toArray, List.set_cons_zero, List.set_cons_succ]
  refine wpAnyH_take (i := 1) (v := .bool true) ov1 (by kernel_rfl) (by kernel_rfl) (by kernel_rfl) (fun _ _ _ h => h) (Or.inl ⟨by rfl, fun V' hS => ?_⟩) hHeld ?_
  · go_simp
  simp only [Act.put, List.setIfInBounds_toArray, List.set_cons_zero, List.set_cons_succ]
  refine wpAnyH_take (i := 2) (v := .int .i64 N) ov2 (by kernel_rfl) (by kernel_rfl) (by kernel_rfl) (fun _ _ _ h => h) (Or.inl ⟨by rfl, fun V' hS => ?_⟩) hHeld ?_
  · go_simp
  simp only [Act.put, List.setIfInBounds_toArray, List.set_cons_zero, List.set_cons_succ]
  refine wpAnyH_take (i := 3) (v := .bool true) ov3 (by kernel_rfl) (by kernel_rfl) (by kernel_rfl) (fun _ _ _ h => h) (Or.inl ⟨by rfl, fun V' hS => ?_⟩) hHeld ?_
  · go_simp
  simp only [Act.put, List.setIfInBounds_toArray, List.set_cons_zero, List.set_cons_succ]
  refine wpAnyH_take (i := 4) (v := .bool true) ov4 (by kernel_rfl) (by kernel_rfl) (by kernel_rfl) (fun _ _ _ h => h) (Or.inl ⟨by rfl, fun V' hS => ?_⟩) hHeld ?_
  · go_simp
  simp only [Act.put, List.setIfInBounds_toArray, List.set_cons_zero, List.set_cons_succ]
  refine wpAnyH_take (i := 5) (v := .int .i64 N) ov5 (by kernel_rfl) (by kernel_rfl) (by kernel_rfl) (fun _ _ _ h => h) (Or.inl ⟨by rfl, fun V' hS => ?_⟩) hHeld ?_
  · go_simp
  simp only [Act.put, List.setIfInBounds_toArray, List.set_cons_zero, List.set_cons_succ]
  refine wpAnyH_take (i := 6) (v := .int .i64 (k : Int)) ov6 (by kernel_rfl) (by kernel_rfl) (by kernel_rfl) (fun _ _ _ h => h) (Or.inl ⟨by rfl, fun V' hS => ?_⟩) hHeld ?_
  · go_simp
  simp only [Act.put, List.setIfInBounds_toArray, List.set_cons_zero, List.set_cons_succ]
  refine wpAnyH_take (i := 7) (v := .bool true) ov7 (by kernel_rfl) (by kernel_rfl) (by kernel_rfl) (fun _ _ _ h => h) (Or.inl ⟨by rfl, fun V' hS => ?_⟩) hHeld ?_
  · go_simp
  simp only [Act.put, List.setIfInBounds_toArray, List.set_cons_zero, List.set_cons_succ]
  refine wpAnyH_take (i := 8) (v := .bool true) ov8 (by kernel_rfl) (by kernel_rfl) (by kernel_rfl) (fun _ _ _ h => h) (Or.inl ⟨by rfl, fun V' hS => ?_⟩) hHeld ?_
  · go_simp
  simp only [Act.put, List.setIfInBounds_toArray, List.set_cons_zero, List.set_cons_succ]
  refine wpAnyH_take (i := 9) (v := .bool false) ov9 (by kernel_rfl) (by kernel_rfl) (by kernel_rfl) (fun _ _ _ h => h) (Or.inl ⟨by rfl, fun V' hS => ?_⟩) hHeld ?_
  · go_simp
  simp only [Act.put, List.setIfInBounds_toArray, List.set_cons_zero, List.set_cons_succ]
  refine wpAnyH_take (i := 10) (v := .bool false) ov10 (by kernel_rfl) (by kernel_rfl) (by kernel_rfl) (fun _ _ _ h => h) (Or.inl ⟨by rfl, fun V' hS => ?_⟩) hHeld ?_
  · go_simp
  simp only [Act.put, List.setIfInBounds_toArray, List.set_cons_zero, List.set_cons_succ]
  refine wpAnyH_take (i := 11) (v := .int .i64 0) ov11 (by kernel_rfl) (by kernel_rfl) (by kernel_rfl) (fun _ _ _ h => h) (Or.inl ⟨by rfl, fun V' hS => ?_⟩) hHeld ?_
  · go_simp
  simp only [Act.put, List.setIfInBounds_toArray, List.set_cons_zero, List.set_cons_succ]
  refine wpAnyH_take (i := 12) (v := .bool true) ov12 (by kernel_rfl) (by kernel_rfl) (by kernel_rfl) (fun _ _ _ h => h) (Or.inl ⟨by rfl, fun V' hS => ?_⟩) hHeld ?_
  · go_simp
  simp only [Act.put, List.setIfInBounds_toArray, List.set_cons_zero, List.set_cons_succ]
  refine wpAnyH_take (i := 13) (v := .bool true) ov13 (by kernel_rfl) (by kernel_rfl) (by kernel_rfl) (fun _ _ _ h => h) (Or.inl ⟨by rfl, fun V' hS => ?_⟩) hHeld ?_
  · go_simp
  simp only [Act.put, List.setIfInBounds_toArray, List.set_cons_zero, List.set_cons_succ]
  refine wpAnyH_take (i := 14) (v := .agg #[.int .u64 y1.a, .int .u64 y1.b, .int .u64 y1.c, .int .u64 y1.d]) ov14 (by kernel_rfl) (by kernel_rfl) (by kernel_rfl) (fun _ _ _ h => h) (Or.inl ⟨by rfl, fun V' hS => ?_⟩) hHeld ?_
  · obtain ⟨c0, c1, c2, c3, _⟩ := hS.1
    go_simp
  simp only [Act.put, List.setIfInBounds_toArray, List.set_cons_zero, List.set_cons_succ]
  refine wpAnyH_take (i := 15) (v := .slice (some ⟨g, 0, none⟩) k co) ov15 (by kernel_rfl) (by kernel_rfl) (by kernel_rfl) (fun _ _ _ h => h) (Or.inl ⟨by rfl, fun V' hS => ?_⟩) hHeld ?_
  · go_simp
  simp only [Act.put, List.setIfInBounds_toArray, List.set_cons_zero, List.set_cons_succ]
  refine wpAnyH_take (i := 16) (v := .int .i64 (k : Int)) ov16 (by kernel_rfl) (by kernel_rfl) (by kernel_rfl) (fun _ _ _ h => h) (Or.inl ⟨by rfl, fun V' hS => ?_⟩) hHeld ?_
  · go_simp
  simp only [Act.put, List.setIfInBounds_toArray, List.set_cons_zero, List.set_cons_succ]
  refine wpAnyH_take (i := 17) (v := .int .i64 N) ov17 (by kernel_rfl) (by kernel_rfl) (by kernel_rfl) (fun _ _ _ h => h) (Or.inl ⟨by rfl, fun V' hS => ?_⟩) hHeld ?_
  · go_simp
  simp only [Act.put, List.setIfInBounds_toArray, List.set_cons_zero, List.set_cons_succ]
  refine wpAnyH_take (i := 18) (v := .int .i64 (q : Int)) ov18 (by kernel_rfl) (by kernel_rfl) (by kernel_rfl) (fun _ _ _ h => h) (Or.inl ⟨by rfl, fun V' hS => ?_⟩) hHeld ?_
  · go_simp
  simp only [Act.put, List.setIfInBounds_toArray, List.set_cons_zero, List.set_cons_succ]
  refine wpAnyH_take (i := 19) (v := .pointer (some ⟨g, q * 4, none⟩)) ov19 (by kernel_rfl) (by kernel_rfl) (by kernel_rfl) (fun _ _ _ h => h) (Or.inl ⟨by rfl, fun V' hS => ?_⟩) hHeld ?_
  · go_simp
  simp only [Act.put, List.setIfInBounds_toArray, List.set_cons_zero, List.set_cons_succ]
  refine wpAnyH_take (i := 20) (v := .agg #[.int .u64 y1.a, .int .u64 y1.b, .int .u64 y1.c, .int .u64 y1.d]) ov20 (by kernel_rfl) (by kernel_rfl) (by kernel_rfl) (fun _ _ _ h => h) (Or.inl ⟨by rfl, fun V' hS => ?_⟩) hHeld ?_
  · obtain ⟨c0, c1, c2, c3⟩ := hS.2
    go_simp
  simp only [Act.put, List.setIfInBounds_toArray, List.set_cons_zero, List.set_cons_succ]
  refine wpAnyH_take (i := 21) (v := .bool false) ov21 (by kernel_rfl) (by kernel_rfl) (by kernel_rfl) (fun _ _ _ h => h) (Or.inl ⟨by rfl, fun V' hS => ?_⟩) hHeld ?_
  · have hq := eqw_self y1.a y1.b y1.c y1.d V'
    go_simp
  simp only [Act.put, List.setIfInBounds_toArray, List.set_cons_zero, List.set_cons_succ]
  refine wpAnyH_take (i := 22) (v := .bool false) ov22 (by kernel_rfl) (by kernel_rfl) (by kernel_rfl) (fun _ _ _ h => h) (Or.inl ⟨by rfl, fun V' hS => ?_⟩) hHeld ?_
  · go_simp
  simp only [Act.put, List.setIfInBounds_toArray, List.set_cons_zero, List.set_cons_succ]
  refine wpAnyH_take (i := 23) (v := .bool false) ov23 (by kernel_rfl) (by kernel_rfl) (by kernel_rfl) (fun _ _ _ h => h) (Or.inl ⟨by rfl, fun V' hS => ?_⟩) hHeld ?_
  · go_simp
  simp only [Act.put, List.setIfInBounds_toArray, List.set_cons_zero, List.set_cons_succ]
  refine wpAnyH_take (i := 24) (v := .bool false) ov24 (by kernel_rfl) (by kernel_rfl) (by kernel_rfl) (fun _ _ _ h => h) (Or.inl ⟨by rfl, fun V' hS => ?_⟩) hHeld ?_
  · go_simp
  simp only [Act.put, List.setIfInBounds_toArray, List.set_cons_zero, List.set_cons_succ]
  refine wpAnyH_take (i := 25) (v := .int .i64 0) ov25 (by kernel_rfl) (by kernel_rfl) (by kernel_rfl) (fun _ _ _ h => h) (Or.inl ⟨by rfl, fun V' hS => ?_⟩) hHeld ?_
  · go_simp
  simp only [Act.put, List.setIfInBounds_toArray, List.set_cons_zero, List.set_cons_succ]
  refine wpAnyH_take (i := 26) (v := .bool false) ov26 (by kernel_rfl) (by kernel_rfl) (by kernel_rfl) (fun _ _ _ h => h) (Or.inl ⟨by rfl, fun V' hS => ?_⟩) hHeld ?_
  · go_simp
  simp only [Act.put, List.setIfInBounds_toArray, List.set_cons_zero, List.set_cons_succ]
  refine wpAnyH_take (i := 27) (v := .bool false) ov27 (by kernel_rfl) (by kernel_rfl) (by kernel_rfl) (fun _ _ _ h => h) (Or.inl ⟨by rfl, fun V' hS => ?_⟩) hHeld ?_
  · go_simp
  simp only [Act.put, List.setIfInBounds_toArray, List.set_cons_zero, List.set_cons_succ]
  refine wpAnyH_take (i := 28) (v := undef) ov28 (by kernel_rfl) (by kernel_rfl) (by kernel_rfl) (fun _ _ _ h => h) (Or.inr ⟨by rfl, rfl⟩) hHeld ?_
  simp only [Act.put, List.setIfInBounds_toArray, List.set_cons_zero, List.set_cons_succ]
  refine wpAnyH_take (i := 29) (v := undef) ov29 (by kernel_rfl) (by kernel_rfl) (by kernel_rfl) (fun _ _ _ h => h) (Or.inr ⟨by rfl, rfl⟩) hHeld ?_
  simp only [Act.put, List.setIfInBounds_toArray, List.set_cons_zero, List.set_cons_succ]
  refine wpAnyH_take (i := 30) (v := undef) ov30 (by kernel_rfl) (by kernel_rfl) (by kernel_rfl) (fun _ _ _ h => h) (Or.inr ⟨by rfl, rfl⟩) hHeld ?_
  simp only [Act.put, List.setIfInBounds_toArray, List.set_cons_zero, List.set_cons_succ]
  refine wpAnyH_take (i := 31) (v := .bool false) ov31 (by kernel_rfl) (by kernel_rfl) (by kernel_rfl) (fun _ _ _ h => h) (Or.inl ⟨by rfl, fun V' hS => ?_⟩) hHeld ?_
  · go_simp
  simp only [Act.put, List.setIfInBounds_toArray, List.set_cons_zero, List.set_cons_succ]
  refine wpAnyH_take (i := 32) (v := .bool false) ov32 (by kernel_rfl) (by kernel_rfl) (by kernel_rfl) (fun _ _ _ h => h) (Or.inl ⟨by rfl, fun V' hS => ?_⟩) hHeld ?_
  · go_simp
  simp only [Act.put, List.setIfInBounds_toArray, List.set_cons_zero, List.set_cons_succ]
  refine wpAnyH_done (by kernel_rfl) ?_ _
  clear hHeld W2 RQ
  have SW : Hid (Calls Try.prog 33 #[.pointer (some ⟨b, 0, none⟩), .int .i64 N] z0 fun e w' => e = .returned (.int .i64 90) ∧ Stk w' b 0 4096 f (k : Int) ∧ Only b z0 w') := by
    have h := swap_is z0 b f (k : Int) N L2.out.st (by omega)
    rw [show oSwap f (k : Int) N = ⟨90, f, (k : Int)⟩ by unfold oSwap; rw [if_neg (by omega), if_pos (by have := HN2.out; omega)]] at h
    exact h
  have EX : Hid (∀ W, Stk W b 0 4096 f (k : Int) → Calls Try.prog 35 #[.pointer (some ⟨b, 0, none⟩), .int .i64 N, .int .i64 M] W fun e w' => e = .returned (.int .i64 90) ∧ Stk w' b 0 4096 f (k : Int) ∧ Only b W w') := fun W hW => by
    have h := exch_is W b f (k : Int) N M hW (by omega)
    rw [show oExch f (k : Int) N M = ⟨90, f, (k : Int)⟩ by unfold oExch; rw [if_neg (by omega), if_pos (by have := HN2.out; omega)]] at h
    exact h
  have WS : Hid (∀ W, Stk W b 0 4096 f (k : Int) → Calls Try.prog 30 #[.pointer (some ⟨b, 0, none⟩)] W fun e w' => e = .returned (.slice (some ⟨W.heap.size, 0, none⟩) k k) ∧ WL w' (.slice (some ⟨W.heap.size, 0, none⟩) k k) k y ∧ Below W.heap.size W w') := fun W hW => by
    have h := words_is W b f (k : Int) hW
    rw [cnt_nat k k24] at h
    exact h.mono fun e w' ⟨h1, h2, h3⟩ => ⟨h1, h2.wl.ext (told_nat f y k k24 HF.out), h3⟩
  have SM : Hid (∀ W v1, WL W v1 k y → WL W (.slice (some ⟨g, 0, none⟩) k co) k y → Calls Try.prog 29 #[v1, (.slice (some ⟨g, 0, none⟩) k co)] W fun e w' => e = .returned (.bool true) ∧ Below W.heap.size W w') := fun W v1 h1 h2 => sameWords_is W v1 _ k y (by omega) h1 h2
  go_upto_region 28 with (first | (go_at_call 33; refine (SW.out).mono ?_; rintro e v4 ⟨rfl, h1, h2⟩; (have L3 : Hid (LF w v4 b B (.slice (some ⟨g, 0, none⟩) k co) f (k : Int) k y) := L2.out.call h1 h2); clear h1 h2 SW L2) | (go_at_call 35; refine (EX.out _ L3.out.st).mono ?_; rintro e v10 ⟨rfl, h1, h2⟩; (have L8 : Hid (LF w v10 b B (.slice (some ⟨g, 0, none⟩) k co) f (k : Int) k y) := L3.out.call h1 h2); clear h1 h2 EX L3) | (go_at_call 30; refine (WS.out _ L8.out.st).mono ?_; rintro e v16 ⟨rfl, h1, h2⟩; (have L13 : Hid (LF w v16 b B (.slice (some ⟨g, 0, none⟩) k co) f (k : Int) k y) := L8.out.past h2); (have V1 : Hid (WL v16 (.slice (some ⟨v10.heap.size, 0, none⟩) k k) k y) := h1); clear h1 h2 L8) | (go_at_call 29; refine (SM.out _ _ V1.out (owns_wl L13.out.ow)).mono ?_; rintro e v17 ⟨rfl, h1⟩; (have L14 : Hid (LF w v17 b B (.slice (some ⟨g, 0, none⟩) k co) f (k : Int) k y) := L13.out.past h1); clear h1 L13 V1))
  have DU : Hid (Calls Try.prog 36 #[.pointer (some ⟨b, 0, none⟩), .int .i64 N] v17 fun e w' => e = .returned (.int .i64 91) ∧ Stk w' b 0 4096 f (k : Int) ∧ Only b v17 w') := by
    have h := dup_is v17 b f (k : Int) N L14.out.st
    rw [show oDup f (k : Int) N = ⟨91, f, (k : Int)⟩ by unfold oDup oPush; rw [if_neg (by omega), if_neg (by have := HN2.out; omega), if_pos (by have := HK.out; omega)]] at h
    exact h
  go_wp2_with (first | (go_at_call 36; refine (DU.out).mono ?_; rintro e v18 ⟨rfl, h1, h2⟩; (have L15 : Hid (LF w v18 b B (.slice (some ⟨g, 0, none⟩) k co) f (k : Int) k y) := L14.out.call h1 h2); clear h1 h2 DU L14) | (go_at_call 30; refine (WS.out _ L15.out.st).mono ?_; rintro e v21 ⟨rfl, h1, h2⟩; (have L18 : Hid (LF w v21 b B (.slice (some ⟨g, 0, none⟩) k co) f (k : Int) k y) := L15.out.past h2); (have V2 : Hid (WL v21 (.slice (some ⟨v18.heap.size, 0, none⟩) k k) k y) := h1); clear h1 h2 L15) | (go_at_call 29; refine (SM.out _ _ V2.out (owns_wl L18.out.ow)).mono ?_; rintro e v22 ⟨rfl, h1⟩; (have L19 : Hid (Below w.heap.size w v22) := L18.out.bel.trans (h1.mono L18.out.bel.size)); clear h1 L18 V2) | (go_at_call 12; refine (awake_is _).mono ?_; rintro e v23 ⟨rfl, h1⟩; (have HE : Hid (Below w.heap.size w v23) := L19.out.trans (h1.mono L19.out.size)); clear h1))
  go_ret
  exact ⟨rfl, HE.out⟩
end Go.Proofs.Ytdddmebihkdkjaa
