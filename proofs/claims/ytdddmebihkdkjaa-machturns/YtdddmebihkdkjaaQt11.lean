/- MachTurns: one of its ways. -/
import Derived.Test.YtdddmebihkdkjaaQt
namespace Go.Proofs.Ytdddmebihkdkjaa
open Go.RowKit
set_option maxHeartbeats 8000000 in
set_option maxRecDepth 100000 in
theorem turns11 (w : World) (v : Value) (n k : Nat) (x : Ring) (hv : WL w v n x) (hn : n ≤ 4398046511104) (ek : min (n + 3) 1024 = k) (N M : Int) (hN : 1 ≤ N) (hN2 : N < (k : Int)) (hM : 1 ≤ M) (hM2 : N + M < (k : Int)) (hk : k = 1024) : Calls Try.prog 6 #[v, .int .i64 N, .int .i64 M] w fun e w' => e = .returned (.bool true) ∧ Below w.heap.size w w' := by
  have FL : Hid (Calls Try.prog 32 #[v] w fun e w' => ∃ b v', e = .returned (.tuple #[.pointer (some ⟨b, 0, none⟩), v']) ∧ Filled w w' v' (min (n + 3) 1024) (lead x) b) := filled_is w v n x hv hn
  obtain ⟨ad, cap, rfl, _⟩ := hv
  have k3 : 3 ≤ k := by omega
  have k24 : k ≤ 1024 := by omega
  have kI : (k : Int) ≤ 1024 := by omega
  have kI3 : 3 ≤ (k : Int) := by omega
  generalize lead x = y at FL
  rw [ek] at FL
  clear ek hn
  have HK : Hid (k = 1024) := hk
  have hkI : ¬ ((k : Int) < 1024) := by omega
  clear hk
  have s1 : N ≤ (k : Int) := by omega
  obtain ⟨q, eq⟩ : ∃ q : Nat, (k : Int) - N = (q : Int) := ⟨((k : Int) - N).toNat, by omega⟩
  have hq : q < k := by omega
  have qI : (q : Int) < (k : Int) := by omega
  have wq : IntKind.i64.wrap (q : Int) = (q : Int) := wrapI _ (by omega) (by omega)
  obtain ⟨y1, ey1⟩ : ∃ y1, y q = y1 := ⟨_, rfl⟩
  have EY1 : Hid (y q = y1) := ey1
  clear ey1
  go_enter Try.func6, Try.ntmps6
  go_upto_region 2 with (go_at_call 32; refine (FL.out).mono ?_; rintro e v1 ⟨b, v', rfl, B, f, hL, hf⟩; (have L0 : Hid (LF w v1 b B v' f (k : Int) k y) := hL); (have HF : Hid (∀ i, i < k → f i = y i) := hf); clear hL hf FL)
  obtain ⟨ao, co, rfl, how⟩ := owns_words L0.out.ow
  obtain ⟨g, rfl, _, _⟩ := how (by omega)
  clear how
  have AT : Hid (Calls Try.prog 28 #[.pointer (some ⟨b, 0, none⟩), .int .i64 N] v1 fun e w' => e = .returned (.tuple #[y1.v, .int .i64 0]) ∧ Below v1.heap.size v1 w') := by
    have h := at_is v1 b f (k : Int) N L0.out.st
    rw [show oAtW f (k : Int) N = y1 by unfold oAtW; rw [if_neg (by omega), pl_sub k q N eq (by omega), HF.out q hq]; exact EY1.out, show oAtE (k : Int) N = 0 by unfold oAtE; rw [if_neg (by omega), if_neg (by omega)]] at h
    exact h
  go_upto_region 6 with (go_at_call 28; refine (AT.out).mono ?_; rintro e v2 ⟨rfl, h1⟩; (have L1 : Hid (LF w v2 b B (.slice (some ⟨g, 0, none⟩) k co) f (k : Int) k y) := L0.out.past h1); clear h1 AT L0; unfold W4.v)
  have W1 : Hid (Wd (v2.alloc (.cells #[.int .u64 y1.a, .int .u64 y1.b, .int .u64 y1.c, .int .u64 y1.d] 30)) v2.heap.size 0 y1 ∧ v2.heap.size ≠ b) := ⟨Wd.new v2 _ y1, by have := L1.out.st.lt; omega⟩
  replace L1 : Hid (LF w (v2.alloc (.cells #[.int .u64 y1.a, .int .u64 y1.b, .int .u64 y1.c, .int .u64 y1.d] 30)) b B (.slice (some ⟨g, 0, none⟩) k co) f (k : Int) k y) := L1.out.alloc _
  generalize v2.alloc (.cells #[.int .u64 y1.a, .int .u64 y1.b, .int .u64 y1.c, .int .u64 y1.d] 30) = v3 at L1 W1 ⊢
  generalize v2.heap.size = bx at W1 ⊢
  have W2 : Hid (Wd v3.drew bx 0 y1) := W1.out.1.drew
  have L2 : Hid (LF w v3.drew b B (.slice (some ⟨g, 0, none⟩) k co) f (k : Int) k y) := L1.out.drew
  have RQ : Hid (Rd v3.drew g (q * 4) y1) := by rw [← EY1.out]; exact L2.out.inAt q hq
  clear W1 L1
  refine wp_region_held_drew (S := fun V' => Wd V' bx 0 y1 ∧ Rd V' g (q * 4) y1) (by kernel_rfl) ⟨W2.out, RQ.out⟩ (fun hHeld => ?_)
  generalize v3.drew = z0 at hHeld L2 ⊢
  refine wpAnyH_take (i := 0) (v := .int .i64 0) ov0 (by kernel_rfl) (by kernel_rfl) (by kernel_rfl) (fun _ _ _ h => h) (Or.inl ⟨by rfl, fun V' hS => ?_⟩) hHeld ?_
  · go_simp
  simp only [Act.put, List.setIfInBounds_toArray, List.set_cons_zero, List.set_cons_succ]
  refine wpAnyH_take (i := 1) (v := .bool true) ov1 (by kernel_rfl) (by kernel_rfl) (by kernel_rfl) (fun _ _ _ h => h) (Or.inl ⟨by rfl, fun V' hS => ?_⟩) hHeld ?_
  · go_simp
  simp only [Act.put, List.setIfInBounds_toArray, List.set_cons_zero, List.set_cons_succ]
  refine wpAnyH_take (i := 2) (v := .int .i64 N) ov2 (by kernel_rfl) (by kernel_rfl) (by kernel_rfl) (fun _ _ _ h => h) (Or.inl ⟨by rfl, fun V' hS => ?_⟩) hHeld ?_
  · go_simp
  simp only [Act.put, List.setIfInBounds_toArray, List.set_cons_zero, List.set_cons_succ]
  refine wpAnyH_take (i := 3) (v := .bool true) ov3 (by kernel_rfl) (by kernel_rfl) (by kernel_rfl) (fun _ _ _ h => h) (Or.inl ⟨by rfl, fun V' hS => ?_⟩) hHeld ?_
  · go_simp
  simp only [Act.put, List.setIfInBounds_toArray, List.set_cons_zero, List.set_cons_succ]
  refine wpAnyH_take (i := 4) (v := .bool true) ov4 (by kernel_rfl) (by kernel_rfl) (by kernel_rfl) (fun _ _ _ h => h) (Or.inl ⟨by rfl, fun V' hS => ?_⟩) hHeld ?_
  · go_simp
  simp only [Act.put, List.setIfInBounds_toArray, List.set_cons_zero, List.set_cons_succ]
  refine wpAnyH_take (i := 5) (v := .int .i64 N) ov5 (by kernel_rfl) (by kernel_rfl) (by kernel_rfl) (fun _ _ _ h => h) (Or.inl ⟨by rfl, fun V' hS => ?_⟩) hHeld ?_
  · go_simp
  simp only [Act.put, List.setIfInBounds_toArray, List.set_cons_zero, List.set_cons_succ]
  refine wpAnyH_take (i := 6) (v := .int .i64 (k : Int)) ov6 (by kernel_rfl) (by kernel_rfl) (by kernel_rfl) (fun _ _ _ h => h) (Or.inl ⟨by rfl, fun V' hS => ?_⟩) hHeld ?_
  · go_simp
  simp only [Act.put, List.setIfInBounds_toArray, List.set_cons_zero, List.set_cons_succ]
  refine wpAnyH_take (i := 7) (v := .bool true) ov7 (by kernel_rfl) (by kernel_rfl) (by kernel_rfl) (fun _ _ _ h => h) (Or.inl ⟨by rfl, fun V' hS => ?_⟩) hHeld ?_
  · go_simp
  simp only [Act.put, List.setIfInBounds_toArray, List.set_cons_zero, List.set_cons_succ]
  refine wpAnyH_take (i := 8) (v := .bool true) ov8 (by kernel_rfl) (by kernel_rfl) (by kernel_rfl) (fun _ _ _ h => h) (Or.inl ⟨by rfl, fun V' hS => ?_⟩) hHeld ?_
  · go_simp
  simp only [Act.put, List.setIfInBounds_toArray, List.set_cons_zero, List.set_cons_succ]
  refine wpAnyH_take (i := 9) (v := .bool false) ov9 (by kernel_rfl) (by kernel_rfl) (by kernel_rfl) (fun _ _ _ h => h) (Or.inl ⟨by rfl, fun V' hS => ?_⟩) hHeld ?_
  · go_simp
  simp only [Act.put, List.setIfInBounds_toArray, List.set_cons_zero, List.set_cons_succ]
  refine wpAnyH_take (i := 10) (v := .bool false) ov10 (by kernel_rfl) (by kernel_rfl) (by kernel_rfl) (fun _ _ _ h => h) (Or.inl ⟨by rfl, fun V' hS => ?_⟩) hHeld ?_
  · go_simp
  simp only [Act.put, List.setIfInBounds_toArray, List.set_cons_zero, List.set_cons_succ]
  refine wpAnyH_take (i := 11) (v := .int .i64 0) ov11 (by kernel_rfl) (by kernel_rfl) (by kernel_rfl) (fun _ _ _ h => h) (Or.inl ⟨by rfl, fun V' hS => ?_⟩) hHeld ?_
  · go_simp
  simp only [Act.put, List.setIfInBounds_toArray, List.set_cons_zero, List.set_cons_succ]
  refine wpAnyH_take (i := 12) (v := .bool true) ov12 (by kernel_rfl) (by kernel_rfl) (by kernel_rfl) (fun _ _ _ h => h) (Or.inl ⟨by rfl, fun V' hS => ?_⟩) hHeld ?_
  · go_simp
  simp only [Act.put, List.setIfInBounds_toArray, List.set_cons_zero, List.set_cons_succ]
  refine wpAnyH_take (i := 13) (v := .bool true) ov13 (by kernel_rfl) (by kernel_rfl) (by kernel_rfl) (fun _ _ _ h => h) (Or.inl ⟨by rfl, fun V' hS => ?_⟩) hHeld ?_
  · go_simp
  simp only [Act.put, List.setIfInBounds_toArray, List.set_cons_zero, List.set_cons_succ]
  refine wpAnyH_take (i := 14) (v := .agg #[.int .u64 y1.a, .int .u64 y1.b, .int .u64 y1.c, .int .u64 y1.d]) ov14 (by kernel_rfl) (by kernel_rfl) (by kernel_rfl) (fun _ _ _ h => h) (Or.inl ⟨by rfl, fun V' hS => ?_⟩) hHeld ?_
  · obtain ⟨c0, c1, c2, c3, _⟩ := hS.1
    go_simp
  simp only [Act.put, List.setIfInBounds_toArray, List.set_cons_zero, List.set_cons_succ]
  refine wpAnyH_take (i := 15) (v := .slice (some ⟨g, 0, none⟩) k co) ov15 (by kernel_rfl) (by kernel_rfl) (by kernel_rfl) (fun _ _ _ h => h) (Or.inl ⟨by rfl, fun V' hS => ?_⟩) hHeld ?_
  · go_simp
  simp only [Act.put, List.setIfInBounds_toArray, List.set_cons_zero, List.set_cons_succ]
  refine wpAnyH_take (i := 16) (v := .int .i64 (k : Int)) ov16 (by kernel_rfl) (by kernel_rfl) (by kernel_rfl) (fun _ _ _ h => h) (Or.inl ⟨by rfl, fun V' hS => ?_⟩) hHeld ?_
  · go_simp
  simp only [Act.put, List.setIfInBounds_toArray, List.set_cons_zero, List.set_cons_succ]
  refine wpAnyH_take (i := 17) (v := .int .i64 N) ov17 (by kernel_rfl) (by kernel_rfl) (by kernel_rfl) (fun _ _ _ h => h) (Or.inl ⟨by rfl, fun V' hS => ?_⟩) hHeld ?_
  · go_simp
  simp only [Act.put, List.setIfInBounds_toArray, List.set_cons_zero, List.set_cons_succ]
  refine wpAnyH_take (i := 18) (v := .int .i64 (q : Int)) ov18 (by kernel_rfl) (by kernel_rfl) (by kernel_rfl) (fun _ _ _ h => h) (Or.inl ⟨by rfl, fun V' hS => ?_⟩) hHeld ?_
  · go_simp
  simp only [Act.put, List.setIfInBounds_toArray, List.set_cons_zero, List.set_cons_succ]
  refine wpAnyH_take (i := 19) (v := .pointer (some ⟨g, q * 4, none⟩)) ov19 (by kernel_rfl) (by kernel_rfl) (by kernel_rfl) (fun _ _ _ h => h) (Or.inl ⟨by rfl, fun V' hS => ?_⟩) hHeld ?_
  · go_simp
  simp only [Act.put, List.setIfInBounds_toArray, List.set_cons_zero, List.set_cons_succ]
  refine wpAnyH_take (i := 20) (v := .agg #[.int .u64 y1.a, .int .u64 y1.b, .int .u64 y1.c, .int .u64 y1.d]) ov20 (by kernel_rfl) (by kernel_rfl) (by kernel_rfl) (fun _ _ _ h => h) (Or.inl ⟨by rfl, fun V' hS => ?_⟩) hHeld ?_
  · obtain ⟨c0, c1, c2, c3⟩ := hS.2
    go_simp
  simp only [Act.put, List.setIfInBounds_toArray, List.set_cons_zero, List.set_cons_succ]
  refine wpAnyH_take (i := 21) (v := .bool false) ov21 (by kernel_rfl) (by kernel_rfl) (by kernel_rfl) (fun _ _ _ h => h) (Or.inl ⟨by rfl, fun V' hS => ?_⟩) hHeld ?_
  · have hq := eqw_self y1.a y1.b y1.c y1.d V'
    go_simp
  simp only [Act.put, List.setIfInBounds_toArray, List.set_cons_zero, List.set_cons_succ]
  refine wpAnyH_take (i := 22) (v := .bool false) ov22 (by kernel_rfl) (by kernel_rfl) (by kernel_rfl) (fun _ _ _ h => h) (Or.inl ⟨by rfl, fun V' hS => ?_⟩) hHeld ?_
  · go_simp
  simp only [Act.put, List.setIfInBounds_toArray, List.set_cons_zero, List.set_cons_succ]
  refine wpAnyH_take (i := 23) (v := .bool false) ov23 (by kernel_rfl) (by kernel_rfl) (by kernel_rfl) (fun _ _ _ h => h) (Or.inl ⟨by rfl, fun V' hS => ?_⟩) hHeld ?_
  · go_simp
  simp only [Act.put, List.setIfInBounds_toArray, List.set_cons_zero, List.set_cons_succ]
  refine wpAnyH_take (i := 24) (v := .bool false) ov24 (by kernel_rfl) (by kernel_rfl) (by kernel_rfl) (fun _ _ _ h => h) (Or.inl ⟨by rfl, fun V' hS => ?_⟩) hHeld ?_
  · go_simp
  simp only [Act.put, List.setIfInBounds_toArray, List.set_cons_zero, List.set_cons_succ]
  refine wpAnyH_take (i := 25) (v := .int .i64 0) ov25 (by kernel_rfl) (by kernel_rfl) (by kernel_rfl) (fun _ _ _ h => h) (Or.inl ⟨by rfl, fun V' hS => ?_⟩) hHeld ?_
  · go_simp
  simp only [Act.put, List.setIfInBounds_toArray, List.set_cons_zero, List.set_cons_succ]
  refine wpAnyH_take (i := 26) (v := .bool false) ov26 (by kernel_rfl) (by kernel_rfl) (by kernel_rfl) (fun _ _ _ h => h) (Or.inl ⟨by rfl, fun V' hS => ?_⟩) hHeld ?_
  · go_simp
  simp only [Act.put, List.setIfInBounds_toArray, List.set_cons_zero, List.set_cons_succ]
  refine wpAnyH_take (i := 27) (v := .bool false) ov27 (by kernel_rfl) (by kernel_rfl) (by kernel_rfl) (fun _ _ _ h => h) (Or.inl ⟨by rfl, fun V' hS => ?_⟩) hHeld ?_
  · go_simp
  simp only [Act.put, List.setIfInBounds_toArray, List.set_cons_zero, List.set_cons_succ]
  refine wpAnyH_take (i := 28) (v := undef) ov28 (by kernel_rfl) (by kernel_rfl) (by kernel_rfl) (fun _ _ _ h => h) (Or.inr ⟨by rfl, rfl⟩) hHeld ?_
  simp only [Act.put, List.setIfInBounds_toArray, List.set_cons_zero, List.set_cons_succ]
  refine wpAnyH_take (i := 29) (v := undef) ov29 (by kernel_rfl) (by kernel_rfl) (by kernel_rfl) (fun _ _ _ h => h) (Or.inr ⟨by rfl, rfl⟩) hHeld ?_
  simp only [Act.put, List.setIfInBounds_toArray, List.set_cons_zero, List.set_cons_succ]
  refine wpAnyH_take (i := 30) (v := undef) ov30 (by kernel_rfl) (by kernel_rfl) (by kernel_rfl) (fun _ _ _ h => h) (Or.inr ⟨by rfl, rfl⟩) hHeld ?_
  simp only [Act.put, List.setIfInBounds_toArray, List.set_cons_zero, List.set_cons_succ]
  refine wpAnyH_take (i := 31) (v := .bool false) ov31 (by kernel_rfl) (by kernel_rfl) (by kernel_rfl) (fun _ _ _ h => h) (Or.inl ⟨by rfl, fun V' hS => ?_⟩) hHeld ?_
  · go_simp
  simp only [Act.put, List.setIfInBounds_toArray, List.set_cons_zero, List.set_cons_succ]
  refine wpAnyH_take (i := 32) (v := .bool false) ov32 (by kernel_rfl) (by kernel_rfl) (by kernel_rfl) (fun _ _ _ h => h) (Or.inl ⟨by rfl, fun V' hS => ?_⟩) hHeld ?_
  · go_simp
  simp only [Act.put, List.setIfInBounds_toArray, List.set_cons_zero, List.set_cons_succ]
  refine wpAnyH_done (by kernel_rfl) ?_ _
  clear hHeld W2 RQ
  obtain ⟨fs, efs⟩ : ∃ fs, fs = turnF f (k : Int) 1 (N + 1) := ⟨_, rfl⟩
  obtain ⟨qm, eqm⟩ : ∃ qm : Nat, (q : Int) - 1 = (qm : Int) := ⟨q - 1, by omega⟩
  obtain ⟨km, ekm⟩ : ∃ km : Nat, (k : Int) - 1 = (km : Int) := ⟨k - 1, by omega⟩
  have hqm : qm < k := by omega
  have hkm : km < k := by omega
  have qmI : (qm : Int) < (k : Int) := by omega
  have kmI : (km : Int) < (k : Int) := by omega
  have wqm : IntKind.i64.wrap (qm : Int) = (qm : Int) := wrapI _ (by omega) (by omega)
  have wkm : IntKind.i64.wrap (km : Int) = (km : Int) := wrapI _ (by omega) (by omega)
  have p1 : pl ((k : Int) - 1) = km := pl_sub k km 1 ekm (by omega)
  have p2 : pl ((k : Int) - (N + 1)) = qm := pl_sub k qm (N + 1) (by omega) (by omega)
  obtain ⟨ya, eya⟩ : ∃ ya, y qm = ya := ⟨_, rfl⟩
  obtain ⟨yb, eyb⟩ : ∃ yb, y km = yb := ⟨_, rfl⟩
  have SW : Hid (Calls Try.prog 33 #[.pointer (some ⟨b, 0, none⟩), .int .i64 N] z0 fun e w' => e = .returned (.int .i64 0) ∧ Stk w' b 0 4096 fs (k : Int) ∧ Only b z0 w') := by
    have h := swap_is z0 b f (k : Int) N L2.out.st (by omega)
    rw [show oSwap f (k : Int) N = ⟨0, fs, (k : Int)⟩ by unfold oSwap; rw [if_neg (by omega), if_neg (by omega), efs]] at h
    exact h
  have A1 : Hid (∀ W, Stk W b 0 4096 fs (k : Int) → Calls Try.prog 28 #[.pointer (some ⟨b, 0, none⟩), .int .i64 1] W fun e w' => e = .returned (.tuple #[ya.v, .int .i64 0]) ∧ Below W.heap.size W w') := fun W hW => by
    have h := at_is W b fs (k : Int) 1 hW
    rw [show oAtW fs (k : Int) 1 = ya by unfold oAtW; rw [if_neg (by omega), efs, turn_left, p2, HF.out qm hqm, eya], show oAtE (k : Int) 1 = 0 by unfold oAtE; rw [if_neg (by omega), if_neg (by omega)]] at h
    exact h
  have A2 : Hid (∀ W, Stk W b 0 4096 fs (k : Int) → Calls Try.prog 28 #[.pointer (some ⟨b, 0, none⟩), .int .i64 (N + 1)] W fun e w' => e = .returned (.tuple #[yb.v, .int .i64 0]) ∧ Below W.heap.size W w') := fun W hW => by
    have h := at_is W b fs (k : Int) (N + 1) hW
    rw [show oAtW fs (k : Int) (N + 1) = yb by unfold oAtW; rw [if_neg (by omega), efs, turn_right, p1, HF.out km hkm, eyb], show oAtE (k : Int) (N + 1) = 0 by unfold oAtE; rw [if_neg (by omega), if_neg (by omega)]] at h
    exact h
  have TN : Hid (∀ W, Stk W b 0 4096 fs (k : Int) → Calls Try.prog 34 #[.pointer (some ⟨b, 0, none⟩), .int .i64 (N + 1), .int .i64 1] W fun e w' => e = .returned (.tuple #[]) ∧ Stk w' b 0 4096 f (k : Int) ∧ Only b W w') := fun W hW => by
    have h := turn_is W b fs (k : Int) (N + 1) 1 hW
    have h2 : turnF fs (k : Int) (N + 1) 1 = f := by rw [efs, turn_swap f, turn_turn]
    unfold turnF at h2
    rw [h2] at h
    exact h
  have RA : Hid (∀ W f' n', LF w W b B (.slice (some ⟨g, 0, none⟩) k co) f' n' k y → Rd W g (qm * 4) ya ∧ Rd W g (km * 4) yb) := fun W f' n' h => ⟨by rw [← eya]; exact h.inAt qm hqm, by rw [← eyb]; exact h.inAt km hkm⟩
  clear efs p1 p2 eya eyb
  go_upto_region 13 with (first | (go_at_call 33; refine (SW.out).mono ?_; rintro e v4 ⟨rfl, h1, h2⟩; (have L3 : Hid (LF w v4 b B (.slice (some ⟨g, 0, none⟩) k co) fs (k : Int) k y) := L2.out.call h1 h2); clear h1 h2 SW L2) | (go_at_call 28; refine (A1.out _ L3.out.st).mono ?_; rintro e v5 ⟨rfl, h1⟩; (have L4 : Hid (LF w v5 b B (.slice (some ⟨g, 0, none⟩) k co) fs (k : Int) k y) := L3.out.past h1); clear h1 A1 L3; unfold W4.v))
  have Wa : Hid (Wd (v5.alloc (.cells #[.int .u64 ya.a, .int .u64 ya.b, .int .u64 ya.c, .int .u64 ya.d] 30)) v5.heap.size 0 ya ∧ v5.heap.size ≠ b) := ⟨Wd.new v5 _ ya, by have := L4.out.st.lt; omega⟩
  replace L4 : Hid (LF w (v5.alloc (.cells #[.int .u64 ya.a, .int .u64 ya.b, .int .u64 ya.c, .int .u64 ya.d] 30)) b B (.slice (some ⟨g, 0, none⟩) k co) fs (k : Int) k y) := L4.out.alloc _
  generalize v5.alloc (.cells #[.int .u64 ya.a, .int .u64 ya.b, .int .u64 ya.c, .int .u64 ya.d] 30) = v6 at L4 Wa ⊢
  generalize v5.heap.size = ba at Wa ⊢
  go_upto_region 14 with (go_at_call 28; refine (A2.out _ L4.out.st).mono ?_; rintro e v7 ⟨rfl, h1⟩; (have L5 : Hid (LF w v7 b B (.slice (some ⟨g, 0, none⟩) k co) fs (k : Int) k y) := L4.out.past h1); (have Wc : Hid (Wd v7 ba 0 ya ∧ ba ≠ b) := ⟨Wa.out.1.past h1, Wa.out.2⟩); clear h1 A2 L4 Wa; unfold W4.v)
  have Wb : Hid (Wd (v7.alloc (.cells #[.int .u64 yb.a, .int .u64 yb.b, .int .u64 yb.c, .int .u64 yb.d] 30)) v7.heap.size 0 yb ∧ v7.heap.size ≠ b) := ⟨Wd.new v7 _ yb, by have := L5.out.st.lt; omega⟩
  replace L5 : Hid (LF w (v7.alloc (.cells #[.int .u64 yb.a, .int .u64 yb.b, .int .u64 yb.c, .int .u64 yb.d] 30)) b B (.slice (some ⟨g, 0, none⟩) k co) fs (k : Int) k y) := L5.out.alloc _
  replace Wc : Hid (Wd (v7.alloc (.cells #[.int .u64 yb.a, .int .u64 yb.b, .int .u64 yb.c, .int .u64 yb.d] 30)) ba 0 ya ∧ ba ≠ b) := ⟨Wc.out.1.alloc _, Wc.out.2⟩
  generalize v7.alloc (.cells #[.int .u64 yb.a, .int .u64 yb.b, .int .u64 yb.c, .int .u64 yb.d] 30) = v8 at L5 Wb Wc ⊢
  generalize v7.heap.size = bb at Wb ⊢
  go_upto_region 15 with (go_at_call 34; refine (TN.out _ L5.out.st).mono ?_; rintro e v9 ⟨rfl, h1, h2⟩; (have L6 : Hid (LF w v9 b B (.slice (some ⟨g, 0, none⟩) k co) f (k : Int) k y) := L5.out.call h1 h2); (have Wd_ : Hid (Wd v9 ba 0 ya ∧ Wd v9 bb 0 yb) := ⟨Wc.out.1.only h2 Wc.out.2, Wb.out.1.only h2 Wb.out.2⟩); clear h1 h2 TN L5 Wb Wc)
  have L7 : Hid (LF w v9.drew b B (.slice (some ⟨g, 0, none⟩) k co) f (k : Int) k y) := L6.out.drew
  have RB : Hid (Rd v9.drew g (qm * 4) ya ∧ Rd v9.drew g (km * 4) yb) := RA.out _ _ _ L7.out
  have W6 : Hid (Wd v9.drew ba 0 ya ∧ Wd v9.drew bb 0 yb) := ⟨Wd_.out.1.drew, Wd_.out.2.drew⟩
  clear L6 Wd_
  refine wp_region_held_drew (S := fun V' => (Wd V' ba 0 ya ∧ Wd V' bb 0 yb) ∧ Rd V' g (qm * 4) ya ∧ Rd V' g (km * 4) yb) (by kernel_rfl) ⟨W6.out, RB.out⟩ (fun hHeld => ?_)
  generalize v9.drew = z1 at hHeld L7 ⊢
  refine wpAnyH_take (i := 0) (v := .agg #[.int .u64 ya.a, .int .u64 ya.b, .int .u64 ya.c, .int .u64 ya.d]) ov0 (by kernel_rfl) (by kernel_rfl) (by kernel_rfl) (fun _ _ _ h => h) (Or.inl ⟨by rfl, fun V' hS => ?_⟩) hHeld ?_
  · obtain ⟨c0, c1, c2, c3, _⟩ := hS.1.1
    go_simp
  simp only [Act.put, List.setIfInBounds_toArray, List.set_cons_zero, List.set_cons_succ]
  refine wpAnyH_take (i := 1) (v := .slice (some ⟨g, 0, none⟩) k co) ov1 (by kernel_rfl) (by kernel_rfl) (by kernel_rfl) (fun _ _ _ h => h) (Or.inl ⟨by rfl, fun V' hS => ?_⟩) hHeld ?_
  · go_simp
  simp only [Act.put, List.setIfInBounds_toArray, List.set_cons_zero, List.set_cons_succ]
  refine wpAnyH_take (i := 2) (v := .int .i64 (k : Int)) ov2 (by kernel_rfl) (by kernel_rfl) (by kernel_rfl) (fun _ _ _ h => h) (Or.inl ⟨by rfl, fun V' hS => ?_⟩) hHeld ?_
  · go_simp
  simp only [Act.put, List.setIfInBounds_toArray, List.set_cons_zero, List.set_cons_succ]
  refine wpAnyH_take (i := 3) (v := .int .i64 N) ov3 (by kernel_rfl) (by kernel_rfl) (by kernel_rfl) (fun _ _ _ h => h) (Or.inl ⟨by rfl, fun V' hS => ?_⟩) hHeld ?_
  · go_simp
  simp only [Act.put, List.setIfInBounds_toArray, List.set_cons_zero, List.set_cons_succ]
  refine wpAnyH_take (i := 4) (v := .int .i64 (q : Int)) ov4 (by kernel_rfl) (by kernel_rfl) (by kernel_rfl) (fun _ _ _ h => h) (Or.inl ⟨by rfl, fun V' hS => ?_⟩) hHeld ?_
  · go_simp
  simp only [Act.put, List.setIfInBounds_toArray, List.set_cons_zero, List.set_cons_succ]
  refine wpAnyH_take (i := 5) (v := .int .i64 (qm : Int)) ov5 (by kernel_rfl) (by kernel_rfl) (by kernel_rfl) (fun _ _ _ h => h) (Or.inl ⟨by rfl, fun V' hS => ?_⟩) hHeld ?_
  · go_simp
  simp only [Act.put, List.setIfInBounds_toArray, List.set_cons_zero, List.set_cons_succ]
  refine wpAnyH_take (i := 6) (v := .pointer (some ⟨g, qm * 4, none⟩)) ov6 (by kernel_rfl) (by kernel_rfl) (by kernel_rfl) (fun _ _ _ h => h) (Or.inl ⟨by rfl, fun V' hS => ?_⟩) hHeld ?_
  · go_simp
  simp only [Act.put, List.setIfInBounds_toArray, List.set_cons_zero, List.set_cons_succ]
  refine wpAnyH_take (i := 7) (v := .agg #[.int .u64 ya.a, .int .u64 ya.b, .int .u64 ya.c, .int .u64 ya.d]) ov7 (by kernel_rfl) (by kernel_rfl) (by kernel_rfl) (fun _ _ _ h => h) (Or.inl ⟨by rfl, fun V' hS => ?_⟩) hHeld ?_
  · obtain ⟨c0, c1, c2, c3⟩ := hS.2.1
    go_simp
  simp only [Act.put, List.setIfInBounds_toArray, List.set_cons_zero, List.set_cons_succ]
  refine wpAnyH_take (i := 8) (v := .bool false) ov8 (by kernel_rfl) (by kernel_rfl) (by kernel_rfl) (fun _ _ _ h => h) (Or.inl ⟨by rfl, fun V' hS => ?_⟩) hHeld ?_
  · have hq := eqw_self ya.a ya.b ya.c ya.d V'
    go_simp
  simp only [Act.put, List.setIfInBounds_toArray, List.set_cons_zero, List.set_cons_succ]
  refine wpAnyH_take (i := 9) (v := .bool false) ov9 (by kernel_rfl) (by kernel_rfl) (by kernel_rfl) (fun _ _ _ h => h) (Or.inl ⟨by rfl, fun V' hS => ?_⟩) hHeld ?_
  · go_simp
  simp only [Act.put, List.setIfInBounds_toArray, List.set_cons_zero, List.set_cons_succ]
  refine wpAnyH_take (i := 10) (v := .agg #[.int .u64 yb.a, .int .u64 yb.b, .int .u64 yb.c, .int .u64 yb.d]) ov10 (by kernel_rfl) (by kernel_rfl) (by kernel_rfl) (fun _ _ _ h => h) (Or.inl ⟨by rfl, fun V' hS => ?_⟩) hHeld ?_
  · obtain ⟨c0, c1, c2, c3, _⟩ := hS.1.2
    go_simp
  simp only [Act.put, List.setIfInBounds_toArray, List.set_cons_zero, List.set_cons_succ]
  refine wpAnyH_take (i := 11) (v := .slice (some ⟨g, 0, none⟩) k co) ov11 (by kernel_rfl) (by kernel_rfl) (by kernel_rfl) (fun _ _ _ h => h) (Or.inl ⟨by rfl, fun V' hS => ?_⟩) hHeld ?_
  · go_simp
  simp only [Act.put, List.setIfInBounds_toArray, List.set_cons_zero, List.set_cons_succ]
  refine wpAnyH_take (i := 12) (v := .int .i64 (k : Int)) ov12 (by kernel_rfl) (by kernel_rfl) (by kernel_rfl) (fun _ _ _ h => h) (Or.inl ⟨by rfl, fun V' hS => ?_⟩) hHeld ?_
  · go_simp
  simp only [Act.put, List.setIfInBounds_toArray, List.set_cons_zero, List.set_cons_succ]
  refine wpAnyH_take (i := 13) (v := .int .i64 (km : Int)) ov13 (by kernel_rfl) (by kernel_rfl) (by kernel_rfl) (fun _ _ _ h => h) (Or.inl ⟨by rfl, fun V' hS => ?_⟩) hHeld ?_
  · go_simp
  simp only [Act.put, List.setIfInBounds_toArray, List.set_cons_zero, List.set_cons_succ]
  refine wpAnyH_take (i := 14) (v := .pointer (some ⟨g, km * 4, none⟩)) ov14 (by kernel_rfl) (by kernel_rfl) (by kernel_rfl) (fun _ _ _ h => h) (Or.inl ⟨by rfl, fun V' hS => ?_⟩) hHeld ?_
  · go_simp
  simp only [Act.put, List.setIfInBounds_toArray, List.set_cons_zero, List.set_cons_succ]
  refine wpAnyH_take (i := 15) (v := .agg #[.int .u64 yb.a, .int .u64 yb.b, .int .u64 yb.c, .int .u64 yb.d]) ov15 (by kernel_rfl) (by kernel_rfl) (by kernel_rfl) (fun _ _ _ h => h) (Or.inl ⟨by rfl, fun V' hS => ?_⟩) hHeld ?_
  · obtain ⟨c0, c1, c2, c3⟩ := hS.2.2
    go_simp
  simp only [Act.put, List.setIfInBounds_toArray, List.set_cons_zero, List.set_cons_succ]
  refine wpAnyH_take (i := 16) (v := .bool false) ov16 (by kernel_rfl) (by kernel_rfl) (by kernel_rfl) (fun _ _ _ h => h) (Or.inl ⟨by rfl, fun V' hS => ?_⟩) hHeld ?_
  · have hq := eqw_self yb.a yb.b yb.c yb.d V'
    go_simp
  simp only [Act.put, List.setIfInBounds_toArray, List.set_cons_zero, List.set_cons_succ]
  refine wpAnyH_take (i := 17) (v := .bool false) ov17 (by kernel_rfl) (by kernel_rfl) (by kernel_rfl) (fun _ _ _ h => h) (Or.inl ⟨by rfl, fun V' hS => ?_⟩) hHeld ?_
  · go_simp
  simp only [Act.put, List.setIfInBounds_toArray, List.set_cons_zero, List.set_cons_succ]
  refine wpAnyH_done (by kernel_rfl) ?_ _
  clear hHeld W6 RB RA
  obtain ⟨fx, efx⟩ : ∃ fx, fx = turnF f (k : Int) (N + 1) (N + M + 1) := ⟨_, rfl⟩
  have s5 : M < (k : Int) := by omega
  obtain ⟨qn, eqn⟩ : ∃ qn : Nat, (q : Int) - M = (qn : Int) := ⟨((q : Int) - M).toNat, by omega⟩
  obtain ⟨qo, eqo⟩ : ∃ qo : Nat, (qn : Int) - 1 = (qo : Int) := ⟨qn - 1, by omega⟩
  have hqo : qo < k := by omega
  have qoI : (qo : Int) < (k : Int) := by omega
  have wqn : IntKind.i64.wrap (qn : Int) = (qn : Int) := wrapI _ (by omega) (by omega)
  have wqo : IntKind.i64.wrap (qo : Int) = (qo : Int) := wrapI _ (by omega) (by omega)
  have p3 : pl ((k : Int) - (N + 1)) = qm := pl_sub k qm (N + 1) (by omega) (by omega)
  have p4 : pl ((k : Int) - (N + M + 1)) = qo := pl_sub k qo (N + M + 1) (by omega) (by omega)
  obtain ⟨yc, eyc⟩ : ∃ yc, y qo = yc := ⟨_, rfl⟩
  obtain ⟨yd, eyd⟩ : ∃ yd, y qm = yd := ⟨_, rfl⟩
  have EX : Hid (∀ W, Stk W b 0 4096 f (k : Int) → Calls Try.prog 35 #[.pointer (some ⟨b, 0, none⟩), .int .i64 N, .int .i64 M] W fun e w' => e = .returned (.int .i64 0) ∧ Stk w' b 0 4096 fx (k : Int) ∧ Only b W w') := fun W hW => by
    have h := exch_is W b f (k : Int) N M hW (by omega)
    rw [show oExch f (k : Int) N M = ⟨0, fx, (k : Int)⟩ by unfold oExch; rw [if_neg (by omega), if_neg (by omega)]; rw [efx]] at h
    exact h
  have B1 : Hid (∀ W, Stk W b 0 4096 fx (k : Int) → Calls Try.prog 28 #[.pointer (some ⟨b, 0, none⟩), .int .i64 (N + 1)] W fun e w' => e = .returned (.tuple #[yc.v, .int .i64 0]) ∧ Below W.heap.size W w') := fun W hW => by
    have h := at_is W b fx (k : Int) (N + 1) hW
    rw [show oAtW fx (k : Int) (N + 1) = yc by unfold oAtW; rw [if_neg (by omega), efx, turn_left, p4, HF.out qo hqo, eyc], show oAtE (k : Int) (N + 1) = 0 by unfold oAtE; rw [if_neg (by omega), if_neg (by omega)]] at h
    exact h
  have B2 : Hid (∀ W, Stk W b 0 4096 fx (k : Int) → Calls Try.prog 28 #[.pointer (some ⟨b, 0, none⟩), .int .i64 (N + M + 1)] W fun e w' => e = .returned (.tuple #[yd.v, .int .i64 0]) ∧ Below W.heap.size W w') := fun W hW => by
    have h := at_is W b fx (k : Int) (N + M + 1) hW
    rw [show oAtW fx (k : Int) (N + M + 1) = yd by unfold oAtW; rw [if_neg (by omega), efx, turn_right, p3, HF.out qm hqm, eyd], show oAtE (k : Int) (N + M + 1) = 0 by unfold oAtE; rw [if_neg (by omega), if_neg (by omega)]] at h
    exact h
  have EZ : Hid (∀ W, Stk W b 0 4096 fx (k : Int) → Calls Try.prog 35 #[.pointer (some ⟨b, 0, none⟩), .int .i64 N, .int .i64 M] W fun e w' => e = .returned (.int .i64 0) ∧ Stk w' b 0 4096 f (k : Int) ∧ Only b W w') := fun W hW => by
    have h := exch_is W b fx (k : Int) N M hW (by omega)
    rw [show oExch fx (k : Int) N M = ⟨0, f, (k : Int)⟩ by unfold oExch; rw [if_neg (by omega), if_neg (by omega), efx, turn_turn]] at h
    exact h
  have RC : Hid (∀ W f' n', LF w W b B (.slice (some ⟨g, 0, none⟩) k co) f' n' k y → Rd W g (qo * 4) yc ∧ Rd W g (qm * 4) yd) := fun W f' n' h => ⟨by rw [← eyc]; exact h.inAt qo hqo, by rw [← eyd]; exact h.inAt qm hqm⟩
  clear efx p3 p4 eyc eyd
  go_upto_region 22 with (first | (go_at_call 35; refine (EX.out _ L7.out.st).mono ?_; rintro e v10 ⟨rfl, h1, h2⟩; (have L8 : Hid (LF w v10 b B (.slice (some ⟨g, 0, none⟩) k co) fx (k : Int) k y) := L7.out.call h1 h2); clear h1 h2 EX L7) | (go_at_call 28; refine (B1.out _ L8.out.st).mono ?_; rintro e v11 ⟨rfl, h1⟩; (have L9 : Hid (LF w v11 b B (.slice (some ⟨g, 0, none⟩) k co) fx (k : Int) k y) := L8.out.past h1); clear h1 B1 L8; unfold W4.v))
  have We : Hid (Wd (v11.alloc (.cells #[.int .u64 yc.a, .int .u64 yc.b, .int .u64 yc.c, .int .u64 yc.d] 30)) v11.heap.size 0 yc ∧ v11.heap.size ≠ b) := ⟨Wd.new v11 _ yc, by have := L9.out.st.lt; omega⟩
  replace L9 : Hid (LF w (v11.alloc (.cells #[.int .u64 yc.a, .int .u64 yc.b, .int .u64 yc.c, .int .u64 yc.d] 30)) b B (.slice (some ⟨g, 0, none⟩) k co) fx (k : Int) k y) := L9.out.alloc _
  generalize v11.alloc (.cells #[.int .u64 yc.a, .int .u64 yc.b, .int .u64 yc.c, .int .u64 yc.d] 30) = v12 at L9 We ⊢
  generalize v11.heap.size = be at We ⊢
  go_upto_region 23 with (go_at_call 28; refine (B2.out _ L9.out.st).mono ?_; rintro e v13 ⟨rfl, h1⟩; (have L10 : Hid (LF w v13 b B (.slice (some ⟨g, 0, none⟩) k co) fx (k : Int) k y) := L9.out.past h1); (have Wf : Hid (Wd v13 be 0 yc ∧ be ≠ b) := ⟨We.out.1.past h1, We.out.2⟩); clear h1 B2 L9 We; unfold W4.v)
  have Wg : Hid (Wd (v13.alloc (.cells #[.int .u64 yd.a, .int .u64 yd.b, .int .u64 yd.c, .int .u64 yd.d] 30)) v13.heap.size 0 yd ∧ v13.heap.size ≠ b) := ⟨Wd.new v13 _ yd, by have := L10.out.st.lt; omega⟩
  replace L10 : Hid (LF w (v13.alloc (.cells #[.int .u64 yd.a, .int .u64 yd.b, .int .u64 yd.c, .int .u64 yd.d] 30)) b B (.slice (some ⟨g, 0, none⟩) k co) fx (k : Int) k y) := L10.out.alloc _
  replace Wf : Hid (Wd (v13.alloc (.cells #[.int .u64 yd.a, .int .u64 yd.b, .int .u64 yd.c, .int .u64 yd.d] 30)) be 0 yc ∧ be ≠ b) := ⟨Wf.out.1.alloc _, Wf.out.2⟩
  generalize v13.alloc (.cells #[.int .u64 yd.a, .int .u64 yd.b, .int .u64 yd.c, .int .u64 yd.d] 30) = v14 at L10 Wf Wg ⊢
  generalize v13.heap.size = bd at Wg ⊢
  go_upto_region 24 with (go_at_call 35; refine (EZ.out _ L10.out.st).mono ?_; rintro e v15 ⟨rfl, h1, h2⟩; (have L11 : Hid (LF w v15 b B (.slice (some ⟨g, 0, none⟩) k co) f (k : Int) k y) := L10.out.call h1 h2); (have Wh : Hid (Wd v15 be 0 yc ∧ Wd v15 bd 0 yd) := ⟨Wf.out.1.only h2 Wf.out.2, Wg.out.1.only h2 Wg.out.2⟩); clear h1 h2 EZ L10 Wf Wg)
  have L12 : Hid (LF w v15.drew b B (.slice (some ⟨g, 0, none⟩) k co) f (k : Int) k y) := L11.out.drew
  have RD : Hid (Rd v15.drew g (qo * 4) yc ∧ Rd v15.drew g (qm * 4) yd) := RC.out _ _ _ L12.out
  have Wi : Hid (Wd v15.drew be 0 yc ∧ Wd v15.drew bd 0 yd) := ⟨Wh.out.1.drew, Wh.out.2.drew⟩
  clear L11 Wh
  refine wp_region_held_drew (S := fun V' => (Wd V' be 0 yc ∧ Wd V' bd 0 yd) ∧ Rd V' g (qo * 4) yc ∧ Rd V' g (qm * 4) yd) (by kernel_rfl) ⟨Wi.out, RD.out⟩ (fun hHeld => ?_)
  generalize v15.drew = z2 at hHeld L12 ⊢
  refine wpAnyH_take (i := 0) (v := .agg #[.int .u64 yc.a, .int .u64 yc.b, .int .u64 yc.c, .int .u64 yc.d]) ov0 (by kernel_rfl) (by kernel_rfl) (by kernel_rfl) (fun _ _ _ h => h) (Or.inl ⟨by rfl, fun V' hS => ?_⟩) hHeld ?_
  · obtain ⟨c0, c1, c2, c3, _⟩ := hS.1.1
    go_simp
  simp only [Act.put, List.setIfInBounds_toArray, List.set_cons_zero, List.set_cons_succ]
  refine wpAnyH_take (i := 1) (v := .slice (some ⟨g, 0, none⟩) k co) ov1 (by kernel_rfl) (by kernel_rfl) (by kernel_rfl) (fun _ _ _ h => h) (Or.inl ⟨by rfl, fun V' hS => ?_⟩) hHeld ?_
  · go_simp
  simp only [Act.put, List.setIfInBounds_toArray, List.set_cons_zero, List.set_cons_succ]
  refine wpAnyH_take (i := 2) (v := .int .i64 (k : Int)) ov2 (by kernel_rfl) (by kernel_rfl) (by kernel_rfl) (fun _ _ _ h => h) (Or.inl ⟨by rfl, fun V' hS => ?_⟩) hHeld ?_
  · go_simp
  simp only [Act.put, List.setIfInBounds_toArray, List.set_cons_zero, List.set_cons_succ]
  refine wpAnyH_take (i := 3) (v := .int .i64 N) ov3 (by kernel_rfl) (by kernel_rfl) (by kernel_rfl) (fun _ _ _ h => h) (Or.inl ⟨by rfl, fun V' hS => ?_⟩) hHeld ?_
  · go_simp
  simp only [Act.put, List.setIfInBounds_toArray, List.set_cons_zero, List.set_cons_succ]
  refine wpAnyH_take (i := 4) (v := .int .i64 (q : Int)) ov4 (by kernel_rfl) (by kernel_rfl) (by kernel_rfl) (fun _ _ _ h => h) (Or.inl ⟨by rfl, fun V' hS => ?_⟩) hHeld ?_
  · go_simp
  simp only [Act.put, List.setIfInBounds_toArray, List.set_cons_zero, List.set_cons_succ]
  refine wpAnyH_take (i := 5) (v := .int .i64 M) ov5 (by kernel_rfl) (by kernel_rfl) (by kernel_rfl) (fun _ _ _ h => h) (Or.inl ⟨by rfl, fun V' hS => ?_⟩) hHeld ?_
  · go_simp
  simp only [Act.put, List.setIfInBounds_toArray, List.set_cons_zero, List.set_cons_succ]
  refine wpAnyH_take (i := 6) (v := .int .i64 (qn : Int)) ov6 (by kernel_rfl) (by kernel_rfl) (by kernel_rfl) (fun _ _ _ h => h) (Or.inl ⟨by rfl, fun V' hS => ?_⟩) hHeld ?_
  · go_simp
  simp only [Act.put, List.setIfInBounds_toArray, List.set_cons_zero, List.set_cons_succ]
  refine wpAnyH_take (i := 7) (v := .int .i64 (qo : Int)) ov7 (by kernel_rfl) (by kernel_rfl) (by kernel_rfl) (fun _ _ _ h => h) (Or.inl ⟨by rfl, fun V' hS => ?_⟩) hHeld ?_
  · go_simp
  simp only [Act.put, List.setIfInBounds_toArray, List.set_cons_zero, List.set_cons_succ]
  refine wpAnyH_take (i := 8) (v := .pointer (some ⟨g, qo * 4, none⟩)) ov8 (by kernel_rfl) (by kernel_rfl) (by kernel_rfl) (fun _ _ _ h => h) (Or.inl ⟨by rfl, fun V' hS => ?_⟩) hHeld ?_
  · go_simp
  simp only [Act.put, List.setIfInBounds_toArray, List.set_cons_zero, List.set_cons_succ]
  refine wpAnyH_take (i := 9) (v := .agg #[.int .u64 yc.a, .int .u64 yc.b, .int .u64 yc.c, .int .u64 yc.d]) ov9 (by kernel_rfl) (by kernel_rfl) (by kernel_rfl) (fun _ _ _ h => h) (Or.inl ⟨by rfl, fun V' hS => ?_⟩) hHeld ?_
  · obtain ⟨c0, c1, c2, c3⟩ := hS.2.1
    go_simp
  simp only [Act.put, List.setIfInBounds_toArray, List.set_cons_zero, List.set_cons_succ]
  refine wpAnyH_take (i := 10) (v := .bool false) ov10 (by kernel_rfl) (by kernel_rfl) (by kernel_rfl) (fun _ _ _ h => h) (Or.inl ⟨by rfl, fun V' hS => ?_⟩) hHeld ?_
  · have hq := eqw_self yc.a yc.b yc.c yc.d V'
    go_simp
  simp only [Act.put, List.setIfInBounds_toArray, List.set_cons_zero, List.set_cons_succ]
  refine wpAnyH_take (i := 11) (v := .bool false) ov11 (by kernel_rfl) (by kernel_rfl) (by kernel_rfl) (fun _ _ _ h => h) (Or.inl ⟨by rfl, fun V' hS => ?_⟩) hHeld ?_
  · go_simp
  simp only [Act.put, List.setIfInBounds_toArray, List.set_cons_zero, List.set_cons_succ]
  refine wpAnyH_take (i := 12) (v := .agg #[.int .u64 yd.a, .int .u64 yd.b, .int .u64 yd.c, .int .u64 yd.d]) ov12 (by kernel_rfl) (by kernel_rfl) (by kernel_rfl) (fun _ _ _ h => h) (Or.inl ⟨by rfl, fun V' hS => ?_⟩) hHeld ?_
  · obtain ⟨c0, c1, c2, c3, _⟩ := hS.1.2
    go_simp
  simp only [Act.put, List.setIfInBounds_toArray, List.set_cons_zero, List.set_cons_succ]
  refine wpAnyH_take (i := 13) (v := .slice (some ⟨g, 0, none⟩) k co) ov13 (by kernel_rfl) (by kernel_rfl) (by kernel_rfl) (fun _ _ _ h => h) (Or.inl ⟨by rfl, fun V' hS => ?_⟩) hHeld ?_
  · go_simp
  simp only [Act.put, List.setIfInBounds_toArray, List.set_cons_zero, List.set_cons_succ]
  refine wpAnyH_take (i := 14) (v := .int .i64 (k : Int)) ov14 (by kernel_rfl) (by kernel_rfl) (by kernel_rfl) (fun _ _ _ h => h) (Or.inl ⟨by rfl, fun V' hS => ?_⟩) hHeld ?_
  · go_simp
  simp only [Act.put, List.setIfInBounds_toArray, List.set_cons_zero, List.set_cons_succ]
  refine wpAnyH_take (i := 15) (v := .int .i64 N) ov15 (by kernel_rfl) (by kernel_rfl) (by kernel_rfl) (fun _ _ _ h => h) (Or.inl ⟨by rfl, fun V' hS => ?_⟩) hHeld ?_
  · go_simp
  simp only [Act.put, List.setIfInBounds_toArray, List.set_cons_zero, List.set_cons_succ]
  refine wpAnyH_take (i := 16) (v := .int .i64 (q : Int)) ov16 (by kernel_rfl) (by kernel_rfl) (by kernel_rfl) (fun _ _ _ h => h) (Or.inl ⟨by rfl, fun V' hS => ?_⟩) hHeld ?_
  · go_simp
  simp only [Act.put, List.setIfInBounds_toArray, List.set_cons_zero, List.set_cons_succ]
  refine wpAnyH_take (i := 17) (v := .int .i64 (qm : Int)) ov17 (by kernel_rfl) (by kernel_rfl) (by kernel_rfl) (fun _ _ _ h => h) (Or.inl ⟨by rfl, fun V' hS => ?_⟩) hHeld ?_
  · go_simp
  simp only [Act.put, List.setIfInBounds_toArray, List.set_cons_zero, List.set_cons_succ]
  refine wpAnyH_take (i := 18) (v := .pointer (some ⟨g, qm * 4, none⟩)) ov18 (by kernel_rfl) (by kernel_rfl) (by kernel_rfl) (fun _ _ _ h => h) (Or.inl ⟨by rfl, fun V' hS => ?_⟩) hHeld ?_
  · go_simp
  simp only [Act.put, List.setIfInBounds_toArray, List.set_cons_zero, List.set_cons_succ]
  refine wpAnyH_take (i := 19) (v := .agg #[.int .u64 yd.a, .int .u64 yd.b, .int .u64 yd.c, .int .u64 yd.d]) ov19 (by kernel_rfl) (by kernel_rfl) (by kernel_rfl) (fun _ _ _ h => h) (Or.inl ⟨by rfl, fun V' hS => ?_⟩) hHeld ?_
  · obtain ⟨c0, c1, c2, c3⟩ := hS.2.2
    go_simp
  simp only [Act.put, List.setIfInBounds_toArray, List.set_cons_zero, List.set_cons_succ]
  refine wpAnyH_take (i := 20) (v := .bool false) ov20 (by kernel_rfl) (by kernel_rfl) (by kernel_rfl) (fun _ _ _ h => h) (Or.inl ⟨by rfl, fun V' hS => ?_⟩) hHeld ?_
  · have hq := eqw_self yd.a yd.b yd.c yd.d V'
    go_simp
  simp only [Act.put, List.setIfInBounds_toArray, List.set_cons_zero, List.set_cons_succ]
  refine wpAnyH_take (i := 21) (v := .bool false) ov21 (by kernel_rfl) (by kernel_rfl) (by kernel_rfl) (fun _ _ _ h => h) (Or.inl ⟨by rfl, fun V' hS => ?_⟩) hHeld ?_
  · go_simp
  simp only [Act.put, List.setIfInBounds_toArray, List.set_cons_zero, List.set_cons_succ]
  refine wpAnyH_take (i := 22) (v := .bool false) ov22 (by kernel_rfl) (by kernel_rfl) (by kernel_rfl) (fun _ _ _ h => h) (Or.inl ⟨by rfl, fun V' hS => ?_⟩) hHeld ?_
  · go_simp
  simp only [Act.put, List.setIfInBounds_toArray, List.set_cons_zero, List.set_cons_succ]
  refine wpAnyH_take (i := 23) (v := .int .i64 0) ov23 (by kernel_rfl) (by kernel_rfl) (by kernel_rfl) (fun _ _ _ h => h) (Or.inl ⟨by rfl, fun V' hS => ?_⟩) hHeld ?_
  · go_simp
  simp only [Act.put, List.setIfInBounds_toArray, List.set_cons_zero, List.set_cons_succ]
  refine wpAnyH_take (i := 24) (v := .bool false) ov24 (by kernel_rfl) (by kernel_rfl) (by kernel_rfl) (fun _ _ _ h => h) (Or.inl ⟨by rfl, fun V' hS => ?_⟩) hHeld ?_
  · go_simp
  simp only [Act.put, List.setIfInBounds_toArray, List.set_cons_zero, List.set_cons_succ]
  refine wpAnyH_take (i := 25) (v := .bool false) ov25 (by kernel_rfl) (by kernel_rfl) (by kernel_rfl) (fun _ _ _ h => h) (Or.inl ⟨by rfl, fun V' hS => ?_⟩) hHeld ?_
  · go_simp
  simp only [Act.put, List.setIfInBounds_toArray, List.set_cons_zero, List.set_cons_succ]
  refine wpAnyH_done (by kernel_rfl) ?_ _
  clear hHeld Wi RD RC
  have WS : Hid (∀ W, Stk W b 0 4096 f (k : Int) → Calls Try.prog 30 #[.pointer (some ⟨b, 0, none⟩)] W fun e w' => e = .returned (.slice (some ⟨W.heap.size, 0, none⟩) k k) ∧ WL w' (.slice (some ⟨W.heap.size, 0, none⟩) k k) k y ∧ Below W.heap.size W w') := fun W hW => by
    have h := words_is W b f (k : Int) hW
    rw [cnt_nat k k24] at h
    exact h.mono fun e w' ⟨h1, h2, h3⟩ => ⟨h1, h2.wl.ext (told_nat f y k k24 HF.out), h3⟩
  have SM : Hid (∀ W v1, WL W v1 k y → WL W (.slice (some ⟨g, 0, none⟩) k co) k y → Calls Try.prog 29 #[v1, (.slice (some ⟨g, 0, none⟩) k co)] W fun e w' => e = .returned (.bool true) ∧ Below W.heap.size W w') := fun W v1 h1 h2 => sameWords_is W v1 _ k y (by omega) h1 h2
  go_upto_region 28 with (first | (go_at_call 30; refine (WS.out _ L12.out.st).mono ?_; rintro e v16 ⟨rfl, h1, h2⟩; (have L13 : Hid (LF w v16 b B (.slice (some ⟨g, 0, none⟩) k co) f (k : Int) k y) := L12.out.past h2); (have V1 : Hid (WL v16 (.slice (some ⟨z2.heap.size, 0, none⟩) k k) k y) := h1); clear h1 h2 L12) | (go_at_call 29; refine (SM.out _ _ V1.out (owns_wl L13.out.ow)).mono ?_; rintro e v17 ⟨rfl, h1⟩; (have L14 : Hid (LF w v17 b B (.slice (some ⟨g, 0, none⟩) k co) f (k : Int) k y) := L13.out.past h1); clear h1 L13 V1))
  have DU : Hid (Calls Try.prog 36 #[.pointer (some ⟨b, 0, none⟩), .int .i64 N] v17 fun e w' => e = .returned (.int .i64 91) ∧ Stk w' b 0 4096 f (k : Int) ∧ Only b v17 w') := by
    have h := dup_is v17 b f (k : Int) N L14.out.st
    rw [show oDup f (k : Int) N = ⟨91, f, (k : Int)⟩ by unfold oDup oPush; rw [if_neg (by omega), if_neg (by omega), if_pos (by have := HK.out; omega)]] at h
    exact h
  go_wp2_with (first | (go_at_call 36; refine (DU.out).mono ?_; rintro e v18 ⟨rfl, h1, h2⟩; (have L15 : Hid (LF w v18 b B (.slice (some ⟨g, 0, none⟩) k co) f (k : Int) k y) := L14.out.call h1 h2); clear h1 h2 DU L14) | (go_at_call 30; refine (WS.out _ L15.out.st).mono ?_; rintro e v21 ⟨rfl, h1, h2⟩; (have L18 : Hid (LF w v21 b B (.slice (some ⟨g, 0, none⟩) k co) f (k : Int) k y) := L15.out.past h2); (have V2 : Hid (WL v21 (.slice (some ⟨v18.heap.size, 0, none⟩) k k) k y) := h1); clear h1 h2 L15) | (go_at_call 29; refine (SM.out _ _ V2.out (owns_wl L18.out.ow)).mono ?_; rintro e v22 ⟨rfl, h1⟩; (have L19 : Hid (Below w.heap.size w v22) := L18.out.bel.trans (h1.mono L18.out.bel.size)); clear h1 L18 V2) | (go_at_call 12; refine (awake_is _).mono ?_; rintro e v23 ⟨rfl, h1⟩; (have HE : Hid (Below w.heap.size w v23) := L19.out.trans (h1.mono L19.out.size)); clear h1))
  go_ret
  exact ⟨rfl, HE.out⟩
end Go.Proofs.Ytdddmebihkdkjaa
