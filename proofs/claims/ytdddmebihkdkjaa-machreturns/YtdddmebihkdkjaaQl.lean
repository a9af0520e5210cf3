/- A step that does not look, kind by kind. -/
import Derived.Test.YtdddmebihkdkjaaQj
namespace Go.Proofs.Ytdddmebihkdkjaa
open Go.RowKit
set_option maxHeartbeats 2000000 in
set_option maxRecDepth 100000 in
theorem unlooked7 (w : World) (b c : Nat) (f : Ring) (n : Int) (h : Two w b c f n) (hn : n ≤ 4611686018427387904) (hn0 : -4611686018427387904 ≤ n) (tw : Bool) (N M P : Int) (X Y : W4) (B : Value) : Calls Try.prog 42 #[sideV b c, opV 7 tw N M P X Y B] w fun e w' => e = .returned (.bool true) ∧ Two w' b c (rput f (pl n) X) (wrap64 (n + 1)) ∧ But (BC b c) w w' := by
  have _ : True := (fun _ _ => trivial : n ≤ 4611686018427387904 → -4611686018427387904 ≤ n → True) hn hn0
  have K0 : Hid (LK w ((w.alloc (sideO b c)).alloc (opO 7 tw N M P X Y B)) w.heap.size (w.heap.size + 1) b c f f n n 7 N M X) := LK.start h _ tw N M P X Y B
  clear h
  unfold sideV opV
  go_enter Try.func42, Try.ntmps42
  go_upto_region 1 with fail
  change Code.wp _ _ _ _ ((w.alloc (sideO b c)).alloc (opO 7 tw N M P X Y B))
  generalize (w.alloc (sideO b c)).alloc (opO 7 tw N M P X Y B) = v at K0 ⊢
  generalize w.heap.size + 1 = ob at K0 ⊢
  generalize w.heap.size = sb at K0 ⊢
  have bo := K0.out.bo
  have k0 := bo.k0
  go_upto_region 3 with fail
  obtain ⟨p0, p1, _, k2, k3, x0, x1, x2, x3⟩ := bo
  have CS : Hid (Calls Try.prog 37 #[.pointer (some ⟨b, 0, none⟩), X.v] v fun e w' => e = .returned (.tuple #[]) ∧ Stk w' b 0 4096 (rput f (pl n) X) (wrap64 (n + 1)) ∧ Only b v w') := put_is v b f n K0.out.s X
  have CR : Hid (∀ W, Stk W c 1 0 f n → Calls Try.prog 54 #[.pointer (some ⟨c, 0, none⟩), X.v] W fun e w' => e = .returned (.tuple #[]) ∧ Stk w' c 1 0 (rput f (pl n) X) (wrap64 (n + 1)) ∧ Only c W w') := fun W hW => putR_is W c f n hW X
  go_upto_region 4 with (go_at_call 37; refine (CS.out).mono ?_; rintro e v1 ⟨rfl, h1, h2⟩; (have K1 : Hid (LK w v1 sb ob b c (rput f (pl n) X) f (wrap64 (n + 1)) n 7 N M X) := K0.out.callS h1 h2); clear CS K0 h1 h2)
  clear p0 p1 k0 k2 k3 x0 x1 x2 x3
  obtain ⟨p0, p1, _, k2, k3, x0, x1, x2, x3⟩ := K1.out.bo
  go_wp2_with (go_at_call 54; refine (CR.out _ K1.out.r).mono ?_; rintro e v2 ⟨rfl, h1, h2⟩; (have K2 : Hid (LK w v2 sb ob b c (rput f (pl n) X) (rput f (pl n) X) (wrap64 (n + 1)) (wrap64 (n + 1)) 7 N M X) := K1.out.callR h1 h2); clear CR K1 h1 h2)
  go_ret
  exact ⟨rfl, K2.out.two, K2.out.bt⟩
set_option maxHeartbeats 2000000 in
set_option maxRecDepth 100000 in
theorem unlooked10 (w : World) (b c : Nat) (f : Ring) (n : Int) (h : Two w b c f n) (hn : n ≤ 4611686018427387904) (hn0 : -4611686018427387904 ≤ n) (tw : Bool) (N M P : Int) (X Y : W4) (B : Value) : Calls Try.prog 42 #[sideV b c, opV 10 tw N M P X Y B] w fun e w' => e = .returned (.bool true) ∧ Two w' b c (rput f (pl n) (f (pl (n - N)))) (wrap64 (n + 1)) ∧ But (BC b c) w w' := by
  have _ : True := (fun _ _ => trivial : n ≤ 4611686018427387904 → -4611686018427387904 ≤ n → True) hn hn0
  have K0 : Hid (LK w ((w.alloc (sideO b c)).alloc (opO 10 tw N M P X Y B)) w.heap.size (w.heap.size + 1) b c f f n n 10 N M X) := LK.start h _ tw N M P X Y B
  clear h
  unfold sideV opV
  go_enter Try.func42, Try.ntmps42
  go_upto_region 1 with fail
  change Code.wp _ _ _ _ ((w.alloc (sideO b c)).alloc (opO 10 tw N M P X Y B))
  generalize (w.alloc (sideO b c)).alloc (opO 10 tw N M P X Y B) = v at K0 ⊢
  generalize w.heap.size + 1 = ob at K0 ⊢
  generalize w.heap.size = sb at K0 ⊢
  have bo := K0.out.bo
  have k0 := bo.k0
  go_upto_region 10 with fail
  obtain ⟨p0, p1, _, k2, k3, x0, x1, x2, x3⟩ := bo
  have CS : Hid (Calls Try.prog 40 #[.pointer (some ⟨b, 0, none⟩), .int .i64 N] v fun e w' => e = .returned (.tuple #[]) ∧ Stk w' b 0 4096 (rput f (pl n) (f (pl (n - N)))) (wrap64 (n + 1)) ∧ Only b v w') := again_is v b f n N K0.out.s
  have CR : Hid (∀ W, Stk W c 1 0 f n → Calls Try.prog 57 #[.pointer (some ⟨c, 0, none⟩), .int .i64 N] W fun e w' => e = .returned (.tuple #[]) ∧ Stk w' c 1 0 (rput f (pl n) (f (pl (n - N)))) (wrap64 (n + 1)) ∧ Only c W w') := fun W hW => againR_is W c f n N hW
  go_upto_region 11 with (go_at_call 40; refine (CS.out).mono ?_; rintro e v1 ⟨rfl, h1, h2⟩; (have K1 : Hid (LK w v1 sb ob b c (rput f (pl n) (f (pl (n - N)))) f (wrap64 (n + 1)) n 10 N M X) := K0.out.callS h1 h2); clear CS K0 h1 h2)
  clear p0 p1 k0 k2 k3 x0 x1 x2 x3
  obtain ⟨p0, p1, _, k2, k3, x0, x1, x2, x3⟩ := K1.out.bo
  go_wp2_with (go_at_call 57; refine (CR.out _ K1.out.r).mono ?_; rintro e v2 ⟨rfl, h1, h2⟩; (have K2 : Hid (LK w v2 sb ob b c (rput f (pl n) (f (pl (n - N)))) (rput f (pl n) (f (pl (n - N)))) (wrap64 (n + 1)) (wrap64 (n + 1)) 10 N M X) := K1.out.callR h1 h2); clear CR K1 h1 h2)
  go_ret
  exact ⟨rfl, K2.out.two, K2.out.bt⟩
set_option maxHeartbeats 2000000 in
set_option maxRecDepth 100000 in
theorem unlooked11 (w : World) (b c : Nat) (f : Ring) (n : Int) (h : Two w b c f n) (hn : n ≤ 4611686018427387904) (hn0 : -4611686018427387904 ≤ n) (tw : Bool) (N M P : Int) (X Y : W4) (B : Value) : Calls Try.prog 42 #[sideV b c, opV 11 tw N M P X Y B] w fun e w' => e = .returned (.bool true) ∧ Two w' b c (turnF f n N M) n ∧ But (BC b c) w w' := by
  have _ : True := (fun _ _ => trivial : n ≤ 4611686018427387904 → -4611686018427387904 ≤ n → True) hn hn0
  have K0 : Hid (LK w ((w.alloc (sideO b c)).alloc (opO 11 tw N M P X Y B)) w.heap.size (w.heap.size + 1) b c f f n n 11 N M X) := LK.start h _ tw N M P X Y B
  clear h
  unfold sideV opV
  go_enter Try.func42, Try.ntmps42
  go_upto_region 1 with fail
  change Code.wp _ _ _ _ ((w.alloc (sideO b c)).alloc (opO 11 tw N M P X Y B))
  generalize (w.alloc (sideO b c)).alloc (opO 11 tw N M P X Y B) = v at K0 ⊢
  generalize w.heap.size + 1 = ob at K0 ⊢
  generalize w.heap.size = sb at K0 ⊢
  have bo := K0.out.bo
  have k0 := bo.k0
  go_upto_region 13 with fail
  obtain ⟨p0, p1, _, k2, k3, x0, x1, x2, x3⟩ := bo
  have CS : Hid (Calls Try.prog 34 #[.pointer (some ⟨b, 0, none⟩), .int .i64 N, .int .i64 M] v fun e w' => e = .returned (.tuple #[]) ∧ Stk w' b 0 4096 (turnF f n N M) n ∧ Only b v w') := turn_is v b f n N M K0.out.s
  have CR : Hid (∀ W, Stk W c 1 0 f n → Calls Try.prog 58 #[.pointer (some ⟨c, 0, none⟩), .int .i64 N, .int .i64 M] W fun e w' => e = .returned (.tuple #[]) ∧ Stk w' c 1 0 (turnF f n N M) n ∧ Only c W w') := fun W hW => turnR_is W c f n N M hW
  go_upto_region 14 with (go_at_call 34; refine (CS.out).mono ?_; rintro e v1 ⟨rfl, h1, h2⟩; (have K1 : Hid (LK w v1 sb ob b c (turnF f n N M) f n n 11 N M X) := K0.out.callS h1 h2); clear CS K0 h1 h2)
  clear p0 p1 k0 k2 k3 x0 x1 x2 x3
  obtain ⟨p0, p1, _, k2, k3, x0, x1, x2, x3⟩ := K1.out.bo
  go_wp2_with (go_at_call 58; refine (CR.out _ K1.out.r).mono ?_; rintro e v2 ⟨rfl, h1, h2⟩; (have K2 : Hid (LK w v2 sb ob b c (turnF f n N M) (turnF f n N M) n n 11 N M X) := K1.out.callR h1 h2); clear CR K1 h1 h2)
  go_ret
  exact ⟨rfl, K2.out.two, K2.out.bt⟩
set_option maxHeartbeats 2000000 in
set_option maxRecDepth 100000 in
theorem unlooked8 (w : World) (b c : Nat) (f : Ring) (n : Int) (h : Two w b c f n) (hn : n ≤ 4611686018427387904) (hn0 : -4611686018427387904 ≤ n) (tw : Bool) (N M P : Int) (X Y : W4) (B : Value) : Calls Try.prog 42 #[sideV b c, opV 8 tw N M P X Y B] w fun e w' => e = .returned (.bool true) ∧ Two w' b c f (wrap64 (n - 1)) ∧ But (BC b c) w w' := by
  have _ : True := (fun _ _ => trivial : n ≤ 4611686018427387904 → -4611686018427387904 ≤ n → True) hn hn0
  have K0 : Hid (LK w ((w.alloc (sideO b c)).alloc (opO 8 tw N M P X Y B)) w.heap.size (w.heap.size + 1) b c f f n n 8 N M X) := LK.start h _ tw N M P X Y B
  clear h
  unfold sideV opV
  go_enter Try.func42, Try.ntmps42
  go_upto_region 1 with fail
  change Code.wp _ _ _ _ ((w.alloc (sideO b c)).alloc (opO 8 tw N M P X Y B))
  generalize (w.alloc (sideO b c)).alloc (opO 8 tw N M P X Y B) = v at K0 ⊢
  generalize w.heap.size + 1 = ob at K0 ⊢
  generalize w.heap.size = sb at K0 ⊢
  have bo := K0.out.bo
  have k0 := bo.k0
  go_upto_region 6 with fail
  obtain ⟨p0, p1, _, k2, k3, x0, x1, x2, x3⟩ := bo
  clear p0 p1 k0 k2 k3 x0 x1 x2 x3
  obtain ⟨y, ey⟩ : ∃ y, f (pl (n - 1)) = y := ⟨_, rfl⟩
  have EY : Hid (f (pl (n - 1)) = y) := ey
  clear ey
  refine wp_region_held_drew (S := fun V' => Bo V' sb ob b c 8 N M X) (by kernel_rfl) K0.out.drew.bo (fun hHeld => ?_)
  have K1 : Hid (LK w v.drew sb ob b c f f n n 8 N M X) := K0.out.drew
  generalize v.drew = z0 at hHeld K1 ⊢
  clear K0
  refine wpAnyH_take (i := 0) (v := .pointer (some ⟨sb, 0, none⟩)) ov0 (by kernel_rfl) (by kernel_rfl) (by kernel_rfl) (fun _ _ _ h => h) (Or.inl ⟨by rfl, fun V' hS => ?_⟩) hHeld ?_
  · go_simp
  simp only [Act.put, List.setIfInBounds_toArray, List.set_cons_zero, List.set_cons_succ]
  refine wpAnyH_take (i := 1) (v := .pointer (some ⟨b, 0, none⟩)) ov1 (by kernel_rfl) (by kernel_rfl) (by kernel_rfl) (fun _ _ _ h => h) (Or.inl ⟨by rfl, fun V' hS => ?_⟩) hHeld ?_
  · have q0 := hS.p0
    go_simp
  simp only [Act.put, List.setIfInBounds_toArray, List.set_cons_zero, List.set_cons_succ]
  refine wpAnyH_take (i := 3) (v := .pointer (some ⟨sb, 1, none⟩)) ov3 (by kernel_rfl) (by kernel_rfl) (by kernel_rfl) (fun _ _ _ h => h) (Or.inl ⟨by rfl, fun V' hS => ?_⟩) hHeld ?_
  · go_simp
  simp only [Act.put, List.setIfInBounds_toArray, List.set_cons_zero, List.set_cons_succ]
  refine wpAnyH_take (i := 4) (v := .pointer (some ⟨c, 0, none⟩)) ov4 (by kernel_rfl) (by kernel_rfl) (by kernel_rfl) (fun _ _ _ h => h) (Or.inl ⟨by rfl, fun V' hS => ?_⟩) hHeld ?_
  · have q0 := hS.p1
    go_simp
  simp only [Act.put, List.setIfInBounds_toArray, List.set_cons_zero, List.set_cons_succ]
  refine wpAnyH_ready (rs := [2]) (by kernel_rfl) (by simp) ?_
  refine AllReadyH.cons ov2 (fun K hK => ?_) AllReadyH.nil
  rw [if_pos (by rfl)]
  go_simp
  refine (take_is z0 b f n K1.out.s).mono ?_
  rintro e v1 ⟨rfl, h1, h2⟩
  rw [EY.out]
  unfold W4.v
  have K2 : Hid (LK w v1 sb ob b c f f (wrap64 (n - 1)) n 8 N M X) := K1.out.callS h1 h2
  clear h1 h2
  (try go_wp2_with fail)
  refine hK.out _ _ K2.out.bo (fun _ => ?_)
  clear hK K
  (try simp only [Act.put, List.setIfInBounds_toArray, List.set_cons_zero, List.set_cons_succ])
  refine wpAnyH_ready (rs := [5]) (by kernel_rfl) (by simp) ?_
  refine AllReadyH.cons ov5 (fun K hK => ?_) AllReadyH.nil
  rw [if_pos (by rfl)]
  go_simp
  refine (takeR_is v1 c f n K2.out.r).mono ?_
  rintro e v2 ⟨rfl, h1, h2⟩
  rw [EY.out]
  unfold W4.v
  have K3 : Hid (LK w v2 sb ob b c f f (wrap64 (n - 1)) (wrap64 (n - 1)) 8 N M X) := K2.out.callR h1 h2
  clear h1 h2
  (try go_wp2_with fail)
  refine hK.out _ _ K3.out.bo (fun _ => ?_)
  clear hK K
  (try simp only [Act.put, List.setIfInBounds_toArray, List.set_cons_zero, List.set_cons_succ])
  refine wpAnyH_take (i := 6) (v := .bool true) ov6 (by kernel_rfl) (by kernel_rfl) (by kernel_rfl) (fun _ _ _ h => h) (Or.inl ⟨by rfl, fun V' hS => ?_⟩) K3.out.bo ?_
  · have hq := eqw_self y.a y.b y.c y.d V'
    go_simp
  simp only [Act.put, List.setIfInBounds_toArray, List.set_cons_zero, List.set_cons_succ]
  refine wpAnyH_take (i := 7) (v := .bool true) ov7 (by kernel_rfl) (by kernel_rfl) (by kernel_rfl) (fun _ _ _ h => h) (Or.inl ⟨by rfl, fun V' hS => ?_⟩) K3.out.bo ?_
  · go_simp
  simp only [Act.put, List.setIfInBounds_toArray, List.set_cons_zero, List.set_cons_succ]
  refine wpAnyH_done (by kernel_rfl) ?_ _
  go_wp2
  go_ret
  exact ⟨rfl, K3.out.two, K3.out.bt⟩
set_option maxHeartbeats 2000000 in
set_option maxRecDepth 100000 in
theorem unlooked9 (w : World) (b c : Nat) (f : Ring) (n : Int) (h : Two w b c f n) (hn : n ≤ 4611686018427387904) (hn0 : -4611686018427387904 ≤ n) (tw : Bool) (N M P : Int) (X Y : W4) (B : Value) : Calls Try.prog 42 #[sideV b c, opV 9 tw N M P X Y B] w fun e w' => e = .returned (.bool true) ∧ Two w' b c f n ∧ But (BC b c) w w' := by
  have _ : True := (fun _ _ => trivial : n ≤ 4611686018427387904 → -4611686018427387904 ≤ n → True) hn hn0
  have K0 : Hid (LK w ((w.alloc (sideO b c)).alloc (opO 9 tw N M P X Y B)) w.heap.size (w.heap.size + 1) b c f f n n 9 N M X) := LK.start h _ tw N M P X Y B
  clear h
  unfold sideV opV
  go_enter Try.func42, Try.ntmps42
  go_upto_region 1 with fail
  change Code.wp _ _ _ _ ((w.alloc (sideO b c)).alloc (opO 9 tw N M P X Y B))
  generalize (w.alloc (sideO b c)).alloc (opO 9 tw N M P X Y B) = v at K0 ⊢
  generalize w.heap.size + 1 = ob at K0 ⊢
  generalize w.heap.size = sb at K0 ⊢
  have bo := K0.out.bo
  have k0 := bo.k0
  go_upto_region 8 with fail
  obtain ⟨p0, p1, _, k2, k3, x0, x1, x2, x3⟩ := bo
  clear p0 p1 k0 k2 k3 x0 x1 x2 x3
  obtain ⟨y, ey⟩ : ∃ y, f (pl (n - N)) = y := ⟨_, rfl⟩
  have EY : Hid (f (pl (n - N)) = y) := ey
  clear ey
  refine wp_region_held_drew (S := fun V' => Bo V' sb ob b c 9 N M X) (by kernel_rfl) K0.out.drew.bo (fun hHeld => ?_)
  have K1 : Hid (LK w v.drew sb ob b c f f n n 9 N M X) := K0.out.drew
  generalize v.drew = z0 at hHeld K1 ⊢
  clear K0
  refine wpAnyH_take (i := 0) (v := .pointer (some ⟨sb, 0, none⟩)) ov0 (by kernel_rfl) (by kernel_rfl) (by kernel_rfl) (fun _ _ _ h => h) (Or.inl ⟨by rfl, fun V' hS => ?_⟩) hHeld ?_
  · go_simp
  simp only [Act.put, List.setIfInBounds_toArray, List.set_cons_zero, List.set_cons_succ]
  refine wpAnyH_take (i := 1) (v := .pointer (some ⟨b, 0, none⟩)) ov1 (by kernel_rfl) (by kernel_rfl) (by kernel_rfl) (fun _ _ _ h => h) (Or.inl ⟨by rfl, fun V' hS => ?_⟩) hHeld ?_
  · have q0 := hS.p0
    go_simp
  simp only [Act.put, List.setIfInBounds_toArray, List.set_cons_zero, List.set_cons_succ]
  refine wpAnyH_take (i := 2) (v := .pointer (some ⟨ob, 2, none⟩)) ov2 (by kernel_rfl) (by kernel_rfl) (by kernel_rfl) (fun _ _ _ h => h) (Or.inl ⟨by rfl, fun V' hS => ?_⟩) hHeld ?_
  · go_simp
  simp only [Act.put, List.setIfInBounds_toArray, List.set_cons_zero, List.set_cons_succ]
  refine wpAnyH_take (i := 3) (v := .int .i64 N) ov3 (by kernel_rfl) (by kernel_rfl) (by kernel_rfl) (fun _ _ _ h => h) (Or.inl ⟨by rfl, fun V' hS => ?_⟩) hHeld ?_
  · have q0 := hS.k2
    go_simp
  simp only [Act.put, List.setIfInBounds_toArray, List.set_cons_zero, List.set_cons_succ]
  refine wpAnyH_take (i := 5) (v := .pointer (some ⟨sb, 1, none⟩)) ov5 (by kernel_rfl) (by kernel_rfl) (by kernel_rfl) (fun _ _ _ h => h) (Or.inl ⟨by rfl, fun V' hS => ?_⟩) hHeld ?_
  · go_simp
  simp only [Act.put, List.setIfInBounds_toArray, List.set_cons_zero, List.set_cons_succ]
  refine wpAnyH_take (i := 6) (v := .pointer (some ⟨c, 0, none⟩)) ov6 (by kernel_rfl) (by kernel_rfl) (by kernel_rfl) (fun _ _ _ h => h) (Or.inl ⟨by rfl, fun V' hS => ?_⟩) hHeld ?_
  · have q0 := hS.p1
    go_simp
  simp only [Act.put, List.setIfInBounds_toArray, List.set_cons_zero, List.set_cons_succ]
  refine wpAnyH_take (i := 7) (v := .pointer (some ⟨ob, 2, none⟩)) ov7 (by kernel_rfl) (by kernel_rfl) (by kernel_rfl) (fun _ _ _ h => h) (Or.inl ⟨by rfl, fun V' hS => ?_⟩) hHeld ?_
  · go_simp
  simp only [Act.put, List.setIfInBounds_toArray, List.set_cons_zero, List.set_cons_succ]
  refine wpAnyH_take (i := 8) (v := .int .i64 N) ov8 (by kernel_rfl) (by kernel_rfl) (by kernel_rfl) (fun _ _ _ h => h) (Or.inl ⟨by rfl, fun V' hS => ?_⟩) hHeld ?_
  · have q0 := hS.k2
    go_simp
  simp only [Act.put, List.setIfInBounds_toArray, List.set_cons_zero, List.set_cons_succ]
  refine wpAnyH_ready (rs := [4]) (by kernel_rfl) (by simp) ?_
  refine AllReadyH.cons ov4 (fun K hK => ?_) AllReadyH.nil
  rw [if_pos (by rfl)]
  go_simp
  refine (peek_is z0 b f n N K1.out.s).mono ?_
  rintro e v1 ⟨rfl, h1⟩
  rw [EY.out]
  unfold W4.v
  have K2 : Hid (LK w v1 sb ob b c f f n n 9 N M X) := K1.out.past h1
  clear h1
  (try go_wp2_with fail)
  refine hK.out _ _ K2.out.bo (fun _ => ?_)
  clear hK K
  (try simp only [Act.put, List.setIfInBounds_toArray, List.set_cons_zero, List.set_cons_succ])
  refine wpAnyH_ready (rs := [9]) (by kernel_rfl) (by simp) ?_
  refine AllReadyH.cons ov9 (fun K hK => ?_) AllReadyH.nil
  rw [if_pos (by rfl)]
  go_simp
  refine (peekR_is v1 c f n N K2.out.r).mono ?_
  rintro e v2 ⟨rfl, h1⟩
  rw [EY.out]
  unfold W4.v
  have K3 : Hid (LK w v2 sb ob b c f f n n 9 N M X) := K2.out.past h1
  clear h1
  (try go_wp2_with fail)
  refine hK.out _ _ K3.out.bo (fun _ => ?_)
  clear hK K
  (try simp only [Act.put, List.setIfInBounds_toArray, List.set_cons_zero, List.set_cons_succ])
  refine wpAnyH_take (i := 10) (v := .bool true) ov10 (by kernel_rfl) (by kernel_rfl) (by kernel_rfl) (fun _ _ _ h => h) (Or.inl ⟨by rfl, fun V' hS => ?_⟩) K3.out.bo ?_
  · have hq := eqw_self y.a y.b y.c y.d V'
    go_simp
  simp only [Act.put, List.setIfInBounds_toArray, List.set_cons_zero, List.set_cons_succ]
  refine wpAnyH_take (i := 11) (v := .bool true) ov11 (by kernel_rfl) (by kernel_rfl) (by kernel_rfl) (fun _ _ _ h => h) (Or.inl ⟨by rfl, fun V' hS => ?_⟩) K3.out.bo ?_
  · go_simp
  simp only [Act.put, List.setIfInBounds_toArray, List.set_cons_zero, List.set_cons_succ]
  refine wpAnyH_done (by kernel_rfl) ?_ _
  go_wp2
  go_ret
  exact ⟨rfl, K3.out.two, K3.out.bt⟩
set_option maxHeartbeats 2000000 in
set_option maxRecDepth 100000 in
theorem unlooked15 (w : World) (b c : Nat) (f : Ring) (n : Int) (h : Two w b c f n) (hn : n ≤ 4611686018427387904) (hn0 : -4611686018427387904 ≤ n) (tw : Bool) (N M P : Int) (X Y : W4) (B : Value) : Calls Try.prog 42 #[sideV b c, opV 15 tw N M P X Y B] w fun e w' => e = .returned (.bool true) ∧ (∃ f' n', Two w' b c f' n' ∧ n - 2100 ≤ n' ∧ n' ≤ n) ∧ But (BC b c) w w' := by
  have _ : True := (fun _ _ => trivial : n ≤ 4611686018427387904 → -4611686018427387904 ≤ n → True) hn hn0
  have K0 : Hid (LK w ((w.alloc (sideO b c)).alloc (opO 15 tw N M P X Y B)) w.heap.size (w.heap.size + 1) b c f f n n 15 N M X) := LK.start h _ tw N M P X Y B
  clear h
  unfold sideV opV
  go_enter Try.func42, Try.ntmps42
  go_upto_region 1 with fail
  change Code.wp _ _ _ _ ((w.alloc (sideO b c)).alloc (opO 15 tw N M P X Y B))
  generalize (w.alloc (sideO b c)).alloc (opO 15 tw N M P X Y B) = v at K0 ⊢
  generalize w.heap.size + 1 = ob at K0 ⊢
  generalize w.heap.size = sb at K0 ⊢
  have bo := K0.out.bo
  have k0 := bo.k0
  go_upto_region 23 with fail
  obtain ⟨p0, p1, _, k2, k3, x0, x1, x2, x3⟩ := bo
  clear p0 p1 k0 k2 k3 x0 x1 x2 x3
  go_wp2
  go_loopw [7] (fun si wr => ∃ (k : Nat) (f1 : Ring) (n1 : Int), k ≤ 2100 ∧ si = .int .i64 (k : Int) ∧ LK w wr sb ob b c f1 f1 n1 n1 15 N M X ∧ n - (k : Int) ≤ n1 ∧ n1 ≤ n) (fun si _ => 2100 - (intOf si).toNat)
  case atStart => exact ⟨0, f, n, by omega, rfl, K0.out, by simp⟩
  case round =>
    obtain ⟨k, f1, n1, hk, rfl, hK, hinv⟩ := hrel
    have K0 : Hid (LK w wr sb ob b c f1 f1 n1 n1 15 N M X) := hK
    have bo := hK.bo
    obtain ⟨p0, p1, _, k2, k3, x0, x1, x2, x3⟩ := bo
    have HI : Hid (n - (k : Int) ≤ n1 ∧ n1 ≤ n) := hinv
    have hn1 : n1 ≤ 4611686018427390004 := by omega
    have hn2 : -4611686018427390004 ≤ n1 := by omega
    clear hK hinv
    have kI : (k : Int) ≤ 2100 := by omega
    by_cases hkN : (k : Int) < N
    · by_cases hkt : k < 2100
      · have ktI : (k : Int) < 2100 := by omega
        go_upto_region 26 with fail
        clear p0 p1 k2 k3 x0 x1 x2 x3
        obtain ⟨y, ey⟩ : ∃ y, f1 (pl (n1 - 1)) = y := ⟨_, rfl⟩
        have EY : Hid (f1 (pl (n1 - 1)) = y) := ey
        clear ey
        have wn : wrap64 (n1 - 1) = n1 - 1 := by rw [wrap64]; omega
        replace wn : Hid (wrap64 (n1 - 1) = n1 - 1) := wn
        refine wp_region_held_drew (S := fun V' => Bo V' sb ob b c 15 N M X) (by kernel_rfl) K0.out.drew.bo (fun hHeld => ?_)
        have K1 : Hid (LK w wr.drew sb ob b c f1 f1 n1 n1 15 N M X) := K0.out.drew
        generalize wr.drew = z0 at hHeld K1 ⊢
        clear K0
        refine wpAnyH_take (i := 0) (v := .pointer (some ⟨sb, 0, none⟩)) ov0 (by kernel_rfl) (by kernel_rfl) (by kernel_rfl) (fun _ _ _ h => h) (Or.inl ⟨by rfl, fun V' hS => ?_⟩) hHeld ?_
        · go_simp
        simp only [Act.put, List.setIfInBounds_toArray, List.set_cons_zero, List.set_cons_succ]
        refine wpAnyH_take (i := 1) (v := .pointer (some ⟨b, 0, none⟩)) ov1 (by kernel_rfl) (by kernel_rfl) (by kernel_rfl) (fun _ _ _ h => h) (Or.inl ⟨by rfl, fun V' hS => ?_⟩) hHeld ?_
        · have q0 := hS.p0
          go_simp
        simp only [Act.put, List.setIfInBounds_toArray, List.set_cons_zero, List.set_cons_succ]
        refine wpAnyH_take (i := 3) (v := .pointer (some ⟨sb, 1, none⟩)) ov3 (by kernel_rfl) (by kernel_rfl) (by kernel_rfl) (fun _ _ _ h => h) (Or.inl ⟨by rfl, fun V' hS => ?_⟩) hHeld ?_
        · go_simp
        simp only [Act.put, List.setIfInBounds_toArray, List.set_cons_zero, List.set_cons_succ]
        refine wpAnyH_take (i := 4) (v := .pointer (some ⟨c, 0, none⟩)) ov4 (by kernel_rfl) (by kernel_rfl) (by kernel_rfl) (fun _ _ _ h => h) (Or.inl ⟨by rfl, fun V' hS => ?_⟩) hHeld ?_
        · have q0 := hS.p1
          go_simp
        simp only [Act.put, List.setIfInBounds_toArray, List.set_cons_zero, List.set_cons_succ]
        refine wpAnyH_ready (rs := [2]) (by kernel_rfl) (by simp) ?_
        refine AllReadyH.cons ov2 (fun K hK => ?_) AllReadyH.nil
        rw [if_pos (by rfl)]
        go_simp
        refine (take_is z0 b f1 n1 K1.out.s).mono ?_
        rintro e v1 ⟨rfl, h1, h2⟩
        rw [EY.out]
        unfold W4.v
        rw [wn.out] at h1
        have K2 : Hid (LK w v1 sb ob b c f1 f1 (n1 - 1) n1 15 N M X) := K1.out.callS h1 h2
        clear h1 h2
        (try go_wp2_with fail)
        refine hK.out _ _ K2.out.bo (fun _ => ?_)
        clear hK K
        (try simp only [Act.put, List.setIfInBounds_toArray, List.set_cons_zero, List.set_cons_succ])
        refine wpAnyH_ready (rs := [5]) (by kernel_rfl) (by simp) ?_
        refine AllReadyH.cons ov5 (fun K hK => ?_) AllReadyH.nil
        rw [if_pos (by rfl)]
        go_simp
        refine (takeR_is v1 c f1 n1 K2.out.r).mono ?_
        rintro e v2 ⟨rfl, h1, h2⟩
        rw [EY.out]
        unfold W4.v
        rw [wn.out] at h1
        have K3 : Hid (LK w v2 sb ob b c f1 f1 (n1 - 1) (n1 - 1) 15 N M X) := K2.out.callR h1 h2
        clear h1 h2
        (try go_wp2_with fail)
        refine hK.out _ _ K3.out.bo (fun _ => ?_)
        clear hK K
        (try simp only [Act.put, List.setIfInBounds_toArray, List.set_cons_zero, List.set_cons_succ])
        refine wpAnyH_take (i := 6) (v := .bool false) ov6 (by kernel_rfl) (by kernel_rfl) (by kernel_rfl) (fun _ _ _ h => h) (Or.inl ⟨by rfl, fun V' hS => ?_⟩) K3.out.bo ?_
        · have hq := eqw_self y.a y.b y.c y.d V'
          go_simp
        simp only [Act.put, List.setIfInBounds_toArray, List.set_cons_zero, List.set_cons_succ]
        refine wpAnyH_done (by kernel_rfl) ?_ _
        go_wp2
        go_roundw
        case rel => exact ⟨k + 1, f1, n1 - 1, by omega, by simp, K3.out, by have := HI.out; omega⟩
        case measure => simp [intOf]; omega
      · have ktI : ¬ ((k : Int) < 2100) := by omega
        go_wp2
        go_ret
        exact ⟨rfl, ⟨f1, n1, K0.out.two, by have := HI.out; omega, by have := HI.out; omega⟩, K0.out.bt⟩
    · go_wp2
      go_ret
      exact ⟨rfl, ⟨f1, n1, K0.out.two, by have := HI.out; omega, by have := HI.out; omega⟩, K0.out.bt⟩
set_option maxHeartbeats 2000000 in
set_option maxRecDepth 100000 in
theorem unlooked14 (w : World) (b c : Nat) (f : Ring) (n : Int) (h : Two w b c f n) (hn : n ≤ 4611686018427387904) (hn0 : -4611686018427387904 ≤ n) (tw : Bool) (N M P : Int) (X Y : W4) (B : Value) : Calls Try.prog 42 #[sideV b c, opV 14 tw N M P X Y B] w fun e w' => e = .returned (.bool true) ∧ (∃ f' n', Two w' b c f' n' ∧ n ≤ n' ∧ n' ≤ n + 2100) ∧ But (BC b c) w w' := by
  have _ : True := (fun _ _ => trivial : n ≤ 4611686018427387904 → -4611686018427387904 ≤ n → True) hn hn0
  have K0 : Hid (LK w ((w.alloc (sideO b c)).alloc (opO 14 tw N M P X Y B)) w.heap.size (w.heap.size + 1) b c f f n n 14 N M X) := LK.start h _ tw N M P X Y B
  clear h
  unfold sideV opV
  go_enter Try.func42, Try.ntmps42
  go_upto_region 1 with fail
  change Code.wp _ _ _ _ ((w.alloc (sideO b c)).alloc (opO 14 tw N M P X Y B))
  generalize (w.alloc (sideO b c)).alloc (opO 14 tw N M P X Y B) = v at K0 ⊢
  generalize w.heap.size + 1 = ob at K0 ⊢
  generalize w.heap.size = sb at K0 ⊢
  have bo := K0.out.bo
  have k0 := bo.k0
  go_upto_region 16 with fail
  obtain ⟨p0, p1, _, k2, k3, x0, x1, x2, x3⟩ := bo
  clear p0 p1 k0 k2 k3 x0 x1 x2 x3
  go_wp2
  go_loopw [5] (fun si wr => ∃ (k : Nat) (f1 : Ring) (n1 : Int), k ≤ 2100 ∧ si = .int .i64 (k : Int) ∧ LK w wr sb ob b c f1 f1 n1 n1 14 N M X ∧ n ≤ n1 ∧ n1 ≤ n + (k : Int)) (fun si _ => 2100 - (intOf si).toNat)
  case atStart => exact ⟨0, f, n, by omega, rfl, K0.out, by simp⟩
  case round =>
    obtain ⟨k, f1, n1, hk, rfl, hK, hinv⟩ := hrel
    have K0 : Hid (LK w wr sb ob b c f1 f1 n1 n1 14 N M X) := hK
    have bo := hK.bo
    obtain ⟨p0, p1, _, k2, k3, x0, x1, x2, x3⟩ := bo
    have HI : Hid (n ≤ n1 ∧ n1 ≤ n + (k : Int)) := hinv
    have hn1 : n1 ≤ 4611686018427390004 := by omega
    have hn2 : -4611686018427390004 ≤ n1 := by omega
    clear hK hinv
    have kI : (k : Int) ≤ 2100 := by omega
    by_cases hkN : (k : Int) < N
    · by_cases hkt : k < 2100
      · have ktI : (k : Int) < 2100 := by omega
        obtain ⟨y0, ey0⟩ : ∃ y0, IntKind.u64.wrap (X.a + (k : Int)) = y0 := ⟨_, rfl⟩
        have kw : IntKind.u64.wrap (k : Int) = (k : Int) := by rw [IntKind.wrap_u64]; omega
        have wn : Hid (wrap64 (n1 + 1) = n1 + 1) := by unfold Hid; rw [wrap64]; omega
        go_upto_region 20 with fail
        have W1 : Hid (Wd (wr.alloc (.cells #[.int .u64 y0, .int .u64 (k : Int), .int .u64 0, .int .u64 0] 30)) wr.heap.size 0 (W4.mk y0 (k : Int) 0 0)) := Wd.new wr _ (W4.mk y0 (k : Int) 0 0)
        have K1 : Hid (LK w (wr.alloc (.cells #[.int .u64 y0, .int .u64 (k : Int), .int .u64 0, .int .u64 0] 30)) sb ob b c f1 f1 n1 n1 14 N M X) := K0.out.alloc _
        have HBX : Hid (wr.heap.size ≠ b) := by have := K0.out.s.lt; unfold Hid; omega
        generalize wr.alloc (.cells #[.int .u64 y0, .int .u64 (k : Int), .int .u64 0, .int .u64 0] 30) = v1 at W1 K1 ⊢
        generalize wr.heap.size = bx at W1 HBX ⊢
        clear K0 p0 p1 k2 k3 x0 x1 x2 x3 ey0 kw
        have CS : Hid (Calls Try.prog 37 #[.pointer (some ⟨b, 0, none⟩), (W4.mk y0 (k : Int) 0 0).v] v1 fun e w' => e = .returned (.tuple #[]) ∧ Stk w' b 0 4096 (rput f1 (pl n1) (W4.mk y0 (k : Int) 0 0)) (n1 + 1) ∧ Only b v1 w') := by rw [← wn.out]; exact put_is v1 b f1 n1 K1.out.s _
        have CR : Hid (∀ W, Stk W c 1 0 f1 n1 → Calls Try.prog 54 #[.pointer (some ⟨c, 0, none⟩), (W4.mk y0 (k : Int) 0 0).v] W fun e w' => e = .returned (.tuple #[]) ∧ Stk w' c 1 0 (rput f1 (pl n1) (W4.mk y0 (k : Int) 0 0)) (n1 + 1) ∧ Only c W w') := fun W hW => by rw [← wn.out]; exact putR_is W c f1 n1 hW _
        have hbx : bx ≠ b := HBX.out
        obtain ⟨p0, p1, _, k2, k3, x0, x1, x2, x3⟩ := K1.out.bo
        obtain ⟨c0, c1, c2, c3, _⟩ := W1.out
        go_upto_region 21 with (go_at_call 37; refine (CS.out).mono ?_; rintro e v2 ⟨rfl, h1, h2⟩; (have K2 : Hid (LK w v2 sb ob b c (rput f1 (pl n1) (W4.mk y0 (k : Int) 0 0)) f1 (n1 + 1) n1 14 N M X) := K1.out.callS h1 h2); (have W2 : Hid (Wd v2 bx 0 (W4.mk y0 (k : Int) 0 0)) := W1.out.only h2 hbx); clear CS K1 W1 h1 h2)
        clear p0 p1 k2 k3 x0 x1 x2 x3 c0 c1 c2 c3
        obtain ⟨p0, p1, _, k2, k3, x0, x1, x2, x3⟩ := K2.out.bo
        obtain ⟨c0, c1, c2, c3, _⟩ := W2.out
        go_wp2_with (go_at_call 54; refine (CR.out _ K2.out.r).mono ?_; rintro e v3 ⟨rfl, h1, h2⟩; (have K3 : Hid (LK w v3 sb ob b c (rput f1 (pl n1) (W4.mk y0 (k : Int) 0 0)) (rput f1 (pl n1) (W4.mk y0 (k : Int) 0 0)) (n1 + 1) (n1 + 1) 14 N M X) := K2.out.callR h1 h2); clear CR K2 W2 h1 h2)
        go_roundw
        case rel => exact ⟨k + 1, _, n1 + 1, by omega, by simp, K3.out, by have := HI.out; omega⟩
        case measure => simp [intOf]; omega
      · have ktI : ¬ ((k : Int) < 2100) := by omega
        go_wp2
        go_ret
        exact ⟨rfl, ⟨f1, n1, K0.out.two, by have := HI.out; omega, by have := HI.out; omega⟩, K0.out.bt⟩
    · go_wp2
      go_ret
      exact ⟨rfl, ⟨f1, n1, K0.out.two, by have := HI.out; omega, by have := HI.out; omega⟩, K0.out.bt⟩
set_option maxHeartbeats 2000000 in
set_option maxRecDepth 100000 in
theorem unlooked_other (w : World) (b c : Nat) (f : Ring) (n : Int) (h : Two w b c f n) (hn : n ≤ 4611686018427387904) (hn0 : -4611686018427387904 ≤ n) (kd : Int) (h7 : (kd == 7) = false) (h8 : (kd == 8) = false) (h9 : (kd == 9) = false) (h10 : (kd == 10) = false) (h11 : (kd == 11) = false) (h14 : (kd == 14) = false) (h15 : (kd == 15) = false) (tw : Bool) (N M P : Int) (X Y : W4) (B : Value) : Calls Try.prog 42 #[sideV b c, opV kd tw N M P X Y B] w fun e w' => e = .returned (.bool true) ∧ Two w' b c f n ∧ But (BC b c) w w' := by
  have _ : True := (fun _ _ => trivial : n ≤ 4611686018427387904 → -4611686018427387904 ≤ n → True) hn hn0
  have K0 : Hid (LK w ((w.alloc (sideO b c)).alloc (opO kd tw N M P X Y B)) w.heap.size (w.heap.size + 1) b c f f n n kd N M X) := LK.start h _ tw N M P X Y B
  clear h
  unfold sideV opV
  go_enter Try.func42, Try.ntmps42
  go_upto_region 1 with fail
  change Code.wp _ _ _ _ ((w.alloc (sideO b c)).alloc (opO kd tw N M P X Y B))
  generalize (w.alloc (sideO b c)).alloc (opO kd tw N M P X Y B) = v at K0 ⊢
  generalize w.heap.size + 1 = ob at K0 ⊢
  generalize w.heap.size = sb at K0 ⊢
  have k0 := K0.out.bo.k0
  go_wp2
  go_ret
  exact ⟨rfl, K0.out.two, K0.out.bt⟩
end Go.Proofs.Ytdddmebihkdkjaa
