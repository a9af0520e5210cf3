/- A step that looks, kind by kind. -/
import Derived.Test.YtdddmebihkdkjaaQj
namespace Go.Proofs.Ytdddmebihkdkjaa
open Go.RowKit
set_option maxHeartbeats 2000000 in
set_option maxRecDepth 100000 in
theorem looked1 (w : World) (b c : Nat) (f : Ring) (n : Int) (h : Two w b c f n) (hn : n ≤ 4611686018427387904) (hn0 : -4611686018427387904 ≤ n) (tw : Bool) (N M P : Int) (X Y : W4) (B : Value) : Calls Try.prog 11 #[sideV b c, opV 1 tw N M P X Y B] w fun e w' => e = .returned (.bool true) ∧ Two w' b c (oPush f n X).f (oPush f n X).n ∧ But (BC b c) w w' := by
  have _ : True := (fun _ _ => trivial : n ≤ 4611686018427387904 → -4611686018427387904 ≤ n → True) hn hn0
  have K0 : Hid (LK w ((w.alloc (sideO b c)).alloc (opO 1 tw N M P X Y B)) w.heap.size (w.heap.size + 1) b c f f n n 1 N M X) := LK.start h _ tw N M P X Y B
  obtain ⟨q, eq⟩ : ∃ q, q = (oPush f n X) := ⟨_, rfl⟩
  rw [← eq]
  have EQ : Hid (q = (oPush f n X)) := eq
  clear eq
  clear h
  unfold sideV opV
  go_enter Try.func11, Try.ntmps11
  go_upto_region 1 with fail
  change Code.wp _ _ _ _ ((w.alloc (sideO b c)).alloc (opO 1 tw N M P X Y B))
  generalize (w.alloc (sideO b c)).alloc (opO 1 tw N M P X Y B) = v at K0 ⊢
  generalize w.heap.size + 1 = ob at K0 ⊢
  generalize w.heap.size = sb at K0 ⊢
  have bo := K0.out.bo
  have k0 := bo.k0
  go_upto_region 3 with fail
  obtain ⟨p0, p1, _, k2, k3, x0, x1, x2, x3⟩ := bo
  clear p0 p1 k0 k2 k3 x0 x1 x2 x3
  refine wp_region_held_drew (S := fun V' => Bo V' sb ob b c 1 N M X) (by kernel_rfl) K0.out.drew.bo (fun hHeld => ?_)
  have K1 : Hid (LK w v.drew sb ob b c f f n n 1 N M X) := K0.out.drew
  generalize v.drew = z0 at hHeld K1 ⊢
  clear K0
  refine wpAnyH_take (i := 0) (v := .pointer (some ⟨sb, 0, none⟩)) ov0 (by kernel_rfl) (by kernel_rfl) (by kernel_rfl) (fun _ _ _ h => h) (Or.inl ⟨by rfl, fun V' hS => ?_⟩) hHeld ?_
  · go_simp
  simp only [Act.put, List.setIfInBounds_toArray, List.set_cons_zero, List.set_cons_succ]
  refine wpAnyH_take (i := 1) (v := .pointer (some ⟨b, 0, none⟩)) ov1 (by kernel_rfl) (by kernel_rfl) (by kernel_rfl) (fun _ _ _ h => h) (Or.inl ⟨by rfl, fun V' hS => ?_⟩) hHeld ?_
  · have q0 := hS.p0
    go_simp
  simp only [Act.put, List.setIfInBounds_toArray, List.set_cons_zero, List.set_cons_succ]
  refine wpAnyH_take (i := 2) (v := .pointer (some ⟨ob, 5, none⟩)) ov2 (by kernel_rfl) (by kernel_rfl) (by kernel_rfl) (fun _ _ _ h => h) (Or.inl ⟨by rfl, fun V' hS => ?_⟩) hHeld ?_
  · go_simp
  simp only [Act.put, List.setIfInBounds_toArray, List.set_cons_zero, List.set_cons_succ]
  refine wpAnyH_take (i := 3) (v := .agg #[.int .u64 X.a, .int .u64 X.b, .int .u64 X.c, .int .u64 X.d]) ov3 (by kernel_rfl) (by kernel_rfl) (by kernel_rfl) (fun _ _ _ h => h) (Or.inl ⟨by rfl, fun V' hS => ?_⟩) hHeld ?_
  · have q0 := hS.x0
    have q1 := hS.x1
    have q2 := hS.x2
    have q3 := hS.x3
    go_simp
  simp only [Act.put, List.setIfInBounds_toArray, List.set_cons_zero, List.set_cons_succ]
  refine wpAnyH_take (i := 5) (v := .pointer (some ⟨sb, 1, none⟩)) ov5 (by kernel_rfl) (by kernel_rfl) (by kernel_rfl) (fun _ _ _ h => h) (Or.inl ⟨by rfl, fun V' hS => ?_⟩) hHeld ?_
  · go_simp
  simp only [Act.put, List.setIfInBounds_toArray, List.set_cons_zero, List.set_cons_succ]
  refine wpAnyH_take (i := 6) (v := .pointer (some ⟨c, 0, none⟩)) ov6 (by kernel_rfl) (by kernel_rfl) (by kernel_rfl) (fun _ _ _ h => h) (Or.inl ⟨by rfl, fun V' hS => ?_⟩) hHeld ?_
  · have q0 := hS.p1
    go_simp
  simp only [Act.put, List.setIfInBounds_toArray, List.set_cons_zero, List.set_cons_succ]
  refine wpAnyH_take (i := 7) (v := .pointer (some ⟨ob, 5, none⟩)) ov7 (by kernel_rfl) (by kernel_rfl) (by kernel_rfl) (fun _ _ _ h => h) (Or.inl ⟨by rfl, fun V' hS => ?_⟩) hHeld ?_
  · go_simp
  simp only [Act.put, List.setIfInBounds_toArray, List.set_cons_zero, List.set_cons_succ]
  refine wpAnyH_take (i := 8) (v := .agg #[.int .u64 X.a, .int .u64 X.b, .int .u64 X.c, .int .u64 X.d]) ov8 (by kernel_rfl) (by kernel_rfl) (by kernel_rfl) (fun _ _ _ h => h) (Or.inl ⟨by rfl, fun V' hS => ?_⟩) hHeld ?_
  · have q0 := hS.x0
    have q1 := hS.x1
    have q2 := hS.x2
    have q3 := hS.x3
    go_simp
  simp only [Act.put, List.setIfInBounds_toArray, List.set_cons_zero, List.set_cons_succ]
  refine wpAnyH_ready (rs := [4]) (by kernel_rfl) (by simp) ?_
  refine AllReadyH.cons ov4 (fun K hK => ?_) AllReadyH.nil
  rw [if_pos (by rfl)]
  go_simp
  refine (push_is z0 b f n K1.out.s X).mono ?_
  rintro e v1 ⟨rfl, h1, h2⟩
  rw [← EQ.out] at h1 ⊢
  have K2 : Hid (LK w v1 sb ob b c q.f f q.n n 1 N M X) := K1.out.callS h1 h2
  clear h1 h2
  (try go_wp2_with fail)
  refine hK.out _ _ K2.out.bo (fun _ => ?_)
  clear hK K
  (try simp only [Act.put, List.setIfInBounds_toArray, List.set_cons_zero, List.set_cons_succ])
  refine wpAnyH_ready (rs := [9]) (by kernel_rfl) (by simp) ?_
  refine AllReadyH.cons ov9 (fun K hK => ?_) AllReadyH.nil
  rw [if_pos (by rfl)]
  go_simp
  refine (pushR_is v1 c f n K2.out.r X).mono ?_
  rintro e v2 ⟨rfl, h1, h2⟩
  rw [← EQ.out] at h1 ⊢
  have K3 : Hid (LK w v2 sb ob b c q.f q.f q.n q.n 1 N M X) := K2.out.callR h1 h2
  clear h1 h2
  (try go_wp2_with fail)
  refine hK.out _ _ K3.out.bo (fun _ => ?_)
  clear hK K
  (try simp only [Act.put, List.setIfInBounds_toArray, List.set_cons_zero, List.set_cons_succ])
  refine wpAnyH_take (i := 10) (v := .bool true) ov10 (by kernel_rfl) (by kernel_rfl) (by kernel_rfl) (fun _ _ _ h => h) (Or.inl ⟨by rfl, fun V' hS => ?_⟩) K3.out.bo ?_
  · go_simp
  simp only [Act.put, List.setIfInBounds_toArray, List.set_cons_zero, List.set_cons_succ]
  refine wpAnyH_take (i := 11) (v := .bool true) ov11 (by kernel_rfl) (by kernel_rfl) (by kernel_rfl) (fun _ _ _ h => h) (Or.inl ⟨by rfl, fun V' hS => ?_⟩) K3.out.bo ?_
  · go_simp
  simp only [Act.put, List.setIfInBounds_toArray, List.set_cons_zero, List.set_cons_succ]
  refine wpAnyH_done (by kernel_rfl) ?_ _
  go_wp2
  go_ret
  exact ⟨rfl, K3.out.two, K3.out.bt⟩
set_option maxHeartbeats 2000000 in
set_option maxRecDepth 100000 in
theorem looked4 (w : World) (b c : Nat) (f : Ring) (n : Int) (h : Two w b c f n) (hn : n ≤ 4611686018427387904) (hn0 : -4611686018427387904 ≤ n) (tw : Bool) (N M P : Int) (X Y : W4) (B : Value) : Calls Try.prog 11 #[sideV b c, opV 4 tw N M P X Y B] w fun e w' => e = .returned (.bool true) ∧ Two w' b c (oDup f n N).f (oDup f n N).n ∧ But (BC b c) w w' := by
  have _ : True := (fun _ _ => trivial : n ≤ 4611686018427387904 → -4611686018427387904 ≤ n → True) hn hn0
  have K0 : Hid (LK w ((w.alloc (sideO b c)).alloc (opO 4 tw N M P X Y B)) w.heap.size (w.heap.size + 1) b c f f n n 4 N M X) := LK.start h _ tw N M P X Y B
  obtain ⟨q, eq⟩ : ∃ q, q = (oDup f n N) := ⟨_, rfl⟩
  rw [← eq]
  have EQ : Hid (q = (oDup f n N)) := eq
  clear eq
  clear h
  unfold sideV opV
  go_enter Try.func11, Try.ntmps11
  go_upto_region 1 with fail
  change Code.wp _ _ _ _ ((w.alloc (sideO b c)).alloc (opO 4 tw N M P X Y B))
  generalize (w.alloc (sideO b c)).alloc (opO 4 tw N M P X Y B) = v at K0 ⊢
  generalize w.heap.size + 1 = ob at K0 ⊢
  generalize w.heap.size = sb at K0 ⊢
  have bo := K0.out.bo
  have k0 := bo.k0
  go_upto_region 13 with fail
  obtain ⟨p0, p1, _, k2, k3, x0, x1, x2, x3⟩ := bo
  clear p0 p1 k0 k2 k3 x0 x1 x2 x3
  refine wp_region_held_drew (S := fun V' => Bo V' sb ob b c 4 N M X) (by kernel_rfl) K0.out.drew.bo (fun hHeld => ?_)
  have K1 : Hid (LK w v.drew sb ob b c f f n n 4 N M X) := K0.out.drew
  generalize v.drew = z0 at hHeld K1 ⊢
  clear K0
  refine wpAnyH_take (i := 0) (v := .pointer (some ⟨sb, 0, none⟩)) ov0 (by kernel_rfl) (by kernel_rfl) (by kernel_rfl) (fun _ _ _ h => h) (Or.inl ⟨by rfl, fun V' hS => ?_⟩) hHeld ?_
  · go_simp
  simp only [Act.put, List.setIfInBounds_toArray, List.set_cons_zero, List.set_cons_succ]
  refine wpAnyH_take (i := 1) (v := .pointer (some ⟨b, 0, none⟩)) ov1 (by kernel_rfl) (by kernel_rfl) (by kernel_rfl) (fun _ _ _ h => h) (Or.inl ⟨by rfl, fun V' hS => ?_⟩) hHeld ?_
  · have q0 := hS.p0
    go_simp
  simp only [Act.put, List.setIfInBounds_toArray, List.set_cons_zero, List.set_cons_succ]
  refine wpAnyH_take (i := 2) (v := .pointer (some ⟨ob, 2, none⟩)) ov2 (by kernel_rfl) (by kernel_rfl) (by kernel_rfl) (fun _ _ _ h => h) (Or.inl ⟨by rfl, fun V' hS => ?_⟩) hHeld ?_
  · go_simp
  simp only [Act.put, List.setIfInBounds_toArray, List.set_cons_zero, List.set_cons_succ]
  refine wpAnyH_take (i := 3) (v := .int .i64 N) ov3 (by kernel_rfl) (by kernel_rfl) (by kernel_rfl) (fun _ _ _ h => h) (Or.inl ⟨by rfl, fun V' hS => ?_⟩) hHeld ?_
  · have q0 := hS.k2
    go_simp
  simp only [Act.put, List.setIfInBounds_toArray, List.set_cons_zero, List.set_cons_succ]
  refine wpAnyH_take (i := 5) (v := .pointer (some ⟨sb, 1, none⟩)) ov5 (by kernel_rfl) (by kernel_rfl) (by kernel_rfl) (fun _ _ _ h => h) (Or.inl ⟨by rfl, fun V' hS => ?_⟩) hHeld ?_
  · go_simp
  simp only [Act.put, List.setIfInBounds_toArray, List.set_cons_zero, List.set_cons_succ]
  refine wpAnyH_take (i := 6) (v := .pointer (some ⟨c, 0, none⟩)) ov6 (by kernel_rfl) (by kernel_rfl) (by kernel_rfl) (fun _ _ _ h => h) (Or.inl ⟨by rfl, fun V' hS => ?_⟩) hHeld ?_
  · have q0 := hS.p1
    go_simp
  simp only [Act.put, List.setIfInBounds_toArray, List.set_cons_zero, List.set_cons_succ]
  refine wpAnyH_take (i := 7) (v := .pointer (some ⟨ob, 2, none⟩)) ov7 (by kernel_rfl) (by kernel_rfl) (by kernel_rfl) (fun _ _ _ h => h) (Or.inl ⟨by rfl, fun V' hS => ?_⟩) hHeld ?_
  · go_simp
  simp only [Act.put, List.setIfInBounds_toArray, List.set_cons_zero, List.set_cons_succ]
  refine wpAnyH_take (i := 8) (v := .int .i64 N) ov8 (by kernel_rfl) (by kernel_rfl) (by kernel_rfl) (fun _ _ _ h => h) (Or.inl ⟨by rfl, fun V' hS => ?_⟩) hHeld ?_
  · have q0 := hS.k2
    go_simp
  simp only [Act.put, List.setIfInBounds_toArray, List.set_cons_zero, List.set_cons_succ]
  refine wpAnyH_ready (rs := [4]) (by kernel_rfl) (by simp) ?_
  refine AllReadyH.cons ov4 (fun K hK => ?_) AllReadyH.nil
  rw [if_pos (by rfl)]
  go_simp
  refine (dup_is z0 b f n N K1.out.s).mono ?_
  rintro e v1 ⟨rfl, h1, h2⟩
  rw [← EQ.out] at h1 ⊢
  have K2 : Hid (LK w v1 sb ob b c q.f f q.n n 4 N M X) := K1.out.callS h1 h2
  clear h1 h2
  (try go_wp2_with fail)
  refine hK.out _ _ K2.out.bo (fun _ => ?_)
  clear hK K
  (try simp only [Act.put, List.setIfInBounds_toArray, List.set_cons_zero, List.set_cons_succ])
  refine wpAnyH_ready (rs := [9]) (by kernel_rfl) (by simp) ?_
  refine AllReadyH.cons ov9 (fun K hK => ?_) AllReadyH.nil
  rw [if_pos (by rfl)]
  go_simp
  refine (dupR_is v1 c f n N K2.out.r).mono ?_
  rintro e v2 ⟨rfl, h1, h2⟩
  rw [← EQ.out] at h1 ⊢
  have K3 : Hid (LK w v2 sb ob b c q.f q.f q.n q.n 4 N M X) := K2.out.callR h1 h2
  clear h1 h2
  (try go_wp2_with fail)
  refine hK.out _ _ K3.out.bo (fun _ => ?_)
  clear hK K
  (try simp only [Act.put, List.setIfInBounds_toArray, List.set_cons_zero, List.set_cons_succ])
  refine wpAnyH_take (i := 10) (v := .bool true) ov10 (by kernel_rfl) (by kernel_rfl) (by kernel_rfl) (fun _ _ _ h => h) (Or.inl ⟨by rfl, fun V' hS => ?_⟩) K3.out.bo ?_
  · go_simp
  simp only [Act.put, List.setIfInBounds_toArray, List.set_cons_zero, List.set_cons_succ]
  refine wpAnyH_take (i := 11) (v := .bool true) ov11 (by kernel_rfl) (by kernel_rfl) (by kernel_rfl) (fun _ _ _ h => h) (Or.inl ⟨by rfl, fun V' hS => ?_⟩) K3.out.bo ?_
  · go_simp
  simp only [Act.put, List.setIfInBounds_toArray, List.set_cons_zero, List.set_cons_succ]
  refine wpAnyH_done (by kernel_rfl) ?_ _
  go_wp2
  go_ret
  exact ⟨rfl, K3.out.two, K3.out.bt⟩
set_option maxHeartbeats 2000000 in
set_option maxRecDepth 100000 in
theorem looked5 (w : World) (b c : Nat) (f : Ring) (n : Int) (h : Two w b c f n) (hn : n ≤ 4611686018427387904) (hn0 : -4611686018427387904 ≤ n) (tw : Bool) (N M P : Int) (X Y : W4) (B : Value) : Calls Try.prog 11 #[sideV b c, opV 5 tw N M P X Y B] w fun e w' => e = .returned (.bool true) ∧ Two w' b c (oSwap f n N).f (oSwap f n N).n ∧ But (BC b c) w w' := by
  have _ : True := (fun _ _ => trivial : n ≤ 4611686018427387904 → -4611686018427387904 ≤ n → True) hn hn0
  have K0 : Hid (LK w ((w.alloc (sideO b c)).alloc (opO 5 tw N M P X Y B)) w.heap.size (w.heap.size + 1) b c f f n n 5 N M X) := LK.start h _ tw N M P X Y B
  obtain ⟨q, eq⟩ : ∃ q, q = (oSwap f n N) := ⟨_, rfl⟩
  rw [← eq]
  have EQ : Hid (q = (oSwap f n N)) := eq
  clear eq
  clear h
  unfold sideV opV
  go_enter Try.func11, Try.ntmps11
  go_upto_region 1 with fail
  change Code.wp _ _ _ _ ((w.alloc (sideO b c)).alloc (opO 5 tw N M P X Y B))
  generalize (w.alloc (sideO b c)).alloc (opO 5 tw N M P X Y B) = v at K0 ⊢
  generalize w.heap.size + 1 = ob at K0 ⊢
  generalize w.heap.size = sb at K0 ⊢
  have bo := K0.out.bo
  have k0 := bo.k0
  go_upto_region 15 with fail
  obtain ⟨p0, p1, _, k2, k3, x0, x1, x2, x3⟩ := bo
  clear p0 p1 k0 k2 k3 x0 x1 x2 x3
  refine wp_region_held_drew (S := fun V' => Bo V' sb ob b c 5 N M X) (by kernel_rfl) K0.out.drew.bo (fun hHeld => ?_)
  have K1 : Hid (LK w v.drew sb ob b c f f n n 5 N M X) := K0.out.drew
  generalize v.drew = z0 at hHeld K1 ⊢
  clear K0
  refine wpAnyH_take (i := 0) (v := .pointer (some ⟨sb, 0, none⟩)) ov0 (by kernel_rfl) (by kernel_rfl) (by kernel_rfl) (fun _ _ _ h => h) (Or.inl ⟨by rfl, fun V' hS => ?_⟩) hHeld ?_
  · go_simp
  simp only [Act.put, List.setIfInBounds_toArray, List.set_cons_zero, List.set_cons_succ]
  refine wpAnyH_take (i := 1) (v := .pointer (some ⟨b, 0, none⟩)) ov1 (by kernel_rfl) (by kernel_rfl) (by kernel_rfl) (fun _ _ _ h => h) (Or.inl ⟨by rfl, fun V' hS => ?_⟩) hHeld ?_
  · have q0 := hS.p0
    go_simp
  simp only [Act.put, List.setIfInBounds_toArray, List.set_cons_zero, List.set_cons_succ]
  refine wpAnyH_take (i := 2) (v := .pointer (some ⟨ob, 2, none⟩)) ov2 (by kernel_rfl) (by kernel_rfl) (by kernel_rfl) (fun _ _ _ h => h) (Or.inl ⟨by rfl, fun V' hS => ?_⟩) hHeld ?_
  · go_simp
  simp only [Act.put, List.setIfInBounds_toArray, List.set_cons_zero, List.set_cons_succ]
  refine wpAnyH_take (i := 3) (v := .int .i64 N) ov3 (by kernel_rfl) (by kernel_rfl) (by kernel_rfl) (fun _ _ _ h => h) (Or.inl ⟨by rfl, fun V' hS => ?_⟩) hHeld ?_
  · have q0 := hS.k2
    go_simp
  simp only [Act.put, List.setIfInBounds_toArray, List.set_cons_zero, List.set_cons_succ]
  refine wpAnyH_take (i := 5) (v := .pointer (some ⟨sb, 1, none⟩)) ov5 (by kernel_rfl) (by kernel_rfl) (by kernel_rfl) (fun _ _ _ h => h) (Or.inl ⟨by rfl, fun V' hS => ?_⟩) hHeld ?_
  · go_simp
  simp only [Act.put, List.setIfInBounds_toArray, List.set_cons_zero, List.set_cons_succ]
  refine wpAnyH_take (i := 6) (v := .pointer (some ⟨c, 0, none⟩)) ov6 (by kernel_rfl) (by kernel_rfl) (by kernel_rfl) (fun _ _ _ h => h) (Or.inl ⟨by rfl, fun V' hS => ?_⟩) hHeld ?_
  · have q0 := hS.p1
    go_simp
  simp only [Act.put, List.setIfInBounds_toArray, List.set_cons_zero, List.set_cons_succ]
  refine wpAnyH_take (i := 7) (v := .pointer (some ⟨ob, 2, none⟩)) ov7 (by kernel_rfl) (by kernel_rfl) (by kernel_rfl) (fun _ _ _ h => h) (Or.inl ⟨by rfl, fun V' hS => ?_⟩) hHeld ?_
  · go_simp
  simp only [Act.put, List.setIfInBounds_toArray, List.set_cons_zero, List.set_cons_succ]
  refine wpAnyH_take (i := 8) (v := .int .i64 N) ov8 (by kernel_rfl) (by kernel_rfl) (by kernel_rfl) (fun _ _ _ h => h) (Or.inl ⟨by rfl, fun V' hS => ?_⟩) hHeld ?_
  · have q0 := hS.k2
    go_simp
  simp only [Act.put, List.setIfInBounds_toArray, List.set_cons_zero, List.set_cons_succ]
  refine wpAnyH_ready (rs := [4]) (by kernel_rfl) (by simp) ?_
  refine AllReadyH.cons ov4 (fun K hK => ?_) AllReadyH.nil
  rw [if_pos (by rfl)]
  go_simp
  refine (swap_is z0 b f n N K1.out.s hn).mono ?_
  rintro e v1 ⟨rfl, h1, h2⟩
  rw [← EQ.out] at h1 ⊢
  have K2 : Hid (LK w v1 sb ob b c q.f f q.n n 5 N M X) := K1.out.callS h1 h2
  clear h1 h2
  (try go_wp2_with fail)
  refine hK.out _ _ K2.out.bo (fun _ => ?_)
  clear hK K
  (try simp only [Act.put, List.setIfInBounds_toArray, List.set_cons_zero, List.set_cons_succ])
  refine wpAnyH_ready (rs := [9]) (by kernel_rfl) (by simp) ?_
  refine AllReadyH.cons ov9 (fun K hK => ?_) AllReadyH.nil
  rw [if_pos (by rfl)]
  go_simp
  refine (swapR_is v1 c f n N K2.out.r hn).mono ?_
  rintro e v2 ⟨rfl, h1, h2⟩
  rw [← EQ.out] at h1 ⊢
  have K3 : Hid (LK w v2 sb ob b c q.f q.f q.n q.n 5 N M X) := K2.out.callR h1 h2
  clear h1 h2
  (try go_wp2_with fail)
  refine hK.out _ _ K3.out.bo (fun _ => ?_)
  clear hK K
  (try simp only [Act.put, List.setIfInBounds_toArray, List.set_cons_zero, List.set_cons_succ])
  refine wpAnyH_take (i := 10) (v := .bool true) ov10 (by kernel_rfl) (by kernel_rfl) (by kernel_rfl) (fun _ _ _ h => h) (Or.inl ⟨by rfl, fun V' hS => ?_⟩) K3.out.bo ?_
  · go_simp
  simp only [Act.put, List.setIfInBounds_toArray, List.set_cons_zero, List.set_cons_succ]
  refine wpAnyH_take (i := 11) (v := .bool true) ov11 (by kernel_rfl) (by kernel_rfl) (by kernel_rfl) (fun _ _ _ h => h) (Or.inl ⟨by rfl, fun V' hS => ?_⟩) K3.out.bo ?_
  · go_simp
  simp only [Act.put, List.setIfInBounds_toArray, List.set_cons_zero, List.set_cons_succ]
  refine wpAnyH_done (by kernel_rfl) ?_ _
  go_wp2
  go_ret
  exact ⟨rfl, K3.out.two, K3.out.bt⟩
set_option maxHeartbeats 2000000 in
set_option maxRecDepth 100000 in
theorem looked6 (w : World) (b c : Nat) (f : Ring) (n : Int) (h : Two w b c f n) (hn : n ≤ 4611686018427387904) (hn0 : -4611686018427387904 ≤ n) (tw : Bool) (N M P : Int) (X Y : W4) (B : Value) : Calls Try.prog 11 #[sideV b c, opV 6 tw N M P X Y B] w fun e w' => e = .returned (.bool true) ∧ Two w' b c (oExch f n N M).f (oExch f n N M).n ∧ But (BC b c) w w' := by
  have _ : True := (fun _ _ => trivial : n ≤ 4611686018427387904 → -4611686018427387904 ≤ n → True) hn hn0
  have K0 : Hid (LK w ((w.alloc (sideO b c)).alloc (opO 6 tw N M P X Y B)) w.heap.size (w.heap.size + 1) b c f f n n 6 N M X) := LK.start h _ tw N M P X Y B
  obtain ⟨q, eq⟩ : ∃ q, q = (oExch f n N M) := ⟨_, rfl⟩
  rw [← eq]
  have EQ : Hid (q = (oExch f n N M)) := eq
  clear eq
  clear h
  unfold sideV opV
  go_enter Try.func11, Try.ntmps11
  go_upto_region 1 with fail
  change Code.wp _ _ _ _ ((w.alloc (sideO b c)).alloc (opO 6 tw N M P X Y B))
  generalize (w.alloc (sideO b c)).alloc (opO 6 tw N M P X Y B) = v at K0 ⊢
  generalize w.heap.size + 1 = ob at K0 ⊢
  generalize w.heap.size = sb at K0 ⊢
  have bo := K0.out.bo
  have k0 := bo.k0
  go_upto_region 17 with fail
  obtain ⟨p0, p1, _, k2, k3, x0, x1, x2, x3⟩ := bo
  clear p0 p1 k0 k2 k3 x0 x1 x2 x3
  refine wp_region_held_drew (S := fun V' => Bo V' sb ob b c 6 N M X) (by kernel_rfl) K0.out.drew.bo (fun hHeld => ?_)
  have K1 : Hid (LK w v.drew sb ob b c f f n n 6 N M X) := K0.out.drew
  generalize v.drew = z0 at hHeld K1 ⊢
  clear K0
  refine wpAnyH_take (i := 0) (v := .pointer (some ⟨sb, 0, none⟩)) ov0 (by kernel_rfl) (by kernel_rfl) (by kernel_rfl) (fun _ _ _ h => h) (Or.inl ⟨by rfl, fun V' hS => ?_⟩) hHeld ?_
  · go_simp
  simp only [Act.put, List.setIfInBounds_toArray, List.set_cons_zero, List.set_cons_succ]
  refine wpAnyH_take (i := 1) (v := .pointer (some ⟨b, 0, none⟩)) ov1 (by kernel_rfl) (by kernel_rfl) (by kernel_rfl) (fun _ _ _ h => h) (Or.inl ⟨by rfl, fun V' hS => ?_⟩) hHeld ?_
  · have q0 := hS.p0
    go_simp
  simp only [Act.put, List.setIfInBounds_toArray, List.set_cons_zero, List.set_cons_succ]
  refine wpAnyH_take (i := 2) (v := .pointer (some ⟨ob, 2, none⟩)) ov2 (by kernel_rfl) (by kernel_rfl) (by kernel_rfl) (fun _ _ _ h => h) (Or.inl ⟨by rfl, fun V' hS => ?_⟩) hHeld ?_
  · go_simp
  simp only [Act.put, List.setIfInBounds_toArray, List.set_cons_zero, List.set_cons_succ]
  refine wpAnyH_take (i := 3) (v := .int .i64 N) ov3 (by kernel_rfl) (by kernel_rfl) (by kernel_rfl) (fun _ _ _ h => h) (Or.inl ⟨by rfl, fun V' hS => ?_⟩) hHeld ?_
  · have q0 := hS.k2
    go_simp
  simp only [Act.put, List.setIfInBounds_toArray, List.set_cons_zero, List.set_cons_succ]
  refine wpAnyH_take (i := 4) (v := .pointer (some ⟨ob, 3, none⟩)) ov4 (by kernel_rfl) (by kernel_rfl) (by kernel_rfl) (fun _ _ _ h => h) (Or.inl ⟨by rfl, fun V' hS => ?_⟩) hHeld ?_
  · go_simp
  simp only [Act.put, List.setIfInBounds_toArray, List.set_cons_zero, List.set_cons_succ]
  refine wpAnyH_take (i := 5) (v := .int .i64 M) ov5 (by kernel_rfl) (by kernel_rfl) (by kernel_rfl) (fun _ _ _ h => h) (Or.inl ⟨by rfl, fun V' hS => ?_⟩) hHeld ?_
  · have q0 := hS.k3
    go_simp
  simp only [Act.put, List.setIfInBounds_toArray, List.set_cons_zero, List.set_cons_succ]
  refine wpAnyH_take (i := 7) (v := .pointer (some ⟨sb, 1, none⟩)) ov7 (by kernel_rfl) (by kernel_rfl) (by kernel_rfl) (fun _ _ _ h => h) (Or.inl ⟨by rfl, fun V' hS => ?_⟩) hHeld ?_
  · go_simp
  simp only [Act.put, List.setIfInBounds_toArray, List.set_cons_zero, List.set_cons_succ]
  refine wpAnyH_take (i := 8) (v := .pointer (some ⟨c, 0, none⟩)) ov8 (by kernel_rfl) (by kernel_rfl) (by kernel_rfl) (fun _ _ _ h => h) (Or.inl ⟨by rfl, fun V' hS => ?_⟩) hHeld ?_
  · have q0 := hS.p1
    go_simp
  simp only [Act.put, List.setIfInBounds_toArray, List.set_cons_zero, List.set_cons_succ]
  refine wpAnyH_take (i := 9) (v := .pointer (some ⟨ob, 2, none⟩)) ov9 (by kernel_rfl) (by kernel_rfl) (by kernel_rfl) (fun _ _ _ h => h) (Or.inl ⟨by rfl, fun V' hS => ?_⟩) hHeld ?_
  · go_simp
  simp only [Act.put, List.setIfInBounds_toArray, List.set_cons_zero, List.set_cons_succ]
  refine wpAnyH_take (i := 10) (v := .int .i64 N) ov10 (by kernel_rfl) (by kernel_rfl) (by kernel_rfl) (fun _ _ _ h => h) (Or.inl ⟨by rfl, fun V' hS => ?_⟩) hHeld ?_
  · have q0 := hS.k2
    go_simp
  simp only [Act.put, List.setIfInBounds_toArray, List.set_cons_zero, List.set_cons_succ]
  refine wpAnyH_take (i := 11) (v := .pointer (some ⟨ob, 3, none⟩)) ov11 (by kernel_rfl) (by kernel_rfl) (by kernel_rfl) (fun _ _ _ h => h) (Or.inl ⟨by rfl, fun V' hS => ?_⟩) hHeld ?_
  · go_simp
  simp only [Act.put, List.setIfInBounds_toArray, List.set_cons_zero, List.set_cons_succ]
  refine wpAnyH_take (i := 12) (v := .int .i64 M) ov12 (by kernel_rfl) (by kernel_rfl) (by kernel_rfl) (fun _ _ _ h => h) (Or.inl ⟨by rfl, fun V' hS => ?_⟩) hHeld ?_
  · have q0 := hS.k3
    go_simp
  simp only [Act.put, List.setIfInBounds_toArray, List.set_cons_zero, List.set_cons_succ]
  refine wpAnyH_ready (rs := [6]) (by kernel_rfl) (by simp) ?_
  refine AllReadyH.cons ov6 (fun K hK => ?_) AllReadyH.nil
  rw [if_pos (by rfl)]
  go_simp
  refine (exch_is z0 b f n N M K1.out.s hn).mono ?_
  rintro e v1 ⟨rfl, h1, h2⟩
  rw [← EQ.out] at h1 ⊢
  have K2 : Hid (LK w v1 sb ob b c q.f f q.n n 6 N M X) := K1.out.callS h1 h2
  clear h1 h2
  (try go_wp2_with fail)
  refine hK.out _ _ K2.out.bo (fun _ => ?_)
  clear hK K
  (try simp only [Act.put, List.setIfInBounds_toArray, List.set_cons_zero, List.set_cons_succ])
  refine wpAnyH_ready (rs := [13]) (by kernel_rfl) (by simp) ?_
  refine AllReadyH.cons ov13 (fun K hK => ?_) AllReadyH.nil
  rw [if_pos (by rfl)]
  go_simp
  refine (exchR_is v1 c f n N M K2.out.r hn).mono ?_
  rintro e v2 ⟨rfl, h1, h2⟩
  rw [← EQ.out] at h1 ⊢
  have K3 : Hid (LK w v2 sb ob b c q.f q.f q.n q.n 6 N M X) := K2.out.callR h1 h2
  clear h1 h2
  (try go_wp2_with fail)
  refine hK.out _ _ K3.out.bo (fun _ => ?_)
  clear hK K
  (try simp only [Act.put, List.setIfInBounds_toArray, List.set_cons_zero, List.set_cons_succ])
  refine wpAnyH_take (i := 14) (v := .bool true) ov14 (by kernel_rfl) (by kernel_rfl) (by kernel_rfl) (fun _ _ _ h => h) (Or.inl ⟨by rfl, fun V' hS => ?_⟩) K3.out.bo ?_
  · go_simp
  simp only [Act.put, List.setIfInBounds_toArray, List.set_cons_zero, List.set_cons_succ]
  refine wpAnyH_take (i := 15) (v := .bool true) ov15 (by kernel_rfl) (by kernel_rfl) (by kernel_rfl) (fun _ _ _ h => h) (Or.inl ⟨by rfl, fun V' hS => ?_⟩) K3.out.bo ?_
  · go_simp
  simp only [Act.put, List.setIfInBounds_toArray, List.set_cons_zero, List.set_cons_succ]
  refine wpAnyH_done (by kernel_rfl) ?_ _
  go_wp2
  go_ret
  exact ⟨rfl, K3.out.two, K3.out.bt⟩
set_option maxHeartbeats 2000000 in
set_option maxRecDepth 100000 in
theorem looked3 (w : World) (b c : Nat) (f : Ring) (n : Int) (h : Two w b c f n) (hn : n ≤ 4611686018427387904) (hn0 : -4611686018427387904 ≤ n) (tw : Bool) (N M P : Int) (X Y : W4) (B : Value) : Calls Try.prog 11 #[sideV b c, opV 3 tw N M P X Y B] w fun e w' => e = .returned (.bool true) ∧ Two w' b c f n ∧ But (BC b c) w w' := by
  have _ : True := (fun _ _ => trivial : n ≤ 4611686018427387904 → -4611686018427387904 ≤ n → True) hn hn0
  have K0 : Hid (LK w ((w.alloc (sideO b c)).alloc (opO 3 tw N M P X Y B)) w.heap.size (w.heap.size + 1) b c f f n n 3 N M X) := LK.start h _ tw N M P X Y B
  clear h
  unfold sideV opV
  go_enter Try.func11, Try.ntmps11
  go_upto_region 1 with fail
  change Code.wp _ _ _ _ ((w.alloc (sideO b c)).alloc (opO 3 tw N M P X Y B))
  generalize (w.alloc (sideO b c)).alloc (opO 3 tw N M P X Y B) = v at K0 ⊢
  generalize w.heap.size + 1 = ob at K0 ⊢
  generalize w.heap.size = sb at K0 ⊢
  have bo := K0.out.bo
  have k0 := bo.k0
  go_upto_region 9 with fail
  obtain ⟨p0, p1, _, k2, k3, x0, x1, x2, x3⟩ := bo
  obtain ⟨y, ey⟩ : ∃ y, oAtW f n N = y := ⟨_, rfl⟩
  obtain ⟨er, ee⟩ : ∃ er, oAtE n N = er := ⟨_, rfl⟩
  have CS : Hid (Calls Try.prog 28 #[.pointer (some ⟨b, 0, none⟩), .int .i64 N] v fun e w' => e = .returned (.tuple #[y.v, .int .i64 er]) ∧ Below v.heap.size v w') := by rw [← ey, ← ee]; exact at_is v b f n N K0.out.s
  have CR : Hid (∀ W, Stk W c 1 0 f n → Calls Try.prog 45 #[.pointer (some ⟨c, 0, none⟩), .int .i64 N] W fun e w' => e = .returned (.tuple #[y.v, .int .i64 er]) ∧ Below W.heap.size W w') := fun W hW => by rw [← ey, ← ee]; exact atR_is W c f n N hW
  clear ey ee
  go_upto_region 10 with (go_at_call 28; refine (CS.out).mono ?_; rintro e v1 ⟨rfl, h1⟩; (have K1 : Hid (LK w v1 sb ob b c f f n n 3 N M X) := K0.out.past h1); clear CS K0 h1; unfold W4.v)
  replace K1 : Hid (LK w (v1.alloc (.cells #[.int .u64 y.a, .int .u64 y.b, .int .u64 y.c, .int .u64 y.d] 30)) sb ob b c f f n n 3 N M X) := K1.out.alloc _
  have W1 : Hid (Wd (v1.alloc (.cells #[.int .u64 y.a, .int .u64 y.b, .int .u64 y.c, .int .u64 y.d] 30)) v1.heap.size 0 y) := Wd.new v1 _ y
  generalize v1.alloc (.cells #[.int .u64 y.a, .int .u64 y.b, .int .u64 y.c, .int .u64 y.d] 30) = v2 at K1 W1 ⊢
  generalize v1.heap.size = bx at W1 ⊢
  clear p0 p1 k2 k3 x0 x1 x2 x3
  obtain ⟨p0, p1, _, k2, k3, x0, x1, x2, x3⟩ := K1.out.bo
  have hne : bx ≠ c := fun e => by
    have hh := W1.out.c0
    rw [e, K1.out.r.sz.1] at hh
    cases hh
  go_upto_region 11 with (go_at_call 45; refine (CR.out _ K1.out.r).mono ?_; rintro e v3 ⟨rfl, h1⟩; (have K2 : Hid (LK w v3 sb ob b c f f n n 3 N M X) := K1.out.past h1); (have W2 : Hid (Wd v3 bx 0 y) := W1.out.past h1); clear CR K1 W1 h1; unfold W4.v)
  replace K2 : Hid (LK w (v3.alloc (.cells #[.int .u64 y.a, .int .u64 y.b, .int .u64 y.c, .int .u64 y.d] 30)) sb ob b c f f n n 3 N M X) := K2.out.alloc _
  have W3 : Hid (Wd (v3.alloc (.cells #[.int .u64 y.a, .int .u64 y.b, .int .u64 y.c, .int .u64 y.d] 30)) v3.heap.size 0 y) := Wd.new v3 _ y
  replace W2 : Hid (Wd (v3.alloc (.cells #[.int .u64 y.a, .int .u64 y.b, .int .u64 y.c, .int .u64 y.d] 30)) bx 0 y) := W2.out.alloc _
  generalize v3.alloc (.cells #[.int .u64 y.a, .int .u64 y.b, .int .u64 y.c, .int .u64 y.d] 30) = v4 at K2 W2 W3 ⊢
  generalize v3.heap.size = by_ at W3 ⊢
  obtain ⟨a0, a1, a2, a3, _⟩ := W2.out
  obtain ⟨c0, c1, c2, c3, _⟩ := W3.out
  have hq := eqw_self y.a y.b y.c y.d v4
  go_wp2
  go_ret
  exact ⟨rfl, K2.out.two, K2.out.bt⟩
set_option maxHeartbeats 2000000 in
set_option maxRecDepth 100000 in
theorem looked2 (w : World) (b c : Nat) (f : Ring) (n : Int) (h : Two w b c f n) (hn : n ≤ 4611686018427387904) (hn0 : -4611686018427387904 ≤ n) (tw : Bool) (N M P : Int) (X Y : W4) (B : Value) : Calls Try.prog 11 #[sideV b c, opV 2 tw N M P X Y B] w fun e w' => e = .returned (.bool true) ∧ Two w' b c (oPop f n).f (oPop f n).n ∧ But (BC b c) w w' := by
  have _ : True := (fun _ _ => trivial : n ≤ 4611686018427387904 → -4611686018427387904 ≤ n → True) hn hn0
  have K0 : Hid (LK w ((w.alloc (sideO b c)).alloc (opO 2 tw N M P X Y B)) w.heap.size (w.heap.size + 1) b c f f n n 2 N M X) := LK.start h _ tw N M P X Y B
  clear h
  unfold sideV opV
  go_enter Try.func11, Try.ntmps11
  go_upto_region 1 with fail
  change Code.wp _ _ _ _ ((w.alloc (sideO b c)).alloc (opO 2 tw N M P X Y B))
  generalize (w.alloc (sideO b c)).alloc (opO 2 tw N M P X Y B) = v at K0 ⊢
  generalize w.heap.size + 1 = ob at K0 ⊢
  generalize w.heap.size = sb at K0 ⊢
  have bo := K0.out.bo
  have k0 := bo.k0
  go_upto_region 5 with fail
  obtain ⟨p0, p1, _, k2, k3, x0, x1, x2, x3⟩ := bo
  obtain ⟨y, ey⟩ : ∃ y, oPopW f n = y := ⟨_, rfl⟩
  obtain ⟨er, ee⟩ : ∃ er, (oPop f n).e = er := ⟨_, rfl⟩
  have CS : Hid (Calls Try.prog 31 #[.pointer (some ⟨b, 0, none⟩)] v fun e w' => e = .returned (.tuple #[y.v, .int .i64 er]) ∧ Stk w' b 0 4096 (oPop f n).f (oPop f n).n ∧ Only b v w') := by rw [← ey, ← ee]; exact pop_is v b f n K0.out.s
  have CR : Hid (∀ W, Stk W c 1 0 f n → Calls Try.prog 44 #[.pointer (some ⟨c, 0, none⟩)] W fun e w' => e = .returned (.tuple #[y.v, .int .i64 er]) ∧ Stk w' c 1 0 (oPop f n).f (oPop f n).n ∧ Only c W w') := fun W hW => by rw [← ey, ← ee]; exact popR_is W c f n hW
  clear ey ee
  go_upto_region 6 with (go_at_call 31; refine (CS.out).mono ?_; rintro e v1 ⟨rfl, h1, h2⟩; (have K1 : Hid (LK w v1 sb ob b c (oPop f n).f f (oPop f n).n n 2 N M X) := K0.out.callS h1 h2); clear CS K0 h1 h2; unfold W4.v)
  replace K1 : Hid (LK w (v1.alloc (.cells #[.int .u64 y.a, .int .u64 y.b, .int .u64 y.c, .int .u64 y.d] 30)) sb ob b c (oPop f n).f f (oPop f n).n n 2 N M X) := K1.out.alloc _
  have W1 : Hid (Wd (v1.alloc (.cells #[.int .u64 y.a, .int .u64 y.b, .int .u64 y.c, .int .u64 y.d] 30)) v1.heap.size 0 y) := Wd.new v1 _ y
  generalize v1.alloc (.cells #[.int .u64 y.a, .int .u64 y.b, .int .u64 y.c, .int .u64 y.d] 30) = v2 at K1 W1 ⊢
  generalize v1.heap.size = bx at W1 ⊢
  clear p0 p1 k2 k3 x0 x1 x2 x3
  obtain ⟨p0, p1, _, k2, k3, x0, x1, x2, x3⟩ := K1.out.bo
  have hne : bx ≠ c := fun e => by
    have hh := W1.out.c0
    rw [e, K1.out.r.sz.1] at hh
    cases hh
  go_upto_region 7 with (go_at_call 44; refine (CR.out _ K1.out.r).mono ?_; rintro e v3 ⟨rfl, h1, h2⟩; (have K2 : Hid (LK w v3 sb ob b c (oPop f n).f (oPop f n).f (oPop f n).n (oPop f n).n 2 N M X) := K1.out.callR h1 h2); (have W2 : Hid (Wd v3 bx 0 y) := W1.out.only h2 hne); clear CR K1 W1 h1 h2; unfold W4.v)
  replace K2 : Hid (LK w (v3.alloc (.cells #[.int .u64 y.a, .int .u64 y.b, .int .u64 y.c, .int .u64 y.d] 30)) sb ob b c (oPop f n).f (oPop f n).f (oPop f n).n (oPop f n).n 2 N M X) := K2.out.alloc _
  have W3 : Hid (Wd (v3.alloc (.cells #[.int .u64 y.a, .int .u64 y.b, .int .u64 y.c, .int .u64 y.d] 30)) v3.heap.size 0 y) := Wd.new v3 _ y
  replace W2 : Hid (Wd (v3.alloc (.cells #[.int .u64 y.a, .int .u64 y.b, .int .u64 y.c, .int .u64 y.d] 30)) bx 0 y) := W2.out.alloc _
  generalize v3.alloc (.cells #[.int .u64 y.a, .int .u64 y.b, .int .u64 y.c, .int .u64 y.d] 30) = v4 at K2 W2 W3 ⊢
  generalize v3.heap.size = by_ at W3 ⊢
  obtain ⟨a0, a1, a2, a3, _⟩ := W2.out
  obtain ⟨c0, c1, c2, c3, _⟩ := W3.out
  have hq := eqw_self y.a y.b y.c y.d v4
  go_wp2
  go_ret
  exact ⟨rfl, K2.out.two, K2.out.bt⟩
set_option maxHeartbeats 2000000 in
set_option maxRecDepth 100000 in
theorem looked12 (w : World) (b c : Nat) (f : Ring) (n : Int) (h : Two w b c f n) (hn : n ≤ 4611686018427387904) (hn0 : -4611686018427387904 ≤ n) (tw : Bool) (N M P : Int) (X Y : W4) (B : Value) : Calls Try.prog 11 #[sideV b c, opV 12 tw N M P X Y B] w fun e w' => e = .returned (.bool true) ∧ Two w' b c f n ∧ But (BC b c) w w' := by
  have _ : True := (fun _ _ => trivial : n ≤ 4611686018427387904 → -4611686018427387904 ≤ n → True) hn hn0
  have K0 : Hid (LK w ((w.alloc (sideO b c)).alloc (opO 12 tw N M P X Y B)) w.heap.size (w.heap.size + 1) b c f f n n 12 N M X) := LK.start h _ tw N M P X Y B
  clear h
  unfold sideV opV
  go_enter Try.func11, Try.ntmps11
  go_upto_region 1 with fail
  change Code.wp _ _ _ _ ((w.alloc (sideO b c)).alloc (opO 12 tw N M P X Y B))
  generalize (w.alloc (sideO b c)).alloc (opO 12 tw N M P X Y B) = v at K0 ⊢
  generalize w.heap.size + 1 = ob at K0 ⊢
  generalize w.heap.size = sb at K0 ⊢
  have bo := K0.out.bo
  have k0 := bo.k0
  go_upto_region 25 with fail
  obtain ⟨p0, p1, _, k2, k3, x0, x1, x2, x3⟩ := bo
  have CS : Hid (Calls Try.prog 30 #[.pointer (some ⟨b, 0, none⟩)] v fun e w' => e = .returned (.slice (some ⟨v.heap.size, 0, none⟩) (cnt n) (cnt n)) ∧ WordsIn w' v.heap.size 0 (cnt n) (told f n) ∧ Below v.heap.size v w') := words_is v b f n K0.out.s
  have hm := cnt_le n
  go_upto_region 26 with (go_at_call 30; refine (CS.out).mono ?_; rintro e v1 ⟨rfl, h0, h1⟩; (have K1 : Hid (LK w v1 sb ob b c f f n n 12 N M X) := K0.out.past h1); (have W1 : Hid (WL v1 (.slice (some ⟨v.heap.size, 0, none⟩) (cnt n) (cnt n)) (cnt n) (told f n)) := h0.wl); clear CS K0 h0 h1)
  generalize v.heap.size = bx at W1 ⊢
  clear p0 p1 k0 k2 k3 x0 x1 x2 x3
  refine wp_region_held_drew (S := fun V' => Bo V' sb ob b c 12 N M X) (by kernel_rfl) K1.out.drew.bo (fun hHeld => ?_)
  have K2 : Hid (LK w v1.drew sb ob b c f f n n 12 N M X) := K1.out.drew
  have W2 : Hid (WL v1.drew (.slice (some ⟨bx, 0, none⟩) (cnt n) (cnt n)) (cnt n) (told f n)) := W1.out.past ((Below.refl _ _).drew)
  generalize v1.drew = z0 at hHeld K2 W2 ⊢
  clear K1 W1
  refine wpAnyH_take (i := 0) (v := .pointer (some ⟨sb, 0, none⟩)) ov0 (by kernel_rfl) (by kernel_rfl) (by kernel_rfl) (fun _ _ _ h => h) (Or.inl ⟨by rfl, fun V' hS => ?_⟩) hHeld ?_
  · go_simp
  simp only [Act.put, List.setIfInBounds_toArray, List.set_cons_zero, List.set_cons_succ]
  refine wpAnyH_take (i := 1) (v := .pointer (some ⟨b, 0, none⟩)) ov1 (by kernel_rfl) (by kernel_rfl) (by kernel_rfl) (fun _ _ _ h => h) (Or.inl ⟨by rfl, fun V' hS => ?_⟩) hHeld ?_
  · have q0 := hS.p0
    go_simp
  simp only [Act.put, List.setIfInBounds_toArray, List.set_cons_zero, List.set_cons_succ]
  refine wpAnyH_take (i := 3) (v := .pointer (some ⟨sb, 1, none⟩)) ov3 (by kernel_rfl) (by kernel_rfl) (by kernel_rfl) (fun _ _ _ h => h) (Or.inl ⟨by rfl, fun V' hS => ?_⟩) hHeld ?_
  · go_simp
  simp only [Act.put, List.setIfInBounds_toArray, List.set_cons_zero, List.set_cons_succ]
  refine wpAnyH_take (i := 4) (v := .pointer (some ⟨c, 0, none⟩)) ov4 (by kernel_rfl) (by kernel_rfl) (by kernel_rfl) (fun _ _ _ h => h) (Or.inl ⟨by rfl, fun V' hS => ?_⟩) hHeld ?_
  · have q0 := hS.p1
    go_simp
  simp only [Act.put, List.setIfInBounds_toArray, List.set_cons_zero, List.set_cons_succ]
  refine wpAnyH_ready (rs := [2]) (by kernel_rfl) (by simp) ?_
  refine AllReadyH.cons ov2 (fun K hK => ?_) AllReadyH.nil
  rw [if_pos (by rfl)]
  go_simp
  refine (len_is z0 b f n K2.out.s).mono ?_
  rintro e w' ⟨rfl, hw⟩
  have hw2 := hw.symm
  clear hw
  subst hw2
  (try go_wp2_with fail)
  refine hK.out _ _ hHeld (fun _ => ?_)
  clear hK K
  (try simp only [Act.put, List.setIfInBounds_toArray, List.set_cons_zero, List.set_cons_succ])
  refine wpAnyH_ready (rs := [5]) (by kernel_rfl) (by simp) ?_
  refine AllReadyH.cons ov5 (fun K hK => ?_) AllReadyH.nil
  rw [if_pos (by rfl)]
  go_simp
  refine (lenR_is z0 c f n K2.out.r).mono ?_
  rintro e w' ⟨rfl, hw⟩
  have hw2 := hw.symm
  clear hw
  subst hw2
  (try go_wp2_with fail)
  refine hK.out _ _ hHeld (fun _ => ?_)
  clear hK K
  (try simp only [Act.put, List.setIfInBounds_toArray, List.set_cons_zero, List.set_cons_succ])
  refine wpAnyH_take (i := 6) (v := .bool true) ov6 (by kernel_rfl) (by kernel_rfl) (by kernel_rfl) (fun _ _ _ h => h) (Or.inl ⟨by rfl, fun V' hS => ?_⟩) hHeld ?_
  · go_simp
  simp only [Act.put, List.setIfInBounds_toArray, List.set_cons_zero, List.set_cons_succ]
  refine wpAnyH_take (i := 7) (v := .bool true) ov7 (by kernel_rfl) (by kernel_rfl) (by kernel_rfl) (fun _ _ _ h => h) (Or.inl ⟨by rfl, fun V' hS => ?_⟩) hHeld ?_
  · go_simp
  simp only [Act.put, List.setIfInBounds_toArray, List.set_cons_zero, List.set_cons_succ]
  refine wpAnyH_take (i := 8) (v := .slice (some ⟨bx, 0, none⟩) (cnt n) (cnt n)) ov8 (by kernel_rfl) (by kernel_rfl) (by kernel_rfl) (fun _ _ _ h => h) (Or.inl ⟨by rfl, fun V' hS => ?_⟩) hHeld ?_
  · go_simp
  simp only [Act.put, List.setIfInBounds_toArray, List.set_cons_zero, List.set_cons_succ]
  refine wpAnyH_take (i := 9) (v := .pointer (some ⟨sb, 1, none⟩)) ov9 (by kernel_rfl) (by kernel_rfl) (by kernel_rfl) (fun _ _ _ h => h) (Or.inl ⟨by rfl, fun V' hS => ?_⟩) hHeld ?_
  · go_simp
  simp only [Act.put, List.setIfInBounds_toArray, List.set_cons_zero, List.set_cons_succ]
  refine wpAnyH_take (i := 10) (v := .pointer (some ⟨c, 0, none⟩)) ov10 (by kernel_rfl) (by kernel_rfl) (by kernel_rfl) (fun _ _ _ h => h) (Or.inl ⟨by rfl, fun V' hS => ?_⟩) hHeld ?_
  · have q0 := hS.p1
    go_simp
  simp only [Act.put, List.setIfInBounds_toArray, List.set_cons_zero, List.set_cons_succ]
  refine wpAnyH_ready (rs := [11]) (by kernel_rfl) (by simp) ?_
  refine AllReadyH.cons ov11 (fun K hK => ?_) AllReadyH.nil
  rw [if_pos (by rfl)]
  go_simp
  refine (wordsR_is z0 c f n K2.out.r hn).mono ?_
  rintro e v2 ⟨vv, rfl, h0, h1⟩
  have K3 : Hid (LK w v2 sb ob b c f f n n 12 N M X) := K2.out.past h1
  have W3 : Hid (WL v2 (.slice (some ⟨bx, 0, none⟩) (cnt n) (cnt n)) (cnt n) (told f n)) := W2.out.past h1
  have W4_ : Hid (WL v2 vv (cnt n) (told f n)) := h0
  clear h0 h1
  (try go_wp2_with fail)
  refine hK.out _ _ K3.out.bo (fun _ => ?_)
  clear hK K
  (try simp only [Act.put, List.setIfInBounds_toArray, List.set_cons_zero, List.set_cons_succ])
  refine wpAnyH_ready (rs := [12]) (by kernel_rfl) (by simp) ?_
  refine AllReadyH.cons ov12 (fun K hK => ?_) AllReadyH.nil
  rw [if_pos (by rfl)]
  go_simp
  refine (sameWords_is v2 _ _ (cnt n) (told f n) (by omega) W3.out W4_.out).mono ?_
  rintro e v3 ⟨rfl, h1⟩
  have K4 : Hid (LK w v3 sb ob b c f f n n 12 N M X) := K3.out.past h1
  clear h1
  (try go_wp2_with fail)
  refine hK.out _ _ K4.out.bo (fun _ => ?_)
  clear hK K
  (try simp only [Act.put, List.setIfInBounds_toArray, List.set_cons_zero, List.set_cons_succ])
  refine wpAnyH_take (i := 13) (v := .bool true) ov13 (by kernel_rfl) (by kernel_rfl) (by kernel_rfl) (fun _ _ _ h => h) (Or.inl ⟨by rfl, fun V' hS => ?_⟩) K4.out.bo ?_
  · go_simp
  simp only [Act.put, List.setIfInBounds_toArray, List.set_cons_zero, List.set_cons_succ]
  refine wpAnyH_take (i := 14) (v := .bool true) ov14 (by kernel_rfl) (by kernel_rfl) (by kernel_rfl) (fun _ _ _ h => h) (Or.inl ⟨by rfl, fun V' hS => ?_⟩) K4.out.bo ?_
  · go_simp
  simp only [Act.put, List.setIfInBounds_toArray, List.set_cons_zero, List.set_cons_succ]
  refine wpAnyH_done (by kernel_rfl) ?_ _
  go_wp2
  go_ret
  exact ⟨rfl, K4.out.two, K4.out.bt⟩
set_option maxHeartbeats 2000000 in
set_option maxRecDepth 100000 in
theorem looked13 (w : World) (b c : Nat) (f : Ring) (n : Int) (h : Two w b c f n) (hn : n ≤ 4611686018427387904) (hn0 : -4611686018427387904 ≤ n) (tw : Bool) (N M P : Int) (X Y : W4) (B : Value) : Calls Try.prog 11 #[sideV b c, opV 13 tw N M P X Y B] w fun e w' => e = .returned (.bool true) ∧ (∃ f' n', Two w' b c f' n' ∧ n ≤ n' ∧ n' ≤ n + 1100) ∧ But (BC b c) w w' := by
  have _ : True := (fun _ _ => trivial : n ≤ 4611686018427387904 → -4611686018427387904 ≤ n → True) hn hn0
  have K0 : Hid (LK w ((w.alloc (sideO b c)).alloc (opO 13 tw N M P X Y B)) w.heap.size (w.heap.size + 1) b c f f n n 13 N M X) := LK.start h _ tw N M P X Y B
  clear h
  unfold sideV opV
  go_enter Try.func11, Try.ntmps11
  go_upto_region 1 with fail
  change Code.wp _ _ _ _ ((w.alloc (sideO b c)).alloc (opO 13 tw N M P X Y B))
  generalize (w.alloc (sideO b c)).alloc (opO 13 tw N M P X Y B) = v at K0 ⊢
  generalize w.heap.size + 1 = ob at K0 ⊢
  generalize w.heap.size = sb at K0 ⊢
  have bo := K0.out.bo
  have k0 := bo.k0
  go_upto_region 19 with fail
  obtain ⟨p0, p1, _, k2, k3, x0, x1, x2, x3⟩ := bo
  clear p0 p1 k0 k2 k3 x0 x1 x2 x3
  go_wp2
  go_loopw [13] (fun si wr => ∃ (k : Nat) (f1 : Ring) (n1 : Int), k ≤ 1100 ∧ si = .int .i64 (k : Int) ∧ LK w wr sb ob b c f1 f1 n1 n1 13 N M X ∧ n ≤ n1 ∧ n1 ≤ n + (k : Int)) (fun si _ => 1100 - (intOf si).toNat)
  case atStart => exact ⟨0, f, n, by omega, rfl, K0.out, by simp⟩
  case round =>
    obtain ⟨k, f1, n1, hk, rfl, hK, hinv⟩ := hrel
    have K0 : Hid (LK w wr sb ob b c f1 f1 n1 n1 13 N M X) := hK
    have bo := hK.bo
    obtain ⟨p0, p1, _, k2, k3, x0, x1, x2, x3⟩ := bo
    have HI : Hid (n ≤ n1 ∧ n1 ≤ n + (k : Int)) := hinv
    have hn1 : n1 ≤ 4611686018427390004 := by omega
    have hn2 : -4611686018427390004 ≤ n1 := by omega
    clear hK hinv
    have kI : (k : Int) ≤ 1100 := by omega
    by_cases hkN : (k : Int) < N
    · by_cases hkt : k < 1100
      · have ktI : (k : Int) < 1100 := by omega
        go_upto_region 22 with fail
        clear p0 p1 k2 k3 x0 x1 x2 x3
        obtain ⟨q, eq⟩ : ∃ q, q = oPush f1 n1 X := ⟨_, rfl⟩
        have EQ : Hid (q = oPush f1 n1 X) := eq
        clear eq
        refine wp_region_held_drew (S := fun V' => Bo V' sb ob b c 13 N M X) (by kernel_rfl) K0.out.drew.bo (fun hHeld => ?_)
        have K1 : Hid (LK w wr.drew sb ob b c f1 f1 n1 n1 13 N M X) := K0.out.drew
        generalize wr.drew = z0 at hHeld K1 ⊢
        clear K0
        refine wpAnyH_take (i := 0) (v := .pointer (some ⟨sb, 0, none⟩)) ov0 (by kernel_rfl) (by kernel_rfl) (by kernel_rfl) (fun _ _ _ h => h) (Or.inl ⟨by rfl, fun V' hS => ?_⟩) hHeld ?_
        · go_simp
        simp only [Act.put, List.setIfInBounds_toArray, List.set_cons_zero, List.set_cons_succ]
        refine wpAnyH_take (i := 1) (v := .pointer (some ⟨b, 0, none⟩)) ov1 (by kernel_rfl) (by kernel_rfl) (by kernel_rfl) (fun _ _ _ h => h) (Or.inl ⟨by rfl, fun V' hS => ?_⟩) hHeld ?_
        · have q0 := hS.p0
          go_simp
        simp only [Act.put, List.setIfInBounds_toArray, List.set_cons_zero, List.set_cons_succ]
        refine wpAnyH_take (i := 2) (v := .pointer (some ⟨ob, 5, none⟩)) ov2 (by kernel_rfl) (by kernel_rfl) (by kernel_rfl) (fun _ _ _ h => h) (Or.inl ⟨by rfl, fun V' hS => ?_⟩) hHeld ?_
        · go_simp
        simp only [Act.put, List.setIfInBounds_toArray, List.set_cons_zero, List.set_cons_succ]
        refine wpAnyH_take (i := 3) (v := .agg #[.int .u64 X.a, .int .u64 X.b, .int .u64 X.c, .int .u64 X.d]) ov3 (by kernel_rfl) (by kernel_rfl) (by kernel_rfl) (fun _ _ _ h => h) (Or.inl ⟨by rfl, fun V' hS => ?_⟩) hHeld ?_
        · have q0 := hS.x0
          have q1 := hS.x1
          have q2 := hS.x2
          have q3 := hS.x3
          go_simp
        simp only [Act.put, List.setIfInBounds_toArray, List.set_cons_zero, List.set_cons_succ]
        refine wpAnyH_take (i := 5) (v := .pointer (some ⟨sb, 1, none⟩)) ov5 (by kernel_rfl) (by kernel_rfl) (by kernel_rfl) (fun _ _ _ h => h) (Or.inl ⟨by rfl, fun V' hS => ?_⟩) hHeld ?_
        · go_simp
        simp only [Act.put, List.setIfInBounds_toArray, List.set_cons_zero, List.set_cons_succ]
        refine wpAnyH_take (i := 6) (v := .pointer (some ⟨c, 0, none⟩)) ov6 (by kernel_rfl) (by kernel_rfl) (by kernel_rfl) (fun _ _ _ h => h) (Or.inl ⟨by rfl, fun V' hS => ?_⟩) hHeld ?_
        · have q0 := hS.p1
          go_simp
        simp only [Act.put, List.setIfInBounds_toArray, List.set_cons_zero, List.set_cons_succ]
        refine wpAnyH_take (i := 7) (v := .pointer (some ⟨ob, 5, none⟩)) ov7 (by kernel_rfl) (by kernel_rfl) (by kernel_rfl) (fun _ _ _ h => h) (Or.inl ⟨by rfl, fun V' hS => ?_⟩) hHeld ?_
        · go_simp
        simp only [Act.put, List.setIfInBounds_toArray, List.set_cons_zero, List.set_cons_succ]
        refine wpAnyH_take (i := 8) (v := .agg #[.int .u64 X.a, .int .u64 X.b, .int .u64 X.c, .int .u64 X.d]) ov8 (by kernel_rfl) (by kernel_rfl) (by kernel_rfl) (fun _ _ _ h => h) (Or.inl ⟨by rfl, fun V' hS => ?_⟩) hHeld ?_
        · have q0 := hS.x0
          have q1 := hS.x1
          have q2 := hS.x2
          have q3 := hS.x3
          go_simp
        simp only [Act.put, List.setIfInBounds_toArray, List.set_cons_zero, List.set_cons_succ]
        refine wpAnyH_ready (rs := [4]) (by kernel_rfl) (by simp) ?_
        refine AllReadyH.cons ov4 (fun K hK => ?_) AllReadyH.nil
        rw [if_pos (by rfl)]
        go_simp
        refine (push_is z0 b f1 n1 K1.out.s X).mono ?_
        rintro e v1 ⟨rfl, h1, h2⟩
        rw [← EQ.out] at h1 ⊢
        have K2 : Hid (LK w v1 sb ob b c q.f f1 q.n n1 13 N M X) := K1.out.callS h1 h2
        clear h1 h2
        (try go_wp2_with fail)
        refine hK.out _ _ K2.out.bo (fun _ => ?_)
        clear hK K
        (try simp only [Act.put, List.setIfInBounds_toArray, List.set_cons_zero, List.set_cons_succ])
        refine wpAnyH_ready (rs := [9]) (by kernel_rfl) (by simp) ?_
        refine AllReadyH.cons ov9 (fun K hK => ?_) AllReadyH.nil
        rw [if_pos (by rfl)]
        go_simp
        refine (pushR_is v1 c f1 n1 K2.out.r X).mono ?_
        rintro e v2 ⟨rfl, h1, h2⟩
        rw [← EQ.out] at h1 ⊢
        have K3 : Hid (LK w v2 sb ob b c q.f q.f q.n q.n 13 N M X) := K2.out.callR h1 h2
        clear h1 h2
        (try go_wp2_with fail)
        refine hK.out _ _ K3.out.bo (fun _ => ?_)
        clear hK K
        (try simp only [Act.put, List.setIfInBounds_toArray, List.set_cons_zero, List.set_cons_succ])
        refine wpAnyH_take (i := 10) (v := .bool false) ov10 (by kernel_rfl) (by kernel_rfl) (by kernel_rfl) (fun _ _ _ h => h) (Or.inl ⟨by rfl, fun V' hS => ?_⟩) K3.out.bo ?_
        · go_simp
        simp only [Act.put, List.setIfInBounds_toArray, List.set_cons_zero, List.set_cons_succ]
        refine wpAnyH_done (by kernel_rfl) ?_ _
        have qn : n ≤ q.n ∧ q.n ≤ n + ((k + 1 : Nat) : Int) := by
          have h1 := EQ.out
          have h2 := HI.out
          rw [h1]; unfold oPush; split
          · show n ≤ n1 ∧ n1 ≤ _; omega
          · show n ≤ wrap64 (n1 + 1) ∧ wrap64 (n1 + 1) ≤ _; rw [wrap64]; omega
        replace qn : Hid _ := qn
        go_wp2
        go_roundw
        case rel => exact ⟨k + 1, q.f, q.n, by omega, by simp, K3.out, qn.out⟩
        case measure => simp [intOf]; omega
      · have ktI : ¬ ((k : Int) < 1100) := by omega
        go_wp2
        go_ret
        exact ⟨rfl, ⟨f1, n1, K0.out.two, by have := HI.out; omega, by have := HI.out; omega⟩, K0.out.bt⟩
    · go_wp2
      go_ret
      exact ⟨rfl, ⟨f1, n1, K0.out.two, by have := HI.out; omega, by have := HI.out; omega⟩, K0.out.bt⟩
set_option maxHeartbeats 2000000 in
set_option maxRecDepth 100000 in
theorem looked_other (w : World) (b c : Nat) (f : Ring) (n : Int) (h : Two w b c f n) (hn : n ≤ 4611686018427387904) (hn0 : -4611686018427387904 ≤ n) (kd : Int) (h1 : (kd == 1) = false) (h2 : (kd == 2) = false) (h3 : (kd == 3) = false) (h4 : (kd == 4) = false) (h5 : (kd == 5) = false) (h6 : (kd == 6) = false) (h12 : (kd == 12) = false) (h13 : (kd == 13) = false) (tw : Bool) (N M P : Int) (X Y : W4) (B : Value) : Calls Try.prog 11 #[sideV b c, opV kd tw N M P X Y B] w fun e w' => e = .returned (.bool true) ∧ Two w' b c f n ∧ But (BC b c) w w' := by
  have _ : True := (fun _ _ => trivial : n ≤ 4611686018427387904 → -4611686018427387904 ≤ n → True) hn hn0
  have K0 : Hid (LK w ((w.alloc (sideO b c)).alloc (opO kd tw N M P X Y B)) w.heap.size (w.heap.size + 1) b c f f n n kd N M X) := LK.start h _ tw N M P X Y B
  clear h
  unfold sideV opV
  go_enter Try.func11, Try.ntmps11
  go_upto_region 1 with fail
  change Code.wp _ _ _ _ ((w.alloc (sideO b c)).alloc (opO kd tw N M P X Y B))
  generalize (w.alloc (sideO b c)).alloc (opO kd tw N M P X Y B) = v at K0 ⊢
  generalize w.heap.size + 1 = ob at K0 ⊢
  generalize w.heap.size = sb at K0 ⊢
  have k0 := K0.out.bo.k0
  go_wp2
  go_ret
  exact ⟨rfl, K0.out.two, K0.out.bt⟩
end Go.Proofs.Ytdddmebihkdkjaa
