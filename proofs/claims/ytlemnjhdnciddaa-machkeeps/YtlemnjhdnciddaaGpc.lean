/- A step of the law, kind by kind. -/
import Derived.Test.YtlemnjhdnciddaaGpb
namespace Go.Proofs.Ytlemnjhdnciddaa
open Go.RowKit
set_option maxHeartbeats 2000000 in
set_option maxRecDepth 100000 in
theorem paged3 (w : World) (b c : Nat) (S : Nat → Prop) (n : Nat) (u : Nat → Nat) (h : PQ w b c S n u n u) (tw : Bool) (N M P : Int) (X Y : W4) (vB : Value) (mB : Nat) (t : Nat → Nat) (hB : Lent w S vB mB t) (hN : N ≤ 9223372036854775807) (hM : M ≤ 9223372036854775807) (hP : P ≤ 9223372036854775807) (hX : IsW (V X.a X.b X.c X.d) X.a X.b X.c X.d) (hY : IsW (V Y.a Y.b Y.c Y.d) Y.a Y.b Y.c Y.d) : Calls Try.prog 11 #[pageV b c, opV 3 tw N M P X Y vB] w fun e w' => e = .returned (.bool true) ∧ PgAfter w w' b c S (grN n N) := by
  have _ : True := (fun _ _ _ _ _ => trivial : N ≤ 9223372036854775807 → M ≤ 9223372036854775807 → P ≤ 9223372036854775807 → IsW (V X.a X.b X.c X.d) X.a X.b X.c X.d → IsW (V Y.a Y.b Y.c Y.d) Y.a Y.b Y.c Y.d → True) hN hM hP hX hY
  have K0 : Hid (LM ((w.alloc (pageO b c)).alloc (opO 3 tw N M P X Y vB)) ((w.alloc (pageO b c)).alloc (opO 3 tw N M P X Y vB)) w.heap.size (w.heap.size + 1) b c S n u n u 3 N M P X Y vB mB t) := (LM.start h _ tw N M P X Y vB hB).1
  have B0 : Hid (Below w.heap.size w ((w.alloc (pageO b c)).alloc (opO 3 tw N M P X Y vB))) := (LM.start h _ tw N M P X Y vB hB).2
  obtain ⟨E, eE⟩ : ∃ E, E = grE N := ⟨_, rfl⟩
  have EE : Hid (grE N = E) := eE.symm
  clear eE
  clear h
  unfold pageV opV
  go_enter Try.func11, Try.ntmps11
  go_upto_region 1 with fail
  change Code.wp _ _ _ _ ((w.alloc (pageO b c)).alloc (opO 3 tw N M P X Y vB))
  generalize (w.alloc (pageO b c)).alloc (opO 3 tw N M P X Y vB) = w0 at K0 B0 ⊢
  generalize w.heap.size + 1 = ob at K0 ⊢
  generalize hsb : w.heap.size = sb at K0 ⊢
  have HSB : Hid (w.heap.size = sb) := hsb
  rw [hsb] at B0
  clear hsb
  have k0 := K0.out.bo.k0
  go_upto_region 9 with fail
  clear k0
  refine wp_region_held_drew (S := fun V' => Bo V' sb ob b c 3 N M P X Y vB) (by kernel_rfl) K0.out.drew.bo (fun hHeld => ?_)
  have K1 : Hid (LM w0 w0.drew sb ob b c S n u n u 3 N M P X Y vB mB t) := K0.out.drew
  generalize w0.drew = z0 at hHeld K1 ⊢
  clear K0
  refine wpAnyH_take (i := 0) (v := .pointer (some ⟨sb, 0, none⟩)) ov0 (by kernel_rfl) (by kernel_rfl) (by kernel_rfl) (fun _ _ _ h => h) (Or.inl ⟨by rfl, fun V' hS => ?_⟩) hHeld ?_
  · go_simp
  simp only [Act.put, List.setIfInBounds_toArray, List.set_cons_zero, List.set_cons_succ]
  refine wpAnyH_take (i := 1) (v := .pointer (some ⟨b, 0, none⟩)) ov1 (by kernel_rfl) (by kernel_rfl) (by kernel_rfl) (fun _ _ _ h => h) (Or.inl ⟨by rfl, fun V' hS => ?_⟩) hHeld ?_
  · have q0 := hS.p0
    go_simp
  simp only [Act.put, List.setIfInBounds_toArray, List.set_cons_zero, List.set_cons_succ]
  refine wpAnyH_take (i := 2) (v := .pointer (some ⟨ob, 2, none⟩)) ov2 (by kernel_rfl) (by kernel_rfl) (by kernel_rfl) (fun _ _ _ h => h) (Or.inl ⟨by rfl, fun V' hS => ?_⟩) hHeld ?_
  · go_simp
  simp only [Act.put, List.setIfInBounds_toArray, List.set_cons_zero, List.set_cons_succ]
  refine wpAnyH_take (i := 3) (v := .int .i64 N) ov3 (by kernel_rfl) (by kernel_rfl) (by kernel_rfl) (fun _ _ _ h => h) (Or.inl ⟨by rfl, fun V' hS => ?_⟩) hHeld ?_
  · have q0 := hS.k2
    go_simp
  simp only [Act.put, List.setIfInBounds_toArray, List.set_cons_zero, List.set_cons_succ]
  refine wpAnyH_take (i := 5) (v := .pointer (some ⟨sb, 1, none⟩)) ov5 (by kernel_rfl) (by kernel_rfl) (by kernel_rfl) (fun _ _ _ h => h) (Or.inl ⟨by rfl, fun V' hS => ?_⟩) hHeld ?_
  · go_simp
  simp only [Act.put, List.setIfInBounds_toArray, List.set_cons_zero, List.set_cons_succ]
  refine wpAnyH_take (i := 6) (v := .pointer (some ⟨c, 0, none⟩)) ov6 (by kernel_rfl) (by kernel_rfl) (by kernel_rfl) (fun _ _ _ h => h) (Or.inl ⟨by rfl, fun V' hS => ?_⟩) hHeld ?_
  · have q0 := hS.p1
    go_simp
  simp only [Act.put, List.setIfInBounds_toArray, List.set_cons_zero, List.set_cons_succ]
  refine wpAnyH_take (i := 7) (v := .pointer (some ⟨ob, 2, none⟩)) ov7 (by kernel_rfl) (by kernel_rfl) (by kernel_rfl) (fun _ _ _ h => h) (Or.inl ⟨by rfl, fun V' hS => ?_⟩) hHeld ?_
  · go_simp
  simp only [Act.put, List.setIfInBounds_toArray, List.set_cons_zero, List.set_cons_succ]
  refine wpAnyH_take (i := 8) (v := .int .i64 N) ov8 (by kernel_rfl) (by kernel_rfl) (by kernel_rfl) (fun _ _ _ h => h) (Or.inl ⟨by rfl, fun V' hS => ?_⟩) hHeld ?_
  · have q0 := hS.k2
    go_simp
  simp only [Act.put, List.setIfInBounds_toArray, List.set_cons_zero, List.set_cons_succ]
  refine wpAnyH_ready (rs := [4]) (by kernel_rfl) (by simp) ?_
  refine AllReadyH.cons ov4 (fun K hK => ?_) AllReadyH.nil
  rw [if_pos (by rfl)]
  go_simp
  refine (LM.growM K1.out N).mono ?_
  rintro e v1 ⟨rfl, h1⟩
  rw [EE.out]
  have K2 : Hid (LM w0 v1 sb ob b c S (grN n N) (grU u n) n u 3 N M P X Y vB mB t) := h1
  clear h1
  (try go_wp2_with fail)
  refine hK.out _ _ K2.out.bo (fun _ => ?_)
  clear hK K
  (try simp only [Act.put, List.setIfInBounds_toArray, List.set_cons_zero, List.set_cons_succ])
  refine wpAnyH_ready (rs := [9]) (by kernel_rfl) (by simp) ?_
  refine AllReadyH.cons ov9 (fun K hK => ?_) AllReadyH.nil
  rw [if_pos (by rfl)]
  go_simp
  refine (LM.growR K2.out N).mono ?_
  rintro e v2 ⟨rfl, h1⟩
  rw [EE.out]
  have K3 : Hid (LM w0 v2 sb ob b c S (grN n N) (grU u n) (grN n N) (grU u n) 3 N M P X Y vB mB t) := h1
  clear h1
  (try go_wp2_with fail)
  refine hK.out _ _ K3.out.bo (fun _ => ?_)
  clear hK K
  (try simp only [Act.put, List.setIfInBounds_toArray, List.set_cons_zero, List.set_cons_succ])
  refine wpAnyH_take (i := 10) (v := .bool true) ov10 (by kernel_rfl) (by kernel_rfl) (by kernel_rfl) (fun _ _ _ h => h) (Or.inl ⟨by rfl, fun V' hS => ?_⟩) K3.out.bo ?_
  · go_simp
  simp only [Act.put, List.setIfInBounds_toArray, List.set_cons_zero, List.set_cons_succ]
  refine wpAnyH_take (i := 11) (v := .bool true) ov11 (by kernel_rfl) (by kernel_rfl) (by kernel_rfl) (fun _ _ _ h => h) (Or.inl ⟨by rfl, fun V' hS => ?_⟩) K3.out.bo ?_
  · go_simp
  simp only [Act.put, List.setIfInBounds_toArray, List.set_cons_zero, List.set_cons_succ]
  refine wpAnyH_done (by kernel_rfl) ?_ _
  go_wp2
  go_ret
  exact ⟨rfl, K3.out.after (w := w) (by have h9 := B0.out; rwa [← HSB.out] at h9)⟩
set_option maxHeartbeats 2000000 in
set_option maxRecDepth 100000 in
theorem paged5 (w : World) (b c : Nat) (S : Nat → Prop) (n : Nat) (u : Nat → Nat) (h : PQ w b c S n u n u) (tw : Bool) (N M P : Int) (X Y : W4) (vB : Value) (mB : Nat) (t : Nat → Nat) (hB : Lent w S vB mB t) (hN : N ≤ 9223372036854775807) (hM : M ≤ 9223372036854775807) (hP : P ≤ 9223372036854775807) (hX : IsW (V X.a X.b X.c X.d) X.a X.b X.c X.d) (hY : IsW (V Y.a Y.b Y.c Y.d) Y.a Y.b Y.c Y.d) : Calls Try.prog 11 #[pageV b c, opV 5 tw N M P X Y vB] w fun e w' => e = .returned (.bool true) ∧ PgAfter w w' b c S n := by
  have _ : True := (fun _ _ _ _ _ => trivial : N ≤ 9223372036854775807 → M ≤ 9223372036854775807 → P ≤ 9223372036854775807 → IsW (V X.a X.b X.c X.d) X.a X.b X.c X.d → IsW (V Y.a Y.b Y.c Y.d) Y.a Y.b Y.c Y.d → True) hN hM hP hX hY
  have K0 : Hid (LM ((w.alloc (pageO b c)).alloc (opO 5 tw N M P X Y vB)) ((w.alloc (pageO b c)).alloc (opO 5 tw N M P X Y vB)) w.heap.size (w.heap.size + 1) b c S n u n u 5 N M P X Y vB mB t) := (LM.start h _ tw N M P X Y vB hB).1
  have B0 : Hid (Below w.heap.size w ((w.alloc (pageO b c)).alloc (opO 5 tw N M P X Y vB))) := (LM.start h _ tw N M P X Y vB hB).2
  obtain ⟨E, eE⟩ : ∃ E, E = lk n N 32 := ⟨_, rfl⟩
  have EE : Hid (lk n N 32 = E) := eE.symm
  clear eE
  clear h
  unfold pageV opV
  go_enter Try.func11, Try.ntmps11
  go_upto_region 1 with fail
  change Code.wp _ _ _ _ ((w.alloc (pageO b c)).alloc (opO 5 tw N M P X Y vB))
  generalize (w.alloc (pageO b c)).alloc (opO 5 tw N M P X Y vB) = w0 at K0 B0 ⊢
  generalize w.heap.size + 1 = ob at K0 ⊢
  generalize hsb : w.heap.size = sb at K0 ⊢
  have HSB : Hid (w.heap.size = sb) := hsb
  rw [hsb] at B0
  clear hsb
  have k0 := K0.out.bo.k0
  go_upto_region 15 with fail
  clear k0
  refine wp_region_held_drew (S := fun V' => Bo V' sb ob b c 5 N M P X Y vB) (by kernel_rfl) K0.out.drew.bo (fun hHeld => ?_)
  have K1 : Hid (LM w0 w0.drew sb ob b c S n u n u 5 N M P X Y vB mB t) := K0.out.drew
  generalize w0.drew = z0 at hHeld K1 ⊢
  clear K0
  refine wpAnyH_take (i := 0) (v := .pointer (some ⟨sb, 0, none⟩)) ov0 (by kernel_rfl) (by kernel_rfl) (by kernel_rfl) (fun _ _ _ h => h) (Or.inl ⟨by rfl, fun V' hS => ?_⟩) hHeld ?_
  · go_simp
  simp only [Act.put, List.setIfInBounds_toArray, List.set_cons_zero, List.set_cons_succ]
  refine wpAnyH_take (i := 1) (v := .pointer (some ⟨b, 0, none⟩)) ov1 (by kernel_rfl) (by kernel_rfl) (by kernel_rfl) (fun _ _ _ h => h) (Or.inl ⟨by rfl, fun V' hS => ?_⟩) hHeld ?_
  · have q0 := hS.p0
    go_simp
  simp only [Act.put, List.setIfInBounds_toArray, List.set_cons_zero, List.set_cons_succ]
  refine wpAnyH_take (i := 2) (v := .pointer (some ⟨ob, 2, none⟩)) ov2 (by kernel_rfl) (by kernel_rfl) (by kernel_rfl) (fun _ _ _ h => h) (Or.inl ⟨by rfl, fun V' hS => ?_⟩) hHeld ?_
  · go_simp
  simp only [Act.put, List.setIfInBounds_toArray, List.set_cons_zero, List.set_cons_succ]
  refine wpAnyH_take (i := 3) (v := .int .i64 N) ov3 (by kernel_rfl) (by kernel_rfl) (by kernel_rfl) (fun _ _ _ h => h) (Or.inl ⟨by rfl, fun V' hS => ?_⟩) hHeld ?_
  · have q0 := hS.k2
    go_simp
  simp only [Act.put, List.setIfInBounds_toArray, List.set_cons_zero, List.set_cons_succ]
  refine wpAnyH_take (i := 4) (v := .pointer (some ⟨ob, 5, none⟩)) ov4 (by kernel_rfl) (by kernel_rfl) (by kernel_rfl) (fun _ _ _ h => h) (Or.inl ⟨by rfl, fun V' hS => ?_⟩) hHeld ?_
  · go_simp
  simp only [Act.put, List.setIfInBounds_toArray, List.set_cons_zero, List.set_cons_succ]
  refine wpAnyH_take (i := 5) (v := .agg #[.int .u64 X.a, .int .u64 X.b, .int .u64 X.c, .int .u64 X.d]) ov5 (by kernel_rfl) (by kernel_rfl) (by kernel_rfl) (fun _ _ _ h => h) (Or.inl ⟨by rfl, fun V' hS => ?_⟩) hHeld ?_
  · have q0 := hS.x0
    have q1 := hS.x1
    have q2 := hS.x2
    have q3 := hS.x3
    go_simp
  simp only [Act.put, List.setIfInBounds_toArray, List.set_cons_zero, List.set_cons_succ]
  refine wpAnyH_take (i := 7) (v := .pointer (some ⟨sb, 1, none⟩)) ov7 (by kernel_rfl) (by kernel_rfl) (by kernel_rfl) (fun _ _ _ h => h) (Or.inl ⟨by rfl, fun V' hS => ?_⟩) hHeld ?_
  · go_simp
  simp only [Act.put, List.setIfInBounds_toArray, List.set_cons_zero, List.set_cons_succ]
  refine wpAnyH_take (i := 8) (v := .pointer (some ⟨c, 0, none⟩)) ov8 (by kernel_rfl) (by kernel_rfl) (by kernel_rfl) (fun _ _ _ h => h) (Or.inl ⟨by rfl, fun V' hS => ?_⟩) hHeld ?_
  · have q0 := hS.p1
    go_simp
  simp only [Act.put, List.setIfInBounds_toArray, List.set_cons_zero, List.set_cons_succ]
  refine wpAnyH_take (i := 9) (v := .pointer (some ⟨ob, 2, none⟩)) ov9 (by kernel_rfl) (by kernel_rfl) (by kernel_rfl) (fun _ _ _ h => h) (Or.inl ⟨by rfl, fun V' hS => ?_⟩) hHeld ?_
  · go_simp
  simp only [Act.put, List.setIfInBounds_toArray, List.set_cons_zero, List.set_cons_succ]
  refine wpAnyH_take (i := 10) (v := .int .i64 N) ov10 (by kernel_rfl) (by kernel_rfl) (by kernel_rfl) (fun _ _ _ h => h) (Or.inl ⟨by rfl, fun V' hS => ?_⟩) hHeld ?_
  · have q0 := hS.k2
    go_simp
  simp only [Act.put, List.setIfInBounds_toArray, List.set_cons_zero, List.set_cons_succ]
  refine wpAnyH_take (i := 11) (v := .pointer (some ⟨ob, 5, none⟩)) ov11 (by kernel_rfl) (by kernel_rfl) (by kernel_rfl) (fun _ _ _ h => h) (Or.inl ⟨by rfl, fun V' hS => ?_⟩) hHeld ?_
  · go_simp
  simp only [Act.put, List.setIfInBounds_toArray, List.set_cons_zero, List.set_cons_succ]
  refine wpAnyH_take (i := 12) (v := .agg #[.int .u64 X.a, .int .u64 X.b, .int .u64 X.c, .int .u64 X.d]) ov12 (by kernel_rfl) (by kernel_rfl) (by kernel_rfl) (fun _ _ _ h => h) (Or.inl ⟨by rfl, fun V' hS => ?_⟩) hHeld ?_
  · have q0 := hS.x0
    have q1 := hS.x1
    have q2 := hS.x2
    have q3 := hS.x3
    go_simp
  simp only [Act.put, List.setIfInBounds_toArray, List.set_cons_zero, List.set_cons_succ]
  refine wpAnyH_ready (rs := [6]) (by kernel_rfl) (by simp) ?_
  refine AllReadyH.cons ov6 (fun K hK => ?_) AllReadyH.nil
  rw [if_pos (by rfl)]
  go_simp
  refine (LM.storeM K1.out N hN X hX).mono ?_
  rintro e v1 ⟨rfl, h1⟩
  rw [EE.out]
  have K2 : Hid (LM w0 v1 sb ob b c S n (if lk n N 32 = 0 then ins u N.toNat (bN X) 32 else u) n u 5 N M P X Y vB mB t) := h1
  clear h1
  (try go_wp2_with fail)
  refine hK.out _ _ K2.out.bo (fun _ => ?_)
  clear hK K
  (try simp only [Act.put, List.setIfInBounds_toArray, List.set_cons_zero, List.set_cons_succ])
  refine wpAnyH_ready (rs := [13]) (by kernel_rfl) (by simp) ?_
  refine AllReadyH.cons ov13 (fun K hK => ?_) AllReadyH.nil
  rw [if_pos (by rfl)]
  go_simp
  refine (LM.storeR K2.out N hN X hX).mono ?_
  rintro e v2 ⟨rfl, h1⟩
  rw [EE.out]
  have K3 : Hid (LM w0 v2 sb ob b c S n (if lk n N 32 = 0 then ins u N.toNat (bN X) 32 else u) n (if lk n N 32 = 0 then ins u N.toNat (bN X) 32 else u) 5 N M P X Y vB mB t) := h1
  clear h1
  (try go_wp2_with fail)
  refine hK.out _ _ K3.out.bo (fun _ => ?_)
  clear hK K
  (try simp only [Act.put, List.setIfInBounds_toArray, List.set_cons_zero, List.set_cons_succ])
  refine wpAnyH_take (i := 14) (v := .bool true) ov14 (by kernel_rfl) (by kernel_rfl) (by kernel_rfl) (fun _ _ _ h => h) (Or.inl ⟨by rfl, fun V' hS => ?_⟩) K3.out.bo ?_
  · go_simp
  simp only [Act.put, List.setIfInBounds_toArray, List.set_cons_zero, List.set_cons_succ]
  refine wpAnyH_take (i := 15) (v := .bool true) ov15 (by kernel_rfl) (by kernel_rfl) (by kernel_rfl) (fun _ _ _ h => h) (Or.inl ⟨by rfl, fun V' hS => ?_⟩) K3.out.bo ?_
  · go_simp
  simp only [Act.put, List.setIfInBounds_toArray, List.set_cons_zero, List.set_cons_succ]
  refine wpAnyH_done (by kernel_rfl) ?_ _
  go_wp2
  go_ret
  exact ⟨rfl, K3.out.after (w := w) (by have h9 := B0.out; rwa [← HSB.out] at h9)⟩
set_option maxHeartbeats 2000000 in
set_option maxRecDepth 100000 in
theorem paged6 (w : World) (b c : Nat) (S : Nat → Prop) (n : Nat) (u : Nat → Nat) (h : PQ w b c S n u n u) (tw : Bool) (N M P : Int) (X Y : W4) (vB : Value) (mB : Nat) (t : Nat → Nat) (hB : Lent w S vB mB t) (hN : N ≤ 9223372036854775807) (hM : M ≤ 9223372036854775807) (hP : P ≤ 9223372036854775807) (hX : IsW (V X.a X.b X.c X.d) X.a X.b X.c X.d) (hY : IsW (V Y.a Y.b Y.c Y.d) Y.a Y.b Y.c Y.d) : Calls Try.prog 11 #[pageV b c, opV 6 tw N M P X Y vB] w fun e w' => e = .returned (.bool true) ∧ PgAfter w w' b c S n := by
  have _ : True := (fun _ _ _ _ _ => trivial : N ≤ 9223372036854775807 → M ≤ 9223372036854775807 → P ≤ 9223372036854775807 → IsW (V X.a X.b X.c X.d) X.a X.b X.c X.d → IsW (V Y.a Y.b Y.c Y.d) Y.a Y.b Y.c Y.d → True) hN hM hP hX hY
  have K0 : Hid (LM ((w.alloc (pageO b c)).alloc (opO 6 tw N M P X Y vB)) ((w.alloc (pageO b c)).alloc (opO 6 tw N M P X Y vB)) w.heap.size (w.heap.size + 1) b c S n u n u 6 N M P X Y vB mB t) := (LM.start h _ tw N M P X Y vB hB).1
  have B0 : Hid (Below w.heap.size w ((w.alloc (pageO b c)).alloc (opO 6 tw N M P X Y vB))) := (LM.start h _ tw N M P X Y vB hB).2
  obtain ⟨E, eE⟩ : ∃ E, E = lk n N 1 := ⟨_, rfl⟩
  have EE : Hid (lk n N 1 = E) := eE.symm
  clear eE
  obtain ⟨z, ez, hz⟩ : ∃ z : Nat, IntKind.u8.wrap M = (z : Int) ∧ z < 256 := ⟨(IntKind.u8.wrap M).toNat, by rw [IntKind.wrap_u8]; omega, by rw [IntKind.wrap_u8]; omega⟩
  clear h
  unfold pageV opV
  go_enter Try.func11, Try.ntmps11
  go_upto_region 1 with fail
  change Code.wp _ _ _ _ ((w.alloc (pageO b c)).alloc (opO 6 tw N M P X Y vB))
  generalize (w.alloc (pageO b c)).alloc (opO 6 tw N M P X Y vB) = w0 at K0 B0 ⊢
  generalize w.heap.size + 1 = ob at K0 ⊢
  generalize hsb : w.heap.size = sb at K0 ⊢
  have HSB : Hid (w.heap.size = sb) := hsb
  rw [hsb] at B0
  clear hsb
  have k0 := K0.out.bo.k0
  go_upto_region 17 with fail
  clear k0
  refine wp_region_held_drew (S := fun V' => Bo V' sb ob b c 6 N M P X Y vB) (by kernel_rfl) K0.out.drew.bo (fun hHeld => ?_)
  have K1 : Hid (LM w0 w0.drew sb ob b c S n u n u 6 N M P X Y vB mB t) := K0.out.drew
  generalize w0.drew = z0 at hHeld K1 ⊢
  clear K0
  refine wpAnyH_take (i := 0) (v := .pointer (some ⟨sb, 0, none⟩)) ov0 (by kernel_rfl) (by kernel_rfl) (by kernel_rfl) (fun _ _ _ h => h) (Or.inl ⟨by rfl, fun V' hS => ?_⟩) hHeld ?_
  · go_simp
  simp only [Act.put, List.setIfInBounds_toArray, List.set_cons_zero, List.set_cons_succ]
  refine wpAnyH_take (i := 1) (v := .pointer (some ⟨b, 0, none⟩)) ov1 (by kernel_rfl) (by kernel_rfl) (by kernel_rfl) (fun _ _ _ h => h) (Or.inl ⟨by rfl, fun V' hS => ?_⟩) hHeld ?_
  · have q0 := hS.p0
    go_simp
  simp only [Act.put, List.setIfInBounds_toArray, List.set_cons_zero, List.set_cons_succ]
  refine wpAnyH_take (i := 2) (v := .pointer (some ⟨ob, 2, none⟩)) ov2 (by kernel_rfl) (by kernel_rfl) (by kernel_rfl) (fun _ _ _ h => h) (Or.inl ⟨by rfl, fun V' hS => ?_⟩) hHeld ?_
  · go_simp
  simp only [Act.put, List.setIfInBounds_toArray, List.set_cons_zero, List.set_cons_succ]
  refine wpAnyH_take (i := 3) (v := .int .i64 N) ov3 (by kernel_rfl) (by kernel_rfl) (by kernel_rfl) (fun _ _ _ h => h) (Or.inl ⟨by rfl, fun V' hS => ?_⟩) hHeld ?_
  · have q0 := hS.k2
    go_simp
  simp only [Act.put, List.setIfInBounds_toArray, List.set_cons_zero, List.set_cons_succ]
  refine wpAnyH_take (i := 4) (v := .pointer (some ⟨ob, 3, none⟩)) ov4 (by kernel_rfl) (by kernel_rfl) (by kernel_rfl) (fun _ _ _ h => h) (Or.inl ⟨by rfl, fun V' hS => ?_⟩) hHeld ?_
  · go_simp
  simp only [Act.put, List.setIfInBounds_toArray, List.set_cons_zero, List.set_cons_succ]
  refine wpAnyH_take (i := 5) (v := .int .i64 M) ov5 (by kernel_rfl) (by kernel_rfl) (by kernel_rfl) (fun _ _ _ h => h) (Or.inl ⟨by rfl, fun V' hS => ?_⟩) hHeld ?_
  · have q0 := hS.k3
    go_simp
  simp only [Act.put, List.setIfInBounds_toArray, List.set_cons_zero, List.set_cons_succ]
  refine wpAnyH_take (i := 6) (v := .int .u8 (z : Int)) ov6 (by kernel_rfl) (by kernel_rfl) (by kernel_rfl) (fun _ _ _ h => h) (Or.inl ⟨by rfl, fun V' hS => ?_⟩) hHeld ?_
  · go_simp
  simp only [Act.put, List.setIfInBounds_toArray, List.set_cons_zero, List.set_cons_succ]
  refine wpAnyH_take (i := 8) (v := .pointer (some ⟨sb, 1, none⟩)) ov8 (by kernel_rfl) (by kernel_rfl) (by kernel_rfl) (fun _ _ _ h => h) (Or.inl ⟨by rfl, fun V' hS => ?_⟩) hHeld ?_
  · go_simp
  simp only [Act.put, List.setIfInBounds_toArray, List.set_cons_zero, List.set_cons_succ]
  refine wpAnyH_take (i := 9) (v := .pointer (some ⟨c, 0, none⟩)) ov9 (by kernel_rfl) (by kernel_rfl) (by kernel_rfl) (fun _ _ _ h => h) (Or.inl ⟨by rfl, fun V' hS => ?_⟩) hHeld ?_
  · have q0 := hS.p1
    go_simp
  simp only [Act.put, List.setIfInBounds_toArray, List.set_cons_zero, List.set_cons_succ]
  refine wpAnyH_take (i := 10) (v := .pointer (some ⟨ob, 2, none⟩)) ov10 (by kernel_rfl) (by kernel_rfl) (by kernel_rfl) (fun _ _ _ h => h) (Or.inl ⟨by rfl, fun V' hS => ?_⟩) hHeld ?_
  · go_simp
  simp only [Act.put, List.setIfInBounds_toArray, List.set_cons_zero, List.set_cons_succ]
  refine wpAnyH_take (i := 11) (v := .int .i64 N) ov11 (by kernel_rfl) (by kernel_rfl) (by kernel_rfl) (fun _ _ _ h => h) (Or.inl ⟨by rfl, fun V' hS => ?_⟩) hHeld ?_
  · have q0 := hS.k2
    go_simp
  simp only [Act.put, List.setIfInBounds_toArray, List.set_cons_zero, List.set_cons_succ]
  refine wpAnyH_take (i := 12) (v := .pointer (some ⟨ob, 3, none⟩)) ov12 (by kernel_rfl) (by kernel_rfl) (by kernel_rfl) (fun _ _ _ h => h) (Or.inl ⟨by rfl, fun V' hS => ?_⟩) hHeld ?_
  · go_simp
  simp only [Act.put, List.setIfInBounds_toArray, List.set_cons_zero, List.set_cons_succ]
  refine wpAnyH_take (i := 13) (v := .int .i64 M) ov13 (by kernel_rfl) (by kernel_rfl) (by kernel_rfl) (fun _ _ _ h => h) (Or.inl ⟨by rfl, fun V' hS => ?_⟩) hHeld ?_
  · have q0 := hS.k3
    go_simp
  simp only [Act.put, List.setIfInBounds_toArray, List.set_cons_zero, List.set_cons_succ]
  refine wpAnyH_take (i := 14) (v := .int .u8 (z : Int)) ov14 (by kernel_rfl) (by kernel_rfl) (by kernel_rfl) (fun _ _ _ h => h) (Or.inl ⟨by rfl, fun V' hS => ?_⟩) hHeld ?_
  · go_simp
  simp only [Act.put, List.setIfInBounds_toArray, List.set_cons_zero, List.set_cons_succ]
  refine wpAnyH_ready (rs := [7]) (by kernel_rfl) (by simp) ?_
  refine AllReadyH.cons ov7 (fun K hK => ?_) AllReadyH.nil
  rw [if_pos (by rfl)]
  go_simp
  refine (LM.store8M K1.out N hN z hz).mono ?_
  rintro e v1 ⟨rfl, h1⟩
  rw [EE.out]
  have K2 : Hid (LM w0 v1 sb ob b c S n (if lk n N 1 = 0 then ins u N.toNat (fun _ => z) 1 else u) n u 6 N M P X Y vB mB t) := h1
  clear h1
  (try go_wp2_with fail)
  refine hK.out _ _ K2.out.bo (fun _ => ?_)
  clear hK K
  (try simp only [Act.put, List.setIfInBounds_toArray, List.set_cons_zero, List.set_cons_succ])
  refine wpAnyH_ready (rs := [15]) (by kernel_rfl) (by simp) ?_
  refine AllReadyH.cons ov15 (fun K hK => ?_) AllReadyH.nil
  rw [if_pos (by rfl)]
  go_simp
  refine (LM.store8R K2.out N hN z hz).mono ?_
  rintro e v2 ⟨rfl, h1⟩
  rw [EE.out]
  have K3 : Hid (LM w0 v2 sb ob b c S n (if lk n N 1 = 0 then ins u N.toNat (fun _ => z) 1 else u) n (if lk n N 1 = 0 then ins u N.toNat (fun _ => z) 1 else u) 6 N M P X Y vB mB t) := h1
  clear h1
  (try go_wp2_with fail)
  refine hK.out _ _ K3.out.bo (fun _ => ?_)
  clear hK K
  (try simp only [Act.put, List.setIfInBounds_toArray, List.set_cons_zero, List.set_cons_succ])
  refine wpAnyH_take (i := 16) (v := .bool true) ov16 (by kernel_rfl) (by kernel_rfl) (by kernel_rfl) (fun _ _ _ h => h) (Or.inl ⟨by rfl, fun V' hS => ?_⟩) K3.out.bo ?_
  · go_simp
  simp only [Act.put, List.setIfInBounds_toArray, List.set_cons_zero, List.set_cons_succ]
  refine wpAnyH_take (i := 17) (v := .bool true) ov17 (by kernel_rfl) (by kernel_rfl) (by kernel_rfl) (fun _ _ _ h => h) (Or.inl ⟨by rfl, fun V' hS => ?_⟩) K3.out.bo ?_
  · go_simp
  simp only [Act.put, List.setIfInBounds_toArray, List.set_cons_zero, List.set_cons_succ]
  refine wpAnyH_done (by kernel_rfl) ?_ _
  go_wp2
  go_ret
  exact ⟨rfl, K3.out.after (w := w) (by have h9 := B0.out; rwa [← HSB.out] at h9)⟩
set_option maxHeartbeats 2000000 in
set_option maxRecDepth 100000 in
theorem paged9 (w : World) (b c : Nat) (S : Nat → Prop) (n : Nat) (u : Nat → Nat) (h : PQ w b c S n u n u) (tw : Bool) (N M P : Int) (X Y : W4) (vB : Value) (mB : Nat) (t : Nat → Nat) (hB : Lent w S vB mB t) (hN : N ≤ 9223372036854775807) (hM : M ≤ 9223372036854775807) (hP : P ≤ 9223372036854775807) (hX : IsW (V X.a X.b X.c X.d) X.a X.b X.c X.d) (hY : IsW (V Y.a Y.b Y.c Y.d) Y.a Y.b Y.c Y.d) : Calls Try.prog 11 #[pageV b c, opV 9 tw N M P X Y vB] w fun e w' => e = .returned (.bool true) ∧ PgAfter w w' b c S n := by
  have _ : True := (fun _ _ _ _ _ => trivial : N ≤ 9223372036854775807 → M ≤ 9223372036854775807 → P ≤ 9223372036854775807 → IsW (V X.a X.b X.c X.d) X.a X.b X.c X.d → IsW (V Y.a Y.b Y.c Y.d) Y.a Y.b Y.c Y.d → True) hN hM hP hX hY
  have K0 : Hid (LM ((w.alloc (pageO b c)).alloc (opO 9 tw N M P X Y vB)) ((w.alloc (pageO b c)).alloc (opO 9 tw N M P X Y vB)) w.heap.size (w.heap.size + 1) b c S n u n u 9 N M P X Y vB mB t) := (LM.start h _ tw N M P X Y vB hB).1
  have B0 : Hid (Below w.heap.size w ((w.alloc (pageO b c)).alloc (opO 9 tw N M P X Y vB))) := (LM.start h _ tw N M P X Y vB hB).2
  obtain ⟨E, eE⟩ : ∃ E, E = mvE n N M P := ⟨_, rfl⟩
  have EE : Hid (mvE n N M P = E) := eE.symm
  clear eE
  clear h
  unfold pageV opV
  go_enter Try.func11, Try.ntmps11
  go_upto_region 1 with fail
  change Code.wp _ _ _ _ ((w.alloc (pageO b c)).alloc (opO 9 tw N M P X Y vB))
  generalize (w.alloc (pageO b c)).alloc (opO 9 tw N M P X Y vB) = w0 at K0 B0 ⊢
  generalize w.heap.size + 1 = ob at K0 ⊢
  generalize hsb : w.heap.size = sb at K0 ⊢
  have HSB : Hid (w.heap.size = sb) := hsb
  rw [hsb] at B0
  clear hsb
  have k0 := K0.out.bo.k0
  go_upto_region 37 with fail
  clear k0
  refine wp_region_held_drew (S := fun V' => Bo V' sb ob b c 9 N M P X Y vB) (by kernel_rfl) K0.out.drew.bo (fun hHeld => ?_)
  have K1 : Hid (LM w0 w0.drew sb ob b c S n u n u 9 N M P X Y vB mB t) := K0.out.drew
  generalize w0.drew = z0 at hHeld K1 ⊢
  clear K0
  refine wpAnyH_take (i := 0) (v := .pointer (some ⟨sb, 0, none⟩)) ov0 (by kernel_rfl) (by kernel_rfl) (by kernel_rfl) (fun _ _ _ h => h) (Or.inl ⟨by rfl, fun V' hS => ?_⟩) hHeld ?_
  · go_simp
  simp only [Act.put, List.setIfInBounds_toArray, List.set_cons_zero, List.set_cons_succ]
  refine wpAnyH_take (i := 1) (v := .pointer (some ⟨b, 0, none⟩)) ov1 (by kernel_rfl) (by kernel_rfl) (by kernel_rfl) (fun _ _ _ h => h) (Or.inl ⟨by rfl, fun V' hS => ?_⟩) hHeld ?_
  · have q0 := hS.p0
    go_simp
  simp only [Act.put, List.setIfInBounds_toArray, List.set_cons_zero, List.set_cons_succ]
  refine wpAnyH_take (i := 2) (v := .pointer (some ⟨ob, 2, none⟩)) ov2 (by kernel_rfl) (by kernel_rfl) (by kernel_rfl) (fun _ _ _ h => h) (Or.inl ⟨by rfl, fun V' hS => ?_⟩) hHeld ?_
  · go_simp
  simp only [Act.put, List.setIfInBounds_toArray, List.set_cons_zero, List.set_cons_succ]
  refine wpAnyH_take (i := 3) (v := .int .i64 N) ov3 (by kernel_rfl) (by kernel_rfl) (by kernel_rfl) (fun _ _ _ h => h) (Or.inl ⟨by rfl, fun V' hS => ?_⟩) hHeld ?_
  · have q0 := hS.k2
    go_simp
  simp only [Act.put, List.setIfInBounds_toArray, List.set_cons_zero, List.set_cons_succ]
  refine wpAnyH_take (i := 4) (v := .pointer (some ⟨ob, 3, none⟩)) ov4 (by kernel_rfl) (by kernel_rfl) (by kernel_rfl) (fun _ _ _ h => h) (Or.inl ⟨by rfl, fun V' hS => ?_⟩) hHeld ?_
  · go_simp
  simp only [Act.put, List.setIfInBounds_toArray, List.set_cons_zero, List.set_cons_succ]
  refine wpAnyH_take (i := 5) (v := .int .i64 M) ov5 (by kernel_rfl) (by kernel_rfl) (by kernel_rfl) (fun _ _ _ h => h) (Or.inl ⟨by rfl, fun V' hS => ?_⟩) hHeld ?_
  · have q0 := hS.k3
    go_simp
  simp only [Act.put, List.setIfInBounds_toArray, List.set_cons_zero, List.set_cons_succ]
  refine wpAnyH_take (i := 6) (v := .pointer (some ⟨ob, 4, none⟩)) ov6 (by kernel_rfl) (by kernel_rfl) (by kernel_rfl) (fun _ _ _ h => h) (Or.inl ⟨by rfl, fun V' hS => ?_⟩) hHeld ?_
  · go_simp
  simp only [Act.put, List.setIfInBounds_toArray, List.set_cons_zero, List.set_cons_succ]
  refine wpAnyH_take (i := 7) (v := .int .i64 P) ov7 (by kernel_rfl) (by kernel_rfl) (by kernel_rfl) (fun _ _ _ h => h) (Or.inl ⟨by rfl, fun V' hS => ?_⟩) hHeld ?_
  · have q0 := hS.k4
    go_simp
  simp only [Act.put, List.setIfInBounds_toArray, List.set_cons_zero, List.set_cons_succ]
  refine wpAnyH_take (i := 9) (v := .pointer (some ⟨sb, 1, none⟩)) ov9 (by kernel_rfl) (by kernel_rfl) (by kernel_rfl) (fun _ _ _ h => h) (Or.inl ⟨by rfl, fun V' hS => ?_⟩) hHeld ?_
  · go_simp
  simp only [Act.put, List.setIfInBounds_toArray, List.set_cons_zero, List.set_cons_succ]
  refine wpAnyH_take (i := 10) (v := .pointer (some ⟨c, 0, none⟩)) ov10 (by kernel_rfl) (by kernel_rfl) (by kernel_rfl) (fun _ _ _ h => h) (Or.inl ⟨by rfl, fun V' hS => ?_⟩) hHeld ?_
  · have q0 := hS.p1
    go_simp
  simp only [Act.put, List.setIfInBounds_toArray, List.set_cons_zero, List.set_cons_succ]
  refine wpAnyH_take (i := 11) (v := .pointer (some ⟨ob, 2, none⟩)) ov11 (by kernel_rfl) (by kernel_rfl) (by kernel_rfl) (fun _ _ _ h => h) (Or.inl ⟨by rfl, fun V' hS => ?_⟩) hHeld ?_
  · go_simp
  simp only [Act.put, List.setIfInBounds_toArray, List.set_cons_zero, List.set_cons_succ]
  refine wpAnyH_take (i := 12) (v := .int .i64 N) ov12 (by kernel_rfl) (by kernel_rfl) (by kernel_rfl) (fun _ _ _ h => h) (Or.inl ⟨by rfl, fun V' hS => ?_⟩) hHeld ?_
  · have q0 := hS.k2
    go_simp
  simp only [Act.put, List.setIfInBounds_toArray, List.set_cons_zero, List.set_cons_succ]
  refine wpAnyH_take (i := 13) (v := .pointer (some ⟨ob, 3, none⟩)) ov13 (by kernel_rfl) (by kernel_rfl) (by kernel_rfl) (fun _ _ _ h => h) (Or.inl ⟨by rfl, fun V' hS => ?_⟩) hHeld ?_
  · go_simp
  simp only [Act.put, List.setIfInBounds_toArray, List.set_cons_zero, List.set_cons_succ]
  refine wpAnyH_take (i := 14) (v := .int .i64 M) ov14 (by kernel_rfl) (by kernel_rfl) (by kernel_rfl) (fun _ _ _ h => h) (Or.inl ⟨by rfl, fun V' hS => ?_⟩) hHeld ?_
  · have q0 := hS.k3
    go_simp
  simp only [Act.put, List.setIfInBounds_toArray, List.set_cons_zero, List.set_cons_succ]
  refine wpAnyH_take (i := 15) (v := .pointer (some ⟨ob, 4, none⟩)) ov15 (by kernel_rfl) (by kernel_rfl) (by kernel_rfl) (fun _ _ _ h => h) (Or.inl ⟨by rfl, fun V' hS => ?_⟩) hHeld ?_
  · go_simp
  simp only [Act.put, List.setIfInBounds_toArray, List.set_cons_zero, List.set_cons_succ]
  refine wpAnyH_take (i := 16) (v := .int .i64 P) ov16 (by kernel_rfl) (by kernel_rfl) (by kernel_rfl) (fun _ _ _ h => h) (Or.inl ⟨by rfl, fun V' hS => ?_⟩) hHeld ?_
  · have q0 := hS.k4
    go_simp
  simp only [Act.put, List.setIfInBounds_toArray, List.set_cons_zero, List.set_cons_succ]
  refine wpAnyH_ready (rs := [8]) (by kernel_rfl) (by simp) ?_
  refine AllReadyH.cons ov8 (fun K hK => ?_) AllReadyH.nil
  rw [if_pos (by rfl)]
  go_simp
  refine (LM.moveM K1.out N M P hN hM hP).mono ?_
  rintro e v1 ⟨rfl, h1⟩
  rw [EE.out]
  have K2 : Hid (LM w0 v1 sb ob b c S n (if mvE n N M P = 0 then ins u N.toNat (fun l => u (M.toNat + l)) P.toNat else u) n u 9 N M P X Y vB mB t) := h1
  clear h1
  (try go_wp2_with fail)
  refine hK.out _ _ K2.out.bo (fun _ => ?_)
  clear hK K
  (try simp only [Act.put, List.setIfInBounds_toArray, List.set_cons_zero, List.set_cons_succ])
  refine wpAnyH_ready (rs := [17]) (by kernel_rfl) (by simp) ?_
  refine AllReadyH.cons ov17 (fun K hK => ?_) AllReadyH.nil
  rw [if_pos (by rfl)]
  go_simp
  refine (LM.moveR K2.out N M P hN hM hP).mono ?_
  rintro e v2 ⟨rfl, h1⟩
  rw [EE.out]
  have K3 : Hid (LM w0 v2 sb ob b c S n (if mvE n N M P = 0 then ins u N.toNat (fun l => u (M.toNat + l)) P.toNat else u) n (if mvE n N M P = 0 then ins u N.toNat (fun l => u (M.toNat + l)) P.toNat else u) 9 N M P X Y vB mB t) := h1
  clear h1
  (try go_wp2_with fail)
  refine hK.out _ _ K3.out.bo (fun _ => ?_)
  clear hK K
  (try simp only [Act.put, List.setIfInBounds_toArray, List.set_cons_zero, List.set_cons_succ])
  refine wpAnyH_take (i := 18) (v := .bool true) ov18 (by kernel_rfl) (by kernel_rfl) (by kernel_rfl) (fun _ _ _ h => h) (Or.inl ⟨by rfl, fun V' hS => ?_⟩) K3.out.bo ?_
  · go_simp
  simp only [Act.put, List.setIfInBounds_toArray, List.set_cons_zero, List.set_cons_succ]
  refine wpAnyH_take (i := 19) (v := .bool true) ov19 (by kernel_rfl) (by kernel_rfl) (by kernel_rfl) (fun _ _ _ h => h) (Or.inl ⟨by rfl, fun V' hS => ?_⟩) K3.out.bo ?_
  · go_simp
  simp only [Act.put, List.setIfInBounds_toArray, List.set_cons_zero, List.set_cons_succ]
  refine wpAnyH_done (by kernel_rfl) ?_ _
  go_wp2
  go_ret
  exact ⟨rfl, K3.out.after (w := w) (by have h9 := B0.out; rwa [← HSB.out] at h9)⟩
end Go.Proofs.Ytlemnjhdnciddaa
