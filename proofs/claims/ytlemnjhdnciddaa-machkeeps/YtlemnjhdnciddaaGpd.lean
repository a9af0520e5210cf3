/- A step of the law: kinds 1, 2, 4, 7 and others. -/
import Derived.Test.YtlemnjhdnciddaaGpb
namespace Go.Proofs.Ytlemnjhdnciddaa
open Go.RowKit
set_option maxHeartbeats 2000000 in
set_option maxRecDepth 100000 in
theorem paged1 (w : World) (b c : Nat) (S : Nat → Prop) (n : Nat) (u : Nat → Nat) (h : PQ w b c S n u n u) (tw : Bool) (N M P : Int) (X Y : W4) (vB : Value) (mB : Nat) (t : Nat → Nat) (hB : Lent w S vB mB t) (hN : N ≤ 9223372036854775807) (hM : M ≤ 9223372036854775807) (hP : P ≤ 9223372036854775807) (hX : IsW (V X.a X.b X.c X.d) X.a X.b X.c X.d) (hY : IsW (V Y.a Y.b Y.c Y.d) Y.a Y.b Y.c Y.d) : Calls Try.prog 11 #[pageV b c, opV 1 tw N M P X Y vB] w fun e w' => e = .returned (.bool true) ∧ PgAfter w w' b c S n := by
  have _ : True := (fun _ _ _ _ _ => trivial : N ≤ 9223372036854775807 → M ≤ 9223372036854775807 → P ≤ 9223372036854775807 → IsW (V X.a X.b X.c X.d) X.a X.b X.c X.d → IsW (V Y.a Y.b Y.c Y.d) Y.a Y.b Y.c Y.d → True) hN hM hP hX hY
  have K0 : Hid (LM ((w.alloc (pageO b c)).alloc (opO 1 tw N M P X Y vB)) ((w.alloc (pageO b c)).alloc (opO 1 tw N M P X Y vB)) w.heap.size (w.heap.size + 1) b c S n u n u 1 N M P X Y vB mB t) := (LM.start h _ tw N M P X Y vB hB).1
  have B0 : Hid (Below w.heap.size w ((w.alloc (pageO b c)).alloc (opO 1 tw N M P X Y vB))) := (LM.start h _ tw N M P X Y vB hB).2
  clear h
  unfold pageV opV
  go_enter Try.func11, Try.ntmps11
  go_upto_region 1 with fail
  change Code.wp _ _ _ _ ((w.alloc (pageO b c)).alloc (opO 1 tw N M P X Y vB))
  generalize (w.alloc (pageO b c)).alloc (opO 1 tw N M P X Y vB) = w0 at K0 B0 ⊢
  generalize w.heap.size + 1 = ob at K0 ⊢
  generalize hsb : w.heap.size = sb at K0 ⊢
  have HSB : Hid (w.heap.size = sb) := hsb
  rw [hsb] at B0
  clear hsb
  have k0 := K0.out.bo.k0
  go_upto_region 3 with fail
  clear k0
  refine wp_region_held_drew (S := fun V' => Bo V' sb ob b c 1 N M P X Y vB) (by kernel_rfl) K0.out.drew.bo (fun hHeld => ?_)
  have K1 : Hid (LM w0 w0.drew sb ob b c S n u n u 1 N M P X Y vB mB t) := K0.out.drew
  generalize w0.drew = z0 at hHeld K1 ⊢
  clear K0
  refine wpAnyH_take (i := 0) (v := .pointer (some ⟨sb, 0, none⟩)) ov0 (by kernel_rfl) (by kernel_rfl) (by kernel_rfl) (fun _ _ _ h => h) (Or.inl ⟨by rfl, fun V' hS => ?_⟩) hHeld ?_
  · go_simp
  simp only [Act.put, List.setIfInBounds_toArray, List.set_cons_zero, List.set_cons_succ]
  refine wpAnyH_take (i := 1) (v := .pointer (some ⟨b, 0, none⟩)) ov1 (by kernel_rfl) (by kernel_rfl) (by kernel_rfl) (fun _ _ _ h => h) (Or.inl ⟨by rfl, fun V' hS => ?_⟩) hHeld ?_
  · have q0 := hS.p0
    go_simp
  simp only [Act.put, List.setIfInBounds_toArray, List.set_cons_zero, List.set_cons_succ]
  refine wpAnyH_take (i := 3) (v := .pointer (some ⟨sb, 1, none⟩)) ov3 (by kernel_rfl) (by kernel_rfl) (by kernel_rfl) (fun _ _ _ h => h) (Or.inl ⟨by rfl, fun V' hS => ?_⟩) hHeld ?_
  · go_simp
  simp only [Act.put, List.setIfInBounds_toArray, List.set_cons_zero, List.set_cons_succ]
  refine wpAnyH_take (i := 4) (v := .pointer (some ⟨c, 0, none⟩)) ov4 (by kernel_rfl) (by kernel_rfl) (by kernel_rfl) (fun _ _ _ h => h) (Or.inl ⟨by rfl, fun V' hS => ?_⟩) hHeld ?_
  · have q0 := hS.p1
    go_simp
  simp only [Act.put, List.setIfInBounds_toArray, List.set_cons_zero, List.set_cons_succ]
  refine wpAnyH_ready (rs := [2]) (by kernel_rfl) (by simp) ?_
  refine AllReadyH.cons ov2 (fun K hK => ?_) AllReadyH.nil
  rw [if_pos (by rfl)]
  go_simp
  refine (LM.lenM K1.out).mono ?_
  rintro e v1 ⟨rfl, h1⟩
  have K2 : Hid (LM w0 v1 sb ob b c S n u n u 1 N M P X Y vB mB t) := h1
  clear h1
  (try go_wp2_with fail)
  refine hK.out _ _ K2.out.bo (fun _ => ?_)
  clear hK K
  (try simp only [Act.put, List.setIfInBounds_toArray, List.set_cons_zero, List.set_cons_succ])
  refine wpAnyH_ready (rs := [5]) (by kernel_rfl) (by simp) ?_
  refine AllReadyH.cons ov5 (fun K hK => ?_) AllReadyH.nil
  rw [if_pos (by rfl)]
  go_simp
  refine (LM.lenR K2.out).mono ?_
  rintro e v2 ⟨rfl, h1⟩
  have K3 : Hid (LM w0 v2 sb ob b c S n u n u 1 N M P X Y vB mB t) := h1
  clear h1
  (try go_wp2_with fail)
  refine hK.out _ _ K3.out.bo (fun _ => ?_)
  clear hK K
  (try simp only [Act.put, List.setIfInBounds_toArray, List.set_cons_zero, List.set_cons_succ])
  refine wpAnyH_take (i := 6) (v := .bool true) ov6 (by kernel_rfl) (by kernel_rfl) (by kernel_rfl) (fun _ _ _ h => h) (Or.inl ⟨by rfl, fun V' hS => ?_⟩) K3.out.bo ?_
  · go_simp
  simp only [Act.put, List.setIfInBounds_toArray, List.set_cons_zero, List.set_cons_succ]
  refine wpAnyH_take (i := 7) (v := .bool true) ov7 (by kernel_rfl) (by kernel_rfl) (by kernel_rfl) (fun _ _ _ h => h) (Or.inl ⟨by rfl, fun V' hS => ?_⟩) K3.out.bo ?_
  · go_simp
  simp only [Act.put, List.setIfInBounds_toArray, List.set_cons_zero, List.set_cons_succ]
  refine wpAnyH_done (by kernel_rfl) ?_ _
  go_wp2
  go_ret
  exact ⟨rfl, K3.out.after (w := w) (by have h9 := B0.out; rwa [← HSB.out] at h9)⟩
set_option maxHeartbeats 2000000 in
set_option maxRecDepth 100000 in
theorem paged2 (w : World) (b c : Nat) (S : Nat → Prop) (n : Nat) (u : Nat → Nat) (h : PQ w b c S n u n u) (tw : Bool) (N M P : Int) (X Y : W4) (vB : Value) (mB : Nat) (t : Nat → Nat) (hB : Lent w S vB mB t) (hN : N ≤ 9223372036854775807) (hM : M ≤ 9223372036854775807) (hP : P ≤ 9223372036854775807) (hX : IsW (V X.a X.b X.c X.d) X.a X.b X.c X.d) (hY : IsW (V Y.a Y.b Y.c Y.d) Y.a Y.b Y.c Y.d) : Calls Try.prog 11 #[pageV b c, opV 2 tw N M P X Y vB] w fun e w' => e = .returned (.bool true) ∧ PgAfter w w' b c S n := by
  have _ : True := (fun _ _ _ _ _ => trivial : N ≤ 9223372036854775807 → M ≤ 9223372036854775807 → P ≤ 9223372036854775807 → IsW (V X.a X.b X.c X.d) X.a X.b X.c X.d → IsW (V Y.a Y.b Y.c Y.d) Y.a Y.b Y.c Y.d → True) hN hM hP hX hY
  have K0 : Hid (LM ((w.alloc (pageO b c)).alloc (opO 2 tw N M P X Y vB)) ((w.alloc (pageO b c)).alloc (opO 2 tw N M P X Y vB)) w.heap.size (w.heap.size + 1) b c S n u n u 2 N M P X Y vB mB t) := (LM.start h _ tw N M P X Y vB hB).1
  have B0 : Hid (Below w.heap.size w ((w.alloc (pageO b c)).alloc (opO 2 tw N M P X Y vB))) := (LM.start h _ tw N M P X Y vB hB).2
  obtain ⟨A, hA, _⟩ := V_nat hX
  obtain ⟨C, hC, _⟩ := V_nat hY
  obtain ⟨q, r, eq⟩ : ∃ (q : Int) (r : Bool), (rcN n A C : Int) = q ∧ rcB A C = r := ⟨_, _, rfl, rfl⟩
  have EE : Hid ((rcN n A C : Int) = q ∧ rcB A C = r) := eq
  have HA : Hid (V X.a X.b X.c X.d = (A : Int) ∧ V Y.a Y.b Y.c Y.d = (C : Int)) := ⟨hA, hC⟩
  have HX : Hid _ := hX
  have HY : Hid _ := hY
  clear eq hA hC
  clear h
  unfold pageV opV
  go_enter Try.func11, Try.ntmps11
  go_upto_region 1 with fail
  change Code.wp _ _ _ _ ((w.alloc (pageO b c)).alloc (opO 2 tw N M P X Y vB))
  generalize (w.alloc (pageO b c)).alloc (opO 2 tw N M P X Y vB) = w0 at K0 B0 ⊢
  generalize w.heap.size + 1 = ob at K0 ⊢
  generalize hsb : w.heap.size = sb at K0 ⊢
  have HSB : Hid (w.heap.size = sb) := hsb
  rw [hsb] at B0
  clear hsb
  have k0 := K0.out.bo.k0
  go_upto_region 5 with fail
  clear k0 hX hY
  obtain ⟨p0, p1, _, k2, k3, k4, x0, x1, x2, x3, y0, y1, y2, y3, vb⟩ := K0.out.bo
  go_upto_region 6 with (go_at_call 29; refine (LM.reachM K0.out X Y HX.out HY.out A C HA.out.1 HA.out.2).mono ?_; rintro e v1 ⟨rfl, h1⟩; rw [EE.out.1, EE.out.2])
  have K1 : Hid (LM w0 v1 sb ob b c S n u n u 2 N M P X Y vB mB t) := h1
  clear h1 K0
  clear p0 p1 k2 k3 k4 x0 x1 x2 x3 y0 y1 y2 y3 vb
  obtain ⟨p0, p1, _, k2, k3, k4, x0, x1, x2, x3, y0, y1, y2, y3, vb⟩ := K1.out.bo
  go_upto_region 7 with (go_at_call 37; refine (LM.reachR K1.out X Y HX.out HY.out A C HA.out.1 HA.out.2).mono ?_; rintro e v2 ⟨rfl, h1⟩; rw [EE.out.1, EE.out.2])
  have K2 : Hid (LM w0 v2 sb ob b c S n u n u 2 N M P X Y vB mB t) := h1
  clear h1 K1
  clear p0 p1 k2 k3 k4 x0 x1 x2 x3 y0 y1 y2 y3 vb
  go_wp2
  go_ret
  exact ⟨rfl, K2.out.after (w := w) (by have h9 := B0.out; rwa [← HSB.out] at h9)⟩
theorem LM.loadR2 {W0 W : World} {sb ob b c : Nat} {S0 : Nat → Prop} {n m mB : Nat} {u v t : Nat → Nat} {kd N M P : Int} {X Y : W4} {vB : Value} (h : LM W0 W sb ob b c S0 n u m v kd N M P X Y vB mB t) (i : Int) (hi : i ≤ 9223372036854775807) (z : W4) (hz : LdOk m v i z) : Calls Try.prog 39 #[.pointer (some ⟨c, 0, none⟩), .int .i64 i] W fun e w' => e = .returned (.tuple #[z.v, .int .i64 (lk m i 32)]) ∧ LM W0 w' sb ob b c S0 n u m v kd N M P X Y vB mB t ∧ Below W.heap.size W w' := by
  obtain ⟨Bx, x, cx, hM, hu, k⟩ := h.callR
  refine (loadR_is W c Bx x m cx v hM hu i hi z hz).mono ?_
  rintro e w' ⟨rfl, hB⟩
  exact ⟨rfl, h.past hB, hB⟩
set_option maxHeartbeats 2000000 in
set_option maxRecDepth 100000 in
theorem paged4 (w : World) (b c : Nat) (S : Nat → Prop) (n : Nat) (u : Nat → Nat) (h : PQ w b c S n u n u) (tw : Bool) (N M P : Int) (X Y : W4) (vB : Value) (mB : Nat) (t : Nat → Nat) (hB : Lent w S vB mB t) (hN : N ≤ 9223372036854775807) (hM : M ≤ 9223372036854775807) (hP : P ≤ 9223372036854775807) (hX : IsW (V X.a X.b X.c X.d) X.a X.b X.c X.d) (hY : IsW (V Y.a Y.b Y.c Y.d) Y.a Y.b Y.c Y.d) : Calls Try.prog 11 #[pageV b c, opV 4 tw N M P X Y vB] w fun e w' => e = .returned (.bool true) ∧ PgAfter w w' b c S n := by
  have _ : True := (fun _ _ _ _ _ => trivial : N ≤ 9223372036854775807 → M ≤ 9223372036854775807 → P ≤ 9223372036854775807 → IsW (V X.a X.b X.c X.d) X.a X.b X.c X.d → IsW (V Y.a Y.b Y.c Y.d) Y.a Y.b Y.c Y.d → True) hN hM hP hX hY
  have K0 : Hid (LM ((w.alloc (pageO b c)).alloc (opO 4 tw N M P X Y vB)) ((w.alloc (pageO b c)).alloc (opO 4 tw N M P X Y vB)) w.heap.size (w.heap.size + 1) b c S n u n u 4 N M P X Y vB mB t) := (LM.start h _ tw N M P X Y vB hB).1
  have B0 : Hid (Below w.heap.size w ((w.alloc (pageO b c)).alloc (opO 4 tw N M P X Y vB))) := (LM.start h _ tw N M P X Y vB hB).2
  obtain ⟨z, hz⟩ := ldOk_ex n u N
  have HZ : Hid (LdOk n u N z) := hz
  obtain ⟨er, ee⟩ : ∃ er, lk n N 32 = er := ⟨_, rfl⟩
  have EE : Hid (lk n N 32 = er) := ee
  clear hz ee
  clear h
  unfold pageV opV
  go_enter Try.func11, Try.ntmps11
  go_upto_region 1 with fail
  change Code.wp _ _ _ _ ((w.alloc (pageO b c)).alloc (opO 4 tw N M P X Y vB))
  generalize (w.alloc (pageO b c)).alloc (opO 4 tw N M P X Y vB) = w0 at K0 B0 ⊢
  generalize w.heap.size + 1 = ob at K0 ⊢
  generalize hsb : w.heap.size = sb at K0 ⊢
  have HSB : Hid (w.heap.size = sb) := hsb
  rw [hsb] at B0
  clear hsb
  have k0 := K0.out.bo.k0
  go_upto_region 11 with fail
  clear k0
  obtain ⟨p0, p1, _, k2, k3, k4, x0, x1, x2, x3, y0, y1, y2, y3, vb⟩ := K0.out.bo
  go_upto_region 12 with (go_at_call 27; refine (LM.loadM K0.out N hN z HZ.out).mono ?_; rintro e v1 ⟨rfl, h1⟩; rw [EE.out]; unfold W4.v)
  have K1 : Hid (LM w0 (v1.alloc (.cells #[.int .u64 z.a, .int .u64 z.b, .int .u64 z.c, .int .u64 z.d] 30)) sb ob b c S n u n u 4 N M P X Y vB mB t) := LM.past h1 ((Below.refl _ _).alloc (Nat.le_refl _) _)
  have W1 : Hid (Box (v1.alloc (.cells #[.int .u64 z.a, .int .u64 z.b, .int .u64 z.c, .int .u64 z.d] 30)) v1.heap.size z.a z.b z.c z.d) := Box.new v1 _ _ _ _ _
  clear h1 K0
  generalize v1.alloc (.cells #[.int .u64 z.a, .int .u64 z.b, .int .u64 z.c, .int .u64 z.d] 30) = v2 at K1 W1 ⊢
  generalize v1.heap.size = bx at W1 ⊢
  clear p0 p1 k2 k3 k4 x0 x1 x2 x3 y0 y1 y2 y3 vb
  obtain ⟨p0, p1, _, k2, k3, k4, x0, x1, x2, x3, y0, y1, y2, y3, vb⟩ := K1.out.bo
  go_upto_region 13 with (go_at_call 39; refine (LM.loadR2 K1.out N hN z HZ.out).mono ?_; rintro e v3 ⟨rfl, h1, hB⟩; rw [EE.out]; unfold W4.v)
  have K2 : Hid (LM w0 (v3.alloc (.cells #[.int .u64 z.a, .int .u64 z.b, .int .u64 z.c, .int .u64 z.d] 30)) sb ob b c S n u n u 4 N M P X Y vB mB t) := LM.past h1 ((Below.refl _ _).alloc (Nat.le_refl _) _)
  have W2 : Hid (Box (v3.alloc (.cells #[.int .u64 z.a, .int .u64 z.b, .int .u64 z.c, .int .u64 z.d] 30)) bx z.a z.b z.c z.d) := (W1.out.below hB W1.out.lt).alloc _
  have W3 : Hid (Box (v3.alloc (.cells #[.int .u64 z.a, .int .u64 z.b, .int .u64 z.c, .int .u64 z.d] 30)) v3.heap.size z.a z.b z.c z.d) := Box.new v3 _ _ _ _ _
  clear h1 hB K1 W1
  generalize v3.alloc (.cells #[.int .u64 z.a, .int .u64 z.b, .int .u64 z.c, .int .u64 z.d] 30) = v4 at K2 W2 W3 ⊢
  generalize v3.heap.size = by_ at W3 ⊢
  clear p0 p1 k2 k3 k4 x0 x1 x2 x3 y0 y1 y2 y3 vb
  obtain ⟨a0, a1, a2, a3, _⟩ := Box.facts W2.out
  obtain ⟨c0, c1, c2, c3, _⟩ := Box.facts W3.out
  have hq : ∀ W, Sem.run Try.prog (Op.equalIn 10000 30 (.agg #[.int .u64 z.a, .int .u64 z.b, .int .u64 z.c, .int .u64 z.d]) (.agg #[.int .u64 z.a, .int .u64 z.b, .int .u64 z.c, .int .u64 z.d])) W = .ok true W := fun W => by rw [eqw_run]; simp [eqw]
  go_wp2
  go_ret
  exact ⟨rfl, K2.out.after (w := w) (by have h9 := B0.out; rwa [← HSB.out] at h9)⟩
/-- bytes that may be written over, in a block of their own (none, if there are none) -/
def Ran (W : World) (g : Nat) (k : Nat) (v : Value) : Prop := (k = 0 ∧ v = .slice none 0 0) ∨ (0 < k ∧ v = .slice (some ⟨g, 0, none⟩) k k ∧ ∃ f, CB W g (bD f k))
theorem RdRes.ran {w w' : World} {k : Nat} {f : Nat → Nat} {v : Value} (h : RdRes w w' k f v) (hk : k ≤ 4194304) : ∃ g, w.heap.size ≤ g ∧ Ran w' g k v ∧ By w' v k f := by
  rcases h with ⟨rfl, rfl⟩ | ⟨h0, g, hg, rfl, hc⟩
  · exact ⟨w.heap.size, Nat.le_refl _, Or.inl ⟨rfl, rfl⟩, none, 0, rfl, by omega, by omega, fun h => absurd h (by omega)⟩
  · exact ⟨g, hg, Or.inr ⟨h0, rfl, f, hc⟩, _, k, rfl, by omega, by omega, fun _ => ⟨g, 0, rfl, hc.byC⟩⟩
theorem LM.readM {W0 W : World} {sb ob b c : Nat} {S0 : Nat → Prop} {n m mB : Nat} {u v t : Nat → Nat} {kd N M P : Int} {X Y : W4} {vB : Value} (h : LM W0 W sb ob b c S0 n u m v kd N M P X Y vB mB t) (i j : Int) (hi : i ≤ 9223372036854775807) (hj : j ≤ 9223372036854775807) : Calls Try.prog 25 #[.pointer (some ⟨b, 0, none⟩), .int .i64 i, .int .i64 j] W fun e w' => ∃ vR g, e = .returned (.tuple #[vR, .int .i64 (lk n i j)]) ∧ Ran w' g (if lk n i j = 0 then j.toNat else 0) vR ∧ W.heap.size ≤ g ∧ By w' vR (if lk n i j = 0 then j.toNat else 0) (fun l => u (i.toNat + l)) ∧ Below W.heap.size W w' := by
  obtain ⟨Bx, x, cx, hM, hu, k⟩ := h.callM
  refine (read_is W b Bx x n cx u hM i j hi hj).mono ?_
  rintro e w' ⟨vR, rfl, hr, hB⟩
  have hle : (if lk n i j = 0 then j.toNat else 0) ≤ 4194304 := by
    split
    · rename_i h0
      have := lk_zero h0
      have := hM.le
      omega
    · omega
  obtain ⟨g, h1, h2, h3⟩ := hr.ran hle
  exact ⟨vR, g, rfl, h2, h1, h3, hB⟩
theorem LM.readR {W0 W : World} {sb ob b c : Nat} {S0 : Nat → Prop} {n m mB : Nat} {u v t : Nat → Nat} {kd N M P : Int} {X Y : W4} {vB : Value} (h : LM W0 W sb ob b c S0 n u m v kd N M P X Y vB mB t) (i j : Int) (hi : i ≤ 9223372036854775807) (hj : j ≤ 9223372036854775807) : Calls Try.prog 42 #[.pointer (some ⟨c, 0, none⟩), .int .i64 i, .int .i64 j] W fun e w' => ∃ vR, e = .returned (.tuple #[vR, .int .i64 (lk m i j)]) ∧ By w' vR (if lk m i j = 0 then j.toNat else 0) (fun l => v (i.toNat + l)) ∧ Below W.heap.size W w' := by
  obtain ⟨Bx, x, cx, hM, hu, k⟩ := h.callR
  refine (readR_is W c Bx x m cx v hM i j hi hj).mono ?_
  rintro e w' ⟨vR, rfl, hr, _, hB⟩
  exact ⟨vR, rfl, hr, hB⟩
theorem LM.back {w0 W' : World} {sb ob b c : Nat} {S : Nat → Prop} {n mB : Nat} {u t : Nat → Nat} {kd N M P : Int} {X Y : W4} {vB : Value} (h : LM w0 w0 sb ob b c S n u n u kd N M P X Y vB mB t) (k : Below w0.heap.size w0 W') : LM w0 W' sb ob b c S n u n u kd N M P X Y vB mB t := h.past k
theorem Ran.past {W W' : World} {g k : Nat} {v : Value} (h : Ran W g k v) (b : Below W.heap.size W W') : Ran W' g k v := by
  rcases h with h | ⟨h0, h1, f, hc⟩
  · exact Or.inl h
  · exact Or.inr ⟨h0, h1, f, hc.past b⟩
set_option maxHeartbeats 2000000 in
set_option maxRecDepth 100000 in
theorem paged7 (w : World) (b c : Nat) (S : Nat → Prop) (n : Nat) (u : Nat → Nat) (h : PQ w b c S n u n u) (tw : Bool) (N M P : Int) (X Y : W4) (vB : Value) (mB : Nat) (t : Nat → Nat) (hB : Lent w S vB mB t) (hN : N ≤ 9223372036854775807) (hM : M ≤ 9223372036854775807) (hP : P ≤ 9223372036854775807) (hX : IsW (V X.a X.b X.c X.d) X.a X.b X.c X.d) (hY : IsW (V Y.a Y.b Y.c Y.d) Y.a Y.b Y.c Y.d) : Calls Try.prog 11 #[pageV b c, opV 7 tw N M P X Y vB] w fun e w' => e = .returned (.bool true) ∧ PgAfter w w' b c S n := by
  have _ : True := (fun _ _ _ _ _ => trivial : N ≤ 9223372036854775807 → M ≤ 9223372036854775807 → P ≤ 9223372036854775807 → IsW (V X.a X.b X.c X.d) X.a X.b X.c X.d → IsW (V Y.a Y.b Y.c Y.d) Y.a Y.b Y.c Y.d → True) hN hM hP hX hY
  have K0 : Hid (LM ((w.alloc (pageO b c)).alloc (opO 7 tw N M P X Y vB)) ((w.alloc (pageO b c)).alloc (opO 7 tw N M P X Y vB)) w.heap.size (w.heap.size + 1) b c S n u n u 7 N M P X Y vB mB t) := (LM.start h _ tw N M P X Y vB hB).1
  have B0 : Hid (Below w.heap.size w ((w.alloc (pageO b c)).alloc (opO 7 tw N M P X Y vB))) := (LM.start h _ tw N M P X Y vB hB).2
  obtain ⟨er, ee⟩ : ∃ er, lk n N M = er := ⟨_, rfl⟩
  obtain ⟨kk, ek⟩ : ∃ kk : Nat, (if lk n N M = 0 then M.toNat else 0) = kk := ⟨_, rfl⟩
  have EE : Hid (lk n N M = er ∧ (if lk n N M = 0 then M.toNat else 0) = kk) := ⟨ee, ek⟩
  have kkI : (kk : Int) ≤ 9223372036854775807 := by rw [← ek]; split <;> omega
  clear ee ek
  clear h
  unfold pageV opV
  go_enter Try.func11, Try.ntmps11
  go_upto_region 1 with fail
  change Code.wp _ _ _ _ ((w.alloc (pageO b c)).alloc (opO 7 tw N M P X Y vB))
  generalize (w.alloc (pageO b c)).alloc (opO 7 tw N M P X Y vB) = w0 at K0 B0 ⊢
  generalize w.heap.size + 1 = ob at K0 ⊢
  generalize hsb : w.heap.size = sb at K0 ⊢
  have HSB : Hid (w.heap.size = sb) := hsb
  rw [hsb] at B0
  clear hsb
  have k0 := K0.out.bo.k0
  go_upto_region 19 with fail
  clear k0
  obtain ⟨p0, p1, _, k2, k3, k4, x0, x1, x2, x3, y0, y1, y2, y3, vb⟩ := K0.out.bo
  have RM : Hid (∀ W, LM w0 W sb ob b c S n u n u 7 N M P X Y vB mB t → Calls Try.prog 25 #[.pointer (some ⟨b, 0, none⟩), .int .i64 N, .int .i64 M] W fun e w' => ∃ vR g, e = .returned (.tuple #[vR, .int .i64 er]) ∧ Ran w' g kk vR ∧ W.heap.size ≤ g ∧ By w' vR kk (fun l => u (N.toNat + l)) ∧ Below W.heap.size W w') := fun W hW => by rw [← EE.out.2, ← EE.out.1]; exact LM.readM hW N M hN hM
  have RR : Hid (∀ W, LM w0 W sb ob b c S n u n u 7 N M P X Y vB mB t → Calls Try.prog 42 #[.pointer (some ⟨c, 0, none⟩), .int .i64 N, .int .i64 M] W fun e w' => ∃ vR, e = .returned (.tuple #[vR, .int .i64 er]) ∧ By w' vR kk (fun l => u (N.toNat + l)) ∧ Below W.heap.size W w') := fun W hW => by rw [← EE.out.2, ← EE.out.1]; exact LM.readR hW N M hN hM
  generalize (fun l => u (N.toNat + l)) = f at RM RR
  go_upto_region 20 with (go_at_call 25; refine (RM.out _ K0.out).mono ?_; rintro e v1 ⟨vR, g, rfl, hr, hg, hy, hB⟩)
  have K1 : Hid (LM w0 v1 sb ob b c S n u n u 7 N M P X Y vB mB t) := K0.out.past hB
  have B1 : Hid (Below w0.heap.size w0 v1) := hB
  have R1 : Hid (Ran v1 g kk vR ∧ w0.heap.size ≤ g ∧ By v1 vR kk f) := ⟨hr, hg, hy⟩
  clear hr hg hy hB RM
  clear p0 p1 k2 k3 k4 x0 x1 x2 x3 y0 y1 y2 y3 vb
  obtain ⟨p0, p1, _, k2, k3, k4, x0, x1, x2, x3, y0, y1, y2, y3, vb⟩ := K1.out.bo
  go_upto_region 21 with (go_at_call 42; refine (RR.out _ K1.out).mono ?_; rintro e v2 ⟨vS, rfl, hy, hB⟩)
  have B2 : Hid (Below w0.heap.size w0 v2) := B1.out.trans (hB.mono B1.out.size)
  have q1 := conv_by v2 vR kk f (R1.out.2.2.past hB)
  have q2 := conv_by v2 vS kk f hy
  have R2 : Hid (Ran v2 g kk vR) := R1.out.1.past hB
  have G2 : Hid (w0.heap.size ≤ g) := R1.out.2.1
  clear hy hB R1 B1 K1 RR
  clear p0 p1 k2 k3 k4 x0 x1 x2 x3 y0 y1 y2 y3 vb
  generalize textB f kk = tx at q1 q2
  go_upto_region 22 with fail
  clear q1 q2
  rcases R2.out with ⟨rfl, rfl⟩ | ⟨h0, rfl, y, hc⟩
  · go_wp2
    refine wp_loop_rounds 1 ?_
    rw [rounds_succ]
    go_wp2
    go_ret
    exact ⟨rfl, (K0.out.back B2.out).after (w := w) (by have h9 := B0.out; rwa [← HSB.out] at h9)⟩
  · have C2 : Hid (CB v2 g (bD y kk)) := hc
    clear hc R2 h0
    go_wp2
    go_loopw [18] (fun s wr => ∃ (i : Nat) (y : Nat → Nat), s = .int .i64 (i : Int) ∧ i ≤ kk ∧ CB wr g (bD y kk) ∧ Below w0.heap.size w0 wr) (fun s _ => kk - (intOf s).toNat)
    case atStart => exact ⟨0, _, rfl, by omega, C2.out, B2.out⟩
    case round =>
      obtain ⟨i, y, rfl, hi, hc, hB⟩ := hrel
      have B3 : Hid (Below w0.heap.size w0 wr) := hB
      have C3 : Hid (CB wr g (bD y kk)) := hc
      clear hc hB C2 B2
      by_cases e : i < kk
      · have iI : (i : Int) < (kk : Int) := by omega
        have cc := C3.out.cell i
        rw [bD_at _ _ _ e] at cc
        have cf := C3.out.frozen i
        obtain ⟨z, ez⟩ : ∃ z : Nat, IntKind.u8.wrap (255 - (y i : Int)) = (z : Int) := ⟨(IntKind.u8.wrap (255 - (y i : Int))).toNat, by rw [IntKind.wrap_u8]; omega⟩
        have N1 : Hid (CB (wr.setCell ⟨g, i, none⟩ (.int .u8 (z : Int))) g (bD (fun j => if j = i then z else y j) kk) ∧ Below w0.heap.size w0 (wr.setCell ⟨g, i, none⟩ (.int .u8 (z : Int)))) := ⟨by rw [← bD_set _ _ _ _ e]; exact C3.out.set i _, B3.out.setCell G2.out _⟩
        generalize (y i : Int) = yi at cc ez
        clear C3 B3
        go_wp2
        go_roundw
        case rel => exact ⟨i + 1, _, by go_num, by omega, N1.out⟩
        case measure => simp [intOf]; omega
      · have iI : ¬ (i : Int) < (kk : Int) := by omega
        go_wp2
        go_ret
        exact ⟨rfl, (K0.out.back B3.out).after (w := w) (by have h9 := B0.out; rwa [← HSB.out] at h9)⟩
set_option maxHeartbeats 2000000 in
set_option maxRecDepth 100000 in
theorem paged0 (w : World) (b c : Nat) (S : Nat → Prop) (n : Nat) (u : Nat → Nat) (h : PQ w b c S n u n u) (tw : Bool) (N M P : Int) (X Y : W4) (vB : Value) (mB : Nat) (t : Nat → Nat) (hB : Lent w S vB mB t) (hN : N ≤ 9223372036854775807) (hM : M ≤ 9223372036854775807) (hP : P ≤ 9223372036854775807) (hX : IsW (V X.a X.b X.c X.d) X.a X.b X.c X.d) (hY : IsW (V Y.a Y.b Y.c Y.d) Y.a Y.b Y.c Y.d) (kd : Int) (hk : ∀ j : Int, 1 ≤ j → j ≤ 9 → (kd == j) = false) : Calls Try.prog 11 #[pageV b c, opV kd tw N M P X Y vB] w fun e w' => e = .returned (.bool true) ∧ PgAfter w w' b c S n := by
  have _ : True := (fun _ _ _ _ _ => trivial : N ≤ 9223372036854775807 → M ≤ 9223372036854775807 → P ≤ 9223372036854775807 → IsW (V X.a X.b X.c X.d) X.a X.b X.c X.d → IsW (V Y.a Y.b Y.c Y.d) Y.a Y.b Y.c Y.d → True) hN hM hP hX hY
  have K0 : Hid (LM ((w.alloc (pageO b c)).alloc (opO kd tw N M P X Y vB)) ((w.alloc (pageO b c)).alloc (opO kd tw N M P X Y vB)) w.heap.size (w.heap.size + 1) b c S n u n u kd N M P X Y vB mB t) := (LM.start h _ tw N M P X Y vB hB).1
  have B0 : Hid (Below w.heap.size w ((w.alloc (pageO b c)).alloc (opO kd tw N M P X Y vB))) := (LM.start h _ tw N M P X Y vB hB).2
  clear h
  unfold pageV opV
  go_enter Try.func11, Try.ntmps11
  go_upto_region 1 with fail
  change Code.wp _ _ _ _ ((w.alloc (pageO b c)).alloc (opO kd tw N M P X Y vB))
  generalize (w.alloc (pageO b c)).alloc (opO kd tw N M P X Y vB) = w0 at K0 B0 ⊢
  generalize w.heap.size + 1 = ob at K0 ⊢
  generalize hsb : w.heap.size = sb at K0 ⊢
  have HSB : Hid (w.heap.size = sb) := hsb
  rw [hsb] at B0
  clear hsb
  have k0 := K0.out.bo.k0
  have e1 := hk 1 (by omega) (by omega)
  have e2 := hk 2 (by omega) (by omega)
  have e3 := hk 3 (by omega) (by omega)
  have e4 := hk 4 (by omega) (by omega)
  have e5 := hk 5 (by omega) (by omega)
  have e6 := hk 6 (by omega) (by omega)
  have e7 := hk 7 (by omega) (by omega)
  have e8 := hk 8 (by omega) (by omega)
  have e9 := hk 9 (by omega) (by omega)
  clear hk
  go_wp2
  go_ret
  exact ⟨rfl, K0.out.after (w := w) (by have h9 := B0.out; rwa [← HSB.out] at h9)⟩
end Go.Proofs.Ytlemnjhdnciddaa
