/- A step of the law: kind 8. -/
import Derived.Test.YtlemnjhdnciddaaGpd
namespace Go.Proofs.Ytlemnjhdnciddaa
open Go.RowKit
/-- in the midst of a step, with a row of bytes of the law's own beside the pair -/
structure LW (W0 W : World) (sb ob b c : Nat) (S0 : Nat → Prop) (n : Nat) (u : Nat → Nat) (m : Nat) (v : Nat → Nat) (kd N M P : Int) (X Y : W4) (vB : Value) (mB : Nat) (t : Nat → Nat) (g T : Nat) (y : Nat → Nat) : Prop where
  pk : ∃ S, PQ W b c S n u m v ∧ But S0 W0 W ∧ Grown S0 S W0 ∧ ¬ S g
  bo : Bo W sb ob b c kd N M P X Y vB
  ap : (¬ S0 sb ∧ ¬ S0 ob) ∧ sb < W0.heap.size ∧ ob < W0.heap.size
  by_ : By W vB mB t
  ab : ∀ q, 0 < mB → vB.ownBlock = some q → ¬ S0 q ∧ q < W0.heap.size
  row : ByC W g 0 T y
  fz : ∀ j, j < T → W.frozen? ⟨g, j, none⟩ = false
  lt : g < W.heap.size
  ge : W0.heap.size ≤ g
theorem LM.row {W0 W : World} {sb ob b c : Nat} {S0 : Nat → Prop} {n m mB : Nat} {u v t : Nat → Nat} {kd N M P : Int} {X Y : W4} {vB : Value} {W' : World} {g T : Nat} {y : Nat → Nat} (h : LM W0 W sb ob b c S0 n u m v kd N M P X Y vB mB t) (k : Below W.heap.size W W') (hr : ByC W' g 0 T y) (hf : ∀ j, j < T → W'.frozen? ⟨g, j, none⟩ = false) (hl : g < W'.heap.size) (hg : W.heap.size ≤ g) (hw : W0.heap.size ≤ W.heap.size) : LW W0 W' sb ob b c S0 n u m v kd N M P X Y vB mB t g T y := by
  obtain ⟨S, h1, h2, h3⟩ := h.pk
  have k2 := h.past k
  exact ⟨⟨S, h1.past k, h2.trans (below_but k), h3, fun e => by have := h1.lt g e; omega⟩, k2.bo, k2.ap, k2.by_, k2.ab, hr, hf, hl, by omega⟩
theorem LW.past {W0 W : World} {sb ob b c : Nat} {S0 : Nat → Prop} {n m mB : Nat} {u v t : Nat → Nat} {kd N M P : Int} {X Y : W4} {vB : Value} {g T : Nat} {y : Nat → Nat} {W' : World} (h : LW W0 W sb ob b c S0 n u m v kd N M P X Y vB mB t g T y) (k : Below W.heap.size W W') : LW W0 W' sb ob b c S0 n u m v kd N M P X Y vB mB t g T y := by
  obtain ⟨S, h1, h2, h3, h4⟩ := h.pk
  exact ⟨⟨S, h1.past k, h2.trans (below_but k), h3, h4⟩, h.bo.but (below_but (S := fun _ => False) k) id id, h.ap, h.by_.past k, h.ab, h.row.past k, fun j hj => (k.frozen (p := ⟨g, j, none⟩) h.lt).trans (h.fz j hj), Nat.lt_of_lt_of_le h.lt k.size, h.ge⟩
theorem LW.drew {W0 W : World} {sb ob b c : Nat} {S0 : Nat → Prop} {n m mB : Nat} {u v t : Nat → Nat} {kd N M P : Int} {X Y : W4} {vB : Value} {g T : Nat} {y : Nat → Nat} (h : LW W0 W sb ob b c S0 n u m v kd N M P X Y vB mB t g T y) : LW W0 W.drew sb ob b c S0 n u m v kd N M P X Y vB mB t g T y := h.past ((Below.refl _ _).drew)
theorem LW.lm {W0 W : World} {sb ob b c : Nat} {S0 : Nat → Prop} {n m mB : Nat} {u v t : Nat → Nat} {kd N M P : Int} {X Y : W4} {vB : Value} {g T : Nat} {y : Nat → Nat} (h : LW W0 W sb ob b c S0 n u m v kd N M P X Y vB mB t g T y) : LM W0 W sb ob b c S0 n u m v kd N M P X Y vB mB t := by
  obtain ⟨S, h1, h2, h3, _⟩ := h.pk
  exact ⟨⟨S, h1, h2, h3⟩, h.bo, h.ap, h.by_, h.ab⟩
theorem LW.step {W0 W : World} {sb ob b c : Nat} {S0 : Nat → Prop} {n m mB : Nat} {u v t : Nat → Nat} {kd N M P : Int} {X Y : W4} {vB : Value} {g T : Nat} {y : Nat → Nat} {W' : World} {S S' : Nat → Prop} {n' m' : Nat} {u' v' : Nat → Nat} (h : LW W0 W sb ob b c S0 n u m v kd N M P X Y vB mB t g T y) (h2 : But S0 W0 W) (h3 : Grown S0 S W0) (h4 : ¬ S g) (k1 : PQ W' b c S' n' u' m' v') (k2 : But S W W') (k3 : Grown S S' W) : LW W0 W' sb ob b c S0 n' u' m' v' kd N M P X Y vB mB t g T y := by
  have out : ∀ q, ¬ S0 q → q < W0.heap.size → ¬ S q := fun q h1 hq e => by
    rcases h3 q e with e | e
    · exact h1 e
    · omega
  refine ⟨⟨S', k1, h2.then h3 k2, h3.then h2.size k3, fun e => ?_⟩, h.bo.but k2 (out _ h.ap.1.1 h.ap.2.1) (out _ h.ap.1.2 h.ap.2.2), h.ap, h.by_.but k2 (fun q h0 hq => out q (h.ab q h0 hq).1 (h.ab q h0 hq).2), h.ab, fun i hi => (k2.cell (p := ⟨g, 0 + i, none⟩) h.lt h4).trans (h.row i hi), fun j hj => (k2.frozen (p := ⟨g, j, none⟩) h.lt h4).trans (h.fz j hj), Nat.lt_of_lt_of_le h.lt k2.size, h.ge⟩
  rcases k3 g e with e | e
  · exact h4 e
  · have := h.lt; omega
theorem LW.writeM {W0 W : World} {sb ob b c : Nat} {S0 : Nat → Prop} {n m mB : Nat} {u v t : Nat → Nat} {kd N M P : Int} {X Y : W4} {vB : Value} {g T : Nat} {y : Nat → Nat} (h : LW W0 W sb ob b c S0 n u m v kd N M P X Y vB mB t g T y) (i : Int) (hi : i ≤ 9223372036854775807) (vb : Value) (mm : Nat) (f : Nat → Nat) (hb : By W vb mm f) (hf : ∀ j, f j < 256) : Calls Try.prog 24 #[.pointer (some ⟨b, 0, none⟩), .int .i64 i, vb] W fun e w' => e = .returned (.int .i64 (lk n i mm)) ∧ LW W0 w' sb ob b c S0 n (if lk n i mm = 0 then ins u i.toNat f mm else u) m v kd N M P X Y vB mB t g T y := by
  obtain ⟨S, h1, h2, h3, h4⟩ := h.pk
  obtain ⟨Bx, x, cx, hM, hu, _, k⟩ := h1.callM
  refine (write_is W b Bx x n cx u hM i hi vb mm f hb).mono ?_
  rintro e w' ⟨rfl, a1, a2⟩
  obtain ⟨S', k1, k2, k3⟩ := k _ _ _ _ _ a1 a2 (Or.inl rfl) (ite_lt (ins_lt hu hf _ _) hu)
  exact ⟨rfl, h.step h2 h3 h4 k1 k2 k3⟩
theorem LW.writeR {W0 W : World} {sb ob b c : Nat} {S0 : Nat → Prop} {n m mB : Nat} {u v t : Nat → Nat} {kd N M P : Int} {X Y : W4} {vB : Value} {g T : Nat} {y : Nat → Nat} {Z : World} (hz : LW W0 Z sb ob b c S0 n u m v kd N M P X Y vB mB t g T y) (kz : Below Z.heap.size Z W) (i : Int) (hi : i ≤ 9223372036854775807) (vb : Value) (mm : Nat) (f : Nat → Nat) (hb : By W vb mm f) (hf : ∀ j, f j < 256) (hn : ∀ q, vb.ownBlock = some q → Z.heap.size ≤ q) : Calls Try.prog 43 #[.pointer (some ⟨c, 0, none⟩), .int .i64 i, vb] W fun e w' => e = .returned (.int .i64 (lk m i mm)) ∧ LW W0 w' sb ob b c S0 n u m (if lk m i mm = 0 then ins v i.toNat f mm else v) kd N M P X Y vB mB t g T y := by
  obtain ⟨S, h1, h2, h3, h4⟩ := hz.pk
  have h := hz.past kz
  obtain ⟨Bx, x, cx, hM, hu, hS, k⟩ := (h1.past kz).callR
  obtain ⟨ab, cb, rfl, hb1⟩ := hb
  refine (writeR_is W c Bx x m cx v hM i hi ab mm cb f ⟨ab, cb, rfl, hb1⟩ (fun p q e1 e2 e3 => ?_)).mono ?_
  · have l1 := hn p.block (by rw [e1]; rfl)
    have l2 := h1.lt q.block (hS _ (Or.inr ⟨q, e2, rfl⟩))
    omega
  · rintro e w' ⟨rfl, a1, a2⟩
    obtain ⟨S', k1, k2, k3⟩ := k _ _ _ _ _ a1 a2 (Or.inl rfl) (ite_lt (ins_lt hu hf _ _) hu)
    exact ⟨rfl, h.step (h2.trans (below_but kz)) h3 h4 k1 k2 k3⟩
theorem LW.set {W0 W : World} {sb ob b c : Nat} {S0 : Nat → Prop} {n m mB : Nat} {u v t : Nat → Nat} {kd N M P : Int} {X Y : W4} {vB : Value} {g T : Nat} {y : Nat → Nat} (h : LW W0 W sb ob b c S0 n u m v kd N M P X Y vB mB t g T y) (i z : Nat) (hi : i < T) : LW W0 (W.setCell ⟨g, i, none⟩ (.int .u8 (z : Int))) sb ob b c S0 n u m v kd N M P X Y vB mB t g T (fun j => if j = i then z else y j) := by
  obtain ⟨S, h1, h2, h3, h4⟩ := h.pk
  have k : But (fun k => k = g) W (W.setCell ⟨g, i, none⟩ (.int .u8 (z : Int))) := ⟨rfl, rfl, rfl, by simp [World.setCell], fun k _ hk => Below.heap_setCell _ _ _ _ hk⟩
  have hsb : sb ≠ g := by have := h.ap.2.1; have := h.ge; omega
  have hob : ob ≠ g := by have := h.ap.2.2; have := h.ge; omega
  refine ⟨⟨S, h1.but k (fun j hj e => h4 (e ▸ hj)), ⟨h2.os, h2.tape, h2.output, by simpa [World.setCell] using h2.size, fun q hq hs => (Below.heap_setCell _ _ _ _ (show q ≠ g by have := h.ge; omega)).trans (h2.block q hq hs)⟩, h3, h4⟩, h.bo.but k hsb hob, h.ap, h.by_.but k (fun q h0 hq e => by have := (h.ab q h0 hq).2; have := h.ge; omega), h.ab, fun j hj => ?_, fun j hj => by rw [World.frozen?_setCell]; exact h.fz j hj, by simpa [World.setCell] using h.lt, h.ge⟩
  rw [Nat.zero_add]
  by_cases e : j = i
  · subst e
    have h9 := h.row j hj
    rw [Nat.zero_add] at h9
    rw [World.cell?_setCell_same _ _ _ h9, if_pos rfl]
  · have h9 := h.row j hj
    rw [Nat.zero_add] at h9
    rw [World.cell?_setCell_other _ _ _ _ (by intro e'; injection e' with _ e' _; exact e e'.symm), if_neg e]; exact h9
theorem LW.by {W0 W : World} {sb ob b c : Nat} {S0 : Nat → Prop} {n m mB : Nat} {u v t : Nat → Nat} {kd N M P : Int} {X Y : W4} {vB : Value} {g T : Nat} {y : Nat → Nat} {k cc : Nat} (h : LW W0 W sb ob b c S0 n u m v kd N M P X Y vB mB t g T y) (hk : k ≤ T) (hc : k ≤ cc) (h7 : k ≤ 70000) : By W (.slice (some ⟨g, 0, none⟩) k cc) k y := ⟨_, cc, rfl, hc, by omega, fun _ => ⟨g, 0, rfl, fun i hi => h.row i (by omega)⟩⟩
/-- append([]byte{}, w...), in a block of its own -/
theorem wp_copyN {o : Oper} {a : Act} {z : World} {K : Act → World → Prop} {Q : Exit → Act → World → Prop} (s x : Operand) (ho : o.op = .call { callee := .builtin .append, args := #[s, x], argTypes := #[31, 31] }) (hs : a.eval s = .slice (some ⟨z.heap.size, 0, none⟩) 0 0) (g T c : Nat) (u : Nat → Nat) (hx : a.eval x = .slice (some ⟨g, 0, none⟩) T c) (hu : ByC z g 0 T u) (hT : T ≤ 70000)
    (h : ∀ v' w', By w' v' T u → (∀ q, v'.ownBlock = some q → z.heap.size ≤ q) → Below z.heap.size z w' → K (a.put o.dst v') w') : o.wp Try.prog a (z.alloc (.cells #[] 5)) K Q := by
  obtain ⟨i0, hi, hz0, hz1, hz2⟩ := info_partsB Try.info8
  have hb : Below z.heap.size z (z.alloc (.cells #[] 5)) := (Below.refl _ _).alloc (Nat.le_refl _) _
  refine wp_append_own _ s x 31 ho z.heap.size 5 i0 (.int .u8 0) 1 1 Try.underlying31 hi hz0 hz1 hz2 rfl (by decide) _ 0 [] hs (owns_emptyC z) ⟨g, 0, none⟩ T c (bD u T) hx (by rw [bD_len]; omega) (fun j y hy => ?_) (fun y hy => ?_) (by unfold maxLen; omega) (by omega) hb.size (fun v' w' q1 q2 _ => ?_)
  · have hj : j < T := by have h9 := (List.getElem?_eq_some_iff.1 hy).1; rwa [bD_len] at h9
    rw [bD_at _ _ _ hj] at hy
    obtain rfl := Option.some.inj hy
    rw [Addr.add_mid]
    exact (hu.past hb) j hj
  · obtain ⟨i, _, rfl⟩ := List.mem_map.1 hy
    rfl
  · rw [Nat.zero_add, List.nil_append] at q1
    exact h v' w' (By.own q1 (by omega)) (fun q e => (q1.lt q e).1) (Below.grown hb q2 hb.size (fun q h => by have := (owns_emptyC z).lt q h; exact this.1))
theorem lay_lt {t : Nat → Nat} (h : ∀ i, t i < 256) (K i : Nat) : lay t K i < 256 := by unfold lay; split; exact h i; omega
set_option maxHeartbeats 2000000 in
set_option maxRecDepth 100000 in
theorem paged8 (w : World) (b c : Nat) (S : Nat → Prop) (n : Nat) (u : Nat → Nat) (h : PQ w b c S n u n u) (tw : Bool) (N M P : Int) (X Y : W4) (vB : Value) (mB : Nat) (t : Nat → Nat) (hB : Lent w S vB mB t) (hN : N ≤ 9223372036854775807) (hM : M ≤ 9223372036854775807) (hP : P ≤ 9223372036854775807) (hX : IsW (V X.a X.b X.c X.d) X.a X.b X.c X.d) (hY : IsW (V Y.a Y.b Y.c Y.d) Y.a Y.b Y.c Y.d) : Calls Try.prog 11 #[pageV b c, opV 8 tw N M P X Y vB] w fun e w' => e = .returned (.bool true) ∧ PgAfter w w' b c S n := by
  have _ : True := (fun _ _ _ _ _ => trivial : N ≤ 9223372036854775807 → M ≤ 9223372036854775807 → P ≤ 9223372036854775807 → IsW (V X.a X.b X.c X.d) X.a X.b X.c X.d → IsW (V Y.a Y.b Y.c Y.d) Y.a Y.b Y.c Y.d → True) hN hM hP hX hY
  have K0 : Hid (LM ((w.alloc (pageO b c)).alloc (opO 8 tw N M P X Y vB)) ((w.alloc (pageO b c)).alloc (opO 8 tw N M P X Y vB)) w.heap.size (w.heap.size + 1) b c S n u n u 8 N M P X Y vB mB t) := (LM.start h _ tw N M P X Y vB hB).1
  have B0 : Hid (Below w.heap.size w ((w.alloc (pageO b c)).alloc (opO 8 tw N M P X Y vB))) := (LM.start h _ tw N M P X Y vB hB).2
  obtain ⟨Kz, eK⟩ : ∃ Kz, Kz = min mB 70000 := ⟨_, rfl⟩
  have K7 : Hid (Kz ≤ 70000) := by unfold Hid; omega
  have Kn : Hid (Kz ≤ mB) := by unfold Hid; omega
  have KI : (Kz : Int) ≤ 70000 := by omega
  have HT : Hid (∀ i, t i < 256) := hB.2.1
  have LD : Hid (∀ W, By W vB mB t → Calls Try.prog 15 #[vB] W fun e w' => Laid W w' t Kz e) := fun W h => laid_is W vB mB Kz t h eK
  obtain ⟨er, ee⟩ : ∃ er, lk n N Kz = er := ⟨_, rfl⟩
  obtain ⟨u2, eu⟩ : ∃ u2, (if lk n N Kz = 0 then ins u N.toNat (lay t Kz) Kz else u) = u2 := ⟨_, rfl⟩
  have EE : Hid (lk n N Kz = er ∧ (if lk n N Kz = 0 then ins u N.toNat (lay t Kz) Kz else u) = u2) := ⟨ee, eu⟩
  clear ee eu eK
  clear h
  unfold pageV opV
  go_enter Try.func11, Try.ntmps11
  go_upto_region 1 with fail
  change Code.wp _ _ _ _ ((w.alloc (pageO b c)).alloc (opO 8 tw N M P X Y vB))
  generalize (w.alloc (pageO b c)).alloc (opO 8 tw N M P X Y vB) = w0 at K0 B0 ⊢
  generalize w.heap.size + 1 = ob at K0 ⊢
  generalize hsb : w.heap.size = sb at K0 ⊢
  have HSB : Hid (w.heap.size = sb) := hsb
  rw [hsb] at B0
  clear hsb
  have k0 := K0.out.bo.k0
  go_upto_region 28 with fail
  clear k0
  obtain ⟨p0, p1, _, k2, k3, k4, x0, x1, x2, x3, y0, y1, y2, y3, vb⟩ := K0.out.bo
  have LD1 : Hid _ := LD.out w0 K0.out.by_
  go_upto_region 29 with (go_at_call 15; refine (Calls.mono LD1.out) ?_; rintro e v1 ⟨g, cc, rfl, hc, hO, hg, hB1⟩)
  have K1 : Hid (LW w0 v1 sb ob b c S n u n u 8 N M P X Y vB mB t g (Kz + 75) (lay t Kz)) := K0.out.row hB1 (fun i hi => by rw [Nat.zero_add, hO.cellAt i (by omega), bD_at _ _ _ hi]) (fun j _ => hO.frozenAt j) (by have h9 := hO.cellAt 0 (by omega); rw [bD_at _ _ _ (by omega)] at h9; exact World.block_lt_of_cell? v1 _ h9) hg (Nat.le_refl _)
  have CL : Hid (Kz + 75 ≤ cc) := hc
  clear hc hO hg hB1 LD LD1 K0
  clear p0 p1 k2 k3 k4 x0 x1 x2 x3 y0 y1 y2 y3 vb
  obtain ⟨p0, p1, _, k2, k3, k4, x0, x1, x2, x3, y0, y1, y2, y3, vb⟩ := K1.out.bo
  go_upto_region 30 with (go_at_call 24; refine (LW.writeM K1.out N hN _ Kz _ (K1.out.by (by omega) (by have := CL.out; omega) K7.out) (lay_lt HT.out Kz)).mono ?_; rintro e v2 ⟨rfl, h1⟩; rw [EE.out.1])
  have K2 : Hid (LW w0 v2 sb ob b c S n u2 n u 8 N M P X Y vB mB t g (Kz + 75) (lay t Kz)) := by rw [← EE.out.2]; exact h1
  clear h1 K1
  clear p0 p1 k2 k3 k4 x0 x1 x2 x3 y0 y1 y2 y3 vb
  refine wp_region_held_drew (S := fun V' => Bo V' sb ob b c 8 N M P X Y vB) (by kernel_rfl) K2.out.drew.bo (fun hHeld => ?_)
  have D1 : Hid (LW w0 v2.drew sb ob b c S n u2 n u 8 N M P X Y vB mB t g (Kz + 75) (lay t Kz)) := K2.out.drew
  generalize v2.drew = z0 at hHeld D1 ⊢
  clear K2
  refine wpAnyH_take (i := 0) (v := .slice (some ⟨g, 0, none⟩) Kz cc) ov0 (by kernel_rfl) (by kernel_rfl) (by kernel_rfl) (fun _ _ _ h => h) (Or.inl ⟨by rfl, fun V' hS => ?_⟩) hHeld ?_
  · go_simp
  simp only [Act.put, List.setIfInBounds_toArray, List.set_cons_zero, List.set_cons_succ]
  refine wpAnyH_take (i := 1) (v := .pointer (some ⟨ob, 13, none⟩)) ov1 (by kernel_rfl) (by kernel_rfl) (by kernel_rfl) (fun _ _ _ h => h) (Or.inl ⟨by rfl, fun V' hS => ?_⟩) hHeld ?_
  · go_simp
  simp only [Act.put, List.setIfInBounds_toArray, List.set_cons_zero, List.set_cons_succ]
  refine wpAnyH_take (i := 2) (v := vB) ov2 (by kernel_rfl) (by kernel_rfl) (by kernel_rfl) (fun _ _ _ h => h) (Or.inl ⟨by rfl, fun V' hS => ?_⟩) hHeld ?_
  · have q0 := hS.vb
    go_simp
  simp only [Act.put, List.setIfInBounds_toArray, List.set_cons_zero, List.set_cons_succ]
  refine wpAnyH_ready (rs := [3]) (by kernel_rfl) (by simp) ?_
  refine AllReadyH.cons ov3 (fun K hK => ?_) AllReadyH.nil
  rw [if_pos (by rfl)]
  go_simp
  refine (stands_is z0 g cc Kz mB vB t D1.out.row D1.out.by_ Kn.out K7 CL.out).mono ?_
  rintro e z1 ⟨rfl, hB⟩
  have D2 : Hid (LW w0 z1 sb ob b c S n u2 n u 8 N M P X Y vB mB t g (Kz + 75) (lay t Kz)) := D1.out.past hB
  clear hB
  (try go_wp2_with fail)
  refine hK.out _ _ D2.out.bo (fun _ => ?_)
  clear hK K
  (try simp only [Act.put, List.setIfInBounds_toArray, List.set_cons_zero, List.set_cons_succ])
  refine wpAnyH_take (i := 4) (v := .bool true) ov4 (by kernel_rfl) (by kernel_rfl) (by kernel_rfl) (fun _ _ _ h => h) (Or.inl ⟨by rfl, fun V' hS => ?_⟩) D2.out.bo ?_
  · go_simp
  simp only [Act.put, List.setIfInBounds_toArray, List.set_cons_zero, List.set_cons_succ]
  refine wpAnyH_take (i := 5) (v := .int .i64 er) ov5 (by kernel_rfl) (by kernel_rfl) (by kernel_rfl) (fun _ _ _ h => h) (Or.inl ⟨by rfl, fun V' hS => ?_⟩) D2.out.bo ?_
  · go_simp
  simp only [Act.put, List.setIfInBounds_toArray, List.set_cons_zero, List.set_cons_succ]
  refine wpAnyH_take (i := 6) (v := .pointer (some ⟨sb, 1, none⟩)) ov6 (by kernel_rfl) (by kernel_rfl) (by kernel_rfl) (fun _ _ _ h => h) (Or.inl ⟨by rfl, fun V' hS => ?_⟩) D2.out.bo ?_
  · go_simp
  simp only [Act.put, List.setIfInBounds_toArray, List.set_cons_zero, List.set_cons_succ]
  refine wpAnyH_take (i := 7) (v := .pointer (some ⟨c, 0, none⟩)) ov7 (by kernel_rfl) (by kernel_rfl) (by kernel_rfl) (fun _ _ _ h => h) (Or.inl ⟨by rfl, fun V' hS => ?_⟩) D2.out.bo ?_
  · have q0 := hS.p1
    go_simp
  simp only [Act.put, List.setIfInBounds_toArray, List.set_cons_zero, List.set_cons_succ]
  refine wpAnyH_take (i := 8) (v := .pointer (some ⟨ob, 2, none⟩)) ov8 (by kernel_rfl) (by kernel_rfl) (by kernel_rfl) (fun _ _ _ h => h) (Or.inl ⟨by rfl, fun V' hS => ?_⟩) D2.out.bo ?_
  · go_simp
  simp only [Act.put, List.setIfInBounds_toArray, List.set_cons_zero, List.set_cons_succ]
  refine wpAnyH_take (i := 9) (v := .int .i64 N) ov9 (by kernel_rfl) (by kernel_rfl) (by kernel_rfl) (fun _ _ _ h => h) (Or.inl ⟨by rfl, fun V' hS => ?_⟩) D2.out.bo ?_
  · have q0 := hS.k2
    go_simp
  simp only [Act.put, List.setIfInBounds_toArray, List.set_cons_zero, List.set_cons_succ]
  refine wpAnyH_take (i := 11) (v := .slice (some ⟨g, 0, none⟩) Kz cc) ov11 (by kernel_rfl) (by kernel_rfl) (by kernel_rfl) (fun _ _ _ h => h) (Or.inl ⟨by rfl, fun V' hS => ?_⟩) D2.out.bo ?_
  · go_simp
  simp only [Act.put, List.setIfInBounds_toArray, List.set_cons_zero, List.set_cons_succ]
  refine wpAnyH_ready (rs := [10]) (by kernel_rfl) (by simp) ?_
  refine AllReadyH.cons ov10 (fun K hK => ?_) AllReadyH.nil
  rw [if_pos (by rfl)]
  go_simp
  refine hK.out _ (z1.alloc (.cells #[] 5)) ((D2.out.past ((Below.refl _ _).alloc (Nat.le_refl _) _)).bo) (fun _ => ?_)
  clear hK K
  (try simp only [Act.put, List.setIfInBounds_toArray, List.set_cons_zero, List.set_cons_succ])
  refine wpAnyH_ready (rs := [12]) (by kernel_rfl) (by simp) ?_
  refine AllReadyH.cons ov12 (fun K hK => ?_) AllReadyH.nil
  rw [if_pos (by rfl)]
  refine wp_copyN _ _ rfl rfl g Kz cc (lay t Kz) rfl (fun i hi => D2.out.row i (by omega)) K7.out ?_
  intro vc z2 hy2 hn2 hB2
  refine hK.out _ z2 (D2.out.past hB2).bo (fun _ => ?_)
  clear hK K
  (try simp only [Act.put, List.setIfInBounds_toArray, List.set_cons_zero, List.set_cons_succ])
  refine wpAnyH_ready (rs := [13]) (by kernel_rfl) (by simp) ?_
  refine AllReadyH.cons ov13 (fun K hK => ?_) AllReadyH.nil
  rw [if_pos (by rfl)]
  go_simp
  refine (LW.writeR D2.out hB2 N hN vc Kz _ hy2 (lay_lt HT.out Kz) hn2).mono ?_
  rintro e z3 ⟨rfl, h1⟩
  rw [EE.out.1]
  have D3 : Hid (LW w0 z3 sb ob b c S n u2 n u2 8 N M P X Y vB mB t g (Kz + 75) (lay t Kz)) := by rw [← EE.out.2] at h1 ⊢; exact h1
  clear h1 hy2 hn2 hB2
  (try go_wp2_with fail)
  refine hK.out _ _ D3.out.bo (fun _ => ?_)
  clear hK K
  (try simp only [Act.put, List.setIfInBounds_toArray, List.set_cons_zero, List.set_cons_succ])
  refine wpAnyH_take (i := 14) (v := .bool true) ov14 (by kernel_rfl) (by kernel_rfl) (by kernel_rfl) (fun _ _ _ h => h) (Or.inl ⟨by rfl, fun V' hS => ?_⟩) D3.out.bo ?_
  · go_simp
  simp only [Act.put, List.setIfInBounds_toArray, List.set_cons_zero, List.set_cons_succ]
  refine wpAnyH_take (i := 15) (v := .bool true) ov15 (by kernel_rfl) (by kernel_rfl) (by kernel_rfl) (fun _ _ _ h => h) (Or.inl ⟨by rfl, fun V' hS => ?_⟩) D3.out.bo ?_
  · go_simp
  simp only [Act.put, List.setIfInBounds_toArray, List.set_cons_zero, List.set_cons_succ]
  refine wpAnyH_take (i := 16) (v := .bool true) ov16 (by kernel_rfl) (by kernel_rfl) (by kernel_rfl) (fun _ _ _ h => h) (Or.inl ⟨by rfl, fun V' hS => ?_⟩) D3.out.bo ?_
  · go_simp
  simp only [Act.put, List.setIfInBounds_toArray, List.set_cons_zero, List.set_cons_succ]
  refine wpAnyH_done (by kernel_rfl) ?_ _
  go_upto_region 31 with fail
  go_wp2
  go_loopw [22] (fun s wr => ∃ (i : Nat) (y : Nat → Nat), s = .int .i64 (i : Int) ∧ i ≤ Kz ∧ LW w0 wr sb ob b c S n u2 n u2 8 N M P X Y vB mB t g (Kz + 75) y) (fun s _ => Kz - (intOf s).toNat)
  case atStart => exact ⟨0, _, rfl, by omega, D3.out⟩
  case round =>
    obtain ⟨i, y, rfl, hi, hc⟩ := hrel
    have C3 : Hid (LW w0 wr sb ob b c S n u2 n u2 8 N M P X Y vB mB t g (Kz + 75) y) := hc
    clear hc D3
    by_cases e : i < Kz
    · have iI : (i : Int) < (Kz : Int) := by omega
      have ck := CL.out
      have cI : (Kz : Int) ≤ (cc : Int) := by omega
      have c9 := C3.out.row i (by omega)
      rw [Nat.zero_add] at c9
      have cf := C3.out.fz i (by omega)
      obtain ⟨z, ez⟩ : ∃ z : Nat, IntKind.u8.wrap (255 - (y i : Int)) = (z : Int) := ⟨(IntKind.u8.wrap (255 - (y i : Int))).toNat, by rw [IntKind.wrap_u8]; omega⟩
      have N1 : Hid (LW w0 (wr.setCell ⟨g, i, none⟩ (.int .u8 (z : Int))) sb ob b c S n u2 n u2 8 N M P X Y vB mB t g (Kz + 75) (fun j => if j = i then z else y j)) := C3.out.set i z (by omega)
      generalize (y i : Int) = yi at c9 ez
      clear C3 ck
      go_wp2
      go_roundw
      case rel => exact ⟨i + 1, _, by go_num, by omega, N1.out⟩
      case measure => simp [intOf]; omega
    · have iI : ¬ (i : Int) < (Kz : Int) := by omega
      go_wp2
      go_ret
      exact ⟨rfl, C3.out.lm.after (w := w) (by have h9 := B0.out; rwa [← HSB.out] at h9)⟩
end Go.Proofs.Ytlemnjhdnciddaa
