/- made, moved. -/
import Derived.Test.YtohfkgfjcnldaaaTzj
namespace Go.Proofs.Ytohfkgfjcnldaaa
open Go.RowKit Go.Shelf
theorem hide {p : Prop} (h : p) : Hid p := h
theorem box_nopr {w : World} {B : Nat} {t : TypeId} {l : List Value} (h : CBox w B t l) (ht : 62 ≠ t) : ¬ IsPr w B := by
  rintro ⟨v, l, hv, e⟩
  obtain ⟨ad, cap, rfl⟩ := hv.form
  cases ad with
  | none => cases e
  | some a =>
    injection e with e
    exact row_box hv h ht ⟨a, rfl, rfl⟩ e
/-- one of the law's own boxes is written -/
theorem Mo.own {w w' : World} {ow : Nat → Nat} {B : Nat} {t : TypeId} {l : List Value} (h : CBox w B t l) (ht : 62 ≠ t) (h0 : ow B = 0) (hB : But (fun k => k = B) w w') : Mo (fun x => x = 0) ow ow w w' := ⟨hB.mono (fun x e => by subst e; exact ⟨h0, box_nopr h ht⟩), fun _ _ => rfl⟩
/-- a table and the document's, which tell the same -/
structure SD (W : World) (ow : Nat → Nat) (s b c N : Nat) (A : List (Int × Int)) (H : List (List (Int × Int))) : Prop where
  t : T1 W ow (2 * s) b N A H
  r : R1 W ow (2 * s + 1) c N A H
theorem SD.mono {W : World} {ow : Nat → Nat} {s b c N N' : Nat} {A : List (Int × Int)} {H : List (List (Int × Int))} (h : SD W ow s b c N A H) (hN : N ≤ N') : SD W ow s b c N' A H := ⟨h.t.mono hN, h.r.mono hN⟩
theorem SD.mo {P : Nat → Prop} {W W' : World} {ow ow' : Nat → Nat} {s b c N : Nat} {A : List (Int × Int)} {H : List (List (Int × Int))} (h : SD W ow s b c N A H) (m : Mo P ow ow' W W') (h1 : ¬ P (2 * s)) (h2 : ¬ P (2 * s + 1)) : SD W' ow' s b c N A H := ⟨h.t.mo m h1, h.r.mo m h2⟩
theorem SD.past {W W' : World} {ow : Nat → Nat} {i s b c N : Nat} {A : List (Int × Int)} {H : List (List (Int × Int))} (h : SD W ow s b c N A H) (hB : Below W.heap.size W W') : SD W' (grow ow W.heap.size i) s b c N A H := ⟨h.t.past hB, h.r.past hB⟩
theorem LU.start {w : World} {ow : Nat → Nat} {s b c N : Nat} {A : List (Int × Int)} {H : List (List (Int × Int))} (h : SD w ow s b c N A H) (kd : Int) (two : Bool) (k v : Int) :
    LU ((w.alloc (.cells #[.pointer (some ⟨b, 0, none⟩), .pointer (some ⟨c, 0, none⟩)] 27)).alloc (.cells #[.int .i64 kd, .bool two, .int .i64 k, .int .i64 v] 30)) (grow ow w.heap.size 0) ((w.alloc (.cells #[.pointer (some ⟨b, 0, none⟩), .pointer (some ⟨c, 0, none⟩)] 27)).alloc (.cells #[.int .i64 kd, .bool two, .int .i64 k, .int .i64 v] 30)) (grow ow w.heap.size 0) s w.heap.size (w.heap.size + 1) b c N A H A H kd two k v ∧ Mo (Ps s) ow (grow ow w.heap.size 0) w ((w.alloc (.cells #[.pointer (some ⟨b, 0, none⟩), .pointer (some ⟨c, 0, none⟩)] 27)).alloc (.cells #[.int .i64 kd, .bool two, .int .i64 k, .int .i64 v] 30)) := by
  have hB : Below w.heap.size w ((w.alloc (.cells #[.pointer (some ⟨b, 0, none⟩), .pointer (some ⟨c, 0, none⟩)] 27)).alloc (.cells #[.int .i64 kd, .bool two, .int .i64 k, .int .i64 v] 30)) := ((Below.refl _ w).alloc (Nat.le_refl _) _).alloc (by simp) _
  have e1 : (w.alloc (.cells #[.pointer (some ⟨b, 0, none⟩), .pointer (some ⟨c, 0, none⟩)] 27)).heap.size = w.heap.size + 1 := by simp
  refine ⟨⟨h.t.past hB, h.r.past hB, (CBox.new w _ [_, _]).but (S := fun _ => False) ((But.refl _ _).alloc _) id, ?_, grow_ge (Nat.le_refl _), grow_ge (by omega), Mo.refl _ _ _⟩, Mo.below hB⟩
  rw [← e1]
  exact CBox.new (w.alloc (.cells #[.pointer (some ⟨b, 0, none⟩), .pointer (some ⟨c, 0, none⟩)] 27)) _ [_, _, _, _]
theorem LU.after {w w0 W : World} {ow o0 ow' : Nat → Nat} {s sb ob b c N : Nat} {A : List (Int × Int)} {H : List (List (Int × Int))} {kd : Int} {two : Bool} {k v : Int} (h : LU w0 o0 W ow' s sb ob b c N A H A H kd two k v) (m : Mo (Ps s) ow o0 w w0) : ∃ ow', SD W ow' s b c N A H ∧ Mo (Ps s) ow ow' w W := ⟨ow', ⟨h.t, h.r⟩, m.trans h.m⟩
theorem loadSide {w : World} {x b c : Nat} (c0 : w.cell? ⟨x, 0, none⟩ = some (.pointer (some ⟨b, 0, none⟩))) (c1 : w.cell? ⟨x, 1, none⟩ = some (.pointer (some ⟨c, 0, none⟩))) : (loadVar 27 ⟨x, 0, none⟩).run Try.prog w = .ok (.agg #[.pointer (some ⟨b, 0, none⟩), .pointer (some ⟨c, 0, none⟩)]) w := by
  go_simp
set_option maxHeartbeats 2000000 in
theorem made_is (w : World) (ow : Nat → Nat) (s N : Nat) (hs : 0 < s) : Calls Try.prog 14 #[] w fun e w' => ∃ b c ow', e = .returned (.agg #[.pointer (some ⟨b, 0, none⟩), .pointer (some ⟨c, 0, none⟩)]) ∧ SD w' ow' s b c N [] [] ∧ Below w.heap.size w w' ∧ ∀ x, x < w.heap.size → ow' x = ow x := by
  obtain ⟨w1, e1⟩ : ∃ w1, w.alloc (.cells #[.pointer none, .pointer none] 27) = w1 := ⟨_, rfl⟩
  have B1 : Hid (Below w.heap.size w w1) := by rw [← e1]; exact (Below.refl _ w).alloc (Nat.le_refl _) _
  have X1 : Hid (CBox w1 w.heap.size 27 [.pointer none, .pointer none]) := by rw [← e1]; exact CBox.new w _ _
  have X9 : Hid (∀ w3, Below w1.heap.size w1 w3 → w3.cell? ⟨w.heap.size, 0, none⟩ = some (.pointer none) ∧ w3.cell? ⟨w.heap.size, 1, none⟩ = some (.pointer none) ∧ w3.frozen? ⟨w.heap.size, 0, none⟩ = false ∧ w3.frozen? ⟨w.heap.size, 1, none⟩ = false) := fun w3 h3 => by
    have := X1.out.but (below_but (S := fun _ => False) h3) id
    exact ⟨this.cell 0, this.cell 1, this.frozen 0, this.frozen 1⟩
  go_enter Try.func14, Try.ntmps14
  go_upto_region 1 with fail
  clear e1
  go_wp2_with (first | (go_at_call 37; refine (new1 w1 (grow ow w.heap.size 0) (2 * s) N).mono ?_; rintro e w2 ⟨rfl, t2, b2⟩; generalize w1.heap.size + 1 = bb at t2 ⊢; (have T2 : Hid (T1 w2 (grow (grow ow w.heap.size 0) w1.heap.size (2 * s)) (2 * s) bb N [] [] ∧ Below w1.heap.size w1 w2) := ⟨t2, b2⟩); clear t2 b2) | (go_at_call 19; refine (newR1 w2 (grow (grow ow w.heap.size 0) w1.heap.size (2 * s)) (2 * s + 1) N).mono ?_; rintro e w3 ⟨rfl, r3, b3⟩; (have R3 : Hid (R1 w3 (grow (grow (grow ow w.heap.size 0) w1.heap.size (2 * s)) w2.heap.size (2 * s + 1)) (2 * s + 1) w2.heap.size N [] [] ∧ Below w2.heap.size w2 w3) := ⟨r3, b3⟩); clear r3 b3; (have B3 : Hid (Below w1.heap.size w1 w3 ∧ w1.heap.size ≤ w2.heap.size) := ⟨T2.out.2.trans (R3.out.2.mono T2.out.2.size), T2.out.2.size⟩); obtain ⟨c0, c1, f0, f1⟩ := X9.out w3 B3.out.1; (have EC : Hid (w2.heap.size = w2.heap.size) := rfl); generalize hcc : w2.heap.size = cc at R3 ⊢; (have E9 : Hid (w2.heap.size = cc) := hcc); clear EC hcc))
  clear c0 c1 f0 f1
  have X3 := X1.out.but (below_but (S := fun _ => False) B3.out.1) id
  generalize hbx : w.heap.size = bx at X3
  have X4 : CBox ((w3.setCell ⟨bx, 0, none⟩ (.pointer (some ⟨bb, 0, none⟩))).setCell ⟨bx, 1, none⟩ (.pointer (some ⟨cc, 0, none⟩))) bx 27 [.pointer (some ⟨bb, 0, none⟩), .pointer (some ⟨cc, 0, none⟩)] := (X3.set 0 _).set 1 _
  have S4 : But (fun k => k = bx) w3 ((w3.setCell ⟨bx, 0, none⟩ (.pointer (some ⟨bb, 0, none⟩))).setCell ⟨bx, 1, none⟩ (.pointer (some ⟨cc, 0, none⟩))) := ((But.refl (fun k => k = bx) w3).setCell ⟨bx, 0, none⟩ _ (Or.inl rfl)).setCell ⟨bx, 1, none⟩ _ (Or.inl rfl)
  generalize (w3.setCell ⟨bx, 0, none⟩ (.pointer (some ⟨bb, 0, none⟩))).setCell ⟨bx, 1, none⟩ (.pointer (some ⟨cc, 0, none⟩)) = w4 at X4 S4 ⊢
  obtain ⟨o3, eo⟩ : ∃ o3, o3 = grow (grow (grow ow w.heap.size 0) w1.heap.size (2 * s)) w2.heap.size (2 * s + 1) := ⟨_, rfl⟩
  have s1 : w.heap.size < w1.heap.size := X1.out.lt
  have s2 := B3.out.2
  have ob : o3 bx = 0 := by rw [eo, ← hbx, grow_lt (by omega), grow_lt s1, grow_ge (Nat.le_refl _)]
  have T3 : T1 w3 o3 (2 * s) bb N [] [] := by rw [eo]; exact T2.out.1.past (E9.out ▸ R3.out.2)
  have R4 : R1 w3 o3 (2 * s + 1) cc N [] [] := by rw [eo, E9.out]; exact R3.out.1
  have m := Mo.own X3 (by decide) ob S4
  refine bodyPost_ret (v := .agg #[.pointer (some ⟨bb, 0, none⟩), .pointer (some ⟨cc, 0, none⟩)]) (results_cellr rfl _ _ _ ⟨bx, 0, none⟩ rfl (loadSide (X4.cell 0) (X4.cell 1))) rfl ⟨bb, cc, o3, rfl, ⟨T3.mo m (by omega), R4.mo m (by omega)⟩, ?_, fun x hx => ?_⟩
  · rw [← hbx]
    exact (B1.out.trans (B3.out.1.mono (by omega))).trans (But.below S4 (fun k e => by omega) (by have := B3.out.1.size; omega))
  · rw [eo, grow_lt (by omega), grow_lt (by omega), grow_lt (by omega)]
set_option maxHeartbeats 2000000 in
set_option maxRecDepth 100000 in
theorem moved1 (w : World) (ow : Nat → Nat) (s b c N : Nat) (A : List (Int × Int)) (H : List (List (Int × Int))) (h : SD w ow s b c N A H) (hs : 0 < s) (hN : N + 2 < 274877906944) (two : Bool) (k v : Int) (hk : I64 k) : Calls Try.prog 17 #[.agg #[.pointer (some ⟨b, 0, none⟩), .pointer (some ⟨c, 0, none⟩)], .agg #[.int .i64 1, .bool two, .int .i64 k, .int .i64 v]] w fun e w' => e = .returned (.bool true) ∧ ∃ ow', SD w' ow' s b c (N + 2) (setRL A k v) H ∧ Mo (Ps s) ow ow' w w' := by
  have HK : Hid (I64 k ∧ 0 < s ∧ N + 2 < 274877906944) := ⟨hk, hs, hN⟩
  obtain ⟨K0, M0⟩ := LU.start h 1 two k v
  generalize grow ow w.heap.size 0 = o0 at K0 M0
  replace K0 := hide K0
  replace M0 := hide M0
  clear h hk hs hN
  go_enter Try.func17, Try.ntmps17
  go_upto_region 1 with fail
  change Code.wp _ _ _ _ ((w.alloc (.cells #[.pointer (some ⟨b, 0, none⟩), .pointer (some ⟨c, 0, none⟩)] 27)).alloc (.cells #[.int .i64 1, .bool two, .int .i64 k, .int .i64 v] 30))
  generalize (w.alloc (.cells #[.pointer (some ⟨b, 0, none⟩), .pointer (some ⟨c, 0, none⟩)] 27)).alloc (.cells #[.int .i64 1, .bool two, .int .i64 k, .int .i64 v] 30) = w0 at K0 M0 ⊢
  generalize w.heap.size + 1 = ob at K0 ⊢
  generalize w.heap.size = sb at K0 ⊢
  obtain ⟨⟨p0, p1⟩, k0, k1, k2, k3⟩ := K0.out.bo
  go_upto_region 4 with (go_at_call 39; refine (LU.setT K0.out HK.out.1 HK.out.2.1 (by have := HK.out; omega)).mono ?_; rintro e v1 ⟨rfl, o1, h1⟩)
  have K1 : Hid (LU w0 o0 v1 o1 s sb ob b c (N + 1) (setRL A k v) H A H 1 two k v) := h1
  clear h1 K0
  clear p0 p1 k0 k1 k2 k3
  obtain ⟨⟨p0, p1⟩, k0, k1, k2, k3⟩ := K1.out.bo
  go_wp2_with (go_at_call 22; refine (LU.setR K1.out (by have := HK.out; omega)).mono ?_; rintro e v2 ⟨rfl, o2, h1⟩)
  go_ret
  exact ⟨rfl, h1.after M0.out⟩
set_option maxHeartbeats 2000000 in
set_option maxRecDepth 100000 in
theorem moved2 (w : World) (ow : Nat → Nat) (s b c N : Nat) (A : List (Int × Int)) (H : List (List (Int × Int))) (h : SD w ow s b c N A H) (hs : 0 < s) (hN : N + 2 < 274877906944) (two : Bool) (k v : Int) (hk : I64 k) : Calls Try.prog 17 #[.agg #[.pointer (some ⟨b, 0, none⟩), .pointer (some ⟨c, 0, none⟩)], .agg #[.int .i64 2, .bool two, .int .i64 k, .int .i64 v]] w fun e w' => e = .returned (.bool true) ∧ ∃ ow', SD w' ow' s b c (N + 2) (delA A k) H ∧ Mo (Ps s) ow ow' w w' := by
  have HK : Hid (I64 k ∧ 0 < s ∧ N + 2 < 274877906944) := ⟨hk, hs, hN⟩
  obtain ⟨K0, M0⟩ := LU.start h 2 two k v
  generalize grow ow w.heap.size 0 = o0 at K0 M0
  replace K0 := hide K0
  replace M0 := hide M0
  obtain ⟨g, eg⟩ : ∃ g, g = (getR A k).isSome := ⟨_, rfl⟩
  have EE : Hid ((getR A k).isSome = g) := eg.symm
  clear eg
  clear h hk hs hN
  go_enter Try.func17, Try.ntmps17
  go_upto_region 1 with fail
  change Code.wp _ _ _ _ ((w.alloc (.cells #[.pointer (some ⟨b, 0, none⟩), .pointer (some ⟨c, 0, none⟩)] 27)).alloc (.cells #[.int .i64 2, .bool two, .int .i64 k, .int .i64 v] 30))
  generalize (w.alloc (.cells #[.pointer (some ⟨b, 0, none⟩), .pointer (some ⟨c, 0, none⟩)] 27)).alloc (.cells #[.int .i64 2, .bool two, .int .i64 k, .int .i64 v] 30) = w0 at K0 M0 ⊢
  generalize w.heap.size + 1 = ob at K0 ⊢
  generalize w.heap.size = sb at K0 ⊢
  have k0 : w0.cell? ⟨ob, 0, none⟩ = some (.int .i64 2) := K0.out.bo.2.1
  go_upto_region 6 with fail
  clear k0
  refine wp_region_held_drew (S := fun V' => Bo V' sb ob b c 2 two k v) (by kernel_rfl) K0.out.drew.bo (fun hHeld => ?_)
  have K1 : Hid (LU w0 o0 w0.drew o0 s sb ob b c N A H A H 2 two k v) := K0.out.drew
  generalize w0.drew = z0 at hHeld K1 ⊢
  clear K0
  refine wpAnyH_take (i := 0) (v := .pointer (some ⟨sb, 0, none⟩)) ov0 (by kernel_rfl) (by kernel_rfl) (by kernel_rfl) (fun _ _ _ h => h) (Or.inl ⟨by rfl, fun V' hS => ?_⟩) hHeld ?_
  · go_simp
  simp only [Act.put, List.setIfInBounds_toArray, List.set_cons_zero, List.set_cons_succ]
  refine wpAnyH_take (i := 1) (v := .pointer (some ⟨b, 0, none⟩)) ov1 (by kernel_rfl) (by kernel_rfl) (by kernel_rfl) (fun _ _ _ h => h) (Or.inl ⟨by rfl, fun V' hS => ?_⟩) hHeld ?_
  · obtain ⟨⟨q0, _⟩, _⟩ := hS
    go_simp
  simp only [Act.put, List.setIfInBounds_toArray, List.set_cons_zero, List.set_cons_succ]
  refine wpAnyH_take (i := 2) (v := .pointer (some ⟨ob, 2, none⟩)) ov2 (by kernel_rfl) (by kernel_rfl) (by kernel_rfl) (fun _ _ _ h => h) (Or.inl ⟨by rfl, fun V' hS => ?_⟩) hHeld ?_
  · go_simp
  simp only [Act.put, List.setIfInBounds_toArray, List.set_cons_zero, List.set_cons_succ]
  refine wpAnyH_take (i := 3) (v := .int .i64 k) ov3 (by kernel_rfl) (by kernel_rfl) (by kernel_rfl) (fun _ _ _ h => h) (Or.inl ⟨by rfl, fun V' hS => ?_⟩) hHeld ?_
  · obtain ⟨_, _, _, q0, _⟩ := hS
    go_simp
  simp only [Act.put, List.setIfInBounds_toArray, List.set_cons_zero, List.set_cons_succ]
  refine wpAnyH_take (i := 5) (v := .pointer (some ⟨sb, 1, none⟩)) ov5 (by kernel_rfl) (by kernel_rfl) (by kernel_rfl) (fun _ _ _ h => h) (Or.inl ⟨by rfl, fun V' hS => ?_⟩) hHeld ?_
  · go_simp
  simp only [Act.put, List.setIfInBounds_toArray, List.set_cons_zero, List.set_cons_succ]
  refine wpAnyH_take (i := 6) (v := .pointer (some ⟨c, 0, none⟩)) ov6 (by kernel_rfl) (by kernel_rfl) (by kernel_rfl) (fun _ _ _ h => h) (Or.inl ⟨by rfl, fun V' hS => ?_⟩) hHeld ?_
  · obtain ⟨⟨_, q0⟩, _⟩ := hS
    go_simp
  simp only [Act.put, List.setIfInBounds_toArray, List.set_cons_zero, List.set_cons_succ]
  refine wpAnyH_take (i := 7) (v := .pointer (some ⟨ob, 2, none⟩)) ov7 (by kernel_rfl) (by kernel_rfl) (by kernel_rfl) (fun _ _ _ h => h) (Or.inl ⟨by rfl, fun V' hS => ?_⟩) hHeld ?_
  · go_simp
  simp only [Act.put, List.setIfInBounds_toArray, List.set_cons_zero, List.set_cons_succ]
  refine wpAnyH_take (i := 8) (v := .int .i64 k) ov8 (by kernel_rfl) (by kernel_rfl) (by kernel_rfl) (fun _ _ _ h => h) (Or.inl ⟨by rfl, fun V' hS => ?_⟩) hHeld ?_
  · obtain ⟨_, _, _, q0, _⟩ := hS
    go_simp
  simp only [Act.put, List.setIfInBounds_toArray, List.set_cons_zero, List.set_cons_succ]
  refine wpAnyH_ready (rs := [4]) (by kernel_rfl) (by simp) ?_
  refine AllReadyH.cons ov4 (fun K hK => ?_) AllReadyH.nil
  rw [if_pos (by rfl)]
  go_simp
  refine (LU.delT K1.out HK.out.1 HK.out.2.1 (by have := HK.out; omega)).mono ?_
  rintro e v1 ⟨rfl, o1, h1⟩
  rw [EE.out]
  have K2 : Hid (LU w0 o0 v1 o1 s sb ob b c (N + 1) (delA A k) H A H 2 two k v) := h1
  clear h1
  (try go_wp2_with fail)
  refine hK.out _ _ K2.out.bo (fun _ => ?_)
  clear hK K
  (try simp only [Act.put, List.setIfInBounds_toArray, List.set_cons_zero, List.set_cons_succ])
  refine wpAnyH_ready (rs := [9]) (by kernel_rfl) (by simp) ?_
  refine AllReadyH.cons ov9 (fun K hK => ?_) AllReadyH.nil
  rw [if_pos (by rfl)]
  go_simp
  refine (LU.delR K2.out (by have := HK.out; omega)).mono ?_
  rintro e v2 ⟨rfl, o2, h1⟩
  rw [EE.out]
  have K3 : Hid (LU w0 o0 v2 o2 s sb ob b c (N + 1 + 1) (delA A k) H (delA A k) H 2 two k v) := h1
  clear h1
  (try go_wp2_with fail)
  refine hK.out _ _ K3.out.bo (fun _ => ?_)
  clear hK K
  (try simp only [Act.put, List.setIfInBounds_toArray, List.set_cons_zero, List.set_cons_succ])
  refine wpAnyH_take (i := 10) (v := .bool true) ov10 (by kernel_rfl) (by kernel_rfl) (by kernel_rfl) (fun _ _ _ h => h) (Or.inl ⟨by rfl, fun V' hS => ?_⟩) K3.out.bo ?_
  · go_simp
  simp only [Act.put, List.setIfInBounds_toArray, List.set_cons_zero, List.set_cons_succ]
  refine wpAnyH_take (i := 11) (v := .bool true) ov11 (by kernel_rfl) (by kernel_rfl) (by kernel_rfl) (fun _ _ _ h => h) (Or.inl ⟨by rfl, fun V' hS => ?_⟩) K3.out.bo ?_
  · go_simp
  simp only [Act.put, List.setIfInBounds_toArray, List.set_cons_zero, List.set_cons_succ]
  refine wpAnyH_done (by kernel_rfl) ?_ _
  go_wp2
  go_ret
  exact ⟨rfl, K3.out.after M0.out⟩
set_option maxHeartbeats 2000000 in
set_option maxRecDepth 100000 in
theorem moved3 (w : World) (ow : Nat → Nat) (s b c N : Nat) (A : List (Int × Int)) (H : List (List (Int × Int))) (h : SD w ow s b c N A H) (hs : 0 < s) (hN : N + 2 < 274877906944) (two : Bool) (k v : Int) (hk : I64 k) : Calls Try.prog 17 #[.agg #[.pointer (some ⟨b, 0, none⟩), .pointer (some ⟨c, 0, none⟩)], .agg #[.int .i64 3, .bool two, .int .i64 k, .int .i64 v]] w fun e w' => e = .returned (.bool true) ∧ ∃ ow', SD w' ow' s b c (N + 2) A (H ++ [A]) ∧ Mo (Ps s) ow ow' w w' := by
  have HK : Hid (I64 k ∧ 0 < s ∧ N + 2 < 274877906944) := ⟨hk, hs, hN⟩
  obtain ⟨K0, M0⟩ := LU.start h 3 two k v
  generalize grow ow w.heap.size 0 = o0 at K0 M0
  replace K0 := hide K0
  replace M0 := hide M0
  obtain ⟨g, eg⟩ : ∃ g, g = (H.length : Int) := ⟨_, rfl⟩
  have EE : Hid ((H.length : Int) = g) := eg.symm
  clear eg
  clear h hk hs hN
  go_enter Try.func17, Try.ntmps17
  go_upto_region 1 with fail
  change Code.wp _ _ _ _ ((w.alloc (.cells #[.pointer (some ⟨b, 0, none⟩), .pointer (some ⟨c, 0, none⟩)] 27)).alloc (.cells #[.int .i64 3, .bool two, .int .i64 k, .int .i64 v] 30))
  generalize (w.alloc (.cells #[.pointer (some ⟨b, 0, none⟩), .pointer (some ⟨c, 0, none⟩)] 27)).alloc (.cells #[.int .i64 3, .bool two, .int .i64 k, .int .i64 v] 30) = w0 at K0 M0 ⊢
  generalize w.heap.size + 1 = ob at K0 ⊢
  generalize w.heap.size = sb at K0 ⊢
  have k0 : w0.cell? ⟨ob, 0, none⟩ = some (.int .i64 3) := K0.out.bo.2.1
  go_upto_region 8 with fail
  clear k0
  refine wp_region_held_drew (S := fun V' => Bo V' sb ob b c 3 two k v) (by kernel_rfl) K0.out.drew.bo (fun hHeld => ?_)
  have K1 : Hid (LU w0 o0 w0.drew o0 s sb ob b c N A H A H 3 two k v) := K0.out.drew
  generalize w0.drew = z0 at hHeld K1 ⊢
  clear K0
  refine wpAnyH_take (i := 0) (v := .pointer (some ⟨sb, 0, none⟩)) ov0 (by kernel_rfl) (by kernel_rfl) (by kernel_rfl) (fun _ _ _ h => h) (Or.inl ⟨by rfl, fun V' hS => ?_⟩) hHeld ?_
  · go_simp
  simp only [Act.put, List.setIfInBounds_toArray, List.set_cons_zero, List.set_cons_succ]
  refine wpAnyH_take (i := 1) (v := .pointer (some ⟨b, 0, none⟩)) ov1 (by kernel_rfl) (by kernel_rfl) (by kernel_rfl) (fun _ _ _ h => h) (Or.inl ⟨by rfl, fun V' hS => ?_⟩) hHeld ?_
  · obtain ⟨⟨q0, _⟩, _⟩ := hS
    go_simp
  simp only [Act.put, List.setIfInBounds_toArray, List.set_cons_zero, List.set_cons_succ]
  refine wpAnyH_take (i := 3) (v := .pointer (some ⟨sb, 1, none⟩)) ov3 (by kernel_rfl) (by kernel_rfl) (by kernel_rfl) (fun _ _ _ h => h) (Or.inl ⟨by rfl, fun V' hS => ?_⟩) hHeld ?_
  · go_simp
  simp only [Act.put, List.setIfInBounds_toArray, List.set_cons_zero, List.set_cons_succ]
  refine wpAnyH_take (i := 4) (v := .pointer (some ⟨c, 0, none⟩)) ov4 (by kernel_rfl) (by kernel_rfl) (by kernel_rfl) (fun _ _ _ h => h) (Or.inl ⟨by rfl, fun V' hS => ?_⟩) hHeld ?_
  · obtain ⟨⟨_, q0⟩, _⟩ := hS
    go_simp
  simp only [Act.put, List.setIfInBounds_toArray, List.set_cons_zero, List.set_cons_succ]
  refine wpAnyH_ready (rs := [2]) (by kernel_rfl) (by simp) ?_
  refine AllReadyH.cons ov2 (fun K hK => ?_) AllReadyH.nil
  rw [if_pos (by rfl)]
  go_simp
  refine (LU.markT K1.out HK.out.2.1 (by have := HK.out; omega)).mono ?_
  rintro e v1 ⟨rfl, o1, h1⟩
  rw [EE.out]
  have K2 : Hid (LU w0 o0 v1 o1 s sb ob b c (N + 1) A (H ++ [A]) A H 3 two k v) := h1
  clear h1
  (try go_wp2_with fail)
  refine hK.out _ _ K2.out.bo (fun _ => ?_)
  clear hK K
  (try simp only [Act.put, List.setIfInBounds_toArray, List.set_cons_zero, List.set_cons_succ])
  refine wpAnyH_ready (rs := [5]) (by kernel_rfl) (by simp) ?_
  refine AllReadyH.cons ov5 (fun K hK => ?_) AllReadyH.nil
  rw [if_pos (by rfl)]
  go_simp
  refine (LU.markR K2.out (by have := HK.out; omega)).mono ?_
  rintro e v2 ⟨rfl, o2, h1⟩
  rw [EE.out]
  have K3 : Hid (LU w0 o0 v2 o2 s sb ob b c (N + 1 + 1) A (H ++ [A]) A (H ++ [A]) 3 two k v) := h1
  clear h1
  (try go_wp2_with fail)
  refine hK.out _ _ K3.out.bo (fun _ => ?_)
  clear hK K
  (try simp only [Act.put, List.setIfInBounds_toArray, List.set_cons_zero, List.set_cons_succ])
  refine wpAnyH_take (i := 6) (v := .bool true) ov6 (by kernel_rfl) (by kernel_rfl) (by kernel_rfl) (fun _ _ _ h => h) (Or.inl ⟨by rfl, fun V' hS => ?_⟩) K3.out.bo ?_
  · go_simp
  simp only [Act.put, List.setIfInBounds_toArray, List.set_cons_zero, List.set_cons_succ]
  refine wpAnyH_take (i := 7) (v := .bool true) ov7 (by kernel_rfl) (by kernel_rfl) (by kernel_rfl) (fun _ _ _ h => h) (Or.inl ⟨by rfl, fun V' hS => ?_⟩) K3.out.bo ?_
  · go_simp
  simp only [Act.put, List.setIfInBounds_toArray, List.set_cons_zero, List.set_cons_succ]
  refine wpAnyH_done (by kernel_rfl) ?_ _
  go_wp2
  go_ret
  exact ⟨rfl, K3.out.after M0.out⟩
set_option maxHeartbeats 2000000 in
set_option maxRecDepth 100000 in
theorem moved4 (w : World) (ow : Nat → Nat) (s b c N : Nat) (A : List (Int × Int)) (H : List (List (Int × Int))) (h : SD w ow s b c N A H) (hs : 0 < s) (hN : N + 2 < 274877906944) (two : Bool) (k v : Int) (hk : I64 k) : Calls Try.prog 17 #[.agg #[.pointer (some ⟨b, 0, none⟩), .pointer (some ⟨c, 0, none⟩)], .agg #[.int .i64 4, .bool two, .int .i64 k, .int .i64 v]] w fun e w' => e = .returned (.bool true) ∧ ∃ ow', SD w' ow' s b c (N + 2) (bkA A H k) (bkH H k) ∧ Mo (Ps s) ow ow' w w' := by
  have HK : Hid (I64 k ∧ 0 < s ∧ N + 2 < 274877906944) := ⟨hk, hs, hN⟩
  obtain ⟨K0, M0⟩ := LU.start h 4 two k v
  generalize grow ow w.heap.size 0 = o0 at K0 M0
  replace K0 := hide K0
  replace M0 := hide M0
  obtain ⟨g, eg⟩ : ∃ g, g = bkE H k := ⟨_, rfl⟩
  have EE : Hid (bkE H k = g) := eg.symm
  clear eg
  clear h hk hs hN
  go_enter Try.func17, Try.ntmps17
  go_upto_region 1 with fail
  change Code.wp _ _ _ _ ((w.alloc (.cells #[.pointer (some ⟨b, 0, none⟩), .pointer (some ⟨c, 0, none⟩)] 27)).alloc (.cells #[.int .i64 4, .bool two, .int .i64 k, .int .i64 v] 30))
  generalize (w.alloc (.cells #[.pointer (some ⟨b, 0, none⟩), .pointer (some ⟨c, 0, none⟩)] 27)).alloc (.cells #[.int .i64 4, .bool two, .int .i64 k, .int .i64 v] 30) = w0 at K0 M0 ⊢
  generalize w.heap.size + 1 = ob at K0 ⊢
  generalize w.heap.size = sb at K0 ⊢
  have k0 : w0.cell? ⟨ob, 0, none⟩ = some (.int .i64 4) := K0.out.bo.2.1
  go_upto_region 10 with fail
  clear k0
  refine wp_region_held_drew (S := fun V' => Bo V' sb ob b c 4 two k v) (by kernel_rfl) K0.out.drew.bo (fun hHeld => ?_)
  have K1 : Hid (LU w0 o0 w0.drew o0 s sb ob b c N A H A H 4 two k v) := K0.out.drew
  generalize w0.drew = z0 at hHeld K1 ⊢
  clear K0
  refine wpAnyH_take (i := 0) (v := .pointer (some ⟨sb, 0, none⟩)) ov0 (by kernel_rfl) (by kernel_rfl) (by kernel_rfl) (fun _ _ _ h => h) (Or.inl ⟨by rfl, fun V' hS => ?_⟩) hHeld ?_
  · go_simp
  simp only [Act.put, List.setIfInBounds_toArray, List.set_cons_zero, List.set_cons_succ]
  refine wpAnyH_take (i := 1) (v := .pointer (some ⟨b, 0, none⟩)) ov1 (by kernel_rfl) (by kernel_rfl) (by kernel_rfl) (fun _ _ _ h => h) (Or.inl ⟨by rfl, fun V' hS => ?_⟩) hHeld ?_
  · obtain ⟨⟨q0, _⟩, _⟩ := hS
    go_simp
  simp only [Act.put, List.setIfInBounds_toArray, List.set_cons_zero, List.set_cons_succ]
  refine wpAnyH_take (i := 2) (v := .pointer (some ⟨ob, 2, none⟩)) ov2 (by kernel_rfl) (by kernel_rfl) (by kernel_rfl) (fun _ _ _ h => h) (Or.inl ⟨by rfl, fun V' hS => ?_⟩) hHeld ?_
  · go_simp
  simp only [Act.put, List.setIfInBounds_toArray, List.set_cons_zero, List.set_cons_succ]
  refine wpAnyH_take (i := 3) (v := .int .i64 k) ov3 (by kernel_rfl) (by kernel_rfl) (by kernel_rfl) (fun _ _ _ h => h) (Or.inl ⟨by rfl, fun V' hS => ?_⟩) hHeld ?_
  · obtain ⟨_, _, _, q0, _⟩ := hS
    go_simp
  simp only [Act.put, List.setIfInBounds_toArray, List.set_cons_zero, List.set_cons_succ]
  refine wpAnyH_take (i := 5) (v := .pointer (some ⟨sb, 1, none⟩)) ov5 (by kernel_rfl) (by kernel_rfl) (by kernel_rfl) (fun _ _ _ h => h) (Or.inl ⟨by rfl, fun V' hS => ?_⟩) hHeld ?_
  · go_simp
  simp only [Act.put, List.setIfInBounds_toArray, List.set_cons_zero, List.set_cons_succ]
  refine wpAnyH_take (i := 6) (v := .pointer (some ⟨c, 0, none⟩)) ov6 (by kernel_rfl) (by kernel_rfl) (by kernel_rfl) (fun _ _ _ h => h) (Or.inl ⟨by rfl, fun V' hS => ?_⟩) hHeld ?_
  · obtain ⟨⟨_, q0⟩, _⟩ := hS
    go_simp
  simp only [Act.put, List.setIfInBounds_toArray, List.set_cons_zero, List.set_cons_succ]
  refine wpAnyH_take (i := 7) (v := .pointer (some ⟨ob, 2, none⟩)) ov7 (by kernel_rfl) (by kernel_rfl) (by kernel_rfl) (fun _ _ _ h => h) (Or.inl ⟨by rfl, fun V' hS => ?_⟩) hHeld ?_
  · go_simp
  simp only [Act.put, List.setIfInBounds_toArray, List.set_cons_zero, List.set_cons_succ]
  refine wpAnyH_take (i := 8) (v := .int .i64 k) ov8 (by kernel_rfl) (by kernel_rfl) (by kernel_rfl) (fun _ _ _ h => h) (Or.inl ⟨by rfl, fun V' hS => ?_⟩) hHeld ?_
  · obtain ⟨_, _, _, q0, _⟩ := hS
    go_simp
  simp only [Act.put, List.setIfInBounds_toArray, List.set_cons_zero, List.set_cons_succ]
  refine wpAnyH_ready (rs := [4]) (by kernel_rfl) (by simp) ?_
  refine AllReadyH.cons ov4 (fun K hK => ?_) AllReadyH.nil
  rw [if_pos (by rfl)]
  go_simp
  refine (LU.backT K1.out HK.out.2.1 (by have := HK.out; omega)).mono ?_
  rintro e v1 ⟨rfl, o1, h1⟩
  rw [EE.out]
  have K2 : Hid (LU w0 o0 v1 o1 s sb ob b c (N + 1) (bkA A H k) (bkH H k) A H 4 two k v) := h1
  clear h1
  (try go_wp2_with fail)
  refine hK.out _ _ K2.out.bo (fun _ => ?_)
  clear hK K
  (try simp only [Act.put, List.setIfInBounds_toArray, List.set_cons_zero, List.set_cons_succ])
  refine wpAnyH_ready (rs := [9]) (by kernel_rfl) (by simp) ?_
  refine AllReadyH.cons ov9 (fun K hK => ?_) AllReadyH.nil
  rw [if_pos (by rfl)]
  go_simp
  refine (LU.backR K2.out ).mono ?_
  rintro e v2 ⟨rfl, o2, h1⟩
  rw [EE.out]
  have K3 : Hid (LU w0 o0 v2 o2 s sb ob b c (N + 1 + 1) (bkA A H k) (bkH H k) (bkA A H k) (bkH H k) 4 two k v) := h1
  clear h1
  (try go_wp2_with fail)
  refine hK.out _ _ K3.out.bo (fun _ => ?_)
  clear hK K
  (try simp only [Act.put, List.setIfInBounds_toArray, List.set_cons_zero, List.set_cons_succ])
  refine wpAnyH_take (i := 10) (v := .bool true) ov10 (by kernel_rfl) (by kernel_rfl) (by kernel_rfl) (fun _ _ _ h => h) (Or.inl ⟨by rfl, fun V' hS => ?_⟩) K3.out.bo ?_
  · go_simp
  simp only [Act.put, List.setIfInBounds_toArray, List.set_cons_zero, List.set_cons_succ]
  refine wpAnyH_take (i := 11) (v := .bool true) ov11 (by kernel_rfl) (by kernel_rfl) (by kernel_rfl) (fun _ _ _ h => h) (Or.inl ⟨by rfl, fun V' hS => ?_⟩) K3.out.bo ?_
  · go_simp
  simp only [Act.put, List.setIfInBounds_toArray, List.set_cons_zero, List.set_cons_succ]
  refine wpAnyH_done (by kernel_rfl) ?_ _
  go_wp2
  go_ret
  exact ⟨rfl, K3.out.after M0.out⟩
set_option maxHeartbeats 2000000 in
set_option maxRecDepth 100000 in
theorem moved5 (w : World) (ow : Nat → Nat) (s b c N : Nat) (A : List (Int × Int)) (H : List (List (Int × Int))) (h : SD w ow s b c N A H) (hs : 0 < s) (hN : N + 2 < 274877906944) (two : Bool) (k v : Int) (hk : I64 k) : Calls Try.prog 17 #[.agg #[.pointer (some ⟨b, 0, none⟩), .pointer (some ⟨c, 0, none⟩)], .agg #[.int .i64 5, .bool two, .int .i64 k, .int .i64 v]] w fun e w' => e = .returned (.bool true) ∧ ∃ ow', SD w' ow' s b c (N + 2) A (bkH H k) ∧ Mo (Ps s) ow ow' w w' := by
  have HK : Hid (I64 k ∧ 0 < s ∧ N + 2 < 274877906944) := ⟨hk, hs, hN⟩
  obtain ⟨K0, M0⟩ := LU.start h 5 two k v
  generalize grow ow w.heap.size 0 = o0 at K0 M0
  replace K0 := hide K0
  replace M0 := hide M0
  obtain ⟨g, eg⟩ : ∃ g, g = bkE H k := ⟨_, rfl⟩
  have EE : Hid (bkE H k = g) := eg.symm
  clear eg
  clear h hk hs hN
  go_enter Try.func17, Try.ntmps17
  go_upto_region 1 with fail
  change Code.wp _ _ _ _ ((w.alloc (.cells #[.pointer (some ⟨b, 0, none⟩), .pointer (some ⟨c, 0, none⟩)] 27)).alloc (.cells #[.int .i64 5, .bool two, .int .i64 k, .int .i64 v] 30))
  generalize (w.alloc (.cells #[.pointer (some ⟨b, 0, none⟩), .pointer (some ⟨c, 0, none⟩)] 27)).alloc (.cells #[.int .i64 5, .bool two, .int .i64 k, .int .i64 v] 30) = w0 at K0 M0 ⊢
  generalize w.heap.size + 1 = ob at K0 ⊢
  generalize w.heap.size = sb at K0 ⊢
  have k0 : w0.cell? ⟨ob, 0, none⟩ = some (.int .i64 5) := K0.out.bo.2.1
  go_upto_region 12 with fail
  clear k0
  refine wp_region_held_drew (S := fun V' => Bo V' sb ob b c 5 two k v) (by kernel_rfl) K0.out.drew.bo (fun hHeld => ?_)
  have K1 : Hid (LU w0 o0 w0.drew o0 s sb ob b c N A H A H 5 two k v) := K0.out.drew
  generalize w0.drew = z0 at hHeld K1 ⊢
  clear K0
  refine wpAnyH_take (i := 0) (v := .pointer (some ⟨sb, 0, none⟩)) ov0 (by kernel_rfl) (by kernel_rfl) (by kernel_rfl) (fun _ _ _ h => h) (Or.inl ⟨by rfl, fun V' hS => ?_⟩) hHeld ?_
  · go_simp
  simp only [Act.put, List.setIfInBounds_toArray, List.set_cons_zero, List.set_cons_succ]
  refine wpAnyH_take (i := 1) (v := .pointer (some ⟨b, 0, none⟩)) ov1 (by kernel_rfl) (by kernel_rfl) (by kernel_rfl) (fun _ _ _ h => h) (Or.inl ⟨by rfl, fun V' hS => ?_⟩) hHeld ?_
  · obtain ⟨⟨q0, _⟩, _⟩ := hS
    go_simp
  simp only [Act.put, List.setIfInBounds_toArray, List.set_cons_zero, List.set_cons_succ]
  refine wpAnyH_take (i := 2) (v := .pointer (some ⟨ob, 2, none⟩)) ov2 (by kernel_rfl) (by kernel_rfl) (by kernel_rfl) (fun _ _ _ h => h) (Or.inl ⟨by rfl, fun V' hS => ?_⟩) hHeld ?_
  · go_simp
  simp only [Act.put, List.setIfInBounds_toArray, List.set_cons_zero, List.set_cons_succ]
  refine wpAnyH_take (i := 3) (v := .int .i64 k) ov3 (by kernel_rfl) (by kernel_rfl) (by kernel_rfl) (fun _ _ _ h => h) (Or.inl ⟨by rfl, fun V' hS => ?_⟩) hHeld ?_
  · obtain ⟨_, _, _, q0, _⟩ := hS
    go_simp
  simp only [Act.put, List.setIfInBounds_toArray, List.set_cons_zero, List.set_cons_succ]
  refine wpAnyH_take (i := 5) (v := .pointer (some ⟨sb, 1, none⟩)) ov5 (by kernel_rfl) (by kernel_rfl) (by kernel_rfl) (fun _ _ _ h => h) (Or.inl ⟨by rfl, fun V' hS => ?_⟩) hHeld ?_
  · go_simp
  simp only [Act.put, List.setIfInBounds_toArray, List.set_cons_zero, List.set_cons_succ]
  refine wpAnyH_take (i := 6) (v := .pointer (some ⟨c, 0, none⟩)) ov6 (by kernel_rfl) (by kernel_rfl) (by kernel_rfl) (fun _ _ _ h => h) (Or.inl ⟨by rfl, fun V' hS => ?_⟩) hHeld ?_
  · obtain ⟨⟨_, q0⟩, _⟩ := hS
    go_simp
  simp only [Act.put, List.setIfInBounds_toArray, List.set_cons_zero, List.set_cons_succ]
  refine wpAnyH_take (i := 7) (v := .pointer (some ⟨ob, 2, none⟩)) ov7 (by kernel_rfl) (by kernel_rfl) (by kernel_rfl) (fun _ _ _ h => h) (Or.inl ⟨by rfl, fun V' hS => ?_⟩) hHeld ?_
  · go_simp
  simp only [Act.put, List.setIfInBounds_toArray, List.set_cons_zero, List.set_cons_succ]
  refine wpAnyH_take (i := 8) (v := .int .i64 k) ov8 (by kernel_rfl) (by kernel_rfl) (by kernel_rfl) (fun _ _ _ h => h) (Or.inl ⟨by rfl, fun V' hS => ?_⟩) hHeld ?_
  · obtain ⟨_, _, _, q0, _⟩ := hS
    go_simp
  simp only [Act.put, List.setIfInBounds_toArray, List.set_cons_zero, List.set_cons_succ]
  refine wpAnyH_ready (rs := [4]) (by kernel_rfl) (by simp) ?_
  refine AllReadyH.cons ov4 (fun K hK => ?_) AllReadyH.nil
  rw [if_pos (by rfl)]
  go_simp
  refine (LU.forgetT K1.out HK.out.2.1 (by have := HK.out; omega)).mono ?_
  rintro e v1 ⟨rfl, o1, h1⟩
  rw [EE.out]
  have K2 : Hid (LU w0 o0 v1 o1 s sb ob b c (N + 1) A (bkH H k) A H 5 two k v) := h1
  clear h1
  (try go_wp2_with fail)
  refine hK.out _ _ K2.out.bo (fun _ => ?_)
  clear hK K
  (try simp only [Act.put, List.setIfInBounds_toArray, List.set_cons_zero, List.set_cons_succ])
  refine wpAnyH_ready (rs := [9]) (by kernel_rfl) (by simp) ?_
  refine AllReadyH.cons ov9 (fun K hK => ?_) AllReadyH.nil
  rw [if_pos (by rfl)]
  go_simp
  refine (LU.forgetR K2.out ).mono ?_
  rintro e v2 ⟨rfl, o2, h1⟩
  rw [EE.out]
  have K3 : Hid (LU w0 o0 v2 o2 s sb ob b c (N + 1 + 1) A (bkH H k) A (bkH H k) 5 two k v) := h1
  clear h1
  (try go_wp2_with fail)
  refine hK.out _ _ K3.out.bo (fun _ => ?_)
  clear hK K
  (try simp only [Act.put, List.setIfInBounds_toArray, List.set_cons_zero, List.set_cons_succ])
  refine wpAnyH_take (i := 10) (v := .bool true) ov10 (by kernel_rfl) (by kernel_rfl) (by kernel_rfl) (fun _ _ _ h => h) (Or.inl ⟨by rfl, fun V' hS => ?_⟩) K3.out.bo ?_
  · go_simp
  simp only [Act.put, List.setIfInBounds_toArray, List.set_cons_zero, List.set_cons_succ]
  refine wpAnyH_take (i := 11) (v := .bool true) ov11 (by kernel_rfl) (by kernel_rfl) (by kernel_rfl) (fun _ _ _ h => h) (Or.inl ⟨by rfl, fun V' hS => ?_⟩) K3.out.bo ?_
  · go_simp
  simp only [Act.put, List.setIfInBounds_toArray, List.set_cons_zero, List.set_cons_succ]
  refine wpAnyH_done (by kernel_rfl) ?_ _
  go_wp2
  go_ret
  exact ⟨rfl, K3.out.after M0.out⟩
set_option maxHeartbeats 2000000 in
set_option maxRecDepth 100000 in
theorem moved0 (w : World) (ow : Nat → Nat) (s b c N : Nat) (A : List (Int × Int)) (H : List (List (Int × Int))) (h : SD w ow s b c N A H) (hs : 0 < s) (hN : N + 2 < 274877906944) (kd : Int) (h1 : ¬ kd = 1) (h2 : ¬ kd = 2) (h3 : ¬ kd = 3) (h4 : ¬ kd = 4) (h5 : ¬ kd = 5) (two : Bool) (k v : Int) (hk : I64 k) : Calls Try.prog 17 #[.agg #[.pointer (some ⟨b, 0, none⟩), .pointer (some ⟨c, 0, none⟩)], .agg #[.int .i64 kd, .bool two, .int .i64 k, .int .i64 v]] w fun e w' => e = .returned (.bool true) ∧ ∃ ow', SD w' ow' s b c (N + 2) A H ∧ Mo (Ps s) ow ow' w w' := by
  have HK : Hid (I64 k ∧ 0 < s ∧ N + 2 < 274877906944) := ⟨hk, hs, hN⟩
  obtain ⟨K0, M0⟩ := LU.start h kd two k v
  generalize grow ow w.heap.size 0 = o0 at K0 M0
  replace K0 := hide K0
  replace M0 := hide M0
  clear h hk hs hN
  go_enter Try.func17, Try.ntmps17
  go_upto_region 1 with fail
  change Code.wp _ _ _ _ ((w.alloc (.cells #[.pointer (some ⟨b, 0, none⟩), .pointer (some ⟨c, 0, none⟩)] 27)).alloc (.cells #[.int .i64 kd, .bool two, .int .i64 k, .int .i64 v] 30))
  generalize (w.alloc (.cells #[.pointer (some ⟨b, 0, none⟩), .pointer (some ⟨c, 0, none⟩)] 27)).alloc (.cells #[.int .i64 kd, .bool two, .int .i64 k, .int .i64 v] 30) = w0 at K0 M0 ⊢
  generalize w.heap.size + 1 = ob at K0 ⊢
  generalize w.heap.size = sb at K0 ⊢
  have k0 : w0.cell? ⟨ob, 0, none⟩ = some (.int .i64 kd) := K0.out.bo.2.1
  go_wp2
  go_ret
  obtain ⟨o2, q1, q2⟩ := K0.out.after M0.out
  exact ⟨rfl, o2, q1.mono (by omega), q2⟩
end Go.Proofs.Ytohfkgfjcnldaaa
