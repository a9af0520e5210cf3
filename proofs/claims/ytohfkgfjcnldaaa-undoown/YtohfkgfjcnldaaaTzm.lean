/- asked, step. -/
import Derived.Test.YtohfkgfjcnldaaaTzl
import Derived.Test.YtohfkgfjcnldaaaTzk
namespace Go.Proofs.Ytohfkgfjcnldaaa
open Go.RowKit Go.Shelf
theorem T1.i64 {w : World} {ow : Nat → Nat} {i b N : Nat} {A : List (Int × Int)} {H : List (List (Int × Int))} (h : T1 w ow i b N A H) (p : Int × Int) (hp : p ∈ A) : I64 p.1 := by
  obtain ⟨⟨S, L, V, M, ⟨pm, ra, rc, ba, bc, ma, mc, m, ht, rfl, hV⟩, _, _, rfl, _⟩, _⟩ := h
  exact ht.keys p ((srt_perm L).mem_iff.1 hp)
theorem keys1 (w : World) (ow : Nat → Nat) (i b N : Nat) (A : List (Int × Int)) (H : List (List (Int × Int))) (h : T1 w ow i b N A H) (hN : N < 549755813888) : Calls Try.prog 49 #[.pointer (some ⟨b, 0, none⟩), .func (.func 54) #[] #[]] w fun e w' => e = .returned (.slice (some ⟨w.heap.size, 0, none⟩) A.length A.length) ∧ CBox w' w.heap.size 3 (intsD (A.map Prod.fst)) ∧ Below w.heap.size w w' := by
  obtain ⟨⟨S, L, V, M, ⟨pm, ra, rc, ba, bc, ma, mc, m, ht, rfl, hV⟩, h2, h3, rfl, rfl, h6, h7, h8⟩, lA, lH, lO⟩ := h
  rw [srt_len] at lA
  rw [srt_len, ← srt_keys]
  exact keys_is w b pm ra rc ba bc ma mc m L _ M ht (by omega)
theorem plc_at {A : List (Int × Int)} (h : Ris A) {i : Nat} (hi : i < A.length) : plc A (atL A i).1 = i := by
  have h1 : ¬ i < plc A (atL A i).1 := fun e => absurd (plc_lt A _ i e) (by omega)
  have h2 : ¬ plc A (atL A i).1 < i := fun e => by
    have h3 := plc_ge A (atL A i).1 (by omega)
    apply h3
    have := List.pairwise_iff_getElem.1 h (plc A (atL A i).1) i (by omega) hi e
    have e1 := atL_get (L := A) (i := plc A (atL A i).1) (by omega)
    have e2 := atL_get hi
    rw [List.getElem?_eq_some_iff] at e1 e2
    obtain ⟨_, e1⟩ := e1
    obtain ⟨_, e2⟩ := e2
    rw [e1, e2] at this
    exact this
  omega
theorem getR_at {A : List (Int × Int)} (h : Ris A) {i : Nat} (hi : i < A.length) : getR A (atL A i).1 = some (atL A i).2 := by
  unfold getR
  rw [plc_at h hi, if_pos ⟨hi, rfl⟩]
/-- keys that were written over, up to the i-th -/
def ovK (l : List Int) (i : Nat) : List Int := List.replicate i (-7) ++ l.drop i
theorem ovK_at {l : List Int} {i : Nat} (h : i < l.length) : (intsD (ovK l i))[i]? = some (.int .i64 (l[i]?.getD 0)) := by
  unfold intsD ovK
  rw [List.getElem?_map, List.getElem?_append_right (by simp), List.length_replicate, Nat.sub_self, List.getElem?_drop, Nat.add_zero, List.getElem?_eq_getElem h]
  rfl
theorem ovK_set {l : List Int} {i : Nat} (h : i < l.length) : (intsD (ovK l i)).set i (.int .i64 (-7)) = intsD (ovK l (i + 1)) := by
  unfold intsD ovK
  rw [← List.map_set, List.set_append_right (h := by simp), List.length_replicate, Nat.sub_self, List.drop_eq_getElem_cons h, List.set_cons_zero, List.replicate_succ', List.append_assoc]
  rfl
set_option maxHeartbeats 2000000 in
set_option maxRecDepth 100000 in
theorem asked6 (w : World) (ow : Nat → Nat) (s b c N : Nat) (A : List (Int × Int)) (H : List (List (Int × Int))) (h : SD w ow s b c N A H) (hN : N + 2 < 274877906944) (two : Bool) (k v : Int) (hk : I64 k) : Calls Try.prog 56 #[.agg #[.pointer (some ⟨b, 0, none⟩), .pointer (some ⟨c, 0, none⟩)], .agg #[.int .i64 6, .bool two, .int .i64 k, .int .i64 v]] w fun e w' => e = .returned (.bool true) ∧ Below w.heap.size w w' := by
  have HK : Hid (I64 k ∧ N + 2 < 274877906944) := ⟨hk, hN⟩
  have B0 : Hid (Below w.heap.size w ((w.alloc (.cells #[.pointer (some ⟨b, 0, none⟩), .pointer (some ⟨c, 0, none⟩)] 27)).alloc (.cells #[.int .i64 6, .bool two, .int .i64 k, .int .i64 v] 30))) := ((Below.refl _ w).alloc (Nat.le_refl _) _).alloc (by simp) _
  obtain ⟨K0, _⟩ := LU.start h 6 two k v
  have HR : Hid (Ris A ∧ (∀ p ∈ A, I64 p.1) ∧ A.length ≤ N ∧ ¬ (w.heap.size = w.heap.size + 1)) := ⟨h.t.ris, h.t.i64, h.t.lA, by omega⟩
  generalize grow ow w.heap.size 0 = o0 at K0
  replace K0 := hide K0
  clear h hk hN
  go_enter Try.func56, Try.ntmps56
  go_upto_region 1 with fail
  change Code.wp _ _ _ _ ((w.alloc (.cells #[.pointer (some ⟨b, 0, none⟩), .pointer (some ⟨c, 0, none⟩)] 27)).alloc (.cells #[.int .i64 6, .bool two, .int .i64 k, .int .i64 v] 30))
  generalize (w.alloc (.cells #[.pointer (some ⟨b, 0, none⟩), .pointer (some ⟨c, 0, none⟩)] 27)).alloc (.cells #[.int .i64 6, .bool two, .int .i64 k, .int .i64 v] 30) = w0 at K0 B0 ⊢
  generalize w.heap.size + 1 = ob at K0 HR ⊢
  obtain ⟨sb, eb⟩ : ∃ sb, sb = w.heap.size := ⟨_, rfl⟩
  rw [← eb] at K0 HR ⊢
  have EB : Hid (sb = w.heap.size) := eb
  clear eb
  obtain ⟨⟨p0, p1⟩, k0, k1, k2, k3⟩ := K0.out.bo
  go_upto_region 2 with (go_at_call 33; refine (pairs1 w0 o0 (2 * s + 1) c N A H K0.out.r (by have := HK.out; omega)).mono ?_; rintro e v1 ⟨lv, rfl, hp, hB, hn⟩)
  obtain ⟨la, lc, rfl⟩ := hp.form
  have K1 : Hid (LU w0 o0 v1 (grow o0 w0.heap.size 0) s sb ob b c N A H A H 6 two k v) := K0.out.past hB
  have P1 : Hid (PrL v1 (.slice la A.length lc) A) := hp
  have B1 : Hid (Below w0.heap.size w0 v1) := hB
  clear hp hB hn
  clear p0 p1 k0 k1 k2 k3
  generalize grow o0 w0.heap.size 0 = o1 at K1
  obtain ⟨n, en⟩ : ∃ n, A.length = n := ⟨_, rfl⟩
  rw [en] at P1 HR ⊢
  have EN : Hid (A.length = n) := en
  clear en
  obtain ⟨⟨p0, p1⟩, k0, k1, k2, k3⟩ := K1.out.bo
  obtain ⟨gv, ev⟩ : ∃ gv, gv = (getR A k).getD 0 := ⟨_, rfl⟩
  obtain ⟨gb, eb⟩ : ∃ gb, gb = (getR A k).isSome := ⟨_, rfl⟩
  have GT : Hid (Calls Try.prog 44 #[.pointer (some ⟨b, 0, none⟩), .int .i64 k] v1 fun e w' => e = .returned (.tuple #[.int .i64 gv, .bool gb]) ∧ w' = v1) := by rw [ev, eb]; exact get1 v1 o1 (2 * s) b N A H K1.out.t k HK.out.1 (by have := HK.out; omega)
  have GR : Hid (Calls Try.prog 32 #[.pointer (some ⟨c, 0, none⟩), .int .i64 k] v1 fun e w' => e = .returned (.tuple #[.int .i64 gv, .bool gb]) ∧ w' = v1) := by rw [ev, eb]; exact getR1 v1 o1 (2 * s + 1) c N A H K1.out.r k (by have := HK.out; omega)
  clear ev eb
  go_wp2_with (first | (go_at_call 44; refine (GT.out).mono ?_; rintro e w' ⟨rfl, hw⟩; (have hw2 := hw.symm); clear hw; subst hw2) | (go_at_call 32; refine (GR.out).mono ?_; rintro e w' ⟨rfl, hw⟩; (have hw2 := hw.symm); clear hw; subst hw2))
  go_ret
  rw [← EB.out]
  exact ⟨rfl, (by rw [EB.out]; exact B0.out.trans (B1.out.mono B0.out.size))⟩
set_option maxHeartbeats 2000000 in
set_option maxRecDepth 100000 in
theorem asked8 (w : World) (ow : Nat → Nat) (s b c N : Nat) (A : List (Int × Int)) (H : List (List (Int × Int))) (h : SD w ow s b c N A H) (hN : N + 2 < 274877906944) (two : Bool) (k v : Int) (hk : I64 k) : Calls Try.prog 56 #[.agg #[.pointer (some ⟨b, 0, none⟩), .pointer (some ⟨c, 0, none⟩)], .agg #[.int .i64 8, .bool two, .int .i64 k, .int .i64 v]] w fun e w' => e = .returned (.bool true) ∧ Below w.heap.size w w' := by
  have HK : Hid (I64 k ∧ N + 2 < 274877906944) := ⟨hk, hN⟩
  have B0 : Hid (Below w.heap.size w ((w.alloc (.cells #[.pointer (some ⟨b, 0, none⟩), .pointer (some ⟨c, 0, none⟩)] 27)).alloc (.cells #[.int .i64 8, .bool two, .int .i64 k, .int .i64 v] 30))) := ((Below.refl _ w).alloc (Nat.le_refl _) _).alloc (by simp) _
  obtain ⟨K0, _⟩ := LU.start h 8 two k v
  have HR : Hid (Ris A ∧ (∀ p ∈ A, I64 p.1) ∧ A.length ≤ N ∧ ¬ (w.heap.size = w.heap.size + 1)) := ⟨h.t.ris, h.t.i64, h.t.lA, by omega⟩
  generalize grow ow w.heap.size 0 = o0 at K0
  replace K0 := hide K0
  clear h hk hN
  go_enter Try.func56, Try.ntmps56
  go_upto_region 1 with fail
  change Code.wp _ _ _ _ ((w.alloc (.cells #[.pointer (some ⟨b, 0, none⟩), .pointer (some ⟨c, 0, none⟩)] 27)).alloc (.cells #[.int .i64 8, .bool two, .int .i64 k, .int .i64 v] 30))
  generalize (w.alloc (.cells #[.pointer (some ⟨b, 0, none⟩), .pointer (some ⟨c, 0, none⟩)] 27)).alloc (.cells #[.int .i64 8, .bool two, .int .i64 k, .int .i64 v] 30) = w0 at K0 B0 ⊢
  generalize w.heap.size + 1 = ob at K0 HR ⊢
  obtain ⟨sb, eb⟩ : ∃ sb, sb = w.heap.size := ⟨_, rfl⟩
  rw [← eb] at K0 HR ⊢
  have EB : Hid (sb = w.heap.size) := eb
  clear eb
  obtain ⟨⟨p0, p1⟩, k0, k1, k2, k3⟩ := K0.out.bo
  go_upto_region 2 with (go_at_call 33; refine (pairs1 w0 o0 (2 * s + 1) c N A H K0.out.r (by have := HK.out; omega)).mono ?_; rintro e v1 ⟨lv, rfl, hp, hB, hn⟩)
  obtain ⟨la, lc, rfl⟩ := hp.form
  have K1 : Hid (LU w0 o0 v1 (grow o0 w0.heap.size 0) s sb ob b c N A H A H 8 two k v) := K0.out.past hB
  have P1 : Hid (PrL v1 (.slice la A.length lc) A) := hp
  have B1 : Hid (Below w0.heap.size w0 v1) := hB
  clear hp hB hn
  clear p0 p1 k0 k1 k2 k3
  generalize grow o0 w0.heap.size 0 = o1 at K1
  obtain ⟨n, en⟩ : ∃ n, A.length = n := ⟨_, rfl⟩
  rw [en] at P1 HR ⊢
  have EN : Hid (A.length = n) := en
  clear en
  have k0 : v1.cell? ⟨ob, 0, none⟩ = some (.int .i64 8) := K1.out.bo.2.1
  go_upto_region 8 with fail
  clear k0
  obtain ⟨g, eg⟩ : ∃ g, g = (H.length : Int) := ⟨_, rfl⟩
  have EG : Hid ((H.length : Int) = g) := eg.symm
  clear eg
  refine wp_region_held_drew (S := fun V' => Bo V' sb ob b c 8 two k v) (by kernel_rfl) K1.out.drew.bo (fun hHeld => ?_)
  have K2 : Hid (LU w0 o0 v1.drew o1 s sb ob b c N A H A H 8 two k v) := K1.out.drew
  have B2 : Hid (Below w0.heap.size w0 v1.drew) := B1.out.drew
  generalize v1.drew = z0 at hHeld K2 B2 ⊢
  clear K1 B1
  refine wpAnyH_take (i := 0) (v := .pointer (some ⟨sb, 0, none⟩)) ov0 (by kernel_rfl) (by kernel_rfl) (by kernel_rfl) (fun _ _ _ h => h) (Or.inl ⟨by rfl, fun V' hS => ?_⟩) hHeld ?_
  · go_simp
  simp only [Act.put, List.setIfInBounds_toArray, List.set_cons_zero, List.set_cons_succ]
  refine wpAnyH_take (i := 1) (v := .pointer (some ⟨b, 0, none⟩)) ov1 (by kernel_rfl) (by kernel_rfl) (by kernel_rfl) (fun _ _ _ h => h) (Or.inl ⟨by rfl, fun V' hS => ?_⟩) hHeld ?_
  · obtain ⟨⟨q0, _⟩, _⟩ := hS
    go_simp
  simp only [Act.put, List.setIfInBounds_toArray, List.set_cons_zero, List.set_cons_succ]
  refine wpAnyH_take (i := 3) (v := .slice la n lc) ov3 (by kernel_rfl) (by kernel_rfl) (by kernel_rfl) (fun _ _ _ h => h) (Or.inl ⟨by rfl, fun V' hS => ?_⟩) hHeld ?_
  · go_simp
  simp only [Act.put, List.setIfInBounds_toArray, List.set_cons_zero, List.set_cons_succ]
  refine wpAnyH_take (i := 4) (v := .int .i64 (n : Int)) ov4 (by kernel_rfl) (by kernel_rfl) (by kernel_rfl) (fun _ _ _ h => h) (Or.inl ⟨by rfl, fun V' hS => ?_⟩) hHeld ?_
  · go_simp
  simp only [Act.put, List.setIfInBounds_toArray, List.set_cons_zero, List.set_cons_succ]
  refine wpAnyH_ready (rs := [2]) (by kernel_rfl) (by simp) ?_
  refine AllReadyH.cons ov2 (fun K hK => ?_) AllReadyH.nil
  rw [if_pos (by rfl)]
  go_simp
  refine (len1 z0 o1 (2 * s) b N A H K2.out.t).mono ?_
  rintro e w' ⟨rfl, hw⟩
  have hw2 := hw.symm
  clear hw
  subst hw2
  rw [EN.out]
  (try go_wp2_with fail)
  refine hK.out _ _ hHeld (fun _ => ?_)
  clear hK K
  (try simp only [Act.put, List.setIfInBounds_toArray, List.set_cons_zero, List.set_cons_succ])
  refine wpAnyH_take (i := 5) (v := .bool true) ov5 (by kernel_rfl) (by kernel_rfl) (by kernel_rfl) (fun _ _ _ h => h) (Or.inl ⟨by rfl, fun V' hS => ?_⟩) hHeld ?_
  · go_simp
  simp only [Act.put, List.setIfInBounds_toArray, List.set_cons_zero, List.set_cons_succ]
  refine wpAnyH_take (i := 6) (v := .bool true) ov6 (by kernel_rfl) (by kernel_rfl) (by kernel_rfl) (fun _ _ _ h => h) (Or.inl ⟨by rfl, fun V' hS => ?_⟩) hHeld ?_
  · go_simp
  simp only [Act.put, List.setIfInBounds_toArray, List.set_cons_zero, List.set_cons_succ]
  refine wpAnyH_take (i := 7) (v := .pointer (some ⟨sb, 0, none⟩)) ov7 (by kernel_rfl) (by kernel_rfl) (by kernel_rfl) (fun _ _ _ h => h) (Or.inl ⟨by rfl, fun V' hS => ?_⟩) hHeld ?_
  · go_simp
  simp only [Act.put, List.setIfInBounds_toArray, List.set_cons_zero, List.set_cons_succ]
  refine wpAnyH_take (i := 8) (v := .pointer (some ⟨b, 0, none⟩)) ov8 (by kernel_rfl) (by kernel_rfl) (by kernel_rfl) (fun _ _ _ h => h) (Or.inl ⟨by rfl, fun V' hS => ?_⟩) hHeld ?_
  · obtain ⟨⟨q0, _⟩, _⟩ := hS
    go_simp
  simp only [Act.put, List.setIfInBounds_toArray, List.set_cons_zero, List.set_cons_succ]
  refine wpAnyH_take (i := 10) (v := .pointer (some ⟨sb, 1, none⟩)) ov10 (by kernel_rfl) (by kernel_rfl) (by kernel_rfl) (fun _ _ _ h => h) (Or.inl ⟨by rfl, fun V' hS => ?_⟩) hHeld ?_
  · go_simp
  simp only [Act.put, List.setIfInBounds_toArray, List.set_cons_zero, List.set_cons_succ]
  refine wpAnyH_take (i := 11) (v := .pointer (some ⟨c, 0, none⟩)) ov11 (by kernel_rfl) (by kernel_rfl) (by kernel_rfl) (fun _ _ _ h => h) (Or.inl ⟨by rfl, fun V' hS => ?_⟩) hHeld ?_
  · obtain ⟨⟨_, q0⟩, _⟩ := hS
    go_simp
  simp only [Act.put, List.setIfInBounds_toArray, List.set_cons_zero, List.set_cons_succ]
  refine wpAnyH_ready (rs := [9]) (by kernel_rfl) (by simp) ?_
  refine AllReadyH.cons ov9 (fun K hK => ?_) AllReadyH.nil
  rw [if_pos (by rfl)]
  go_simp
  refine (marks1 z0 o1 (2 * s) b N A H K2.out.t).mono ?_
  rintro e w' ⟨rfl, hw⟩
  have hw2 := hw.symm
  clear hw
  subst hw2
  rw [EG.out]
  (try go_wp2_with fail)
  refine hK.out _ _ hHeld (fun _ => ?_)
  clear hK K
  (try simp only [Act.put, List.setIfInBounds_toArray, List.set_cons_zero, List.set_cons_succ])
  refine wpAnyH_ready (rs := [12]) (by kernel_rfl) (by simp) ?_
  refine AllReadyH.cons ov12 (fun K hK => ?_) AllReadyH.nil
  rw [if_pos (by rfl)]
  go_simp
  refine (marksR1 z0 o1 (2 * s + 1) c N A H K2.out.r).mono ?_
  rintro e w' ⟨rfl, hw⟩
  have hw2 := hw.symm
  clear hw
  subst hw2
  rw [EG.out]
  (try go_wp2_with fail)
  refine hK.out _ _ hHeld (fun _ => ?_)
  clear hK K
  (try simp only [Act.put, List.setIfInBounds_toArray, List.set_cons_zero, List.set_cons_succ])
  refine wpAnyH_take (i := 13) (v := .bool true) ov13 (by kernel_rfl) (by kernel_rfl) (by kernel_rfl) (fun _ _ _ h => h) (Or.inl ⟨by rfl, fun V' hS => ?_⟩) hHeld ?_
  · go_simp
  simp only [Act.put, List.setIfInBounds_toArray, List.set_cons_zero, List.set_cons_succ]
  refine wpAnyH_take (i := 14) (v := .bool true) ov14 (by kernel_rfl) (by kernel_rfl) (by kernel_rfl) (fun _ _ _ h => h) (Or.inl ⟨by rfl, fun V' hS => ?_⟩) hHeld ?_
  · go_simp
  simp only [Act.put, List.setIfInBounds_toArray, List.set_cons_zero, List.set_cons_succ]
  refine wpAnyH_take (i := 15) (v := .bool true) ov15 (by kernel_rfl) (by kernel_rfl) (by kernel_rfl) (fun _ _ _ h => h) (Or.inl ⟨by rfl, fun V' hS => ?_⟩) hHeld ?_
  · go_simp
  simp only [Act.put, List.setIfInBounds_toArray, List.set_cons_zero, List.set_cons_succ]
  refine wpAnyH_done (by kernel_rfl) ?_ _
  go_wp2
  go_ret
  rw [← EB.out]
  exact ⟨rfl, (by rw [EB.out]; exact B0.out.trans (B2.out.mono B0.out.size))⟩
set_option maxHeartbeats 2000000 in
set_option maxRecDepth 100000 in
theorem asked0 (w : World) (ow : Nat → Nat) (s b c N : Nat) (A : List (Int × Int)) (H : List (List (Int × Int))) (h : SD w ow s b c N A H) (hN : N + 2 < 274877906944) (kd : Int) (h1 : ¬ kd = 6) (h2 : ¬ kd = 7) (h3 : ¬ kd = 8) (two : Bool) (k v : Int) (hk : I64 k) : Calls Try.prog 56 #[.agg #[.pointer (some ⟨b, 0, none⟩), .pointer (some ⟨c, 0, none⟩)], .agg #[.int .i64 kd, .bool two, .int .i64 k, .int .i64 v]] w fun e w' => e = .returned (.bool true) ∧ Below w.heap.size w w' := by
  have HK : Hid (I64 k ∧ N + 2 < 274877906944) := ⟨hk, hN⟩
  have B0 : Hid (Below w.heap.size w ((w.alloc (.cells #[.pointer (some ⟨b, 0, none⟩), .pointer (some ⟨c, 0, none⟩)] 27)).alloc (.cells #[.int .i64 kd, .bool two, .int .i64 k, .int .i64 v] 30))) := ((Below.refl _ w).alloc (Nat.le_refl _) _).alloc (by simp) _
  obtain ⟨K0, _⟩ := LU.start h kd two k v
  have HR : Hid (Ris A ∧ (∀ p ∈ A, I64 p.1) ∧ A.length ≤ N ∧ ¬ (w.heap.size = w.heap.size + 1)) := ⟨h.t.ris, h.t.i64, h.t.lA, by omega⟩
  generalize grow ow w.heap.size 0 = o0 at K0
  replace K0 := hide K0
  clear h hk hN
  go_enter Try.func56, Try.ntmps56
  go_upto_region 1 with fail
  change Code.wp _ _ _ _ ((w.alloc (.cells #[.pointer (some ⟨b, 0, none⟩), .pointer (some ⟨c, 0, none⟩)] 27)).alloc (.cells #[.int .i64 kd, .bool two, .int .i64 k, .int .i64 v] 30))
  generalize (w.alloc (.cells #[.pointer (some ⟨b, 0, none⟩), .pointer (some ⟨c, 0, none⟩)] 27)).alloc (.cells #[.int .i64 kd, .bool two, .int .i64 k, .int .i64 v] 30) = w0 at K0 B0 ⊢
  generalize w.heap.size + 1 = ob at K0 HR ⊢
  obtain ⟨sb, eb⟩ : ∃ sb, sb = w.heap.size := ⟨_, rfl⟩
  rw [← eb] at K0 HR ⊢
  have EB : Hid (sb = w.heap.size) := eb
  clear eb
  obtain ⟨⟨p0, p1⟩, k0, k1, k2, k3⟩ := K0.out.bo
  go_upto_region 2 with (go_at_call 33; refine (pairs1 w0 o0 (2 * s + 1) c N A H K0.out.r (by have := HK.out; omega)).mono ?_; rintro e v1 ⟨lv, rfl, hp, hB, hn⟩)
  obtain ⟨la, lc, rfl⟩ := hp.form
  have K1 : Hid (LU w0 o0 v1 (grow o0 w0.heap.size 0) s sb ob b c N A H A H kd two k v) := K0.out.past hB
  have P1 : Hid (PrL v1 (.slice la A.length lc) A) := hp
  have B1 : Hid (Below w0.heap.size w0 v1) := hB
  clear hp hB hn
  clear p0 p1 k0 k1 k2 k3
  generalize grow o0 w0.heap.size 0 = o1 at K1
  obtain ⟨n, en⟩ : ∃ n, A.length = n := ⟨_, rfl⟩
  rw [en] at P1 HR ⊢
  have EN : Hid (A.length = n) := en
  clear en
  have k0 : v1.cell? ⟨ob, 0, none⟩ = some (.int .i64 kd) := K1.out.bo.2.1
  go_wp2
  go_ret
  rw [← EB.out]
  exact ⟨rfl, (by rw [EB.out]; exact B0.out.trans (B1.out.mono B0.out.size))⟩
structure KQ (w0 : World) (o0 : Nat → Nat) (W : World) (s sb ob b c N : Nat) (A : List (Int × Int)) (H : List (List (Int × Int))) (two : Bool) (k v : Int) (g i n gl lc : Nat) : Prop where
  lu : ∃ o3, LU w0 o0 W o3 s sb ob b c N A H A H 7 two k v
  cb : CBox W g 3 (intsD (ovK (A.map Prod.fst) i))
  pr : PrL W (.slice (some ⟨gl, 0, none⟩) n lc) A
  bl : Below w0.heap.size w0 W
  gw : w0.heap.size ≤ g
theorem KQ.drew {w0 W : World} {o0 : Nat → Nat} {s sb ob b c N : Nat} {A : List (Int × Int)} {H : List (List (Int × Int))} {two : Bool} {k v : Int} {g i n gl lc : Nat} (h : KQ w0 o0 W s sb ob b c N A H two k v g i n gl lc) : KQ w0 o0 W.drew s sb ob b c N A H two k v g i n gl lc := by
  obtain ⟨⟨o3, h1⟩, h2, h3, h4, h5⟩ := h
  exact ⟨⟨o3, h1.drew⟩, h2, h3.but (S := fun _ => False) ((But.refl _ _).drew) (fun _ _ => id), h4.drew, h5⟩
theorem KQ.next {w0 W : World} {o0 : Nat → Nat} {s sb ob b c N : Nat} {A : List (Int × Int)} {H : List (List (Int × Int))} {two : Bool} {k v : Int} {g i n gl lc : Nat} (h : KQ w0 o0 W s sb ob b c N A H two k v g i n gl lc) (hi : i < A.length) : CBox (W.setCell ⟨g, i, none⟩ (.int .i64 (-7))) g 3 (intsD (ovK (A.map Prod.fst) (i + 1))) ∧ PrL (W.setCell ⟨g, i, none⟩ (.int .i64 (-7))) (.slice (some ⟨gl, 0, none⟩) n lc) A ∧ Below w0.heap.size w0 (W.setCell ⟨g, i, none⟩ (.int .i64 (-7))) := by
  have hS : But (fun k => k = g) W (W.setCell ⟨g, i, none⟩ (.int .i64 (-7))) := (But.refl (fun k => k = g) W).setCell ⟨g, i, none⟩ (.int .i64 (-7)) (Or.inl rfl)
  exact ⟨by rw [← ovK_set (by rw [List.length_map]; exact hi)]; exact h.cb.set i _, h.pr.but hS (fun j hj ej => box_nopr h.cb (by decide) ⟨_, _, h.pr, ej ▸ hj⟩), h.bl.setCell (show w0.heap.size ≤ (⟨g, i, none⟩ : Addr).block from h.gw) _⟩
theorem KQ.s {w0 W : World} {o0 : Nat → Nat} {s sb ob b c N : Nat} {A : List (Int × Int)} {H : List (List (Int × Int))} {two : Bool} {k v : Int} {g i n gl lc : Nat} {kx vx : Int} (h : KQ w0 o0 W s sb ob b c N A H two k v g i n gl lc) (hp : A[i]? = some (kx, vx)) : (Bo W sb ob b c 7 two k v) ∧ W.cell? ⟨g, i, none⟩ = some (.int .i64 kx) ∧ W.cell? ⟨gl, i * 2, none⟩ = some (.int .i64 kx) ∧ W.cell? ⟨gl, i * 2 + 1, none⟩ = some (.int .i64 vx) := by
  obtain ⟨gl', e, l0, l1⟩ := h.pr.at hp
  injection e with e
  injection e with e
  subst e
  obtain ⟨o3, h1⟩ := h.lu
  refine ⟨h1.bo, ?_, l0, l1⟩
  have hi := (List.getElem?_eq_some_iff.1 hp).1
  rw [h.cb.cell, ovK_at (by rw [List.length_map]; exact hi), List.getElem?_map, hp]
  rfl
set_option maxHeartbeats 2000000 in
set_option maxRecDepth 100000 in
theorem asked7 (w : World) (ow : Nat → Nat) (s b c N : Nat) (A : List (Int × Int)) (H : List (List (Int × Int))) (h : SD w ow s b c N A H) (hN : N + 2 < 274877906944) (two : Bool) (k v : Int) (hk : I64 k) : Calls Try.prog 56 #[.agg #[.pointer (some ⟨b, 0, none⟩), .pointer (some ⟨c, 0, none⟩)], .agg #[.int .i64 7, .bool two, .int .i64 k, .int .i64 v]] w fun e w' => e = .returned (.bool true) ∧ Below w.heap.size w w' := by
  have HK : Hid (I64 k ∧ N + 2 < 274877906944) := ⟨hk, hN⟩
  have B0 : Hid (Below w.heap.size w ((w.alloc (.cells #[.pointer (some ⟨b, 0, none⟩), .pointer (some ⟨c, 0, none⟩)] 27)).alloc (.cells #[.int .i64 7, .bool two, .int .i64 k, .int .i64 v] 30))) := ((Below.refl _ w).alloc (Nat.le_refl _) _).alloc (by simp) _
  obtain ⟨K0, _⟩ := LU.start h 7 two k v
  have HR : Hid (Ris A ∧ (∀ p ∈ A, I64 p.1) ∧ A.length ≤ N ∧ ¬ (w.heap.size = w.heap.size + 1)) := ⟨h.t.ris, h.t.i64, h.t.lA, by omega⟩
  generalize grow ow w.heap.size 0 = o0 at K0
  replace K0 := hide K0
  clear h hk hN
  go_enter Try.func56, Try.ntmps56
  go_upto_region 1 with fail
  change Code.wp _ _ _ _ ((w.alloc (.cells #[.pointer (some ⟨b, 0, none⟩), .pointer (some ⟨c, 0, none⟩)] 27)).alloc (.cells #[.int .i64 7, .bool two, .int .i64 k, .int .i64 v] 30))
  generalize (w.alloc (.cells #[.pointer (some ⟨b, 0, none⟩), .pointer (some ⟨c, 0, none⟩)] 27)).alloc (.cells #[.int .i64 7, .bool two, .int .i64 k, .int .i64 v] 30) = w0 at K0 B0 ⊢
  generalize w.heap.size + 1 = ob at K0 HR ⊢
  obtain ⟨sb, eb⟩ : ∃ sb, sb = w.heap.size := ⟨_, rfl⟩
  rw [← eb] at K0 HR ⊢
  have EB : Hid (sb = w.heap.size) := eb
  clear eb
  obtain ⟨⟨p0, p1⟩, k0, k1, k2, k3⟩ := K0.out.bo
  go_upto_region 2 with (go_at_call 33; refine (pairs1 w0 o0 (2 * s + 1) c N A H K0.out.r (by have := HK.out; omega)).mono ?_; rintro e v1 ⟨lv, rfl, hp, hB, hn⟩)
  obtain ⟨la, lc, rfl⟩ := hp.form
  have K1 : Hid (LU w0 o0 v1 (grow o0 w0.heap.size 0) s sb ob b c N A H A H 7 two k v) := K0.out.past hB
  have P1 : Hid (PrL v1 (.slice la A.length lc) A) := hp
  have B1 : Hid (Below w0.heap.size w0 v1) := hB
  clear hp hB hn
  clear p0 p1 k0 k1 k2 k3
  generalize grow o0 w0.heap.size 0 = o1 at K1
  obtain ⟨n, en⟩ : ∃ n, A.length = n := ⟨_, rfl⟩
  rw [en] at P1 HR ⊢
  have EN : Hid (A.length = n) := en
  clear en
  obtain ⟨⟨p0, p1⟩, k0, k1, k2, k3⟩ := K1.out.bo
  go_upto_region 11 with (go_at_call 49; refine (keys1 v1 o1 (2 * s) b N A H K1.out.t (by have := HK.out; omega)).mono ?_; rintro e v2 ⟨rfl, hc, hB⟩; rw [EN.out])
  clear p0 p1 k0 k1 k2 k3
  have K2 : Hid (LU w0 o0 v2 (grow o1 v1.heap.size 0) s sb ob b c N A H A H 7 two k v) := K1.out.past hB
  have P2 : Hid (PrL v2 (.slice la n lc) A) := P1.out.past hB
  have B2 : Hid (Below w0.heap.size w0 v2) := B1.out.trans (hB.mono B1.out.size)
  have C2 : Hid (CBox v2 v1.heap.size 3 (intsD (ovK (A.map Prod.fst) 0))) := hc
  have G2 : Hid (w0.heap.size ≤ v1.heap.size) := B1.out.size
  clear hc hB K1 P1 B1
  generalize v1.heap.size = g at C2 G2 K2 ⊢
  generalize grow o1 g 0 = o2 at K2
  go_wp2
  have nX : (n : Int) < 549755813888 := by have := HR.out.2.2.1; have := HK.out; omega
  go_loopw [11] (fun si wr => ∃ i : Nat, i ≤ n ∧ si = .int .i64 (i : Int) ∧ CBox wr g 3 (intsD (ovK (A.map Prod.fst) i)) ∧ PrL wr (.slice la n lc) A ∧ Below w0.heap.size w0 wr) (fun si _ => n - (intOf si).toNat)
  case atStart => exact ⟨0, Nat.zero_le _, rfl, C2.out, P2.out, B2.out⟩
  case round =>
    obtain ⟨i, hi, rfl, hc, hp, hb⟩ := hrel
    have C3 : Hid (CBox wr g 3 (intsD (ovK (A.map Prod.fst) i))) := hc
    have P3 : Hid (PrL wr (.slice la n lc) A) := hp
    have B3 : Hid (Below w0.heap.size w0 wr) := hb
    clear hc hp hb K2 P2 B2 C2
    by_cases e : i < n
    · have iI : (i : Int) < (n : Int) := by omega
      obtain ⟨⟨kx, vx⟩, hp⟩ : ∃ p, A[i]? = some p := ⟨_, List.getElem?_eq_getElem (by rw [EN.out]; exact e)⟩
      obtain ⟨gl, rfl, _, _⟩ := P3.out.at hp
      have ep : atL A i = (kx, vx) := by unfold atL; rw [hp]; rfl
      have PQ : Hid (getR A kx = some vx ∧ I64 kx ∧ i < A.length ∧ A[i]? = some (kx, vx)) := ⟨by have := getR_at HR.out.1 (i := i) (by rw [EN.out]; exact e); rw [ep] at this; exact this, HR.out.2.1 (kx, vx) (List.mem_iff_getElem?.2 ⟨i, hp⟩), by rw [EN.out]; exact e, hp⟩
      have K3 : Hid (KQ w0 o0 wr s sb ob b c N A H two k v g i n gl lc) := ⟨⟨_, K0.out.past B3.out⟩, C3.out, P3.out, B3.out, G2.out⟩
      have GT : Hid (∀ W, KQ w0 o0 W s sb ob b c N A H two k v g i n gl lc → Calls Try.prog 44 #[.pointer (some ⟨b, 0, none⟩), .int .i64 kx] W fun e w' => e = .returned (.tuple #[.int .i64 vx, .bool true]) ∧ w' = W) := fun W hW => by
        obtain ⟨o3, hl⟩ := hW.lu
        have := get1 W o3 (2 * s) b N A H hl.t kx PQ.out.2.1 (by have := HK.out; omega)
        rw [PQ.out.1] at this
        exact this
      clear hp ep C3 P3 B3
      go_upto_region 16 with fail
      refine wp_region_held_drew (S := fun V' => (Bo V' sb ob b c 7 two k v) ∧ V'.cell? ⟨g, i, none⟩ = some (.int .i64 kx) ∧ V'.cell? ⟨gl, i * 2, none⟩ = some (.int .i64 kx) ∧ V'.cell? ⟨gl, i * 2 + 1, none⟩ = some (.int .i64 vx)) (by kernel_rfl) (K3.out.drew.s PQ.out.2.2.2) (fun hHeld => ?_)
      have K4 : Hid (KQ w0 o0 wr.drew s sb ob b c N A H two k v g i n gl lc) := K3.out.drew
      generalize wr.drew = z0 at hHeld K4 ⊢
      clear K3
      refine wpAnyH_take (i := 0) (v := .pointer (some ⟨sb, 0, none⟩)) ov0 (by kernel_rfl) (by kernel_rfl) (by kernel_rfl) (fun _ _ _ h => h) (Or.inl ⟨by rfl, fun V' hS => ?_⟩) hHeld ?_
      · go_simp
      simp only [Act.put, List.setIfInBounds_toArray, List.set_cons_zero, List.set_cons_succ]
      refine wpAnyH_take (i := 1) (v := .pointer (some ⟨b, 0, none⟩)) ov1 (by kernel_rfl) (by kernel_rfl) (by kernel_rfl) (fun _ _ _ h => h) (Or.inl ⟨by rfl, fun V' hS => ?_⟩) hHeld ?_
      · obtain ⟨⟨⟨q0, _⟩, _⟩, _⟩ := hS
        go_simp
      simp only [Act.put, List.setIfInBounds_toArray, List.set_cons_zero, List.set_cons_succ]
      refine wpAnyH_take (i := 2) (v := .slice (some ⟨g, 0, none⟩) n n) ov2 (by kernel_rfl) (by kernel_rfl) (by kernel_rfl) (fun _ _ _ h => h) (Or.inl ⟨by rfl, fun V' hS => ?_⟩) hHeld ?_
      · go_simp
      simp only [Act.put, List.setIfInBounds_toArray, List.set_cons_zero, List.set_cons_succ]
      refine wpAnyH_take (i := 3) (v := .int .i64 (i : Int)) ov3 (by kernel_rfl) (by kernel_rfl) (by kernel_rfl) (fun _ _ _ h => h) (Or.inl ⟨by rfl, fun V' hS => ?_⟩) hHeld ?_
      · go_simp
      simp only [Act.put, List.setIfInBounds_toArray, List.set_cons_zero, List.set_cons_succ]
      refine wpAnyH_take (i := 4) (v := .pointer (some ⟨g, i, none⟩)) ov4 (by kernel_rfl) (by kernel_rfl) (by kernel_rfl) (fun _ _ _ h => h) (Or.inl ⟨by rfl, fun V' hS => ?_⟩) hHeld ?_
      · go_simp
      simp only [Act.put, List.setIfInBounds_toArray, List.set_cons_zero, List.set_cons_succ]
      refine wpAnyH_take (i := 5) (v := .int .i64 kx) ov5 (by kernel_rfl) (by kernel_rfl) (by kernel_rfl) (fun _ _ _ h => h) (Or.inl ⟨by rfl, fun V' hS => ?_⟩) hHeld ?_
      · obtain ⟨_, q0, _⟩ := hS
        go_simp
      simp only [Act.put, List.setIfInBounds_toArray, List.set_cons_zero, List.set_cons_succ]
      refine wpAnyH_ready (rs := [6]) (by kernel_rfl) (by simp) ?_
      refine AllReadyH.cons ov6 (fun K hK => ?_) AllReadyH.nil
      rw [if_pos (by rfl)]
      go_simp
      refine (GT.out z0 K4.out).mono ?_
      rintro e w' ⟨rfl, hw⟩
      have hw2 := hw.symm
      clear hw
      subst hw2
      (try go_wp2_with fail)
      refine hK.out _ _ hHeld (fun _ => ?_)
      clear hK K
      (try simp only [Act.put, List.setIfInBounds_toArray, List.set_cons_zero, List.set_cons_succ])
      refine wpAnyH_take (i := 7) (v := .tuple #[.int .i64 vx, .bool true]) ov7 (by kernel_rfl) (by kernel_rfl) (by kernel_rfl) (fun _ _ _ h => h) (Or.inl ⟨by rfl, fun V' hS => ?_⟩) hHeld ?_
      · go_simp
      simp only [Act.put, List.setIfInBounds_toArray, List.set_cons_zero, List.set_cons_succ]
      refine wpAnyH_take (i := 8) (v := .int .i64 vx) ov8 (by kernel_rfl) (by kernel_rfl) (by kernel_rfl) (fun _ _ _ h => h) (Or.inl ⟨by rfl, fun V' hS => ?_⟩) hHeld ?_
      · go_simp
      simp only [Act.put, List.setIfInBounds_toArray, List.set_cons_zero, List.set_cons_succ]
      refine wpAnyH_take (i := 9) (v := .bool true) ov9 (by kernel_rfl) (by kernel_rfl) (by kernel_rfl) (fun _ _ _ h => h) (Or.inl ⟨by rfl, fun V' hS => ?_⟩) hHeld ?_
      · go_simp
      simp only [Act.put, List.setIfInBounds_toArray, List.set_cons_zero, List.set_cons_succ]
      refine wpAnyH_take (i := 10) (v := .int .i64 vx) ov10 (by kernel_rfl) (by kernel_rfl) (by kernel_rfl) (fun _ _ _ h => h) (Or.inl ⟨by rfl, fun V' hS => ?_⟩) hHeld ?_
      · go_simp
      simp only [Act.put, List.setIfInBounds_toArray, List.set_cons_zero, List.set_cons_succ]
      refine wpAnyH_take (i := 11) (v := .bool true) ov11 (by kernel_rfl) (by kernel_rfl) (by kernel_rfl) (fun _ _ _ h => h) (Or.inl ⟨by rfl, fun V' hS => ?_⟩) hHeld ?_
      · go_simp
      simp only [Act.put, List.setIfInBounds_toArray, List.set_cons_zero, List.set_cons_succ]
      refine wpAnyH_done (by kernel_rfl) ?_ _
      go_upto_region 17 with fail
      refine wp_region_held_drew (S := fun V' => (Bo V' sb ob b c 7 two k v) ∧ V'.cell? ⟨g, i, none⟩ = some (.int .i64 kx) ∧ V'.cell? ⟨gl, i * 2, none⟩ = some (.int .i64 kx) ∧ V'.cell? ⟨gl, i * 2 + 1, none⟩ = some (.int .i64 vx)) (by kernel_rfl) (K4.out.drew.s PQ.out.2.2.2) (fun hHel2 => ?_)
      have K5 : Hid (KQ w0 o0 z0.drew s sb ob b c N A H two k v g i n gl lc) := K4.out.drew
      generalize z0.drew = z1 at hHel2 K5 ⊢
      clear K4 hHeld
      refine wpAnyH_take (i := 0) (v := .slice (some ⟨g, 0, none⟩) n n) ov0 (by kernel_rfl) (by kernel_rfl) (by kernel_rfl) (fun _ _ _ h => h) (Or.inl ⟨by rfl, fun V' hS => ?_⟩) hHel2 ?_
      · go_simp
      simp only [Act.put, List.setIfInBounds_toArray, List.set_cons_zero, List.set_cons_succ]
      refine wpAnyH_take (i := 1) (v := .int .i64 (i : Int)) ov1 (by kernel_rfl) (by kernel_rfl) (by kernel_rfl) (fun _ _ _ h => h) (Or.inl ⟨by rfl, fun V' hS => ?_⟩) hHel2 ?_
      · go_simp
      simp only [Act.put, List.setIfInBounds_toArray, List.set_cons_zero, List.set_cons_succ]
      refine wpAnyH_take (i := 2) (v := .pointer (some ⟨g, i, none⟩)) ov2 (by kernel_rfl) (by kernel_rfl) (by kernel_rfl) (fun _ _ _ h => h) (Or.inl ⟨by rfl, fun V' hS => ?_⟩) hHel2 ?_
      · go_simp
      simp only [Act.put, List.setIfInBounds_toArray, List.set_cons_zero, List.set_cons_succ]
      refine wpAnyH_take (i := 3) (v := .int .i64 kx) ov3 (by kernel_rfl) (by kernel_rfl) (by kernel_rfl) (fun _ _ _ h => h) (Or.inl ⟨by rfl, fun V' hS => ?_⟩) hHel2 ?_
      · obtain ⟨_, q0, _⟩ := hS
        go_simp
      simp only [Act.put, List.setIfInBounds_toArray, List.set_cons_zero, List.set_cons_succ]
      refine wpAnyH_take (i := 4) (v := .slice (some ⟨gl, 0, none⟩) n lc) ov4 (by kernel_rfl) (by kernel_rfl) (by kernel_rfl) (fun _ _ _ h => h) (Or.inl ⟨by rfl, fun V' hS => ?_⟩) hHel2 ?_
      · go_simp
      simp only [Act.put, List.setIfInBounds_toArray, List.set_cons_zero, List.set_cons_succ]
      refine wpAnyH_take (i := 5) (v := .int .i64 (i : Int)) ov5 (by kernel_rfl) (by kernel_rfl) (by kernel_rfl) (fun _ _ _ h => h) (Or.inl ⟨by rfl, fun V' hS => ?_⟩) hHel2 ?_
      · go_simp
      simp only [Act.put, List.setIfInBounds_toArray, List.set_cons_zero, List.set_cons_succ]
      refine wpAnyH_take (i := 6) (v := .pointer (some ⟨gl, i * 2, none⟩)) ov6 (by kernel_rfl) (by kernel_rfl) (by kernel_rfl) (fun _ _ _ h => h) (Or.inl ⟨by rfl, fun V' hS => ?_⟩) hHel2 ?_
      · go_simp
      simp only [Act.put, List.setIfInBounds_toArray, List.set_cons_zero, List.set_cons_succ]
      refine wpAnyH_take (i := 7) (v := .pointer (some ⟨gl, i * 2, none⟩)) ov7 (by kernel_rfl) (by kernel_rfl) (by kernel_rfl) (fun _ _ _ h => h) (Or.inl ⟨by rfl, fun V' hS => ?_⟩) hHel2 ?_
      · go_simp
      simp only [Act.put, List.setIfInBounds_toArray, List.set_cons_zero, List.set_cons_succ]
      refine wpAnyH_take (i := 8) (v := .int .i64 kx) ov8 (by kernel_rfl) (by kernel_rfl) (by kernel_rfl) (fun _ _ _ h => h) (Or.inl ⟨by rfl, fun V' hS => ?_⟩) hHel2 ?_
      · obtain ⟨_, _, q0, _⟩ := hS
        go_simp
      simp only [Act.put, List.setIfInBounds_toArray, List.set_cons_zero, List.set_cons_succ]
      refine wpAnyH_take (i := 9) (v := .bool false) ov9 (by kernel_rfl) (by kernel_rfl) (by kernel_rfl) (fun _ _ _ h => h) (Or.inl ⟨by rfl, fun V' hS => ?_⟩) hHel2 ?_
      · go_simp
      simp only [Act.put, List.setIfInBounds_toArray, List.set_cons_zero, List.set_cons_succ]
      refine wpAnyH_take (i := 10) (v := .bool false) ov10 (by kernel_rfl) (by kernel_rfl) (by kernel_rfl) (fun _ _ _ h => h) (Or.inl ⟨by rfl, fun V' hS => ?_⟩) hHel2 ?_
      · go_simp
      simp only [Act.put, List.setIfInBounds_toArray, List.set_cons_zero, List.set_cons_succ]
      refine wpAnyH_take (i := 11) (v := .bool true) ov11 (by kernel_rfl) (by kernel_rfl) (by kernel_rfl) (fun _ _ _ h => h) (Or.inl ⟨by rfl, fun V' hS => ?_⟩) hHel2 ?_
      · go_simp
      simp only [Act.put, List.setIfInBounds_toArray, List.set_cons_zero, List.set_cons_succ]
      refine wpAnyH_take (i := 12) (v := .bool false) ov12 (by kernel_rfl) (by kernel_rfl) (by kernel_rfl) (fun _ _ _ h => h) (Or.inl ⟨by rfl, fun V' hS => ?_⟩) hHel2 ?_
      · go_simp
      simp only [Act.put, List.setIfInBounds_toArray, List.set_cons_zero, List.set_cons_succ]
      refine wpAnyH_take (i := 13) (v := .bool false) ov13 (by kernel_rfl) (by kernel_rfl) (by kernel_rfl) (fun _ _ _ h => h) (Or.inl ⟨by rfl, fun V' hS => ?_⟩) hHel2 ?_
      · go_simp
      simp only [Act.put, List.setIfInBounds_toArray, List.set_cons_zero, List.set_cons_succ]
      refine wpAnyH_take (i := 14) (v := .bool false) ov14 (by kernel_rfl) (by kernel_rfl) (by kernel_rfl) (fun _ _ _ h => h) (Or.inl ⟨by rfl, fun V' hS => ?_⟩) hHel2 ?_
      · go_simp
      simp only [Act.put, List.setIfInBounds_toArray, List.set_cons_zero, List.set_cons_succ]
      refine wpAnyH_take (i := 15) (v := .int .i64 vx) ov15 (by kernel_rfl) (by kernel_rfl) (by kernel_rfl) (fun _ _ _ h => h) (Or.inl ⟨by rfl, fun V' hS => ?_⟩) hHel2 ?_
      · go_simp
      simp only [Act.put, List.setIfInBounds_toArray, List.set_cons_zero, List.set_cons_succ]
      refine wpAnyH_take (i := 16) (v := .slice (some ⟨gl, 0, none⟩) n lc) ov16 (by kernel_rfl) (by kernel_rfl) (by kernel_rfl) (fun _ _ _ h => h) (Or.inl ⟨by rfl, fun V' hS => ?_⟩) hHel2 ?_
      · go_simp
      simp only [Act.put, List.setIfInBounds_toArray, List.set_cons_zero, List.set_cons_succ]
      refine wpAnyH_take (i := 17) (v := .int .i64 (i : Int)) ov17 (by kernel_rfl) (by kernel_rfl) (by kernel_rfl) (fun _ _ _ h => h) (Or.inl ⟨by rfl, fun V' hS => ?_⟩) hHel2 ?_
      · go_simp
      simp only [Act.put, List.setIfInBounds_toArray, List.set_cons_zero, List.set_cons_succ]
      refine wpAnyH_take (i := 18) (v := .pointer (some ⟨gl, i * 2, none⟩)) ov18 (by kernel_rfl) (by kernel_rfl) (by kernel_rfl) (fun _ _ _ h => h) (Or.inl ⟨by rfl, fun V' hS => ?_⟩) hHel2 ?_
      · go_simp
      simp only [Act.put, List.setIfInBounds_toArray, List.set_cons_zero, List.set_cons_succ]
      refine wpAnyH_take (i := 19) (v := .pointer (some ⟨gl, i * 2 + 1, none⟩)) ov19 (by kernel_rfl) (by kernel_rfl) (by kernel_rfl) (fun _ _ _ h => h) (Or.inl ⟨by rfl, fun V' hS => ?_⟩) hHel2 ?_
      · go_simp
      simp only [Act.put, List.setIfInBounds_toArray, List.set_cons_zero, List.set_cons_succ]
      refine wpAnyH_take (i := 20) (v := .int .i64 vx) ov20 (by kernel_rfl) (by kernel_rfl) (by kernel_rfl) (fun _ _ _ h => h) (Or.inl ⟨by rfl, fun V' hS => ?_⟩) hHel2 ?_
      · obtain ⟨_, _, _, q0⟩ := hS
        go_simp
      simp only [Act.put, List.setIfInBounds_toArray, List.set_cons_zero, List.set_cons_succ]
      refine wpAnyH_take (i := 21) (v := .bool false) ov21 (by kernel_rfl) (by kernel_rfl) (by kernel_rfl) (fun _ _ _ h => h) (Or.inl ⟨by rfl, fun V' hS => ?_⟩) hHel2 ?_
      · go_simp
      simp only [Act.put, List.setIfInBounds_toArray, List.set_cons_zero, List.set_cons_succ]
      refine wpAnyH_take (i := 22) (v := .bool false) ov22 (by kernel_rfl) (by kernel_rfl) (by kernel_rfl) (fun _ _ _ h => h) (Or.inl ⟨by rfl, fun V' hS => ?_⟩) hHel2 ?_
      · go_simp
      simp only [Act.put, List.setIfInBounds_toArray, List.set_cons_zero, List.set_cons_succ]
      refine wpAnyH_done (by kernel_rfl) ?_ _
      obtain ⟨_, g0, _⟩ := K5.out.s PQ.out.2.2.2
      have gf : z1.frozen? ⟨g, i, none⟩ = false := K5.out.cb.frozen i
      have N5 : Hid (CBox (z1.setCell ⟨g, i, none⟩ (.int .i64 (-7))) g 3 (intsD (ovK (A.map Prod.fst) (i + 1))) ∧ PrL (z1.setCell ⟨g, i, none⟩ (.int .i64 (-7))) (.slice (some ⟨gl, 0, none⟩) n lc) A ∧ Below w0.heap.size w0 (z1.setCell ⟨g, i, none⟩ (.int .i64 (-7)))) := K5.out.next PQ.out.2.2.1
      go_wp2
      go_roundw
      case rel => exact ⟨i + 1, by omega, by go_num, N5.out⟩
      case measure => simp [intOf]; omega
    · have iI : ¬ (i : Int) < (n : Int) := by omega
      go_wp2
      go_ret
      rw [← EB.out]
      exact ⟨rfl, by rw [EB.out]; exact B0.out.trans (B3.out.mono B0.out.size)⟩
end Go.Proofs.Ytohfkgfjcnldaaa
