/- The document's Store; GasStores' walk. -/
import Derived.Test.YtpgjchkfglkgcaaUe
namespace Go.Proofs.Ytpgjchkfglkgcaa
open Go.RowKit
theorem stn_range (a b c : Bool) : -2000 ≤ stn a b c ∧ stn a b c ≤ 19900 := by cases a <;> cases b <;> cases c <;> decide
def rc (eow ewi zo : Bool) : Int := if eow && !ewi then (if zo then 19900 else 2800) else 0
set_option maxHeartbeats 4000000 in
set_option maxRecDepth 100000 in
theorem storeR_core (w : World) (o x i : W4) (eow ewi zo : Bool) (s1 s2 : Int) (p0 : -2000 ≤ s1) (p1 : s1 ≤ 19900) (q0 : -2000 ≤ s2) (q1 : s2 ≤ 19900) (C1 : Hid (∀ W, Calls Try.prog 48 #[o.v, x.v] W fun e w' => e = .returned (.bool eow) ∧ Below W.heap.size W w')) (C2 : Hid (∀ W, Calls Try.prog 48 #[x.v, i.v] W fun e w' => e = .returned (.bool ewi) ∧ Below W.heap.size W w')) (C3 : Hid (∀ W, Calls Try.prog 49 #[o.v] W fun e w' => e = .returned (.bool zo) ∧ Below W.heap.size W w')) (C4 : Hid (∀ W, Calls Try.prog 50 #[o.v, x.v] W fun e w' => e = .returned (.int .i64 s1) ∧ Below W.heap.size W w')) (C5 : Hid (∀ W, Calls Try.prog 50 #[o.v, i.v] W fun e w' => e = .returned (.int .i64 s2) ∧ Below W.heap.size W w')) : Calls Try.prog 27 #[o.v, x.v, i.v] w fun e w' => e = .returned (.tuple #[.int .u64 (rc eow ewi zo), .int .i64 (rc eow ewi zo + s1 - s2)]) ∧ Below w.heap.size w w' := by
  unfold W4.v
  go_enter Try.func27, Try.ntmps27
  go_upto_region 2 with fail
  obtain ⟨v, hv⟩ : ∃ v, v = ((w.alloc (.cells #[.int .u64 o.a, .int .u64 o.b, .int .u64 o.c, .int .u64 o.d] 27)).alloc (.cells #[.int .u64 x.a, .int .u64 x.b, .int .u64 x.c, .int .u64 x.d] 27)).alloc (.cells #[.int .u64 i.a, .int .u64 i.b, .int .u64 i.c, .int .u64 i.d] 27) := ⟨_, rfl⟩
  rw [← hv]
  have HB : Hid (Bw3 w v w.heap.size (w.heap.size + 1) (w.heap.size + 1 + 1) o x i) := by rw [hv]; exact Bw3.new w o x i
  clear hv
  generalize hbz : w.heap.size + 1 + 1 = bZ at HB ⊢
  clear hbz
  generalize hby : w.heap.size + 1 = bY at HB ⊢
  clear hby
  generalize hbx : w.heap.size = bx at HB ⊢
  clear hbx
  cases eow
  · refine wp_region_lit ?_
    refine lst_val (v := .agg #[.int .u64 o.a, .int .u64 o.b, .int .u64 o.c, .int .u64 o.d]) (by rfl) ?_ ?_
    · obtain ⟨c0, c1, c2, c3, _⟩ := HB.out.w0
      go_simp
    simp only [Act.put, List.setIfInBounds_toArray, List.set_cons_zero, List.set_cons_succ]
    refine lst_val (v := .agg #[.int .u64 x.a, .int .u64 x.b, .int .u64 x.c, .int .u64 x.d]) (by rfl) ?_ ?_
    · obtain ⟨c0, c1, c2, c3, _⟩ := HB.out.w1
      go_simp
    simp only [Act.put, List.setIfInBounds_toArray, List.set_cons_zero, List.set_cons_succ]
    refine lst_call (by rfl) (by first | (go_simp; done) | (go_simp; first | exact rfl | exact ⟨rfl, rfl⟩ | exact ⟨rfl, rfl, rfl⟩)) (C1.out _) ?_
    rintro e v1 ⟨rfl, hB⟩
    refine ⟨_, rfl, ?_⟩
    replace HB : Hid (Bw3 w v1 bx bY bZ o x i) := HB.out.past hB
    clear hB
    clear v
    generalize v1 = v at HB ⊢
    clear v1
    simp only [Act.put, List.setIfInBounds_toArray, List.set_cons_zero, List.set_cons_succ]
    refine lst_val (v := .bool false) (by rfl) ?_ ?_
    · go_simp
    simp only [Act.put, List.setIfInBounds_toArray, List.set_cons_zero, List.set_cons_succ]
    refine lst_not (by rfl) ?_
    simp only [Act.put, List.setIfInBounds_toArray, List.set_cons_zero, List.set_cons_succ]
    refine lst_not (by rfl) ?_
    simp only [Act.put, List.setIfInBounds_toArray, List.set_cons_zero, List.set_cons_succ]
    refine lst_not (by rfl) ?_
    simp only [Act.put, List.setIfInBounds_toArray, List.set_cons_zero, List.set_cons_succ]
    refine lst_not (by rfl) ?_
    simp only [Act.put, List.setIfInBounds_toArray, List.set_cons_zero, List.set_cons_succ]
    refine lst_val (v := .bool false) (by rfl) ?_ ?_
    · go_simp
    simp only [Act.put, List.setIfInBounds_toArray, List.set_cons_zero, List.set_cons_succ]
    refine wpList_nil ?_
    go_upto_region 6 with fail
    obtain ⟨k, hk⟩ : ∃ k, s1 - s2 = k := ⟨_, rfl⟩
    have wz1 : IntKind.i64.wrap s1 = s1 := by rw [IntKind.wrap_i64]; omega
    have wc : IntKind.u64.wrap 0 = 0 := by decide
    have wk : IntKind.i64.wrap k = k := by rw [IntKind.wrap_i64]; omega
    have HK : Hid (s1 - s2 = k) := hk
    refine wp_region_held_drew (S := fun V' => Bw3 w V' bx bY bZ o x i) (by kernel_rfl) HB.out.drew (fun hHeld => ?_)
    generalize v.drew = z0 at hHeld ⊢
    clear HB v
    refine wpAnyH_take (i := 0) (v := .int .i64 0) ov0 (by kernel_rfl) (by kernel_rfl) (by kernel_rfl) (fun _ _ _ h => h) (Or.inl ⟨by rfl, fun V' hS => ?_⟩) hHeld ?_
    · go_simp
    simp only [Act.put, List.setIfInBounds_toArray, List.set_cons_zero, List.set_cons_succ]
    refine wpAnyH_take (i := 1) (v := .int .u64 0) ov1 (by kernel_rfl) (by kernel_rfl) (by kernel_rfl) (fun _ _ _ h => h) (Or.inl ⟨by rfl, fun V' hS => ?_⟩) hHeld ?_
    · go_simp
    simp only [Act.put, List.setIfInBounds_toArray, List.set_cons_zero, List.set_cons_succ]
    refine wpAnyH_take (i := 2) (v := .int .i64 0) ov2 (by kernel_rfl) (by kernel_rfl) (by kernel_rfl) (fun _ _ _ h => h) (Or.inl ⟨by rfl, fun V' hS => ?_⟩) hHeld ?_
    · go_simp
    simp only [Act.put, List.setIfInBounds_toArray, List.set_cons_zero, List.set_cons_succ]
    refine wpAnyH_take (i := 3) (v := .agg #[.int .u64 o.a, .int .u64 o.b, .int .u64 o.c, .int .u64 o.d]) ov3 (by kernel_rfl) (by kernel_rfl) (by kernel_rfl) (fun _ _ _ h => h) (Or.inl ⟨by rfl, fun V' hS => ?_⟩) hHeld ?_
    · obtain ⟨c0, c1, c2, c3, _⟩ := hS.w0
      go_simp
    simp only [Act.put, List.setIfInBounds_toArray, List.set_cons_zero, List.set_cons_succ]
    refine wpAnyH_take (i := 4) (v := .agg #[.int .u64 x.a, .int .u64 x.b, .int .u64 x.c, .int .u64 x.d]) ov4 (by kernel_rfl) (by kernel_rfl) (by kernel_rfl) (fun _ _ _ h => h) (Or.inl ⟨by rfl, fun V' hS => ?_⟩) hHeld ?_
    · obtain ⟨c0, c1, c2, c3, _⟩ := hS.w1
      go_simp
    simp only [Act.put, List.setIfInBounds_toArray, List.set_cons_zero, List.set_cons_succ]
    refine wpAnyH_take (i := 7) (v := .agg #[.int .u64 o.a, .int .u64 o.b, .int .u64 o.c, .int .u64 o.d]) ov7 (by kernel_rfl) (by kernel_rfl) (by kernel_rfl) (fun _ _ _ h => h) (Or.inl ⟨by rfl, fun V' hS => ?_⟩) hHeld ?_
    · obtain ⟨c0, c1, c2, c3, _⟩ := hS.w0
      go_simp
    simp only [Act.put, List.setIfInBounds_toArray, List.set_cons_zero, List.set_cons_succ]
    refine wpAnyH_take (i := 8) (v := .agg #[.int .u64 i.a, .int .u64 i.b, .int .u64 i.c, .int .u64 i.d]) ov8 (by kernel_rfl) (by kernel_rfl) (by kernel_rfl) (fun _ _ _ h => h) (Or.inl ⟨by rfl, fun V' hS => ?_⟩) hHeld ?_
    · obtain ⟨c0, c1, c2, c3, _⟩ := hS.w2
      go_simp
    simp only [Act.put, List.setIfInBounds_toArray, List.set_cons_zero, List.set_cons_succ]
    refine wpAnyH_ready (rs := [5]) (by kernel_rfl) (by simp) ?_
    refine AllReadyH.cons ov5 (fun K hK => ?_) AllReadyH.nil
    rw [if_pos (by rfl)]
    go_simp
    refine (C4.out _).mono ?_
    rintro e z1 ⟨rfl, hB1⟩
    have hH1 : Bw3 w z1 bx bY bZ o x i := hHeld.past hB1
    (try go_wp2_with fail)
    refine hK.out _ _ hH1 (fun _ => ?_)
    clear hK K
    (try simp only [Act.put, List.setIfInBounds_toArray, List.set_cons_zero, List.set_cons_succ])
    refine wpAnyH_take (i := 6) (v := .int .i64 s1) ov6 (by kernel_rfl) (by kernel_rfl) (by kernel_rfl) (fun _ _ _ h => h) (Or.inl ⟨by rfl, fun V' hS => ?_⟩) hH1 ?_
    · go_simp
    simp only [Act.put, List.setIfInBounds_toArray, List.set_cons_zero, List.set_cons_succ]
    refine wpAnyH_ready (rs := [9]) (by kernel_rfl) (by simp) ?_
    refine AllReadyH.cons ov9 (fun K hK => ?_) AllReadyH.nil
    rw [if_pos (by rfl)]
    go_simp
    refine (C5.out _).mono ?_
    rintro e z2 ⟨rfl, hB2⟩
    have hH2 : Bw3 w z2 bx bY bZ o x i := hH1.past hB2
    (try go_wp2_with fail)
    refine hK.out _ _ hH2 (fun _ => ?_)
    clear hK K
    (try simp only [Act.put, List.setIfInBounds_toArray, List.set_cons_zero, List.set_cons_succ])
    refine wpAnyH_take (i := 10) (v := .int .i64 k) ov10 (by kernel_rfl) (by kernel_rfl) (by kernel_rfl) (fun _ _ _ h => h) (Or.inl ⟨by rfl, fun V' hS => ?_⟩) hH2 ?_
    · go_simp
    simp only [Act.put, List.setIfInBounds_toArray, List.set_cons_zero, List.set_cons_succ]
    refine wpAnyH_take (i := 11) (v := .int .u64 0) ov11 (by kernel_rfl) (by kernel_rfl) (by kernel_rfl) (fun _ _ _ h => h) (Or.inl ⟨by rfl, fun V' hS => ?_⟩) hH2 ?_
    · go_simp
    simp only [Act.put, List.setIfInBounds_toArray, List.set_cons_zero, List.set_cons_succ]
    refine wpAnyH_take (i := 12) (v := .int .i64 k) ov12 (by kernel_rfl) (by kernel_rfl) (by kernel_rfl) (fun _ _ _ h => h) (Or.inl ⟨by rfl, fun V' hS => ?_⟩) hH2 ?_
    · go_simp
    simp only [Act.put, List.setIfInBounds_toArray, List.set_cons_zero, List.set_cons_succ]
    refine wpAnyH_done (by kernel_rfl) ?_ _
    go_wp2
    go_ret2
    exact ⟨by have h8 := HK.out; simp [rc]; omega, hH2.bel⟩
  · cases ewi
    · refine wp_region_lit ?_
      refine lst_val (v := .agg #[.int .u64 o.a, .int .u64 o.b, .int .u64 o.c, .int .u64 o.d]) (by rfl) ?_ ?_
      · obtain ⟨c0, c1, c2, c3, _⟩ := HB.out.w0
        go_simp
      simp only [Act.put, List.setIfInBounds_toArray, List.set_cons_zero, List.set_cons_succ]
      refine lst_val (v := .agg #[.int .u64 x.a, .int .u64 x.b, .int .u64 x.c, .int .u64 x.d]) (by rfl) ?_ ?_
      · obtain ⟨c0, c1, c2, c3, _⟩ := HB.out.w1
        go_simp
      simp only [Act.put, List.setIfInBounds_toArray, List.set_cons_zero, List.set_cons_succ]
      refine lst_call (by rfl) (by first | (go_simp; done) | (go_simp; first | exact rfl | exact ⟨rfl, rfl⟩ | exact ⟨rfl, rfl, rfl⟩)) (C1.out _) ?_
      rintro e v1 ⟨rfl, hB⟩
      refine ⟨_, rfl, ?_⟩
      replace HB : Hid (Bw3 w v1 bx bY bZ o x i) := HB.out.past hB
      clear hB
      clear v
      generalize v1 = v at HB ⊢
      clear v1
      simp only [Act.put, List.setIfInBounds_toArray, List.set_cons_zero, List.set_cons_succ]
      refine lst_val (v := .bool true) (by rfl) ?_ ?_
      · go_simp
      simp only [Act.put, List.setIfInBounds_toArray, List.set_cons_zero, List.set_cons_succ]
      refine lst_val (v := .agg #[.int .u64 x.a, .int .u64 x.b, .int .u64 x.c, .int .u64 x.d]) (by rfl) ?_ ?_
      · obtain ⟨c0, c1, c2, c3, _⟩ := HB.out.w1
        go_simp
      simp only [Act.put, List.setIfInBounds_toArray, List.set_cons_zero, List.set_cons_succ]
      refine lst_val (v := .agg #[.int .u64 i.a, .int .u64 i.b, .int .u64 i.c, .int .u64 i.d]) (by rfl) ?_ ?_
      · obtain ⟨c0, c1, c2, c3, _⟩ := HB.out.w2
        go_simp
      simp only [Act.put, List.setIfInBounds_toArray, List.set_cons_zero, List.set_cons_succ]
      refine lst_call (by rfl) (by first | (go_simp; done) | (go_simp; first | exact rfl | exact ⟨rfl, rfl⟩ | exact ⟨rfl, rfl, rfl⟩)) (C2.out _) ?_
      rintro e v1 ⟨rfl, hB⟩
      refine ⟨_, rfl, ?_⟩
      replace HB : Hid (Bw3 w v1 bx bY bZ o x i) := HB.out.past hB
      clear hB
      clear v
      generalize v1 = v at HB ⊢
      clear v1
      simp only [Act.put, List.setIfInBounds_toArray, List.set_cons_zero, List.set_cons_succ]
      refine lst_val (v := .bool true) (by rfl) ?_ ?_
      · go_simp
      simp only [Act.put, List.setIfInBounds_toArray, List.set_cons_zero, List.set_cons_succ]
      refine lst_val (v := .bool true) (by rfl) ?_ ?_
      · go_simp
      simp only [Act.put, List.setIfInBounds_toArray, List.set_cons_zero, List.set_cons_succ]
      refine wpList_nil ?_
      go_upto_region 4 with fail
      cases zo
      · refine wp_region_lit ?_
        refine lst_val (v := .agg #[.int .u64 o.a, .int .u64 o.b, .int .u64 o.c, .int .u64 o.d]) (by rfl) ?_ ?_
        · obtain ⟨c0, c1, c2, c3, _⟩ := HB.out.w0
          go_simp
        simp only [Act.put, List.setIfInBounds_toArray, List.set_cons_zero, List.set_cons_succ]
        refine lst_call (by rfl) (by first | (go_simp; done) | (go_simp; first | exact rfl | exact ⟨rfl, rfl⟩ | exact ⟨rfl, rfl, rfl⟩)) (C3.out _) ?_
        rintro e v1 ⟨rfl, hB⟩
        refine ⟨_, rfl, ?_⟩
        replace HB : Hid (Bw3 w v1 bx bY bZ o x i) := HB.out.past hB
        clear hB
        clear v
        generalize v1 = v at HB ⊢
        clear v1
        simp only [Act.put, List.setIfInBounds_toArray, List.set_cons_zero, List.set_cons_succ]
        refine wpList_nil ?_
        go_upto_region 6 with fail
        obtain ⟨m, hm⟩ : ∃ m, 2800 + s1 = m := ⟨_, rfl⟩
        have wm : IntKind.i64.wrap m = m := by rw [IntKind.wrap_i64]; omega
        obtain ⟨k, hk⟩ : ∃ k, m - s2 = k := ⟨_, rfl⟩
        have HM : Hid (2800 + s1 = m) := hm
        have wc : IntKind.u64.wrap 2800 = 2800 := by decide
        have wk : IntKind.i64.wrap k = k := by rw [IntKind.wrap_i64]; omega
        have HK : Hid (m - s2 = k) := hk
        refine wp_region_held_drew (S := fun V' => Bw3 w V' bx bY bZ o x i) (by kernel_rfl) HB.out.drew (fun hHeld => ?_)
        generalize v.drew = z0 at hHeld ⊢
        clear HB v
        refine wpAnyH_take (i := 0) (v := .int .i64 2800) ov0 (by kernel_rfl) (by kernel_rfl) (by kernel_rfl) (fun _ _ _ h => h) (Or.inl ⟨by rfl, fun V' hS => ?_⟩) hHeld ?_
        · go_simp
        simp only [Act.put, List.setIfInBounds_toArray, List.set_cons_zero, List.set_cons_succ]
        refine wpAnyH_take (i := 1) (v := .int .u64 2800) ov1 (by kernel_rfl) (by kernel_rfl) (by kernel_rfl) (fun _ _ _ h => h) (Or.inl ⟨by rfl, fun V' hS => ?_⟩) hHeld ?_
        · go_simp
        simp only [Act.put, List.setIfInBounds_toArray, List.set_cons_zero, List.set_cons_succ]
        refine wpAnyH_take (i := 2) (v := .int .i64 2800) ov2 (by kernel_rfl) (by kernel_rfl) (by kernel_rfl) (fun _ _ _ h => h) (Or.inl ⟨by rfl, fun V' hS => ?_⟩) hHeld ?_
        · go_simp
        simp only [Act.put, List.setIfInBounds_toArray, List.set_cons_zero, List.set_cons_succ]
        refine wpAnyH_take (i := 3) (v := .agg #[.int .u64 o.a, .int .u64 o.b, .int .u64 o.c, .int .u64 o.d]) ov3 (by kernel_rfl) (by kernel_rfl) (by kernel_rfl) (fun _ _ _ h => h) (Or.inl ⟨by rfl, fun V' hS => ?_⟩) hHeld ?_
        · obtain ⟨c0, c1, c2, c3, _⟩ := hS.w0
          go_simp
        simp only [Act.put, List.setIfInBounds_toArray, List.set_cons_zero, List.set_cons_succ]
        refine wpAnyH_take (i := 4) (v := .agg #[.int .u64 x.a, .int .u64 x.b, .int .u64 x.c, .int .u64 x.d]) ov4 (by kernel_rfl) (by kernel_rfl) (by kernel_rfl) (fun _ _ _ h => h) (Or.inl ⟨by rfl, fun V' hS => ?_⟩) hHeld ?_
        · obtain ⟨c0, c1, c2, c3, _⟩ := hS.w1
          go_simp
        simp only [Act.put, List.setIfInBounds_toArray, List.set_cons_zero, List.set_cons_succ]
        refine wpAnyH_take (i := 7) (v := .agg #[.int .u64 o.a, .int .u64 o.b, .int .u64 o.c, .int .u64 o.d]) ov7 (by kernel_rfl) (by kernel_rfl) (by kernel_rfl) (fun _ _ _ h => h) (Or.inl ⟨by rfl, fun V' hS => ?_⟩) hHeld ?_
        · obtain ⟨c0, c1, c2, c3, _⟩ := hS.w0
          go_simp
        simp only [Act.put, List.setIfInBounds_toArray, List.set_cons_zero, List.set_cons_succ]
        refine wpAnyH_take (i := 8) (v := .agg #[.int .u64 i.a, .int .u64 i.b, .int .u64 i.c, .int .u64 i.d]) ov8 (by kernel_rfl) (by kernel_rfl) (by kernel_rfl) (fun _ _ _ h => h) (Or.inl ⟨by rfl, fun V' hS => ?_⟩) hHeld ?_
        · obtain ⟨c0, c1, c2, c3, _⟩ := hS.w2
          go_simp
        simp only [Act.put, List.setIfInBounds_toArray, List.set_cons_zero, List.set_cons_succ]
        refine wpAnyH_ready (rs := [5]) (by kernel_rfl) (by simp) ?_
        refine AllReadyH.cons ov5 (fun K hK => ?_) AllReadyH.nil
        rw [if_pos (by rfl)]
        go_simp
        refine (C4.out _).mono ?_
        rintro e z1 ⟨rfl, hB1⟩
        have hH1 : Bw3 w z1 bx bY bZ o x i := hHeld.past hB1
        (try go_wp2_with fail)
        refine hK.out _ _ hH1 (fun _ => ?_)
        clear hK K
        (try simp only [Act.put, List.setIfInBounds_toArray, List.set_cons_zero, List.set_cons_succ])
        refine wpAnyH_take (i := 6) (v := .int .i64 m) ov6 (by kernel_rfl) (by kernel_rfl) (by kernel_rfl) (fun _ _ _ h => h) (Or.inl ⟨by rfl, fun V' hS => ?_⟩) hH1 ?_
        · go_simp
        simp only [Act.put, List.setIfInBounds_toArray, List.set_cons_zero, List.set_cons_succ]
        refine wpAnyH_ready (rs := [9]) (by kernel_rfl) (by simp) ?_
        refine AllReadyH.cons ov9 (fun K hK => ?_) AllReadyH.nil
        rw [if_pos (by rfl)]
        go_simp
        refine (C5.out _).mono ?_
        rintro e z2 ⟨rfl, hB2⟩
        have hH2 : Bw3 w z2 bx bY bZ o x i := hH1.past hB2
        (try go_wp2_with fail)
        refine hK.out _ _ hH2 (fun _ => ?_)
        clear hK K
        (try simp only [Act.put, List.setIfInBounds_toArray, List.set_cons_zero, List.set_cons_succ])
        refine wpAnyH_take (i := 10) (v := .int .i64 k) ov10 (by kernel_rfl) (by kernel_rfl) (by kernel_rfl) (fun _ _ _ h => h) (Or.inl ⟨by rfl, fun V' hS => ?_⟩) hH2 ?_
        · go_simp
        simp only [Act.put, List.setIfInBounds_toArray, List.set_cons_zero, List.set_cons_succ]
        refine wpAnyH_take (i := 11) (v := .int .u64 2800) ov11 (by kernel_rfl) (by kernel_rfl) (by kernel_rfl) (fun _ _ _ h => h) (Or.inl ⟨by rfl, fun V' hS => ?_⟩) hH2 ?_
        · go_simp
        simp only [Act.put, List.setIfInBounds_toArray, List.set_cons_zero, List.set_cons_succ]
        refine wpAnyH_take (i := 12) (v := .int .i64 k) ov12 (by kernel_rfl) (by kernel_rfl) (by kernel_rfl) (fun _ _ _ h => h) (Or.inl ⟨by rfl, fun V' hS => ?_⟩) hH2 ?_
        · go_simp
        simp only [Act.put, List.setIfInBounds_toArray, List.set_cons_zero, List.set_cons_succ]
        refine wpAnyH_done (by kernel_rfl) ?_ _
        go_wp2
        go_ret2
        exact ⟨by have h9 := HM.out; have h8 := HK.out; simp [rc]; omega, hH2.bel⟩
      · refine wp_region_lit ?_
        refine lst_val (v := .agg #[.int .u64 o.a, .int .u64 o.b, .int .u64 o.c, .int .u64 o.d]) (by rfl) ?_ ?_
        · obtain ⟨c0, c1, c2, c3, _⟩ := HB.out.w0
          go_simp
        simp only [Act.put, List.setIfInBounds_toArray, List.set_cons_zero, List.set_cons_succ]
        refine lst_call (by rfl) (by first | (go_simp; done) | (go_simp; first | exact rfl | exact ⟨rfl, rfl⟩ | exact ⟨rfl, rfl, rfl⟩)) (C3.out _) ?_
        rintro e v1 ⟨rfl, hB⟩
        refine ⟨_, rfl, ?_⟩
        replace HB : Hid (Bw3 w v1 bx bY bZ o x i) := HB.out.past hB
        clear hB
        clear v
        generalize v1 = v at HB ⊢
        clear v1
        simp only [Act.put, List.setIfInBounds_toArray, List.set_cons_zero, List.set_cons_succ]
        refine wpList_nil ?_
        go_upto_region 6 with fail
        obtain ⟨m, hm⟩ : ∃ m, 19900 + s1 = m := ⟨_, rfl⟩
        have wm : IntKind.i64.wrap m = m := by rw [IntKind.wrap_i64]; omega
        obtain ⟨k, hk⟩ : ∃ k, m - s2 = k := ⟨_, rfl⟩
        have HM : Hid (19900 + s1 = m) := hm
        have wc : IntKind.u64.wrap 19900 = 19900 := by decide
        have wk : IntKind.i64.wrap k = k := by rw [IntKind.wrap_i64]; omega
        have HK : Hid (m - s2 = k) := hk
        refine wp_region_held_drew (S := fun V' => Bw3 w V' bx bY bZ o x i) (by kernel_rfl) HB.out.drew (fun hHeld => ?_)
        generalize v.drew = z0 at hHeld ⊢
        clear HB v
        refine wpAnyH_take (i := 0) (v := .int .i64 19900) ov0 (by kernel_rfl) (by kernel_rfl) (by kernel_rfl) (fun _ _ _ h => h) (Or.inl ⟨by rfl, fun V' hS => ?_⟩) hHeld ?_
        · go_simp
        simp only [Act.put, List.setIfInBounds_toArray, List.set_cons_zero, List.set_cons_succ]
        refine wpAnyH_take (i := 1) (v := .int .u64 19900) ov1 (by kernel_rfl) (by kernel_rfl) (by kernel_rfl) (fun _ _ _ h => h) (Or.inl ⟨by rfl, fun V' hS => ?_⟩) hHeld ?_
        · go_simp
        simp only [Act.put, List.setIfInBounds_toArray, List.set_cons_zero, List.set_cons_succ]
        refine wpAnyH_take (i := 2) (v := .int .i64 19900) ov2 (by kernel_rfl) (by kernel_rfl) (by kernel_rfl) (fun _ _ _ h => h) (Or.inl ⟨by rfl, fun V' hS => ?_⟩) hHeld ?_
        · go_simp
        simp only [Act.put, List.setIfInBounds_toArray, List.set_cons_zero, List.set_cons_succ]
        refine wpAnyH_take (i := 3) (v := .agg #[.int .u64 o.a, .int .u64 o.b, .int .u64 o.c, .int .u64 o.d]) ov3 (by kernel_rfl) (by kernel_rfl) (by kernel_rfl) (fun _ _ _ h => h) (Or.inl ⟨by rfl, fun V' hS => ?_⟩) hHeld ?_
        · obtain ⟨c0, c1, c2, c3, _⟩ := hS.w0
          go_simp
        simp only [Act.put, List.setIfInBounds_toArray, List.set_cons_zero, List.set_cons_succ]
        refine wpAnyH_take (i := 4) (v := .agg #[.int .u64 x.a, .int .u64 x.b, .int .u64 x.c, .int .u64 x.d]) ov4 (by kernel_rfl) (by kernel_rfl) (by kernel_rfl) (fun _ _ _ h => h) (Or.inl ⟨by rfl, fun V' hS => ?_⟩) hHeld ?_
        · obtain ⟨c0, c1, c2, c3, _⟩ := hS.w1
          go_simp
        simp only [Act.put, List.setIfInBounds_toArray, List.set_cons_zero, List.set_cons_succ]
        refine wpAnyH_take (i := 7) (v := .agg #[.int .u64 o.a, .int .u64 o.b, .int .u64 o.c, .int .u64 o.d]) ov7 (by kernel_rfl) (by kernel_rfl) (by kernel_rfl) (fun _ _ _ h => h) (Or.inl ⟨by rfl, fun V' hS => ?_⟩) hHeld ?_
        · obtain ⟨c0, c1, c2, c3, _⟩ := hS.w0
          go_simp
        simp only [Act.put, List.setIfInBounds_toArray, List.set_cons_zero, List.set_cons_succ]
        refine wpAnyH_take (i := 8) (v := .agg #[.int .u64 i.a, .int .u64 i.b, .int .u64 i.c, .int .u64 i.d]) ov8 (by kernel_rfl) (by kernel_rfl) (by kernel_rfl) (fun _ _ _ h => h) (Or.inl ⟨by rfl, fun V' hS => ?_⟩) hHeld ?_
        · obtain ⟨c0, c1, c2, c3, _⟩ := hS.w2
          go_simp
        simp only [Act.put, List.setIfInBounds_toArray, List.set_cons_zero, List.set_cons_succ]
        refine wpAnyH_ready (rs := [5]) (by kernel_rfl) (by simp) ?_
        refine AllReadyH.cons ov5 (fun K hK => ?_) AllReadyH.nil
        rw [if_pos (by rfl)]
        go_simp
        refine (C4.out _).mono ?_
        rintro e z1 ⟨rfl, hB1⟩
        have hH1 : Bw3 w z1 bx bY bZ o x i := hHeld.past hB1
        (try go_wp2_with fail)
        refine hK.out _ _ hH1 (fun _ => ?_)
        clear hK K
        (try simp only [Act.put, List.setIfInBounds_toArray, List.set_cons_zero, List.set_cons_succ])
        refine wpAnyH_take (i := 6) (v := .int .i64 m) ov6 (by kernel_rfl) (by kernel_rfl) (by kernel_rfl) (fun _ _ _ h => h) (Or.inl ⟨by rfl, fun V' hS => ?_⟩) hH1 ?_
        · go_simp
        simp only [Act.put, List.setIfInBounds_toArray, List.set_cons_zero, List.set_cons_succ]
        refine wpAnyH_ready (rs := [9]) (by kernel_rfl) (by simp) ?_
        refine AllReadyH.cons ov9 (fun K hK => ?_) AllReadyH.nil
        rw [if_pos (by rfl)]
        go_simp
        refine (C5.out _).mono ?_
        rintro e z2 ⟨rfl, hB2⟩
        have hH2 : Bw3 w z2 bx bY bZ o x i := hH1.past hB2
        (try go_wp2_with fail)
        refine hK.out _ _ hH2 (fun _ => ?_)
        clear hK K
        (try simp only [Act.put, List.setIfInBounds_toArray, List.set_cons_zero, List.set_cons_succ])
        refine wpAnyH_take (i := 10) (v := .int .i64 k) ov10 (by kernel_rfl) (by kernel_rfl) (by kernel_rfl) (fun _ _ _ h => h) (Or.inl ⟨by rfl, fun V' hS => ?_⟩) hH2 ?_
        · go_simp
        simp only [Act.put, List.setIfInBounds_toArray, List.set_cons_zero, List.set_cons_succ]
        refine wpAnyH_take (i := 11) (v := .int .u64 19900) ov11 (by kernel_rfl) (by kernel_rfl) (by kernel_rfl) (fun _ _ _ h => h) (Or.inl ⟨by rfl, fun V' hS => ?_⟩) hH2 ?_
        · go_simp
        simp only [Act.put, List.setIfInBounds_toArray, List.set_cons_zero, List.set_cons_succ]
        refine wpAnyH_take (i := 12) (v := .int .i64 k) ov12 (by kernel_rfl) (by kernel_rfl) (by kernel_rfl) (fun _ _ _ h => h) (Or.inl ⟨by rfl, fun V' hS => ?_⟩) hH2 ?_
        · go_simp
        simp only [Act.put, List.setIfInBounds_toArray, List.set_cons_zero, List.set_cons_succ]
        refine wpAnyH_done (by kernel_rfl) ?_ _
        go_wp2
        go_ret2
        exact ⟨by have h9 := HM.out; have h8 := HK.out; simp [rc]; omega, hH2.bel⟩
    · refine wp_region_lit ?_
      refine lst_val (v := .agg #[.int .u64 o.a, .int .u64 o.b, .int .u64 o.c, .int .u64 o.d]) (by rfl) ?_ ?_
      · obtain ⟨c0, c1, c2, c3, _⟩ := HB.out.w0
        go_simp
      simp only [Act.put, List.setIfInBounds_toArray, List.set_cons_zero, List.set_cons_succ]
      refine lst_val (v := .agg #[.int .u64 x.a, .int .u64 x.b, .int .u64 x.c, .int .u64 x.d]) (by rfl) ?_ ?_
      · obtain ⟨c0, c1, c2, c3, _⟩ := HB.out.w1
        go_simp
      simp only [Act.put, List.setIfInBounds_toArray, List.set_cons_zero, List.set_cons_succ]
      refine lst_call (by rfl) (by first | (go_simp; done) | (go_simp; first | exact rfl | exact ⟨rfl, rfl⟩ | exact ⟨rfl, rfl, rfl⟩)) (C1.out _) ?_
      rintro e v1 ⟨rfl, hB⟩
      refine ⟨_, rfl, ?_⟩
      replace HB : Hid (Bw3 w v1 bx bY bZ o x i) := HB.out.past hB
      clear hB
      clear v
      generalize v1 = v at HB ⊢
      clear v1
      simp only [Act.put, List.setIfInBounds_toArray, List.set_cons_zero, List.set_cons_succ]
      refine lst_val (v := .bool true) (by rfl) ?_ ?_
      · go_simp
      simp only [Act.put, List.setIfInBounds_toArray, List.set_cons_zero, List.set_cons_succ]
      refine lst_val (v := .agg #[.int .u64 x.a, .int .u64 x.b, .int .u64 x.c, .int .u64 x.d]) (by rfl) ?_ ?_
      · obtain ⟨c0, c1, c2, c3, _⟩ := HB.out.w1
        go_simp
      simp only [Act.put, List.setIfInBounds_toArray, List.set_cons_zero, List.set_cons_succ]
      refine lst_val (v := .agg #[.int .u64 i.a, .int .u64 i.b, .int .u64 i.c, .int .u64 i.d]) (by rfl) ?_ ?_
      · obtain ⟨c0, c1, c2, c3, _⟩ := HB.out.w2
        go_simp
      simp only [Act.put, List.setIfInBounds_toArray, List.set_cons_zero, List.set_cons_succ]
      refine lst_call (by rfl) (by first | (go_simp; done) | (go_simp; first | exact rfl | exact ⟨rfl, rfl⟩ | exact ⟨rfl, rfl, rfl⟩)) (C2.out _) ?_
      rintro e v1 ⟨rfl, hB⟩
      refine ⟨_, rfl, ?_⟩
      replace HB : Hid (Bw3 w v1 bx bY bZ o x i) := HB.out.past hB
      clear hB
      clear v
      generalize v1 = v at HB ⊢
      clear v1
      simp only [Act.put, List.setIfInBounds_toArray, List.set_cons_zero, List.set_cons_succ]
      refine lst_val (v := .bool false) (by rfl) ?_ ?_
      · go_simp
      simp only [Act.put, List.setIfInBounds_toArray, List.set_cons_zero, List.set_cons_succ]
      refine lst_val (v := .bool false) (by rfl) ?_ ?_
      · go_simp
      simp only [Act.put, List.setIfInBounds_toArray, List.set_cons_zero, List.set_cons_succ]
      refine wpList_nil ?_
      go_upto_region 6 with fail
      obtain ⟨k, hk⟩ : ∃ k, s1 - s2 = k := ⟨_, rfl⟩
      have wz1 : IntKind.i64.wrap s1 = s1 := by rw [IntKind.wrap_i64]; omega
      have wc : IntKind.u64.wrap 0 = 0 := by decide
      have wk : IntKind.i64.wrap k = k := by rw [IntKind.wrap_i64]; omega
      have HK : Hid (s1 - s2 = k) := hk
      refine wp_region_held_drew (S := fun V' => Bw3 w V' bx bY bZ o x i) (by kernel_rfl) HB.out.drew (fun hHeld => ?_)
      generalize v.drew = z0 at hHeld ⊢
      clear HB v
      refine wpAnyH_take (i := 0) (v := .int .i64 0) ov0 (by kernel_rfl) (by kernel_rfl) (by kernel_rfl) (fun _ _ _ h => h) (Or.inl ⟨by rfl, fun V' hS => ?_⟩) hHeld ?_
      · go_simp
      simp only [Act.put, List.setIfInBounds_toArray, List.set_cons_zero, List.set_cons_succ]
      refine wpAnyH_take (i := 1) (v := .int .u64 0) ov1 (by kernel_rfl) (by kernel_rfl) (by kernel_rfl) (fun _ _ _ h => h) (Or.inl ⟨by rfl, fun V' hS => ?_⟩) hHeld ?_
      · go_simp
      simp only [Act.put, List.setIfInBounds_toArray, List.set_cons_zero, List.set_cons_succ]
      refine wpAnyH_take (i := 2) (v := .int .i64 0) ov2 (by kernel_rfl) (by kernel_rfl) (by kernel_rfl) (fun _ _ _ h => h) (Or.inl ⟨by rfl, fun V' hS => ?_⟩) hHeld ?_
      · go_simp
      simp only [Act.put, List.setIfInBounds_toArray, List.set_cons_zero, List.set_cons_succ]
      refine wpAnyH_take (i := 3) (v := .agg #[.int .u64 o.a, .int .u64 o.b, .int .u64 o.c, .int .u64 o.d]) ov3 (by kernel_rfl) (by kernel_rfl) (by kernel_rfl) (fun _ _ _ h => h) (Or.inl ⟨by rfl, fun V' hS => ?_⟩) hHeld ?_
      · obtain ⟨c0, c1, c2, c3, _⟩ := hS.w0
        go_simp
      simp only [Act.put, List.setIfInBounds_toArray, List.set_cons_zero, List.set_cons_succ]
      refine wpAnyH_take (i := 4) (v := .agg #[.int .u64 x.a, .int .u64 x.b, .int .u64 x.c, .int .u64 x.d]) ov4 (by kernel_rfl) (by kernel_rfl) (by kernel_rfl) (fun _ _ _ h => h) (Or.inl ⟨by rfl, fun V' hS => ?_⟩) hHeld ?_
      · obtain ⟨c0, c1, c2, c3, _⟩ := hS.w1
        go_simp
      simp only [Act.put, List.setIfInBounds_toArray, List.set_cons_zero, List.set_cons_succ]
      refine wpAnyH_take (i := 7) (v := .agg #[.int .u64 o.a, .int .u64 o.b, .int .u64 o.c, .int .u64 o.d]) ov7 (by kernel_rfl) (by kernel_rfl) (by kernel_rfl) (fun _ _ _ h => h) (Or.inl ⟨by rfl, fun V' hS => ?_⟩) hHeld ?_
      · obtain ⟨c0, c1, c2, c3, _⟩ := hS.w0
        go_simp
      simp only [Act.put, List.setIfInBounds_toArray, List.set_cons_zero, List.set_cons_succ]
      refine wpAnyH_take (i := 8) (v := .agg #[.int .u64 i.a, .int .u64 i.b, .int .u64 i.c, .int .u64 i.d]) ov8 (by kernel_rfl) (by kernel_rfl) (by kernel_rfl) (fun _ _ _ h => h) (Or.inl ⟨by rfl, fun V' hS => ?_⟩) hHeld ?_
      · obtain ⟨c0, c1, c2, c3, _⟩ := hS.w2
        go_simp
      simp only [Act.put, List.setIfInBounds_toArray, List.set_cons_zero, List.set_cons_succ]
      refine wpAnyH_ready (rs := [5]) (by kernel_rfl) (by simp) ?_
      refine AllReadyH.cons ov5 (fun K hK => ?_) AllReadyH.nil
      rw [if_pos (by rfl)]
      go_simp
      refine (C4.out _).mono ?_
      rintro e z1 ⟨rfl, hB1⟩
      have hH1 : Bw3 w z1 bx bY bZ o x i := hHeld.past hB1
      (try go_wp2_with fail)
      refine hK.out _ _ hH1 (fun _ => ?_)
      clear hK K
      (try simp only [Act.put, List.setIfInBounds_toArray, List.set_cons_zero, List.set_cons_succ])
      refine wpAnyH_take (i := 6) (v := .int .i64 s1) ov6 (by kernel_rfl) (by kernel_rfl) (by kernel_rfl) (fun _ _ _ h => h) (Or.inl ⟨by rfl, fun V' hS => ?_⟩) hH1 ?_
      · go_simp
      simp only [Act.put, List.setIfInBounds_toArray, List.set_cons_zero, List.set_cons_succ]
      refine wpAnyH_ready (rs := [9]) (by kernel_rfl) (by simp) ?_
      refine AllReadyH.cons ov9 (fun K hK => ?_) AllReadyH.nil
      rw [if_pos (by rfl)]
      go_simp
      refine (C5.out _).mono ?_
      rintro e z2 ⟨rfl, hB2⟩
      have hH2 : Bw3 w z2 bx bY bZ o x i := hH1.past hB2
      (try go_wp2_with fail)
      refine hK.out _ _ hH2 (fun _ => ?_)
      clear hK K
      (try simp only [Act.put, List.setIfInBounds_toArray, List.set_cons_zero, List.set_cons_succ])
      refine wpAnyH_take (i := 10) (v := .int .i64 k) ov10 (by kernel_rfl) (by kernel_rfl) (by kernel_rfl) (fun _ _ _ h => h) (Or.inl ⟨by rfl, fun V' hS => ?_⟩) hH2 ?_
      · go_simp
      simp only [Act.put, List.setIfInBounds_toArray, List.set_cons_zero, List.set_cons_succ]
      refine wpAnyH_take (i := 11) (v := .int .u64 0) ov11 (by kernel_rfl) (by kernel_rfl) (by kernel_rfl) (fun _ _ _ h => h) (Or.inl ⟨by rfl, fun V' hS => ?_⟩) hH2 ?_
      · go_simp
      simp only [Act.put, List.setIfInBounds_toArray, List.set_cons_zero, List.set_cons_succ]
      refine wpAnyH_take (i := 12) (v := .int .i64 k) ov12 (by kernel_rfl) (by kernel_rfl) (by kernel_rfl) (fun _ _ _ h => h) (Or.inl ⟨by rfl, fun V' hS => ?_⟩) hH2 ?_
      · go_simp
      simp only [Act.put, List.setIfInBounds_toArray, List.set_cons_zero, List.set_cons_succ]
      refine wpAnyH_done (by kernel_rfl) ?_ _
      go_wp2
      go_ret2
      exact ⟨by have h8 := HK.out; simp [rc]; omega, hH2.bel⟩
theorem W4.e_symm (x y : W4) : x.e y = y.e x := by
  rw [Bool.eq_iff_iff, W4.e_iff, W4.e_iff]; exact ⟨Eq.symm, Eq.symm⟩
theorem W4.e_self (x : W4) : x.e x = true := (W4.e_iff x x).2 rfl
theorem store_same (o x i : W4) : rc (o.e x) (x.e i) (o.e wz) = sc (i.e x) (x.e o) (o.e wz) ∧ rc (o.e x) (x.e i) (o.e wz) + stn (o.e x) (o.e wz) (x.e wz) - stn (o.e i) (o.e wz) (i.e wz) = sr (i.e x) (x.e o) (i.e o) (o.e wz) (clr (o.e wz) (i.e wz)) (clr (o.e wz) (x.e wz)) := by
  rw [W4.e_symm i x, W4.e_symm x o, W4.e_symm i o]
  rcases W4.e_dec o x _ rfl with ⟨h1, e1⟩ | ⟨h1, e1⟩
  · subst e1
    rcases W4.e_dec o i _ rfl with ⟨h2, e2⟩ | ⟨h2, e2⟩
    · subst e2
      simp only [W4.e_self]
      cases o.e wz <;> decide
    · rw [h2, W4.e_self]
      rcases W4.e_dec o wz _ rfl with ⟨h3, e3⟩ | ⟨h3, e3⟩
      · rw [h3, ← e3, W4.e_symm i o, h2]; decide
      · rw [h3]; cases i.e wz <;> decide
  · rcases W4.e_dec x i _ rfl with ⟨h2, e2⟩ | ⟨h2, e2⟩
    · subst e2
      rw [h1, h2]
      cases o.e wz <;> cases x.e wz <;> decide
    · rw [h1, h2]
      rcases W4.e_dec o i _ rfl with ⟨h3, e3⟩ | ⟨h3, e3⟩
      · subst e3
        rw [h3]
        rcases W4.e_dec o wz _ rfl with ⟨h4, e4⟩ | ⟨h4, e4⟩
        · rw [h4, ← e4, W4.e_symm x o, h1]; decide
        · rw [h4]; cases x.e wz <;> decide
      · rw [h3]
        rcases W4.e_dec o wz _ rfl with ⟨h4, e4⟩ | ⟨h4, e4⟩
        · rw [h4, ← e4, W4.e_symm x o, W4.e_symm i o, h1, h3]; decide
        · rcases W4.e_dec x wz _ rfl with ⟨h5, e5⟩ | ⟨h5, e5⟩
          · rcases W4.e_dec i wz _ rfl with ⟨h6, e6⟩ | ⟨h6, e6⟩
            · exact absurd (e5.trans e6.symm) e2
            · rw [h4, h5, h6]; decide
          · rw [h4, h5]; cases i.e wz <;> decide
theorem storeR_is (w : World) (o x i : W4) : Calls Try.prog 27 #[o.v, x.v, i.v] w fun e w' => e = .returned (.tuple #[.int .u64 (sc (i.e x) (x.e o) (o.e wz)), .int .i64 (sr (i.e x) (x.e o) (i.e o) (o.e wz) (clr (o.e wz) (i.e wz)) (clr (o.e wz) (x.e wz)))]) ∧ Below w.heap.size w w' := by
  rw [← (store_same o x i).2, ← (store_same o x i).1]
  exact storeR_core w o x i _ _ _ _ _ (stn_range _ _ _).1 (stn_range _ _ _).2 (stn_range _ _ _).1 (stn_range _ _ _).2 (fun W => same_is W o x) (fun W => same_is W x i) (fun W => zero_is W o) (fun W => stands_is W o x) (fun W => stands_is W o i)
def wone : W4 := ⟨1, 0, 0, 0⟩
set_option maxHeartbeats 4000000 in
set_option maxRecDepth 100000 in
theorem gasStores_core (w : World) (o x i : W4) (A B : Int) (M : Hid (∀ W, Calls Try.prog 26 #[o.v, x.v, i.v] W fun e w' => e = .returned (.tuple #[.int .u64 A, .int .i64 B]) ∧ Below W.heap.size W w')) (R : Hid (∀ W, Calls Try.prog 27 #[o.v, x.v, i.v] W fun e w' => e = .returned (.tuple #[.int .u64 A, .int .i64 B]) ∧ Below W.heap.size W w')) (L : Hid (∀ W, Calls Try.prog 26 #[wz.v, wz.v, wone.v] W fun e w' => e = .returned (.tuple #[.int .u64 19900, .int .i64 0]) ∧ Below W.heap.size W w')) : Calls Try.prog 5 #[o.v, x.v, i.v] w fun e w' => e = .returned (.bool true) ∧ Below w.heap.size w w' := by
  unfold W4.v
  go_enter Try.func5, Try.ntmps5
  go_upto_region 1 with fail
  obtain ⟨v, hv⟩ : ∃ v, v = ((w.alloc (.cells #[.int .u64 o.a, .int .u64 o.b, .int .u64 o.c, .int .u64 o.d] 27)).alloc (.cells #[.int .u64 x.a, .int .u64 x.b, .int .u64 x.c, .int .u64 x.d] 27)).alloc (.cells #[.int .u64 i.a, .int .u64 i.b, .int .u64 i.c, .int .u64 i.d] 27) := ⟨_, rfl⟩
  rw [← hv]
  have HB : Hid (Bw3 w v w.heap.size (w.heap.size + 1) (w.heap.size + 1 + 1) o x i) := by rw [hv]; exact Bw3.new w o x i
  clear hv
  generalize hbz : w.heap.size + 1 + 1 = bZ at HB ⊢
  clear hbz
  generalize hby : w.heap.size + 1 = bY at HB ⊢
  clear hby
  generalize hbx : w.heap.size = bx at HB ⊢
  clear hbx
  refine wp_region_lit ?_
  refine lst_val (v := .agg #[.int .u64 o.a, .int .u64 o.b, .int .u64 o.c, .int .u64 o.d]) (by rfl) ?_ ?_
  · obtain ⟨c0, c1, c2, c3, _⟩ := HB.out.w0
    go_simp
  simp only [Act.put, List.setIfInBounds_toArray, List.set_cons_zero, List.set_cons_succ]
  refine lst_val (v := .agg #[.int .u64 x.a, .int .u64 x.b, .int .u64 x.c, .int .u64 x.d]) (by rfl) ?_ ?_
  · obtain ⟨c0, c1, c2, c3, _⟩ := HB.out.w1
    go_simp
  simp only [Act.put, List.setIfInBounds_toArray, List.set_cons_zero, List.set_cons_succ]
  refine lst_val (v := .agg #[.int .u64 i.a, .int .u64 i.b, .int .u64 i.c, .int .u64 i.d]) (by rfl) ?_ ?_
  · obtain ⟨c0, c1, c2, c3, _⟩ := HB.out.w2
    go_simp
  simp only [Act.put, List.setIfInBounds_toArray, List.set_cons_zero, List.set_cons_succ]
  refine lst_call (by rfl) (by first | (go_simp; done) | (go_simp; first | exact rfl | exact ⟨rfl, rfl⟩ | exact ⟨rfl, rfl, rfl⟩)) (M.out _) ?_
  rintro e v1 ⟨rfl, hB⟩
  refine ⟨_, rfl, ?_⟩
  replace HB : Hid (Bw3 w v1 bx bY bZ o x i) := HB.out.past hB
  clear hB
  clear v
  generalize v1 = v at HB ⊢
  clear v1
  simp only [Act.put, List.setIfInBounds_toArray, List.set_cons_zero, List.set_cons_succ]
  refine lst_val (v := .tuple #[.int .u64 A, .int .i64 B]) (by rfl) ?_ ?_
  · go_simp
  simp only [Act.put, List.setIfInBounds_toArray, List.set_cons_zero, List.set_cons_succ]
  refine lst_val (v := .int .u64 A) (by rfl) ?_ ?_
  · go_simp
  simp only [Act.put, List.setIfInBounds_toArray, List.set_cons_zero, List.set_cons_succ]
  refine lst_val (v := .int .i64 B) (by rfl) ?_ ?_
  · go_simp
  simp only [Act.put, List.setIfInBounds_toArray, List.set_cons_zero, List.set_cons_succ]
  refine lst_val (v := .int .u64 A) (by rfl) ?_ ?_
  · go_simp
  simp only [Act.put, List.setIfInBounds_toArray, List.set_cons_zero, List.set_cons_succ]
  refine lst_val (v := .int .i64 B) (by rfl) ?_ ?_
  · go_simp
  simp only [Act.put, List.setIfInBounds_toArray, List.set_cons_zero, List.set_cons_succ]
  refine wpList_nil ?_
  go_upto_region 2 with fail
  refine wp_region_lit ?_
  refine lst_val (v := .agg #[.int .u64 o.a, .int .u64 o.b, .int .u64 o.c, .int .u64 o.d]) (by rfl) ?_ ?_
  · obtain ⟨c0, c1, c2, c3, _⟩ := HB.out.w0
    go_simp
  simp only [Act.put, List.setIfInBounds_toArray, List.set_cons_zero, List.set_cons_succ]
  refine lst_val (v := .agg #[.int .u64 x.a, .int .u64 x.b, .int .u64 x.c, .int .u64 x.d]) (by rfl) ?_ ?_
  · obtain ⟨c0, c1, c2, c3, _⟩ := HB.out.w1
    go_simp
  simp only [Act.put, List.setIfInBounds_toArray, List.set_cons_zero, List.set_cons_succ]
  refine lst_val (v := .agg #[.int .u64 i.a, .int .u64 i.b, .int .u64 i.c, .int .u64 i.d]) (by rfl) ?_ ?_
  · obtain ⟨c0, c1, c2, c3, _⟩ := HB.out.w2
    go_simp
  simp only [Act.put, List.setIfInBounds_toArray, List.set_cons_zero, List.set_cons_succ]
  refine lst_call (by rfl) (by first | (go_simp; done) | (go_simp; first | exact rfl | exact ⟨rfl, rfl⟩ | exact ⟨rfl, rfl, rfl⟩)) (R.out _) ?_
  rintro e v1 ⟨rfl, hB⟩
  refine ⟨_, rfl, ?_⟩
  replace HB : Hid (Bw3 w v1 bx bY bZ o x i) := HB.out.past hB
  clear hB
  clear v
  generalize v1 = v at HB ⊢
  clear v1
  simp only [Act.put, List.setIfInBounds_toArray, List.set_cons_zero, List.set_cons_succ]
  refine lst_val (v := .tuple #[.int .u64 A, .int .i64 B]) (by rfl) ?_ ?_
  · go_simp
  simp only [Act.put, List.setIfInBounds_toArray, List.set_cons_zero, List.set_cons_succ]
  refine lst_val (v := .int .u64 A) (by rfl) ?_ ?_
  · go_simp
  simp only [Act.put, List.setIfInBounds_toArray, List.set_cons_zero, List.set_cons_succ]
  refine lst_val (v := .int .i64 B) (by rfl) ?_ ?_
  · go_simp
  simp only [Act.put, List.setIfInBounds_toArray, List.set_cons_zero, List.set_cons_succ]
  refine lst_val (v := .int .u64 A) (by rfl) ?_ ?_
  · go_simp
  simp only [Act.put, List.setIfInBounds_toArray, List.set_cons_zero, List.set_cons_succ]
  refine lst_val (v := .int .i64 B) (by rfl) ?_ ?_
  · go_simp
  simp only [Act.put, List.setIfInBounds_toArray, List.set_cons_zero, List.set_cons_succ]
  refine wpList_nil ?_
  go_upto_region 3 with fail
  refine wp_region_lit ?_
  refine lst_val (v := .agg #[.int .u64 0, .int .u64 0, .int .u64 0, .int .u64 0]) (by rfl) ?_ ?_
  · go_simp
  simp only [Act.put, List.setIfInBounds_toArray, List.set_cons_zero, List.set_cons_succ]
  refine lst_val (v := .agg #[.int .u64 0, .int .u64 0, .int .u64 0, .int .u64 0]) (by rfl) ?_ ?_
  · go_simp
  simp only [Act.put, List.setIfInBounds_toArray, List.set_cons_zero, List.set_cons_succ]
  refine lst_val (v := .agg #[.int .u64 1, .int .u64 0, .int .u64 0, .int .u64 0]) (by rfl) ?_ ?_
  · go_simp
  simp only [Act.put, List.setIfInBounds_toArray, List.set_cons_zero, List.set_cons_succ]
  refine lst_call (by rfl) (by first | (go_simp; done) | (go_simp; first | exact rfl | exact ⟨rfl, rfl⟩ | exact ⟨rfl, rfl, rfl⟩)) (L.out _) ?_
  rintro e v1 ⟨rfl, hB⟩
  refine ⟨_, rfl, ?_⟩
  replace HB : Hid (Bw3 w v1 bx bY bZ o x i) := HB.out.past hB
  clear hB
  clear v
  generalize v1 = v at HB ⊢
  clear v1
  simp only [Act.put, List.setIfInBounds_toArray, List.set_cons_zero, List.set_cons_succ]
  refine lst_val (v := .tuple #[.int .u64 19900, .int .i64 0]) (by rfl) ?_ ?_
  · go_simp
  simp only [Act.put, List.setIfInBounds_toArray, List.set_cons_zero, List.set_cons_succ]
  refine lst_val (v := .int .u64 19900) (by rfl) ?_ ?_
  · go_simp
  simp only [Act.put, List.setIfInBounds_toArray, List.set_cons_zero, List.set_cons_succ]
  refine lst_val (v := .int .i64 0) (by rfl) ?_ ?_
  · go_simp
  simp only [Act.put, List.setIfInBounds_toArray, List.set_cons_zero, List.set_cons_succ]
  refine lst_val (v := .int .u64 19900) (by rfl) ?_ ?_
  · go_simp
  simp only [Act.put, List.setIfInBounds_toArray, List.set_cons_zero, List.set_cons_succ]
  refine lst_val (v := .int .i64 0) (by rfl) ?_ ?_
  · go_simp
  simp only [Act.put, List.setIfInBounds_toArray, List.set_cons_zero, List.set_cons_succ]
  refine wpList_nil ?_
  go_upto_region 4 with fail
  refine wp_region_lit ?_
  refine lst_val (v := .int .u64 A) (by rfl) ?_ ?_
  · go_simp
  simp only [Act.put, List.setIfInBounds_toArray, List.set_cons_zero, List.set_cons_succ]
  refine lst_val (v := .int .u64 A) (by rfl) ?_ ?_
  · go_simp
  simp only [Act.put, List.setIfInBounds_toArray, List.set_cons_zero, List.set_cons_succ]
  refine lst_val (v := .bool true) (by rfl) ?_ ?_
  · go_simp
  simp only [Act.put, List.setIfInBounds_toArray, List.set_cons_zero, List.set_cons_succ]
  refine lst_val (v := .bool true) (by rfl) ?_ ?_
  · go_simp
  simp only [Act.put, List.setIfInBounds_toArray, List.set_cons_zero, List.set_cons_succ]
  refine lst_val (v := .int .i64 B) (by rfl) ?_ ?_
  · go_simp
  simp only [Act.put, List.setIfInBounds_toArray, List.set_cons_zero, List.set_cons_succ]
  refine lst_val (v := .int .i64 B) (by rfl) ?_ ?_
  · go_simp
  simp only [Act.put, List.setIfInBounds_toArray, List.set_cons_zero, List.set_cons_succ]
  refine lst_val (v := .bool true) (by rfl) ?_ ?_
  · go_simp
  simp only [Act.put, List.setIfInBounds_toArray, List.set_cons_zero, List.set_cons_succ]
  refine lst_val (v := .bool true) (by rfl) ?_ ?_
  · go_simp
  simp only [Act.put, List.setIfInBounds_toArray, List.set_cons_zero, List.set_cons_succ]
  refine lst_val (v := .bool true) (by rfl) ?_ ?_
  · go_simp
  simp only [Act.put, List.setIfInBounds_toArray, List.set_cons_zero, List.set_cons_succ]
  refine lst_val (v := .int .u64 19900) (by rfl) ?_ ?_
  · go_simp
  simp only [Act.put, List.setIfInBounds_toArray, List.set_cons_zero, List.set_cons_succ]
  refine lst_val (v := .bool true) (by rfl) ?_ ?_
  · go_simp
  simp only [Act.put, List.setIfInBounds_toArray, List.set_cons_zero, List.set_cons_succ]
  refine lst_val (v := .bool true) (by rfl) ?_ ?_
  · go_simp
  simp only [Act.put, List.setIfInBounds_toArray, List.set_cons_zero, List.set_cons_succ]
  refine lst_val (v := .bool true) (by rfl) ?_ ?_
  · go_simp
  simp only [Act.put, List.setIfInBounds_toArray, List.set_cons_zero, List.set_cons_succ]
  refine lst_val (v := .int .i64 0) (by rfl) ?_ ?_
  · go_simp
  simp only [Act.put, List.setIfInBounds_toArray, List.set_cons_zero, List.set_cons_succ]
  refine lst_val (v := .bool true) (by rfl) ?_ ?_
  · go_simp
  simp only [Act.put, List.setIfInBounds_toArray, List.set_cons_zero, List.set_cons_succ]
  refine lst_val (v := .bool true) (by rfl) ?_ ?_
  · go_simp
  simp only [Act.put, List.setIfInBounds_toArray, List.set_cons_zero, List.set_cons_succ]
  refine lst_val (v := .bool true) (by rfl) ?_ ?_
  · go_simp
  simp only [Act.put, List.setIfInBounds_toArray, List.set_cons_zero, List.set_cons_succ]
  refine wpList_nil ?_
  go_wp2
  go_ret
  exact ⟨rfl, HB.out.bel⟩
theorem gasStores_walk (w : World) (a0 a1 a2 a3 b0 b1 b2 b3 c0 c1 c2 c3 : Int) {x y z : Int} (_ : IsW x a0 a1 a2 a3) (_ : IsW y b0 b1 b2 b3) (_ : IsW z c0 c1 c2 c3) : Calls Try.prog 5 #[.agg #[.int .u64 a0, .int .u64 a1, .int .u64 a2, .int .u64 a3], .agg #[.int .u64 b0, .int .u64 b1, .int .u64 b2, .int .u64 b3], .agg #[.int .u64 c0, .int .u64 c1, .int .u64 c2, .int .u64 c3]] w fun e w' => e = .returned (.bool true) ∧ Below w.heap.size w w' :=
  gasStores_core w ⟨a0, a1, a2, a3⟩ ⟨b0, b1, b2, b3⟩ ⟨c0, c1, c2, c3⟩ _ _ (fun W => store_is W _ _ _) (fun W => storeR_is W _ _ _) (fun W => store_is W wz wz wone)
end Go.Proofs.Ytpgjchkfglkgcaa
