/- What a word in storage costs, and by how much the refund changes: of both kinds. -/
import Derived.Test.YtpgjchkfglkgcaaUd
import Derived.Deep.RegionHeld3
namespace Go.Proofs.Ytpgjchkfglkgcaa
open Go.RowKit
structure Bw2 (w W : World) (b0 b1 : Nat) (x y : W4) : Prop where
  w0 : Wd W b0 0 x
  w1 : Wd W b1 0 y
  bel : Below w.heap.size w W
theorem Bw2.past {w W W' : World} {b0 b1 : Nat} {x y : W4} (h : Bw2 w W b0 b1 x y) (k : Below W.heap.size W W') : Bw2 w W' b0 b1 x y := ⟨h.w0.past k, h.w1.past k, h.bel.trans (k.mono h.bel.size)⟩
theorem Bw2.new (w : World) (x y : W4) : Bw2 w ((w.alloc (.cells #[.int .u64 x.a, .int .u64 x.b, .int .u64 x.c, .int .u64 x.d] 27)).alloc (.cells #[.int .u64 y.a, .int .u64 y.b, .int .u64 y.c, .int .u64 y.d] 27)) w.heap.size (w.heap.size + 1) x y := by
  have h2 := Wd.new (w.alloc (.cells #[.int .u64 x.a, .int .u64 x.b, .int .u64 x.c, .int .u64 x.d] 27)) 27 y
  rw [World.size_alloc] at h2
  exact ⟨(Wd.new w 27 x).alloc _, h2, ((Below.refl _ _).alloc (Nat.le_refl _) _).alloc (by simp) _⟩
structure Bw3 (w W : World) (b0 b1 b2 : Nat) (x y z : W4) : Prop where
  w0 : Wd W b0 0 x
  w1 : Wd W b1 0 y
  w2 : Wd W b2 0 z
  bel : Below w.heap.size w W
theorem Bw3.past {w W W' : World} {b0 b1 b2 : Nat} {x y z : W4} (h : Bw3 w W b0 b1 b2 x y z) (k : Below W.heap.size W W') : Bw3 w W' b0 b1 b2 x y z := ⟨h.w0.past k, h.w1.past k, h.w2.past k, h.bel.trans (k.mono h.bel.size)⟩
theorem Bw3.drew {w W : World} {b0 b1 b2 : Nat} {x y z : W4} (h : Bw3 w W b0 b1 b2 x y z) : Bw3 w W.drew b0 b1 b2 x y z := h.past ((Below.refl _ _).drew)
theorem Bw3.new (w : World) (x y z : W4) : Bw3 w (((w.alloc (.cells #[.int .u64 x.a, .int .u64 x.b, .int .u64 x.c, .int .u64 x.d] 27)).alloc (.cells #[.int .u64 y.a, .int .u64 y.b, .int .u64 y.c, .int .u64 y.d] 27)).alloc (.cells #[.int .u64 z.a, .int .u64 z.b, .int .u64 z.c, .int .u64 z.d] 27)) w.heap.size (w.heap.size + 1) (w.heap.size + 1 + 1) x y z := by
  have h := Bw2.new w x y
  have h3 := Wd.new ((w.alloc (.cells #[.int .u64 x.a, .int .u64 x.b, .int .u64 x.c, .int .u64 x.d] 27)).alloc (.cells #[.int .u64 y.a, .int .u64 y.b, .int .u64 y.c, .int .u64 y.d] 27)) 27 z
  rw [World.size_alloc, World.size_alloc] at h3
  exact ⟨h.w0.alloc _, h.w1.alloc _, h3, h.bel.alloc h.bel.size _⟩
def clr (zo zt : Bool) : Int := if zt && !zo then 4800 else 0
def stn (es zo zl : Bool) : Int := if es then 0 else if zo then 19900 else if zl then -2000 else 2800
set_option maxHeartbeats 1000000 in
set_option maxRecDepth 100000 in
theorem cleared_is (w : World) (o t : W4) : Calls Try.prog 46 #[o.v, t.v] w fun e w' => e = .returned (.int .i64 (clr (o.e wz) (t.e wz))) ∧ Below w.heap.size w w' := by
  have C1 : Hid (∀ W, Calls Try.prog 47 #[t.v] W fun e w' => e = .returned (.bool (t.e wz)) ∧ Below W.heap.size W w') := fun W => isZero_is W t
  have C2 : Hid (∀ W, Calls Try.prog 47 #[o.v] W fun e w' => e = .returned (.bool (o.e wz)) ∧ Below W.heap.size W w') := fun W => isZero_is W o
  generalize o.e wz = zo at *
  generalize t.e wz = zt at *
  unfold W4.v
  go_enter Try.func46, Try.ntmps46
  go_upto_region 1 with fail
  obtain ⟨v, hv⟩ : ∃ v, v = (w.alloc (.cells #[.int .u64 o.a, .int .u64 o.b, .int .u64 o.c, .int .u64 o.d] 27)).alloc (.cells #[.int .u64 t.a, .int .u64 t.b, .int .u64 t.c, .int .u64 t.d] 27) := ⟨_, rfl⟩
  rw [← hv]
  have HB : Hid (Bw2 w v w.heap.size (w.heap.size + 1) o t) := by rw [hv]; exact Bw2.new w o t
  clear hv
  generalize hby : w.heap.size + 1 = bY at HB ⊢
  clear hby
  generalize hbx : w.heap.size = bx at HB ⊢
  clear hbx
  cases zt
  · refine wp_region_lit ?_
    refine lst_val (v := .agg #[.int .u64 t.a, .int .u64 t.b, .int .u64 t.c, .int .u64 t.d]) (by rfl) ?_ ?_
    · obtain ⟨c0, c1, c2, c3, _⟩ := HB.out.w1
      go_simp
    simp only [Act.put, List.setIfInBounds_toArray, List.set_cons_zero, List.set_cons_succ]
    refine lst_call (by rfl) (by first | (go_simp; done) | (go_simp; first | exact rfl | exact ⟨rfl, rfl⟩ | exact ⟨rfl, rfl, rfl⟩)) (C1.out _) ?_
    rintro e v1 ⟨rfl, hB⟩
    refine ⟨_, rfl, ?_⟩
    replace HB : Hid (Bw2 w v1 bx bY o t) := HB.out.past hB
    clear hB
    clear v
    generalize v1 = v at HB ⊢
    clear v1
    simp only [Act.put, List.setIfInBounds_toArray, List.set_cons_zero, List.set_cons_succ]
    refine lst_val (v := .bool false) (by rfl) ?_ ?_
    · go_simp
    simp only [Act.put, List.setIfInBounds_toArray, List.set_cons_zero, List.set_cons_succ]
    refine lst_not (by rfl) ?_
    simp only [Act.put, List.setIfInBounds_toArray, List.set_cons_zero, List.set_cons_succ]
    refine lst_not (by rfl) ?_
    simp only [Act.put, List.setIfInBounds_toArray, List.set_cons_zero, List.set_cons_succ]
    refine lst_not (by rfl) ?_
    simp only [Act.put, List.setIfInBounds_toArray, List.set_cons_zero, List.set_cons_succ]
    refine lst_val (v := .bool false) (by rfl) ?_ ?_
    · go_simp
    simp only [Act.put, List.setIfInBounds_toArray, List.set_cons_zero, List.set_cons_succ]
    refine wpList_nil ?_
    go_wp2
    go_ret
    exact ⟨rfl, HB.out.bel⟩
  cases zo
  · refine wp_region_lit ?_
    refine lst_val (v := .agg #[.int .u64 t.a, .int .u64 t.b, .int .u64 t.c, .int .u64 t.d]) (by rfl) ?_ ?_
    · obtain ⟨c0, c1, c2, c3, _⟩ := HB.out.w1
      go_simp
    simp only [Act.put, List.setIfInBounds_toArray, List.set_cons_zero, List.set_cons_succ]
    refine lst_call (by rfl) (by first | (go_simp; done) | (go_simp; first | exact rfl | exact ⟨rfl, rfl⟩ | exact ⟨rfl, rfl, rfl⟩)) (C1.out _) ?_
    rintro e v1 ⟨rfl, hB⟩
    refine ⟨_, rfl, ?_⟩
    replace HB : Hid (Bw2 w v1 bx bY o t) := HB.out.past hB
    clear hB
    clear v
    generalize v1 = v at HB ⊢
    clear v1
    simp only [Act.put, List.setIfInBounds_toArray, List.set_cons_zero, List.set_cons_succ]
    refine lst_val (v := .bool true) (by rfl) ?_ ?_
    · go_simp
    simp only [Act.put, List.setIfInBounds_toArray, List.set_cons_zero, List.set_cons_succ]
    refine lst_val (v := .agg #[.int .u64 o.a, .int .u64 o.b, .int .u64 o.c, .int .u64 o.d]) (by rfl) ?_ ?_
    · obtain ⟨c0, c1, c2, c3, _⟩ := HB.out.w0
      go_simp
    simp only [Act.put, List.setIfInBounds_toArray, List.set_cons_zero, List.set_cons_succ]
    refine lst_call (by rfl) (by first | (go_simp; done) | (go_simp; first | exact rfl | exact ⟨rfl, rfl⟩ | exact ⟨rfl, rfl, rfl⟩)) (C2.out _) ?_
    rintro e v1 ⟨rfl, hB⟩
    refine ⟨_, rfl, ?_⟩
    replace HB : Hid (Bw2 w v1 bx bY o t) := HB.out.past hB
    clear hB
    clear v
    generalize v1 = v at HB ⊢
    clear v1
    simp only [Act.put, List.setIfInBounds_toArray, List.set_cons_zero, List.set_cons_succ]
    refine lst_val (v := .bool true) (by rfl) ?_ ?_
    · go_simp
    simp only [Act.put, List.setIfInBounds_toArray, List.set_cons_zero, List.set_cons_succ]
    refine lst_val (v := .bool true) (by rfl) ?_ ?_
    · go_simp
    simp only [Act.put, List.setIfInBounds_toArray, List.set_cons_zero, List.set_cons_succ]
    refine wpList_nil ?_
    go_wp2
    go_ret
    exact ⟨rfl, HB.out.bel⟩
  · refine wp_region_lit ?_
    refine lst_val (v := .agg #[.int .u64 t.a, .int .u64 t.b, .int .u64 t.c, .int .u64 t.d]) (by rfl) ?_ ?_
    · obtain ⟨c0, c1, c2, c3, _⟩ := HB.out.w1
      go_simp
    simp only [Act.put, List.setIfInBounds_toArray, List.set_cons_zero, List.set_cons_succ]
    refine lst_call (by rfl) (by first | (go_simp; done) | (go_simp; first | exact rfl | exact ⟨rfl, rfl⟩ | exact ⟨rfl, rfl, rfl⟩)) (C1.out _) ?_
    rintro e v1 ⟨rfl, hB⟩
    refine ⟨_, rfl, ?_⟩
    replace HB : Hid (Bw2 w v1 bx bY o t) := HB.out.past hB
    clear hB
    clear v
    generalize v1 = v at HB ⊢
    clear v1
    simp only [Act.put, List.setIfInBounds_toArray, List.set_cons_zero, List.set_cons_succ]
    refine lst_val (v := .bool true) (by rfl) ?_ ?_
    · go_simp
    simp only [Act.put, List.setIfInBounds_toArray, List.set_cons_zero, List.set_cons_succ]
    refine lst_val (v := .agg #[.int .u64 o.a, .int .u64 o.b, .int .u64 o.c, .int .u64 o.d]) (by rfl) ?_ ?_
    · obtain ⟨c0, c1, c2, c3, _⟩ := HB.out.w0
      go_simp
    simp only [Act.put, List.setIfInBounds_toArray, List.set_cons_zero, List.set_cons_succ]
    refine lst_call (by rfl) (by first | (go_simp; done) | (go_simp; first | exact rfl | exact ⟨rfl, rfl⟩ | exact ⟨rfl, rfl, rfl⟩)) (C2.out _) ?_
    rintro e v1 ⟨rfl, hB⟩
    refine ⟨_, rfl, ?_⟩
    replace HB : Hid (Bw2 w v1 bx bY o t) := HB.out.past hB
    clear hB
    clear v
    generalize v1 = v at HB ⊢
    clear v1
    simp only [Act.put, List.setIfInBounds_toArray, List.set_cons_zero, List.set_cons_succ]
    refine lst_val (v := .bool false) (by rfl) ?_ ?_
    · go_simp
    simp only [Act.put, List.setIfInBounds_toArray, List.set_cons_zero, List.set_cons_succ]
    refine lst_val (v := .bool false) (by rfl) ?_ ?_
    · go_simp
    simp only [Act.put, List.setIfInBounds_toArray, List.set_cons_zero, List.set_cons_succ]
    refine wpList_nil ?_
    go_wp2
    go_ret
    exact ⟨rfl, HB.out.bel⟩
set_option maxHeartbeats 1000000 in
set_option maxRecDepth 100000 in
theorem stands_is (w : World) (o t : W4) : Calls Try.prog 50 #[o.v, t.v] w fun e w' => e = .returned (.int .i64 (stn (o.e t) (o.e wz) (t.e wz))) ∧ Below w.heap.size w w' := by
  have C0 : Hid (∀ W, Calls Try.prog 48 #[o.v, t.v] W fun e w' => e = .returned (.bool (o.e t)) ∧ Below W.heap.size W w') := fun W => same_is W o t
  have C1 : Hid (∀ W, Calls Try.prog 49 #[t.v] W fun e w' => e = .returned (.bool (t.e wz)) ∧ Below W.heap.size W w') := fun W => zero_is W t
  have C2 : Hid (∀ W, Calls Try.prog 49 #[o.v] W fun e w' => e = .returned (.bool (o.e wz)) ∧ Below W.heap.size W w') := fun W => zero_is W o
  generalize o.e wz = zo at *
  generalize t.e wz = zt at *
  generalize o.e t = es at *
  unfold W4.v
  go_enter Try.func50, Try.ntmps50
  go_upto_region 1 with fail
  obtain ⟨v, hv⟩ : ∃ v, v = (w.alloc (.cells #[.int .u64 o.a, .int .u64 o.b, .int .u64 o.c, .int .u64 o.d] 27)).alloc (.cells #[.int .u64 t.a, .int .u64 t.b, .int .u64 t.c, .int .u64 t.d] 27) := ⟨_, rfl⟩
  rw [← hv]
  have HB : Hid (Bw2 w v w.heap.size (w.heap.size + 1) o t) := by rw [hv]; exact Bw2.new w o t
  clear hv
  generalize hby : w.heap.size + 1 = bY at HB ⊢
  clear hby
  generalize hbx : w.heap.size = bx at HB ⊢
  clear hbx
  cases es
  · refine wp_region_lit ?_
    refine lst_val (v := .agg #[.int .u64 o.a, .int .u64 o.b, .int .u64 o.c, .int .u64 o.d]) (by rfl) ?_ ?_
    · obtain ⟨c0, c1, c2, c3, _⟩ := HB.out.w0
      go_simp
    simp only [Act.put, List.setIfInBounds_toArray, List.set_cons_zero, List.set_cons_succ]
    refine lst_val (v := .agg #[.int .u64 t.a, .int .u64 t.b, .int .u64 t.c, .int .u64 t.d]) (by rfl) ?_ ?_
    · obtain ⟨c0, c1, c2, c3, _⟩ := HB.out.w1
      go_simp
    simp only [Act.put, List.setIfInBounds_toArray, List.set_cons_zero, List.set_cons_succ]
    refine lst_call (by rfl) (by first | (go_simp; done) | (go_simp; first | exact rfl | exact ⟨rfl, rfl⟩ | exact ⟨rfl, rfl, rfl⟩)) (C0.out _) ?_
    rintro e v1 ⟨rfl, hB⟩
    refine ⟨_, rfl, ?_⟩
    replace HB : Hid (Bw2 w v1 bx bY o t) := HB.out.past hB
    clear hB
    clear v
    generalize v1 = v at HB ⊢
    clear v1
    simp only [Act.put, List.setIfInBounds_toArray, List.set_cons_zero, List.set_cons_succ]
    refine wpList_nil ?_
    go_upto_region 3 with fail
    cases zo
    · refine wp_region_lit ?_
      refine lst_val (v := .agg #[.int .u64 o.a, .int .u64 o.b, .int .u64 o.c, .int .u64 o.d]) (by rfl) ?_ ?_
      · obtain ⟨c0, c1, c2, c3, _⟩ := HB.out.w0
        go_simp
      simp only [Act.put, List.setIfInBounds_toArray, List.set_cons_zero, List.set_cons_succ]
      refine lst_call (by rfl) (by first | (go_simp; done) | (go_simp; first | exact rfl | exact ⟨rfl, rfl⟩ | exact ⟨rfl, rfl, rfl⟩)) (C2.out _) ?_
      rintro e v1 ⟨rfl, hB⟩
      refine ⟨_, rfl, ?_⟩
      replace HB : Hid (Bw2 w v1 bx bY o t) := HB.out.past hB
      clear hB
      clear v
      generalize v1 = v at HB ⊢
      clear v1
      simp only [Act.put, List.setIfInBounds_toArray, List.set_cons_zero, List.set_cons_succ]
      refine wpList_nil ?_
      go_upto_region 5 with fail
      cases zt
      · refine wp_region_lit ?_
        refine lst_val (v := .agg #[.int .u64 t.a, .int .u64 t.b, .int .u64 t.c, .int .u64 t.d]) (by rfl) ?_ ?_
        · obtain ⟨c0, c1, c2, c3, _⟩ := HB.out.w1
          go_simp
        simp only [Act.put, List.setIfInBounds_toArray, List.set_cons_zero, List.set_cons_succ]
        refine lst_call (by rfl) (by first | (go_simp; done) | (go_simp; first | exact rfl | exact ⟨rfl, rfl⟩ | exact ⟨rfl, rfl, rfl⟩)) (C1.out _) ?_
        rintro e v1 ⟨rfl, hB⟩
        refine ⟨_, rfl, ?_⟩
        replace HB : Hid (Bw2 w v1 bx bY o t) := HB.out.past hB
        clear hB
        clear v
        generalize v1 = v at HB ⊢
        clear v1
        simp only [Act.put, List.setIfInBounds_toArray, List.set_cons_zero, List.set_cons_succ]
        refine wpList_nil ?_
        go_wp2
        go_ret
        exact ⟨rfl, HB.out.bel⟩
      · refine wp_region_lit ?_
        refine lst_val (v := .agg #[.int .u64 t.a, .int .u64 t.b, .int .u64 t.c, .int .u64 t.d]) (by rfl) ?_ ?_
        · obtain ⟨c0, c1, c2, c3, _⟩ := HB.out.w1
          go_simp
        simp only [Act.put, List.setIfInBounds_toArray, List.set_cons_zero, List.set_cons_succ]
        refine lst_call (by rfl) (by first | (go_simp; done) | (go_simp; first | exact rfl | exact ⟨rfl, rfl⟩ | exact ⟨rfl, rfl, rfl⟩)) (C1.out _) ?_
        rintro e v1 ⟨rfl, hB⟩
        refine ⟨_, rfl, ?_⟩
        replace HB : Hid (Bw2 w v1 bx bY o t) := HB.out.past hB
        clear hB
        clear v
        generalize v1 = v at HB ⊢
        clear v1
        simp only [Act.put, List.setIfInBounds_toArray, List.set_cons_zero, List.set_cons_succ]
        refine wpList_nil ?_
        go_wp2
        go_ret
        exact ⟨rfl, HB.out.bel⟩
    · refine wp_region_lit ?_
      refine lst_val (v := .agg #[.int .u64 o.a, .int .u64 o.b, .int .u64 o.c, .int .u64 o.d]) (by rfl) ?_ ?_
      · obtain ⟨c0, c1, c2, c3, _⟩ := HB.out.w0
        go_simp
      simp only [Act.put, List.setIfInBounds_toArray, List.set_cons_zero, List.set_cons_succ]
      refine lst_call (by rfl) (by first | (go_simp; done) | (go_simp; first | exact rfl | exact ⟨rfl, rfl⟩ | exact ⟨rfl, rfl, rfl⟩)) (C2.out _) ?_
      rintro e v1 ⟨rfl, hB⟩
      refine ⟨_, rfl, ?_⟩
      replace HB : Hid (Bw2 w v1 bx bY o t) := HB.out.past hB
      clear hB
      clear v
      generalize v1 = v at HB ⊢
      clear v1
      simp only [Act.put, List.setIfInBounds_toArray, List.set_cons_zero, List.set_cons_succ]
      refine wpList_nil ?_
      go_wp2
      go_ret
      exact ⟨rfl, HB.out.bel⟩
  · refine wp_region_lit ?_
    refine lst_val (v := .agg #[.int .u64 o.a, .int .u64 o.b, .int .u64 o.c, .int .u64 o.d]) (by rfl) ?_ ?_
    · obtain ⟨c0, c1, c2, c3, _⟩ := HB.out.w0
      go_simp
    simp only [Act.put, List.setIfInBounds_toArray, List.set_cons_zero, List.set_cons_succ]
    refine lst_val (v := .agg #[.int .u64 t.a, .int .u64 t.b, .int .u64 t.c, .int .u64 t.d]) (by rfl) ?_ ?_
    · obtain ⟨c0, c1, c2, c3, _⟩ := HB.out.w1
      go_simp
    simp only [Act.put, List.setIfInBounds_toArray, List.set_cons_zero, List.set_cons_succ]
    refine lst_call (by rfl) (by first | (go_simp; done) | (go_simp; first | exact rfl | exact ⟨rfl, rfl⟩ | exact ⟨rfl, rfl, rfl⟩)) (C0.out _) ?_
    rintro e v1 ⟨rfl, hB⟩
    refine ⟨_, rfl, ?_⟩
    replace HB : Hid (Bw2 w v1 bx bY o t) := HB.out.past hB
    clear hB
    clear v
    generalize v1 = v at HB ⊢
    clear v1
    simp only [Act.put, List.setIfInBounds_toArray, List.set_cons_zero, List.set_cons_succ]
    refine wpList_nil ?_
    go_wp2
    go_ret
    exact ⟨rfl, HB.out.bel⟩
def sc (eiw ewo zo : Bool) : Int := if eiw then 0 else if ewo && zo then 19900 else if ewo then 2800 else 0
def sr (eiw ewo eio zo : Bool) (p q : Int) : Int := if eiw then 0 else if ewo && zo then 0 else if ewo then p - q else if eio && zo then p - q + 19900 else if eio then p - q + 2800 else p - q
theorem clr_range (a b : Bool) : 0 ≤ clr a b ∧ clr a b ≤ 4800 := by cases a <;> cases b <;> decide
set_option maxHeartbeats 4000000 in
set_option maxRecDepth 100000 in
theorem store_core (w : World) (o x i : W4) (eiw ewo eio zo : Bool) (p q d : Int) (p0 : 0 ≤ p) (p1 : p ≤ 4800) (q0 : 0 ≤ q) (q1 : q ≤ 4800) (hd : p - q = d) (C1 : Hid (∀ W, Calls Try.prog 46 #[o.v, i.v] W fun e w' => e = .returned (.int .i64 p) ∧ Below W.heap.size W w')) (C2 : Hid (∀ W, Calls Try.prog 46 #[o.v, x.v] W fun e w' => e = .returned (.int .i64 q) ∧ Below W.heap.size W w')) (C3 : Hid (∀ W, Calls Try.prog 47 #[o.v] W fun e w' => e = .returned (.bool zo) ∧ Below W.heap.size W w'))
    (E1 : ∀ W, Sem.run Try.prog (Op.equalIn 10000 27 (.agg #[.int .u64 i.a, .int .u64 i.b, .int .u64 i.c, .int .u64 i.d]) (.agg #[.int .u64 x.a, .int .u64 x.b, .int .u64 x.c, .int .u64 x.d])) W = .ok eiw W) (E2 : ∀ W, Sem.run Try.prog (Op.equalIn 10000 27 (.agg #[.int .u64 x.a, .int .u64 x.b, .int .u64 x.c, .int .u64 x.d]) (.agg #[.int .u64 o.a, .int .u64 o.b, .int .u64 o.c, .int .u64 o.d])) W = .ok ewo W) (E3 : ∀ W, Sem.run Try.prog (Op.equalIn 10000 27 (.agg #[.int .u64 i.a, .int .u64 i.b, .int .u64 i.c, .int .u64 i.d]) (.agg #[.int .u64 o.a, .int .u64 o.b, .int .u64 o.c, .int .u64 o.d])) W = .ok eio W) : Calls Try.prog 26 #[o.v, x.v, i.v] w fun e w' => e = .returned (.tuple #[.int .u64 (sc eiw ewo zo), .int .i64 (sr eiw ewo eio zo p q)]) ∧ Below w.heap.size w w' := by
  have hw1 : IntKind.i64.wrap d = d := by rw [IntKind.wrap_i64]; omega
  have d0 : -4800 ≤ d := by omega
  have d1 : d ≤ 4800 := by omega
  have HR : Hid (p - q = d) := hd
  unfold W4.v
  go_enter Try.func26, Try.ntmps26
  go_upto_region 1 with fail
  obtain ⟨v, hv⟩ : ∃ v, v = ((w.alloc (.cells #[.int .u64 o.a, .int .u64 o.b, .int .u64 o.c, .int .u64 o.d] 27)).alloc (.cells #[.int .u64 x.a, .int .u64 x.b, .int .u64 x.c, .int .u64 x.d] 27)).alloc (.cells #[.int .u64 i.a, .int .u64 i.b, .int .u64 i.c, .int .u64 i.d] 27) := ⟨_, rfl⟩
  rw [← hv]
  have HB : Hid (Bw3 w v w.heap.size (w.heap.size + 1) (w.heap.size + 1 + 1) o x i) := by rw [hv]; exact Bw3.new w o x i
  clear hv
  generalize hbz : w.heap.size + 1 + 1 = bZ at HB ⊢
  clear hbz
  generalize hby : w.heap.size + 1 = bY at HB ⊢
  clear hby
  generalize hbx : w.heap.size = bx at HB ⊢
  clear hbx
  refine wp_region_held_drew (S := fun V' => Bw3 w V' bx bY bZ o x i) (by kernel_rfl) HB.out.drew (fun hHeld => ?_)
  generalize v.drew = z0 at hHeld ⊢
  clear HB v
  refine wpAnyH_take (i := 0) (v := .agg #[.int .u64 o.a, .int .u64 o.b, .int .u64 o.c, .int .u64 o.d]) ov0 (by kernel_rfl) (by kernel_rfl) (by kernel_rfl) (fun _ _ _ h => h) (Or.inl ⟨by rfl, fun V' hS => ?_⟩) hHeld ?_
  · obtain ⟨c0, c1, c2, c3, _⟩ := hS.w0
    go_simp
  simp only [Act.put, List.setIfInBounds_toArray, List.set_cons_zero, List.set_cons_succ]
  refine wpAnyH_take (i := 1) (v := .agg #[.int .u64 i.a, .int .u64 i.b, .int .u64 i.c, .int .u64 i.d]) ov1 (by kernel_rfl) (by kernel_rfl) (by kernel_rfl) (fun _ _ _ h => h) (Or.inl ⟨by rfl, fun V' hS => ?_⟩) hHeld ?_
  · obtain ⟨c0, c1, c2, c3, _⟩ := hS.w2
    go_simp
  simp only [Act.put, List.setIfInBounds_toArray, List.set_cons_zero, List.set_cons_succ]
  refine wpAnyH_take (i := 3) (v := .agg #[.int .u64 o.a, .int .u64 o.b, .int .u64 o.c, .int .u64 o.d]) ov3 (by kernel_rfl) (by kernel_rfl) (by kernel_rfl) (fun _ _ _ h => h) (Or.inl ⟨by rfl, fun V' hS => ?_⟩) hHeld ?_
  · obtain ⟨c0, c1, c2, c3, _⟩ := hS.w0
    go_simp
  simp only [Act.put, List.setIfInBounds_toArray, List.set_cons_zero, List.set_cons_succ]
  refine wpAnyH_take (i := 4) (v := .agg #[.int .u64 x.a, .int .u64 x.b, .int .u64 x.c, .int .u64 x.d]) ov4 (by kernel_rfl) (by kernel_rfl) (by kernel_rfl) (fun _ _ _ h => h) (Or.inl ⟨by rfl, fun V' hS => ?_⟩) hHeld ?_
  · obtain ⟨c0, c1, c2, c3, _⟩ := hS.w1
    go_simp
  simp only [Act.put, List.setIfInBounds_toArray, List.set_cons_zero, List.set_cons_succ]
  refine wpAnyH_ready (rs := [2]) (by kernel_rfl) (by simp) ?_
  refine AllReadyH.cons ov2 (fun K hK => ?_) AllReadyH.nil
  rw [if_pos (by rfl)]
  go_simp
  refine (C1.out _).mono ?_
  rintro e z1 ⟨rfl, hB1⟩
  have hH1 : Bw3 w z1 bx bY bZ o x i := hHeld.past hB1
  (try go_wp2_with fail)
  refine hK.out _ _ hH1 (fun _ => ?_)
  clear hK K
  (try simp only [Act.put, List.setIfInBounds_toArray, List.set_cons_zero, List.set_cons_succ])
  refine wpAnyH_ready (rs := [5]) (by kernel_rfl) (by simp) ?_
  refine AllReadyH.cons ov5 (fun K hK => ?_) AllReadyH.nil
  rw [if_pos (by rfl)]
  go_simp
  refine (C2.out _).mono ?_
  rintro e z2 ⟨rfl, hB2⟩
  have hH2 : Bw3 w z2 bx bY bZ o x i := hH1.past hB2
  (try go_wp2_with fail)
  refine hK.out _ _ hH2 (fun _ => ?_)
  clear hK K
  (try simp only [Act.put, List.setIfInBounds_toArray, List.set_cons_zero, List.set_cons_succ])
  refine wpAnyH_take (i := 6) (v := .int .i64 d) ov6 (by kernel_rfl) (by kernel_rfl) (by kernel_rfl) (fun _ _ _ h => h) (Or.inl ⟨by rfl, fun V' hS => ?_⟩) hH2 ?_
  · go_simp
  simp only [Act.put, List.setIfInBounds_toArray, List.set_cons_zero, List.set_cons_succ]
  refine wpAnyH_take (i := 7) (v := .int .i64 d) ov7 (by kernel_rfl) (by kernel_rfl) (by kernel_rfl) (fun _ _ _ h => h) (Or.inl ⟨by rfl, fun V' hS => ?_⟩) hH2 ?_
  · go_simp
  simp only [Act.put, List.setIfInBounds_toArray, List.set_cons_zero, List.set_cons_succ]
  refine wpAnyH_done (by kernel_rfl) ?_ _
  have HB : Hid (Bw3 w z2 bx bY bZ o x i) := hH2
  clear hH2 hH1 hHeld hB1 hB2
  generalize z2 = v at HB ⊢
  clear C1 C2 hd
  go_upto_region 2 with fail
  cases eiw
  · refine wp_region_lit ?_
    refine lst_val (v := .agg #[.int .u64 i.a, .int .u64 i.b, .int .u64 i.c, .int .u64 i.d]) (by rfl) ?_ ?_
    · obtain ⟨c0, c1, c2, c3, _⟩ := HB.out.w2
      go_simp
    simp only [Act.put, List.setIfInBounds_toArray, List.set_cons_zero, List.set_cons_succ]
    refine lst_val (v := .agg #[.int .u64 x.a, .int .u64 x.b, .int .u64 x.c, .int .u64 x.d]) (by rfl) ?_ ?_
    · obtain ⟨c0, c1, c2, c3, _⟩ := HB.out.w1
      go_simp
    simp only [Act.put, List.setIfInBounds_toArray, List.set_cons_zero, List.set_cons_succ]
    refine lst_val (v := .bool false) (by rfl) ?_ ?_
    · go_simp
    simp only [Act.put, List.setIfInBounds_toArray, List.set_cons_zero, List.set_cons_succ]
    refine lst_val (v := .bool false) (by rfl) ?_ ?_
    · go_simp
    simp only [Act.put, List.setIfInBounds_toArray, List.set_cons_zero, List.set_cons_succ]
    refine wpList_nil ?_
    go_upto_region 3 with fail
    cases ewo
    · refine wp_region_lit ?_
      refine lst_val (v := .agg #[.int .u64 x.a, .int .u64 x.b, .int .u64 x.c, .int .u64 x.d]) (by rfl) ?_ ?_
      · obtain ⟨c0, c1, c2, c3, _⟩ := HB.out.w1
        go_simp
      simp only [Act.put, List.setIfInBounds_toArray, List.set_cons_zero, List.set_cons_succ]
      refine lst_val (v := .agg #[.int .u64 o.a, .int .u64 o.b, .int .u64 o.c, .int .u64 o.d]) (by rfl) ?_ ?_
      · obtain ⟨c0, c1, c2, c3, _⟩ := HB.out.w0
        go_simp
      simp only [Act.put, List.setIfInBounds_toArray, List.set_cons_zero, List.set_cons_succ]
      refine lst_val (v := .bool false) (by rfl) ?_ ?_
      · go_simp
      simp only [Act.put, List.setIfInBounds_toArray, List.set_cons_zero, List.set_cons_succ]
      refine lst_val (v := .bool false) (by rfl) ?_ ?_
      · go_simp
      simp only [Act.put, List.setIfInBounds_toArray, List.set_cons_zero, List.set_cons_succ]
      refine lst_not (by rfl) ?_
      simp only [Act.put, List.setIfInBounds_toArray, List.set_cons_zero, List.set_cons_succ]
      refine lst_not (by rfl) ?_
      simp only [Act.put, List.setIfInBounds_toArray, List.set_cons_zero, List.set_cons_succ]
      refine lst_val (v := .bool false) (by rfl) ?_ ?_
      · go_simp
      simp only [Act.put, List.setIfInBounds_toArray, List.set_cons_zero, List.set_cons_succ]
      refine lst_val (v := .bool false) (by rfl) ?_ ?_
      · go_simp
      simp only [Act.put, List.setIfInBounds_toArray, List.set_cons_zero, List.set_cons_succ]
      refine wpList_nil ?_
      go_upto_region 4 with fail
      refine wp_region_lit ?_
      refine lst_val (v := .agg #[.int .u64 x.a, .int .u64 x.b, .int .u64 x.c, .int .u64 x.d]) (by rfl) ?_ ?_
      · obtain ⟨c0, c1, c2, c3, _⟩ := HB.out.w1
        go_simp
      simp only [Act.put, List.setIfInBounds_toArray, List.set_cons_zero, List.set_cons_succ]
      refine lst_val (v := .agg #[.int .u64 o.a, .int .u64 o.b, .int .u64 o.c, .int .u64 o.d]) (by rfl) ?_ ?_
      · obtain ⟨c0, c1, c2, c3, _⟩ := HB.out.w0
        go_simp
      simp only [Act.put, List.setIfInBounds_toArray, List.set_cons_zero, List.set_cons_succ]
      refine lst_val (v := .bool false) (by rfl) ?_ ?_
      · go_simp
      simp only [Act.put, List.setIfInBounds_toArray, List.set_cons_zero, List.set_cons_succ]
      refine lst_val (v := .bool false) (by rfl) ?_ ?_
      · go_simp
      simp only [Act.put, List.setIfInBounds_toArray, List.set_cons_zero, List.set_cons_succ]
      refine wpList_nil ?_
      go_upto_region 5 with fail
      cases eio
      · refine wp_region_lit ?_
        refine lst_val (v := .agg #[.int .u64 i.a, .int .u64 i.b, .int .u64 i.c, .int .u64 i.d]) (by rfl) ?_ ?_
        · obtain ⟨c0, c1, c2, c3, _⟩ := HB.out.w2
          go_simp
        simp only [Act.put, List.setIfInBounds_toArray, List.set_cons_zero, List.set_cons_succ]
        refine lst_val (v := .agg #[.int .u64 o.a, .int .u64 o.b, .int .u64 o.c, .int .u64 o.d]) (by rfl) ?_ ?_
        · obtain ⟨c0, c1, c2, c3, _⟩ := HB.out.w0
          go_simp
        simp only [Act.put, List.setIfInBounds_toArray, List.set_cons_zero, List.set_cons_succ]
        refine lst_val (v := .bool false) (by rfl) ?_ ?_
        · go_simp
        simp only [Act.put, List.setIfInBounds_toArray, List.set_cons_zero, List.set_cons_succ]
        refine lst_val (v := .bool false) (by rfl) ?_ ?_
        · go_simp
        simp only [Act.put, List.setIfInBounds_toArray, List.set_cons_zero, List.set_cons_succ]
        refine lst_not (by rfl) ?_
        simp only [Act.put, List.setIfInBounds_toArray, List.set_cons_zero, List.set_cons_succ]
        refine lst_not (by rfl) ?_
        simp only [Act.put, List.setIfInBounds_toArray, List.set_cons_zero, List.set_cons_succ]
        refine lst_val (v := .bool false) (by rfl) ?_ ?_
        · go_simp
        simp only [Act.put, List.setIfInBounds_toArray, List.set_cons_zero, List.set_cons_succ]
        refine lst_val (v := .bool false) (by rfl) ?_ ?_
        · go_simp
        simp only [Act.put, List.setIfInBounds_toArray, List.set_cons_zero, List.set_cons_succ]
        refine wpList_nil ?_
        go_upto_region 6 with fail
        refine wp_region_lit ?_
        refine lst_val (v := .agg #[.int .u64 i.a, .int .u64 i.b, .int .u64 i.c, .int .u64 i.d]) (by rfl) ?_ ?_
        · obtain ⟨c0, c1, c2, c3, _⟩ := HB.out.w2
          go_simp
        simp only [Act.put, List.setIfInBounds_toArray, List.set_cons_zero, List.set_cons_succ]
        refine lst_val (v := .agg #[.int .u64 o.a, .int .u64 o.b, .int .u64 o.c, .int .u64 o.d]) (by rfl) ?_ ?_
        · obtain ⟨c0, c1, c2, c3, _⟩ := HB.out.w0
          go_simp
        simp only [Act.put, List.setIfInBounds_toArray, List.set_cons_zero, List.set_cons_succ]
        refine lst_val (v := .bool false) (by rfl) ?_ ?_
        · go_simp
        simp only [Act.put, List.setIfInBounds_toArray, List.set_cons_zero, List.set_cons_succ]
        refine lst_val (v := .bool false) (by rfl) ?_ ?_
        · go_simp
        simp only [Act.put, List.setIfInBounds_toArray, List.set_cons_zero, List.set_cons_succ]
        refine wpList_nil ?_
        go_wp2
        go_ret2
        exact ⟨by have h9 := HR.out; (simp [sc, sr, h9]) <;> omega, HB.out.bel⟩
      cases zo
      · refine wp_region_lit ?_
        refine lst_val (v := .agg #[.int .u64 i.a, .int .u64 i.b, .int .u64 i.c, .int .u64 i.d]) (by rfl) ?_ ?_
        · obtain ⟨c0, c1, c2, c3, _⟩ := HB.out.w2
          go_simp
        simp only [Act.put, List.setIfInBounds_toArray, List.set_cons_zero, List.set_cons_succ]
        refine lst_val (v := .agg #[.int .u64 o.a, .int .u64 o.b, .int .u64 o.c, .int .u64 o.d]) (by rfl) ?_ ?_
        · obtain ⟨c0, c1, c2, c3, _⟩ := HB.out.w0
          go_simp
        simp only [Act.put, List.setIfInBounds_toArray, List.set_cons_zero, List.set_cons_succ]
        refine lst_val (v := .bool true) (by rfl) ?_ ?_
        · go_simp
        simp only [Act.put, List.setIfInBounds_toArray, List.set_cons_zero, List.set_cons_succ]
        refine lst_val (v := .bool true) (by rfl) ?_ ?_
        · go_simp
        simp only [Act.put, List.setIfInBounds_toArray, List.set_cons_zero, List.set_cons_succ]
        refine lst_val (v := .agg #[.int .u64 o.a, .int .u64 o.b, .int .u64 o.c, .int .u64 o.d]) (by rfl) ?_ ?_
        · obtain ⟨c0, c1, c2, c3, _⟩ := HB.out.w0
          go_simp
        simp only [Act.put, List.setIfInBounds_toArray, List.set_cons_zero, List.set_cons_succ]
        refine lst_call (by rfl) (by first | (go_simp; done) | (go_simp; first | exact rfl | exact ⟨rfl, rfl⟩ | exact ⟨rfl, rfl, rfl⟩)) (C3.out _) ?_
        rintro e v1 ⟨rfl, hB⟩
        refine ⟨_, rfl, ?_⟩
        replace HB : Hid (Bw3 w v1 bx bY bZ o x i) := HB.out.past hB
        clear hB
        clear v
        generalize v1 = v at HB ⊢
        clear v1
        simp only [Act.put, List.setIfInBounds_toArray, List.set_cons_zero, List.set_cons_succ]
        refine lst_val (v := .bool false) (by rfl) ?_ ?_
        · go_simp
        simp only [Act.put, List.setIfInBounds_toArray, List.set_cons_zero, List.set_cons_succ]
        refine lst_val (v := .bool false) (by rfl) ?_ ?_
        · go_simp
        simp only [Act.put, List.setIfInBounds_toArray, List.set_cons_zero, List.set_cons_succ]
        refine wpList_nil ?_
        go_upto_region 6 with fail
        refine wp_region_lit ?_
        refine lst_val (v := .agg #[.int .u64 i.a, .int .u64 i.b, .int .u64 i.c, .int .u64 i.d]) (by rfl) ?_ ?_
        · obtain ⟨c0, c1, c2, c3, _⟩ := HB.out.w2
          go_simp
        simp only [Act.put, List.setIfInBounds_toArray, List.set_cons_zero, List.set_cons_succ]
        refine lst_val (v := .agg #[.int .u64 o.a, .int .u64 o.b, .int .u64 o.c, .int .u64 o.d]) (by rfl) ?_ ?_
        · obtain ⟨c0, c1, c2, c3, _⟩ := HB.out.w0
          go_simp
        simp only [Act.put, List.setIfInBounds_toArray, List.set_cons_zero, List.set_cons_succ]
        refine lst_val (v := .bool true) (by rfl) ?_ ?_
        · go_simp
        simp only [Act.put, List.setIfInBounds_toArray, List.set_cons_zero, List.set_cons_succ]
        refine lst_val (v := .bool true) (by rfl) ?_ ?_
        · go_simp
        simp only [Act.put, List.setIfInBounds_toArray, List.set_cons_zero, List.set_cons_succ]
        refine wpList_nil ?_
        go_wp2
        go_ret2
        exact ⟨by have h9 := HR.out; (simp [sc, sr, h9]) <;> omega, HB.out.bel⟩
      · refine wp_region_lit ?_
        refine lst_val (v := .agg #[.int .u64 i.a, .int .u64 i.b, .int .u64 i.c, .int .u64 i.d]) (by rfl) ?_ ?_
        · obtain ⟨c0, c1, c2, c3, _⟩ := HB.out.w2
          go_simp
        simp only [Act.put, List.setIfInBounds_toArray, List.set_cons_zero, List.set_cons_succ]
        refine lst_val (v := .agg #[.int .u64 o.a, .int .u64 o.b, .int .u64 o.c, .int .u64 o.d]) (by rfl) ?_ ?_
        · obtain ⟨c0, c1, c2, c3, _⟩ := HB.out.w0
          go_simp
        simp only [Act.put, List.setIfInBounds_toArray, List.set_cons_zero, List.set_cons_succ]
        refine lst_val (v := .bool true) (by rfl) ?_ ?_
        · go_simp
        simp only [Act.put, List.setIfInBounds_toArray, List.set_cons_zero, List.set_cons_succ]
        refine lst_val (v := .bool true) (by rfl) ?_ ?_
        · go_simp
        simp only [Act.put, List.setIfInBounds_toArray, List.set_cons_zero, List.set_cons_succ]
        refine lst_val (v := .agg #[.int .u64 o.a, .int .u64 o.b, .int .u64 o.c, .int .u64 o.d]) (by rfl) ?_ ?_
        · obtain ⟨c0, c1, c2, c3, _⟩ := HB.out.w0
          go_simp
        simp only [Act.put, List.setIfInBounds_toArray, List.set_cons_zero, List.set_cons_succ]
        refine lst_call (by rfl) (by first | (go_simp; done) | (go_simp; first | exact rfl | exact ⟨rfl, rfl⟩ | exact ⟨rfl, rfl, rfl⟩)) (C3.out _) ?_
        rintro e v1 ⟨rfl, hB⟩
        refine ⟨_, rfl, ?_⟩
        replace HB : Hid (Bw3 w v1 bx bY bZ o x i) := HB.out.past hB
        clear hB
        clear v
        generalize v1 = v at HB ⊢
        clear v1
        simp only [Act.put, List.setIfInBounds_toArray, List.set_cons_zero, List.set_cons_succ]
        refine lst_val (v := .bool true) (by rfl) ?_ ?_
        · go_simp
        simp only [Act.put, List.setIfInBounds_toArray, List.set_cons_zero, List.set_cons_succ]
        refine lst_val (v := .bool true) (by rfl) ?_ ?_
        · go_simp
        simp only [Act.put, List.setIfInBounds_toArray, List.set_cons_zero, List.set_cons_succ]
        refine wpList_nil ?_
        go_wp2
        go_ret2
        exact ⟨by have h9 := HR.out; (simp [sc, sr, h9]) <;> omega, HB.out.bel⟩
    · cases zo
      · refine wp_region_lit ?_
        refine lst_val (v := .agg #[.int .u64 x.a, .int .u64 x.b, .int .u64 x.c, .int .u64 x.d]) (by rfl) ?_ ?_
        · obtain ⟨c0, c1, c2, c3, _⟩ := HB.out.w1
          go_simp
        simp only [Act.put, List.setIfInBounds_toArray, List.set_cons_zero, List.set_cons_succ]
        refine lst_val (v := .agg #[.int .u64 o.a, .int .u64 o.b, .int .u64 o.c, .int .u64 o.d]) (by rfl) ?_ ?_
        · obtain ⟨c0, c1, c2, c3, _⟩ := HB.out.w0
          go_simp
        simp only [Act.put, List.setIfInBounds_toArray, List.set_cons_zero, List.set_cons_succ]
        refine lst_val (v := .bool true) (by rfl) ?_ ?_
        · go_simp
        simp only [Act.put, List.setIfInBounds_toArray, List.set_cons_zero, List.set_cons_succ]
        refine lst_val (v := .bool true) (by rfl) ?_ ?_
        · go_simp
        simp only [Act.put, List.setIfInBounds_toArray, List.set_cons_zero, List.set_cons_succ]
        refine lst_val (v := .agg #[.int .u64 o.a, .int .u64 o.b, .int .u64 o.c, .int .u64 o.d]) (by rfl) ?_ ?_
        · obtain ⟨c0, c1, c2, c3, _⟩ := HB.out.w0
          go_simp
        simp only [Act.put, List.setIfInBounds_toArray, List.set_cons_zero, List.set_cons_succ]
        refine lst_call (by rfl) (by first | (go_simp; done) | (go_simp; first | exact rfl | exact ⟨rfl, rfl⟩ | exact ⟨rfl, rfl, rfl⟩)) (C3.out _) ?_
        rintro e v1 ⟨rfl, hB⟩
        refine ⟨_, rfl, ?_⟩
        replace HB : Hid (Bw3 w v1 bx bY bZ o x i) := HB.out.past hB
        clear hB
        clear v
        generalize v1 = v at HB ⊢
        clear v1
        simp only [Act.put, List.setIfInBounds_toArray, List.set_cons_zero, List.set_cons_succ]
        refine lst_val (v := .bool false) (by rfl) ?_ ?_
        · go_simp
        simp only [Act.put, List.setIfInBounds_toArray, List.set_cons_zero, List.set_cons_succ]
        refine lst_val (v := .bool false) (by rfl) ?_ ?_
        · go_simp
        simp only [Act.put, List.setIfInBounds_toArray, List.set_cons_zero, List.set_cons_succ]
        refine wpList_nil ?_
        go_upto_region 4 with fail
        refine wp_region_lit ?_
        refine lst_val (v := .agg #[.int .u64 x.a, .int .u64 x.b, .int .u64 x.c, .int .u64 x.d]) (by rfl) ?_ ?_
        · obtain ⟨c0, c1, c2, c3, _⟩ := HB.out.w1
          go_simp
        simp only [Act.put, List.setIfInBounds_toArray, List.set_cons_zero, List.set_cons_succ]
        refine lst_val (v := .agg #[.int .u64 o.a, .int .u64 o.b, .int .u64 o.c, .int .u64 o.d]) (by rfl) ?_ ?_
        · obtain ⟨c0, c1, c2, c3, _⟩ := HB.out.w0
          go_simp
        simp only [Act.put, List.setIfInBounds_toArray, List.set_cons_zero, List.set_cons_succ]
        refine lst_val (v := .bool true) (by rfl) ?_ ?_
        · go_simp
        simp only [Act.put, List.setIfInBounds_toArray, List.set_cons_zero, List.set_cons_succ]
        refine lst_val (v := .bool true) (by rfl) ?_ ?_
        · go_simp
        simp only [Act.put, List.setIfInBounds_toArray, List.set_cons_zero, List.set_cons_succ]
        refine wpList_nil ?_
        go_wp2
        go_ret2
        exact ⟨by have h9 := HR.out; (simp [sc, sr, h9]) <;> omega, HB.out.bel⟩
      · refine wp_region_lit ?_
        refine lst_val (v := .agg #[.int .u64 x.a, .int .u64 x.b, .int .u64 x.c, .int .u64 x.d]) (by rfl) ?_ ?_
        · obtain ⟨c0, c1, c2, c3, _⟩ := HB.out.w1
          go_simp
        simp only [Act.put, List.setIfInBounds_toArray, List.set_cons_zero, List.set_cons_succ]
        refine lst_val (v := .agg #[.int .u64 o.a, .int .u64 o.b, .int .u64 o.c, .int .u64 o.d]) (by rfl) ?_ ?_
        · obtain ⟨c0, c1, c2, c3, _⟩ := HB.out.w0
          go_simp
        simp only [Act.put, List.setIfInBounds_toArray, List.set_cons_zero, List.set_cons_succ]
        refine lst_val (v := .bool true) (by rfl) ?_ ?_
        · go_simp
        simp only [Act.put, List.setIfInBounds_toArray, List.set_cons_zero, List.set_cons_succ]
        refine lst_val (v := .bool true) (by rfl) ?_ ?_
        · go_simp
        simp only [Act.put, List.setIfInBounds_toArray, List.set_cons_zero, List.set_cons_succ]
        refine lst_val (v := .agg #[.int .u64 o.a, .int .u64 o.b, .int .u64 o.c, .int .u64 o.d]) (by rfl) ?_ ?_
        · obtain ⟨c0, c1, c2, c3, _⟩ := HB.out.w0
          go_simp
        simp only [Act.put, List.setIfInBounds_toArray, List.set_cons_zero, List.set_cons_succ]
        refine lst_call (by rfl) (by first | (go_simp; done) | (go_simp; first | exact rfl | exact ⟨rfl, rfl⟩ | exact ⟨rfl, rfl, rfl⟩)) (C3.out _) ?_
        rintro e v1 ⟨rfl, hB⟩
        refine ⟨_, rfl, ?_⟩
        replace HB : Hid (Bw3 w v1 bx bY bZ o x i) := HB.out.past hB
        clear hB
        clear v
        generalize v1 = v at HB ⊢
        clear v1
        simp only [Act.put, List.setIfInBounds_toArray, List.set_cons_zero, List.set_cons_succ]
        refine lst_val (v := .bool true) (by rfl) ?_ ?_
        · go_simp
        simp only [Act.put, List.setIfInBounds_toArray, List.set_cons_zero, List.set_cons_succ]
        refine lst_val (v := .bool true) (by rfl) ?_ ?_
        · go_simp
        simp only [Act.put, List.setIfInBounds_toArray, List.set_cons_zero, List.set_cons_succ]
        refine wpList_nil ?_
        go_wp2
        go_ret2
        exact ⟨by simp [sc, sr], HB.out.bel⟩
  · refine wp_region_lit ?_
    refine lst_val (v := .agg #[.int .u64 i.a, .int .u64 i.b, .int .u64 i.c, .int .u64 i.d]) (by rfl) ?_ ?_
    · obtain ⟨c0, c1, c2, c3, _⟩ := HB.out.w2
      go_simp
    simp only [Act.put, List.setIfInBounds_toArray, List.set_cons_zero, List.set_cons_succ]
    refine lst_val (v := .agg #[.int .u64 x.a, .int .u64 x.b, .int .u64 x.c, .int .u64 x.d]) (by rfl) ?_ ?_
    · obtain ⟨c0, c1, c2, c3, _⟩ := HB.out.w1
      go_simp
    simp only [Act.put, List.setIfInBounds_toArray, List.set_cons_zero, List.set_cons_succ]
    refine lst_val (v := .bool true) (by rfl) ?_ ?_
    · go_simp
    simp only [Act.put, List.setIfInBounds_toArray, List.set_cons_zero, List.set_cons_succ]
    refine lst_val (v := .bool true) (by rfl) ?_ ?_
    · go_simp
    simp only [Act.put, List.setIfInBounds_toArray, List.set_cons_zero, List.set_cons_succ]
    refine wpList_nil ?_
    go_wp2
    go_ret2
    exact ⟨by simp [sc, sr], HB.out.bel⟩
theorem store_is (w : World) (o x i : W4) : Calls Try.prog 26 #[o.v, x.v, i.v] w fun e w' => e = .returned (.tuple #[.int .u64 (sc (i.e x) (x.e o) (o.e wz)), .int .i64 (sr (i.e x) (x.e o) (i.e o) (o.e wz) (clr (o.e wz) (i.e wz)) (clr (o.e wz) (x.e wz)))]) ∧ Below w.heap.size w w' :=
  store_core w o x i _ _ _ _ _ _ _ (clr_range _ _).1 (clr_range _ _).2 (clr_range _ _).1 (clr_range _ _).2 rfl (fun W => cleared_is W o i) (fun W => cleared_is W o x) (fun W => isZero_is W o) (fun W => eq_run i x W) (fun W => eq_run x o W) (fun W => eq_run i o W)
end Go.Proofs.Ytpgjchkfglkgcaa
