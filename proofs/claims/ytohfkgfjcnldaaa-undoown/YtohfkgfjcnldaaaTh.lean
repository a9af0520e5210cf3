/- Package undo: note, Mark, drop. -/
import Derived.Test.YtohfkgfjcnldaaaTg
namespace Go.Proofs.Ytohfkgfjcnldaaa
open Go.RowKit
theorem slice_head {W : World} {e t : TypeId} {size : Nat} (ht : Try.prog.underlying t = some (.slice e)) (he : Try.prog.elem t = e) (hs : ∀ W, (sizeOf e).run Try.prog W = .ok size W) (ad : Option Addr) (n cap f : Nat) (hf : f ≤ cap) : (Instr.slice t (.slice ad n cap) none (some (.int .i64 (f : Int))) none).run Try.prog W = .ok (.slice ad f cap) W := by
  have ht' : Try.prog.underlying t = some (.slice (Try.prog.elem t)) := by rw [he]; exact ht
  have h := run_slice_h (P := Try.prog) W t ad n cap ht' .i64 (f : Int) (by omega) (by omega)
  rw [he, hs, Result.andThen_ok, Int.toNat_natCast] at h
  rw [h]
  unfold sliced
  rw [Nat.zero_mul]
  cases ad with
  | none => simp
  | some a => simp [Addr.add]
theorem elem_funs : Try.prog.elem 89 = 1 := by kernel_rfl
theorem elem_rows : Try.prog.elem 107 = 112 := by kernel_rfl
theorem elem_ints : Try.prog.elem 65 = 3 := by kernel_rfl
theorem size_fun (W : World) : (sizeOf 1).run Try.prog W = .ok 1 W := by kernel_rfl
theorem size_row (W : World) : (sizeOf 112).run Try.prog W = .ok 2 W := by kernel_rfl
theorem size_int (W : World) : (sizeOf 3).run Try.prog W = .ok 1 W := by kernel_rfl
theorem zero_fun (W : World) : (zeroValue 1).run Try.prog W = .ok .nilFunc W := by kernel_rfl
theorem zero_row (W : World) : (zeroValue 112).run Try.prog W = .ok (.agg #[.int .i64 0, .int .i64 0]) W := by kernel_rfl
set_option maxHeartbeats 2000000 in
set_option maxRecDepth 100000 in
theorem note_no (w : World) (b pm : Nat) (ra : Option Addr) (rc : Nat) (ba : Option Addr) (bc : Nat) (ma : Option Addr) (mc n : Nat) (m : Int → Option Nat) (L : List (Int × Int)) (U : List Value) (M : List Nat) (h : Tab0 w b pm ra rc ba bc ma mc n m L U M) (f : Value) (hM : M = []) : Calls Try.prog 71 #[.pointer (some ⟨b, 0, none⟩), f] w fun e w' => e = .returned (.tuple #[]) ∧ w' = w := by
  have c3 := h.c3
  rw [hM] at c3
  clear h hM
  go_enter Try.func71, Try.ntmps71
  go_wp2
  go_end0
  exact ⟨rfl, rfl⟩
set_option maxHeartbeats 2000000 in
set_option maxRecDepth 100000 in
theorem note_yes (w : World) (b pm : Nat) (ra : Option Addr) (rc : Nat) (ba : Option Addr) (bc : Nat) (ma : Option Addr) (mc n : Nat) (m : Int → Option Nat) (L : List (Int × Int)) (U : List Value) (M : List Nat) (h : Tab0 w b pm ra rc ba bc ma mc n m L U M) (fn : Fn) (caps : Array Value) (hM : M ≠ []) (hU : U.length < 549755813888) : Calls Try.prog 71 #[.pointer (some ⟨b, 0, none⟩), .func fn #[] caps] w fun e w' => e = .returned (.tuple #[]) ∧ ∃ ba' bc', Tab0 w' b pm ra rc ba' bc' ma mc n m L (U ++ [.func fn #[] caps]) M ∧ But (TS b pm ra ba ma) w w' ∧ Grown (TS b pm ra ba ma) (TS b pm ra ba' ma) w := by
  have H0 : Hid (Tab0 w b pm ra rc ba bc ma mc n m L U M) := h
  have c2 := h.c2
  have c3 := h.c3
  have hml : 0 < M.length := by cases M with | nil => exact absurd rfl hM | cons x y => simp
  obtain ⟨mn, em⟩ : ∃ mn, M.length = mn := ⟨_, rfl⟩
  obtain ⟨uu, eu⟩ : ∃ uu, U.length = uu := ⟨_, rfl⟩
  have EU : Hid (U.length = uu) := eu
  have m0 : (0 : Int) < (mn : Int) := by omega
  rw [em] at c3
  rw [eu] at c2
  have uX : uu < 549755813888 := by omega
  have UX : Hid (uu < 549755813888) := uX
  have HA : Hid (Tab0 (w.alloc (.cells #[.func fn #[] caps] 1)) b pm ra rc ba bc ma mc n m L U M) := h.alloc _
  have HB : Hid (But (Own ba) w (w.alloc (.cells #[.func fn #[] caps] 1))) := (But.refl _ _).alloc _
  have HC : Hid (CBox (w.alloc (.cells #[.func fn #[] caps] 1)) w.heap.size 1 [.func fn #[] caps]) := CBox.new w _ _
  clear h hM hU hml em eu uX
  go_enter Try.func71, Try.ntmps71
  go_wp2_with (at_builtin; refine wpList_app rfl _ _ 89 1 rfl .nilFunc 1 8 und_funs info_fun rfl (by decide) (by decide) ba uu bc U rfl (by have := HA.out.backs; rw [EU.out] at this; exact this) w.heap.size 1 [.func fn #[] caps] rfl HC.out rfl (by simp [Value.oneCell']) (by have := UX.out; omega) ?_; intro ba' bc' w2 h1 h2 h3; (have HR : Hid (w2.ownsRow 0 1 1 (.slice ba' (uu + 1) bc') (uu + 1) (U ++ [.func fn #[] caps]) ∧ But (Own ba) w w2 ∧ Fresh w ba ba') := ⟨h1, HB.out.trans h2, h3.mono HB.out.size⟩); (have k2 : w2.cell? ⟨b, 2, none⟩ = some (.slice ba uu bc) := (h2.cell (p := ⟨b, 2, none⟩) HA.out.box.lt (fun e => row_box HA.out.backs HA.out.box (by decide) e rfl)).trans (by have := HA.out.c2; rw [EU.out] at this; exact this)); (have f2 : w2.frozen? ⟨b, 2, none⟩ = false := (h2.frozen (p := ⟨b, 2, none⟩) HA.out.box.lt (fun e => row_box HA.out.backs HA.out.box (by decide) e rfl)).trans (HA.out.fr 2)); clear h1 h2 h3)
  go_end0
  have el : (U ++ [Value.func fn #[] caps]).length = uu + 1 := by simp [EU.out]
  have := H0.out.upBacks (ba' := ba') (bc' := bc') (U' := U ++ [.func fn #[] caps]) HR.out.2.1 (by rw [el]; exact HR.out.1) HR.out.2.2
  rw [el] at this
  exact ⟨rfl, ba', bc', this⟩
set_option maxHeartbeats 2000000 in
set_option maxRecDepth 100000 in
theorem mark_is (w : World) (b pm : Nat) (ra : Option Addr) (rc : Nat) (ba : Option Addr) (bc : Nat) (ma : Option Addr) (mc n : Nat) (m : Int → Option Nat) (L : List (Int × Int)) (U : List Value) (M : List Nat) (h : Tab0 w b pm ra rc ba bc ma mc n m L U M) (hU : U.length < 549755813888) (hM : M.length < 549755813888) : Calls Try.prog 42 #[.pointer (some ⟨b, 0, none⟩)] w fun e w' => e = .returned (.int .i64 (M.length : Int)) ∧ ∃ ma' mc', Tab0 w' b pm ra rc ba bc ma' mc' n m L U (M ++ [U.length]) ∧ But (TS b pm ra ba ma) w w' ∧ Grown (TS b pm ra ba ma) (TS b pm ra ba ma') w := by
  have H0 : Hid (Tab0 w b pm ra rc ba bc ma mc n m L U M) := h
  obtain ⟨mn, em⟩ : ∃ mn, M.length = mn := ⟨_, rfl⟩
  obtain ⟨uu, eu⟩ : ∃ uu, U.length = uu := ⟨_, rfl⟩
  have EU : Hid (U.length = uu) := eu
  have EM : Hid (M.length = mn) := em
  have uX : (uu : Int) < 549755813888 := by omega
  have mX : (mn : Int) < 549755813888 := by omega
  have HZ : Hid (Tab0 w.drew b pm ra rc ba bc ma mc n m L U M) := h.drew
  have HY : Hid (But (Own ma) w w.drew) := (But.refl _ _).drew
  have C0 : Hid (w.drew.cell? ⟨b, 3, none⟩ = some (.slice ma mn mc)) := by rw [← em]; exact h.c3
  have hh : w.drew.cell? ⟨b, 2, none⟩ = some (.slice ba uu bc) := by rw [← eu]; exact h.c2
  rw [em, eu]
  clear h hU hM em eu
  go_enter Try.func42, Try.ntmps42
  go_upto_region 1 with fail
  refine wp_region_held_drew (S := fun V' => V'.cell? ⟨b, 2, none⟩ = some (.slice ba uu bc)) (by kernel_rfl) hh (fun hHeld => ?_)
  generalize w.drew = z0 at hHeld HZ HY C0 ⊢
  clear hh
  refine wpAnyH_take (i := 0) (v := .pointer (some ⟨b, 0, none⟩)) ov0 (by kernel_rfl) (by kernel_rfl) (by kernel_rfl) (fun _ _ _ h => h) (Or.inl ⟨by rfl, fun V' hS => ?_⟩) hHeld ?_
  · go_simp
  simp only [Act.put, List.setIfInBounds_toArray, List.set_cons_zero, List.set_cons_succ]
  refine wpAnyH_take (i := 1) (v := .pointer (some ⟨b, 0, none⟩)) ov1 (by kernel_rfl) (by kernel_rfl) (by kernel_rfl) (fun _ _ _ h => h) (Or.inl ⟨by rfl, fun V' hS => ?_⟩) hHeld ?_
  · go_simp
  simp only [Act.put, List.setIfInBounds_toArray, List.set_cons_zero, List.set_cons_succ]
  refine wpAnyH_take (i := 2) (v := .pointer (some ⟨b, 0, none⟩)) ov2 (by kernel_rfl) (by kernel_rfl) (by kernel_rfl) (fun _ _ _ h => h) (Or.inl ⟨by rfl, fun V' hS => ?_⟩) hHeld ?_
  · go_simp
  simp only [Act.put, List.setIfInBounds_toArray, List.set_cons_zero, List.set_cons_succ]
  refine wpAnyH_take (i := 3) (v := .pointer (some ⟨b, 3, none⟩)) ov3 (by kernel_rfl) (by kernel_rfl) (by kernel_rfl) (fun _ _ _ h => h) (Or.inl ⟨by rfl, fun V' hS => ?_⟩) hHeld ?_
  · go_simp
  simp only [Act.put, List.setIfInBounds_toArray, List.set_cons_zero, List.set_cons_succ]
  refine wpAnyH_take (i := 5) (v := .pointer (some ⟨b, 0, none⟩)) ov5 (by kernel_rfl) (by kernel_rfl) (by kernel_rfl) (fun _ _ _ h => h) (Or.inl ⟨by rfl, fun V' hS => ?_⟩) hHeld ?_
  · go_simp
  simp only [Act.put, List.setIfInBounds_toArray, List.set_cons_zero, List.set_cons_succ]
  refine wpAnyH_take (i := 6) (v := .pointer (some ⟨b, 0, none⟩)) ov6 (by kernel_rfl) (by kernel_rfl) (by kernel_rfl) (fun _ _ _ h => h) (Or.inl ⟨by rfl, fun V' hS => ?_⟩) hHeld ?_
  · go_simp
  simp only [Act.put, List.setIfInBounds_toArray, List.set_cons_zero, List.set_cons_succ]
  refine wpAnyH_take (i := 7) (v := .pointer (some ⟨b, 2, none⟩)) ov7 (by kernel_rfl) (by kernel_rfl) (by kernel_rfl) (fun _ _ _ h => h) (Or.inl ⟨by rfl, fun V' hS => ?_⟩) hHeld ?_
  · go_simp
  simp only [Act.put, List.setIfInBounds_toArray, List.set_cons_zero, List.set_cons_succ]
  refine wpAnyH_take (i := 8) (v := .slice ba uu bc) ov8 (by kernel_rfl) (by kernel_rfl) (by kernel_rfl) (fun _ _ _ h => h) (Or.inl ⟨by rfl, fun V' hS => ?_⟩) hHeld ?_
  · go_simp
  simp only [Act.put, List.setIfInBounds_toArray, List.set_cons_zero, List.set_cons_succ]
  refine wpAnyH_take (i := 9) (v := .int .i64 (uu : Int)) ov9 (by kernel_rfl) (by kernel_rfl) (by kernel_rfl) (fun _ _ _ h => h) (Or.inl ⟨by rfl, fun V' hS => ?_⟩) hHeld ?_
  · go_simp
  simp only [Act.put, List.setIfInBounds_toArray, List.set_cons_zero, List.set_cons_succ]
  refine wpAnyH_ready (rs := [4, 10]) (by kernel_rfl) (by simp) ?_
  refine AllReadyH.cons ov4 (fun K hK => ?_) (AllReadyH.cons ov10 (fun K hK => ?_) AllReadyH.nil)
  · rw [if_pos (by rfl)]
    first | (have k0 := C2.out; go_simp; clear k0) | (have k0 := C0.out; go_simp; clear k0)
    refine hK.out _ _ hHeld (fun _ => ?_)
    clear hK K
    (try simp only [Act.put, List.setIfInBounds_toArray, List.set_cons_zero, List.set_cons_succ])
    refine wpAnyH_ready (rs := [10]) (by kernel_rfl) (by simp) ?_
    refine AllReadyH.cons ov10 (fun K hK => ?_) AllReadyH.nil
    rw [if_pos (by rfl)]
    go_simp
    have HZ2 : Hid (Tab0 (z0.alloc (.cells #[.int .i64 (uu : Int)] 3)) b pm ra rc ba bc ma mc n m L U M) := HZ.out.alloc _
    have C2 : Hid ((z0.alloc (.cells #[.int .i64 (uu : Int)] 3)).cell? ⟨b, 3, none⟩ = some (.slice ma mn mc)) := by have := HZ2.out.c3; rw [EM.out] at this; exact this
    have HC : Hid (CBox (z0.alloc (.cells #[.int .i64 (uu : Int)] 3)) z0.heap.size 3 [.int .i64 (uu : Int)]) := CBox.new z0 _ _
    have HY2 : Hid (But (Own ma) w (z0.alloc (.cells #[.int .i64 (uu : Int)] 3))) := HY.out.alloc _
    have hH2 : (z0.alloc (.cells #[.int .i64 (uu : Int)] 3)).cell? ⟨b, 2, none⟩ = some (.slice ba uu bc) := cell_alloc hHeld
    refine hK.out _ _ hH2 (fun _ => ?_)
    clear hK K
    (try simp only [Act.put, List.setIfInBounds_toArray, List.set_cons_zero, List.set_cons_succ])
    refine wpAnyH_ready (rs := [11]) (by kernel_rfl) (by simp) ?_
    refine AllReadyH.cons ov11 (fun K hK => ?_) AllReadyH.nil
    rw [if_pos (by rfl)]
    refine wp_app _ _ 65 3 rfl (.int .i64 0) 1 8 und_ints info_int rfl (by decide) (by decide) ma mn mc (mksD M) rfl (by have := HZ2.out.marks; rw [EM.out] at this; exact this) z0.heap.size 1 [.int .i64 (uu : Int)] rfl HC.out rfl (by simp [Value.oneCell']) (by omega) ?_
    intro ma' mc' w2 h1 h2 h3
    have HR : Hid (w2.ownsRow 0 3 1 (.slice ma' (mn + 1) mc') (mn + 1) (mksD (M ++ [uu])) ∧ But (Own ma) w w2 ∧ Fresh w ma ma') := ⟨by rw [mksD_snoc]; exact h1, HY2.out.trans h2, h3.mono HY2.out.size⟩
    have NB : ∀ j, Own ma j → j ≠ b := fun j e => row_box HZ2.out.marks HZ2.out.box (by decide) e
    have hH3 : w2.cell? ⟨b, 2, none⟩ = some (.slice ba uu bc) := (h2.cell (p := ⟨b, 2, none⟩) HZ2.out.box.lt (fun e => NB b e rfl)).trans hH2
    have C3 : Hid (w2.cell? ⟨b, 3, none⟩ = some (.slice ma mn mc) ∧ w2.frozen? ⟨b, 3, none⟩ = false) := ⟨(h2.cell (p := ⟨b, 3, none⟩) HZ2.out.box.lt (fun e => NB b e rfl)).trans C2.out, (h2.frozen (p := ⟨b, 3, none⟩) HZ2.out.box.lt (fun e => NB b e rfl)).trans (HZ2.out.fr 3)⟩
    clear h1 h2 h3 HC C2 NB
    refine hK.out _ _ hH3 (fun _ => ?_)
    clear hK K
    (try simp only [Act.put, List.setIfInBounds_toArray, List.set_cons_zero, List.set_cons_succ])
    refine wpAnyH_take (i := 12) (v := .pointer (some ⟨b, 0, none⟩)) ov12 (by kernel_rfl) (by kernel_rfl) (by kernel_rfl) (fun _ _ _ h => h) (Or.inl ⟨by rfl, fun V' hS => ?_⟩) hH3 ?_
    · go_simp
    simp only [Act.put, List.setIfInBounds_toArray, List.set_cons_zero, List.set_cons_succ]
    refine wpAnyH_take (i := 13) (v := .pointer (some ⟨b, 3, none⟩)) ov13 (by kernel_rfl) (by kernel_rfl) (by kernel_rfl) (fun _ _ _ h => h) (Or.inl ⟨by rfl, fun V' hS => ?_⟩) hH3 ?_
    · go_simp
    simp only [Act.put, List.setIfInBounds_toArray, List.set_cons_zero, List.set_cons_succ]
    refine wpAnyH_ready (rs := [14]) (by kernel_rfl) (by simp) ?_
    refine AllReadyH.cons ov14 (fun K hK => ?_) AllReadyH.nil
    rw [if_pos (by rfl)]
    obtain ⟨k0, k1⟩ := C3.out
    go_simp
    clear k0 k1
    have HQ : Hid (Tab0 (w2.setCell ⟨b, 3, none⟩ (.slice ma' (mn + 1) mc')) b pm ra rc ba bc ma' mc' n m L U (M ++ [uu]) ∧ But (TS b pm ra ba ma) w (w2.setCell ⟨b, 3, none⟩ (.slice ma' (mn + 1) mc')) ∧ Grown (TS b pm ra ba ma) (TS b pm ra ba ma') w) := by
      have el : (M ++ [uu]).length = mn + 1 := by simp [EM.out]
      have := H0.out.upMarks (ma' := ma') (mc' := mc') (M' := M ++ [uu]) HR.out.2.1 (by rw [el]; exact HR.out.1) HR.out.2.2
      rw [el] at this
      exact this
    have hH4 : (w2.setCell ⟨b, 3, none⟩ (.slice ma' (mn + 1) mc')).cell? ⟨b, 2, none⟩ = some (.slice ba uu bc) := by have := HQ.out.1.c2; rw [EU.out] at this; exact this
    refine hK.out _ (w2.setCell ⟨b, 3, none⟩ (.slice ma' (mn + 1) mc')) hH4 (fun _ => ?_)
    clear hK K
    (try simp only [Act.put, List.setIfInBounds_toArray, List.set_cons_zero, List.set_cons_succ])
    generalize w2.setCell ⟨b, 3, none⟩ (.slice ma' (mn + 1) mc') = w4 at HQ hH4 ⊢
    refine wpAnyH_done (by kernel_rfl) ?_ _
    clear hHeld hH2 hH3 hH4 C3 HR HZ2 HY2 HZ HY C0
    have c3 : w4.cell? ⟨b, 3, none⟩ = some (.slice ma' (mn + 1) mc') := by have := HQ.out.1.c3; rw [List.length_append, EM.out] at this; exact this
    go_wp2
    go_ret
    exact ⟨by simp, ma', mc', HQ.out⟩
  · rw [if_pos (by rfl)]
    go_simp
    have HZ2 : Hid (Tab0 (z0.alloc (.cells #[.int .i64 (uu : Int)] 3)) b pm ra rc ba bc ma mc n m L U M) := HZ.out.alloc _
    have C2 : Hid ((z0.alloc (.cells #[.int .i64 (uu : Int)] 3)).cell? ⟨b, 3, none⟩ = some (.slice ma mn mc)) := by have := HZ2.out.c3; rw [EM.out] at this; exact this
    have HC : Hid (CBox (z0.alloc (.cells #[.int .i64 (uu : Int)] 3)) z0.heap.size 3 [.int .i64 (uu : Int)]) := CBox.new z0 _ _
    have HY2 : Hid (But (Own ma) w (z0.alloc (.cells #[.int .i64 (uu : Int)] 3))) := HY.out.alloc _
    have hH2 : (z0.alloc (.cells #[.int .i64 (uu : Int)] 3)).cell? ⟨b, 2, none⟩ = some (.slice ba uu bc) := cell_alloc hHeld
    refine hK.out _ _ hH2 (fun _ => ?_)
    clear hK K
    (try simp only [Act.put, List.setIfInBounds_toArray, List.set_cons_zero, List.set_cons_succ])
    refine wpAnyH_ready (rs := [4]) (by kernel_rfl) (by simp) ?_
    refine AllReadyH.cons ov4 (fun K hK => ?_) AllReadyH.nil
    rw [if_pos (by rfl)]
    first | (have k0 := C2.out; go_simp; clear k0) | (have k0 := C0.out; go_simp; clear k0)
    refine hK.out _ _ hH2 (fun _ => ?_)
    clear hK K
    (try simp only [Act.put, List.setIfInBounds_toArray, List.set_cons_zero, List.set_cons_succ])
    refine wpAnyH_ready (rs := [11]) (by kernel_rfl) (by simp) ?_
    refine AllReadyH.cons ov11 (fun K hK => ?_) AllReadyH.nil
    rw [if_pos (by rfl)]
    refine wp_app _ _ 65 3 rfl (.int .i64 0) 1 8 und_ints info_int rfl (by decide) (by decide) ma mn mc (mksD M) rfl (by have := HZ2.out.marks; rw [EM.out] at this; exact this) z0.heap.size 1 [.int .i64 (uu : Int)] rfl HC.out rfl (by simp [Value.oneCell']) (by omega) ?_
    intro ma' mc' w2 h1 h2 h3
    have HR : Hid (w2.ownsRow 0 3 1 (.slice ma' (mn + 1) mc') (mn + 1) (mksD (M ++ [uu])) ∧ But (Own ma) w w2 ∧ Fresh w ma ma') := ⟨by rw [mksD_snoc]; exact h1, HY2.out.trans h2, h3.mono HY2.out.size⟩
    have NB : ∀ j, Own ma j → j ≠ b := fun j e => row_box HZ2.out.marks HZ2.out.box (by decide) e
    have hH3 : w2.cell? ⟨b, 2, none⟩ = some (.slice ba uu bc) := (h2.cell (p := ⟨b, 2, none⟩) HZ2.out.box.lt (fun e => NB b e rfl)).trans hH2
    have C3 : Hid (w2.cell? ⟨b, 3, none⟩ = some (.slice ma mn mc) ∧ w2.frozen? ⟨b, 3, none⟩ = false) := ⟨(h2.cell (p := ⟨b, 3, none⟩) HZ2.out.box.lt (fun e => NB b e rfl)).trans C2.out, (h2.frozen (p := ⟨b, 3, none⟩) HZ2.out.box.lt (fun e => NB b e rfl)).trans (HZ2.out.fr 3)⟩
    clear h1 h2 h3 HC C2 NB
    refine hK.out _ _ hH3 (fun _ => ?_)
    clear hK K
    (try simp only [Act.put, List.setIfInBounds_toArray, List.set_cons_zero, List.set_cons_succ])
    refine wpAnyH_take (i := 12) (v := .pointer (some ⟨b, 0, none⟩)) ov12 (by kernel_rfl) (by kernel_rfl) (by kernel_rfl) (fun _ _ _ h => h) (Or.inl ⟨by rfl, fun V' hS => ?_⟩) hH3 ?_
    · go_simp
    simp only [Act.put, List.setIfInBounds_toArray, List.set_cons_zero, List.set_cons_succ]
    refine wpAnyH_take (i := 13) (v := .pointer (some ⟨b, 3, none⟩)) ov13 (by kernel_rfl) (by kernel_rfl) (by kernel_rfl) (fun _ _ _ h => h) (Or.inl ⟨by rfl, fun V' hS => ?_⟩) hH3 ?_
    · go_simp
    simp only [Act.put, List.setIfInBounds_toArray, List.set_cons_zero, List.set_cons_succ]
    refine wpAnyH_ready (rs := [14]) (by kernel_rfl) (by simp) ?_
    refine AllReadyH.cons ov14 (fun K hK => ?_) AllReadyH.nil
    rw [if_pos (by rfl)]
    obtain ⟨k0, k1⟩ := C3.out
    go_simp
    clear k0 k1
    have HQ : Hid (Tab0 (w2.setCell ⟨b, 3, none⟩ (.slice ma' (mn + 1) mc')) b pm ra rc ba bc ma' mc' n m L U (M ++ [uu]) ∧ But (TS b pm ra ba ma) w (w2.setCell ⟨b, 3, none⟩ (.slice ma' (mn + 1) mc')) ∧ Grown (TS b pm ra ba ma) (TS b pm ra ba ma') w) := by
      have el : (M ++ [uu]).length = mn + 1 := by simp [EM.out]
      have := H0.out.upMarks (ma' := ma') (mc' := mc') (M' := M ++ [uu]) HR.out.2.1 (by rw [el]; exact HR.out.1) HR.out.2.2
      rw [el] at this
      exact this
    have hH4 : (w2.setCell ⟨b, 3, none⟩ (.slice ma' (mn + 1) mc')).cell? ⟨b, 2, none⟩ = some (.slice ba uu bc) := by have := HQ.out.1.c2; rw [EU.out] at this; exact this
    refine hK.out _ (w2.setCell ⟨b, 3, none⟩ (.slice ma' (mn + 1) mc')) hH4 (fun _ => ?_)
    clear hK K
    (try simp only [Act.put, List.setIfInBounds_toArray, List.set_cons_zero, List.set_cons_succ])
    generalize w2.setCell ⟨b, 3, none⟩ (.slice ma' (mn + 1) mc') = w4 at HQ hH4 ⊢
    refine wpAnyH_done (by kernel_rfl) ?_ _
    clear hHeld hH2 hH3 hH4 C3 HR HZ2 HY2 HZ HY C0
    have c3 : w4.cell? ⟨b, 3, none⟩ = some (.slice ma' (mn + 1) mc') := by have := HQ.out.1.c3; rw [List.length_append, EM.out] at this; exact this
    go_wp2
    go_ret
    exact ⟨by simp, ma', mc', HQ.out⟩
set_option maxHeartbeats 2000000 in
set_option maxRecDepth 100000 in
theorem drop_is (w : World) (b pm : Nat) (ra : Option Addr) (rc : Nat) (ba : Option Addr) (bc : Nat) (ma : Option Addr) (mc n : Nat) (m : Int → Option Nat) (L : List (Int × Int)) (U : List Value) (M : List Nat) (h : Tab0 w b pm ra rc ba bc ma mc n m L U M) (f : Nat) (hf : f ≤ U.length) : Calls Try.prog 77 #[.pointer (some ⟨b, 0, none⟩), .int .i64 (f : Int)] w fun e w' => e = .returned (.tuple #[]) ∧ Tab0 w' b pm ra rc ba bc ma mc n m L (U.take f) M ∧ But (TS b pm ra ba ma) w w' := by
  have H0 : Hid (Tab0 w b pm ra rc ba bc ma mc n m L U M) := h
  obtain ⟨a1, c1, w1, hs1, hs2, hs3, hs4⟩ := clear_tail und_funs elem_funs size_fun zero_fun rfl (by simp [Value.cells, Value.oneCell']) (by decide) h.backs f hf
  have hc : f ≤ bc := by
    have := hs3.2
    rcases this with ⟨e1, e2⟩ | ⟨g, c, cur, e1, _, _, h5, _⟩
    · omega
    · injection e1 with _ _ e3; omega
  have HR : Hid (w1.ownsRow 0 1 1 (.slice ba f bc) f (U.take f) ∧ But (Own ba) w w1) := ⟨by rw [Nat.mul_one] at hs3; exact hs3, hs4⟩
  have hs5 := slice_head (W := w1) und_funs elem_funs size_fun ba U.length bc f hc
  have c2 := h.c2
  have NB : ∀ j, Own ba j → j ≠ b := fun j e => row_box h.backs h.box (by decide) e
  have d2 : w1.cell? ⟨b, 2, none⟩ = some (.slice ba U.length bc) := (hs4.cell (p := ⟨b, 2, none⟩) h.box.lt (fun e => NB b e rfl)).trans h.c2
  have f2 : w1.frozen? ⟨b, 2, none⟩ = false := (hs4.frozen (p := ⟨b, 2, none⟩) h.box.lt (fun e => NB b e rfl)).trans (h.fr 2)
  have EL : Hid ((U.take f).length = f) := List.length_take_of_le hf
  clear h hs3 hs4 hf NB hc
  generalize U.length = uu at *
  generalize uu - f = dd at *
  go_enter Try.func77, Try.ntmps77
  go_wp2
  go_end0
  have := H0.out.upBacks (ba' := ba) (bc' := bc) (U' := U.take f) HR.out.2 (by rw [EL.out]; exact HR.out.1) (Or.inl rfl)
  rw [EL.out] at this
  exact ⟨rfl, this.1, this.2.1⟩
end Go.Proofs.Ytohfkgfjcnldaaa
