/- MachRows: the walk. -/
import Derived.Test.YtlemnjhdnciddaaGms
import Derived.Test.YtlemnjhdnciddaaUm2
namespace Go.Proofs.Ytlemnjhdnciddaa
open Go.RowKit
theorem by_two (W : World) (x y : Nat) (T : TypeId) : By (W.alloc (.cells #[.int .u8 (x : Int), .int .u8 (y : Int)] T)) (.slice (some ⟨W.heap.size, 0, none⟩) 2 2) 2 (fun i => if i = 0 then x else y) :=
  ⟨_, 2, rfl, by omega, by omega, fun _ => ⟨W.heap.size, 0, rfl, fun i hi => by
    obtain rfl | rfl : i = 0 ∨ i = 1 := by omega
    · simp [World.cell?_alloc_at]
    · simp [World.cell?_alloc_at]⟩⟩
theorem By.ext {W : World} {v : Value} {n : Nat} {u t : Nat → Nat} (h : By W v n u) (e : ∀ i, i < n → u i = t i) : By W v n t := by
  obtain ⟨ad, cap, rfl, h0, h1, h2⟩ := h
  exact ⟨ad, cap, rfl, h0, h1, fun hn => by obtain ⟨g, a, e1, h3⟩ := h2 hn; exact ⟨g, a, e1, fun i hi => by rw [← e i hi]; exact h3 i hi⟩⟩
theorem RowRes.good {w w' : World} {m : Int} {f : Nat → Nat} {e : Ending} (h : RowRes w w' m f e) (hm : 0 ≤ m ∧ m ≤ 4194304) : ∃ vR, e = .returned (.tuple #[vR, .int .i64 0]) ∧ By w' vR m.toNat f ∧ Below w.heap.size w w' := by
  obtain ⟨hB, ⟨h1, _⟩ | ⟨_, g, hg, he, hc⟩⟩ := h
  · omega
  · exact ⟨_, he, ⟨_, _, rfl, Nat.le_refl _, by omega, fun _ => ⟨g, 0, rfl, hc.byC⟩⟩, hB⟩
theorem RowRes.bad {w w' : World} {m : Int} {f : Nat → Nat} {e : Ending} (h : RowRes w w' m f e) (hm : m < 0 ∨ 4194304 < m) : ∃ vR, e = .returned (.tuple #[vR, .int .i64 1]) ∧ By w' vR 0 f ∧ Below w.heap.size w w' := by
  obtain ⟨hB, ⟨_, he⟩ | ⟨h1, _⟩⟩ := h
  · exact ⟨_, he, ⟨none, 0, rfl, by omega, by omega, fun h => absurd h (by omega)⟩, hB⟩
  · omega
set_option maxHeartbeats 8000000 in
set_option maxRecDepth 100000 in
theorem machRows_core (w : World) (vb : Value) (n Kz : Nat) (u : Nat → Nat) (a0 a1 a2 a3 : Int) (m ER x : Int) (MM : Nat) (sm : Bool) (hb : By w vb n u) (hK : Kz = min n 70000) (RM : Hid (∀ W v L u, By W v L u → Calls Try.prog 16 #[v, .agg #[.int .u64 a0, .int .u64 a1, .int .u64 a2, .int .u64 a3], .int .i64 m] W fun e w' => ∃ vR, e = .returned (.tuple #[vR, .int .i64 ER]) ∧ By w' vR MM (rowF u L x sm) ∧ Below W.heap.size W w')) (RR : Hid (∀ W v L u, By W v L u → Calls Try.prog 17 #[v, .agg #[.int .u64 a0, .int .u64 a1, .int .u64 a2, .int .u64 a3], .int .i64 m] W fun e w' => ∃ vR, e = .returned (.tuple #[vR, .int .i64 ER]) ∧ By w' vR MM (rowF u L x sm) ∧ Below W.heap.size W w')) (ON : Hid (∀ W v, By W v 2 (fun i => if i = 0 then 1 else 2) → Calls Try.prog 16 #[v, .agg #[.int .u64 1, .int .u64 0, .int .u64 0, .int .u64 0], .int .i64 2] W fun e w' => ∃ vR, e = .returned (.tuple #[vR, .int .i64 0]) ∧ By w' vR 2 (fun i => if i = 0 then 2 else 0) ∧ Below W.heap.size W w')) : Calls Try.prog 4 #[vb, .agg #[.int .u64 a0, .int .u64 a1, .int .u64 a2, .int .u64 a3], .int .i64 m] w fun e w' => e = .returned (.bool true) ∧ Below w.heap.size w w' := by
  have K7 : Hid (Kz ≤ 70000) := by unfold Hid; omega
  have Kn : Hid (Kz ≤ n) := by unfold Hid; omega
  have KI : (Kz : Int) ≤ 70000 := by omega
  have HB0 : Hid (By w vb n u) := hb
  have K0 : Hid (Bz w a0 a1 a2 a3 w.heap.size (w.alloc (.cells #[.int .u64 a0, .int .u64 a1, .int .u64 a2, .int .u64 a3] 30))) := Bz.new w a0 a1 a2 a3
  have LD : Hid (∀ W, By W vb n u → Calls Try.prog 15 #[vb] W fun e w' => Laid W w' u Kz e) := fun W h => laid_is W vb n Kz u h hK
  clear hb hK
  go_enter Try.func4, Try.ntmps4
  go_upto_region 1 with fail
  obtain ⟨W0, e0⟩ : ∃ W0, W0 = (w.alloc (.cells #[.int .u64 a0, .int .u64 a1, .int .u64 a2, .int .u64 a3] 30)) := ⟨_, rfl⟩
  rw [← e0] at K0 ⊢
  have hlt : w.heap.size < W0.heap.size := World.block_lt_of_cell? W0 _ K0.out.cells.1
  have HLT : Hid (w.heap.size < W0.heap.size) := hlt
  clear e0 hlt
  go_upto_region 2 with (go_at_call 15; refine (LD.out W0 (HB0.out.past K0.out.bel)).mono ?_; rintro e v ⟨g, c, rfl, hc, hO, hg, hB⟩)
  generalize hbx : w.heap.size = bx at K0 ⊢
  have M1 : Hid (MR w v a0 a1 a2 a3 bx g (Kz + 75) (lay u Kz)) := ⟨by rw [← hbx] at K0 ⊢; exact K0.out.past hB, fun i hi => by rw [Nat.zero_add, hO.cellAt i (by omega), bD_at _ _ _ hi], fun j _ => hO.frozenAt j, by have h9 := hO.cellAt 0 (by omega); rw [bD_at _ _ _ (by omega)] at h9; exact World.block_lt_of_cell? v _ h9, Nat.le_trans (Nat.le_of_lt HLT.out) hg, by have := HLT.out; omega⟩
  have CL : Hid (Kz + 75 ≤ c) := hc
  clear hc hO hg hB K0 LD HLT hbx
  refine wp_region_lit ?_
  refine lst_val (v := .slice (some ⟨g, 0, none⟩) Kz c) (by kernel_rfl) ?_ ?_
  · go_simp
  simp only [Act.put, List.setIfInBounds_toArray, List.set_cons_zero, List.set_cons_succ]
  refine lst_val (v := .agg #[.int .u64 a0, .int .u64 a1, .int .u64 a2, .int .u64 a3]) (by kernel_rfl) ?_ ?_
  · obtain ⟨c0, c1, c2, c3, _⟩ := M1.out.z.cells
    go_simp
  simp only [Act.put, List.setIfInBounds_toArray, List.set_cons_zero, List.set_cons_succ]
  refine lst_val (v := .int .i64 m) (by kernel_rfl) ?_ ?_
  · go_simp
  simp only [Act.put, List.setIfInBounds_toArray, List.set_cons_zero, List.set_cons_succ]
  refine lst_call (by kernel_rfl) (by first | (go_simp; done) | (go_simp; first | exact rfl | exact ⟨rfl, rfl⟩ | exact ⟨rfl, rfl, rfl⟩)) (RM.out v _ Kz (lay u Kz) (M1.out.by (by omega) (by have := CL.out; omega) K7.out)) ?_
  rintro e v1 ⟨l1, rfl, hy, hB⟩
  refine ⟨_, rfl, ?_⟩
  replace M1 : Hid (MR w v1 a0 a1 a2 a3 bx g (Kz + 75) (lay u Kz)) := M1.out.past hB
  have Y1 : Hid (By v1 l1 MM (rowF (lay u Kz) Kz x sm)) := hy
  clear hy hB
  clear v
  generalize v1 = v at M1 Y1 ⊢
  clear v1
  simp only [Act.put, List.setIfInBounds_toArray, List.set_cons_zero, List.set_cons_succ]
  refine lst_val (v := .tuple #[l1, .int .i64 ER]) (by kernel_rfl) ?_ ?_
  · go_simp
  simp only [Act.put, List.setIfInBounds_toArray, List.set_cons_zero, List.set_cons_succ]
  refine lst_val (v := l1) (by kernel_rfl) ?_ ?_
  · go_simp
  simp only [Act.put, List.setIfInBounds_toArray, List.set_cons_zero, List.set_cons_succ]
  refine lst_val (v := .int .i64 ER) (by kernel_rfl) ?_ ?_
  · go_simp
  simp only [Act.put, List.setIfInBounds_toArray, List.set_cons_zero, List.set_cons_succ]
  refine lst_val (v := l1) (by kernel_rfl) ?_ ?_
  · go_simp
  simp only [Act.put, List.setIfInBounds_toArray, List.set_cons_zero, List.set_cons_succ]
  refine lst_val (v := .int .i64 ER) (by kernel_rfl) ?_ ?_
  · go_simp
  simp only [Act.put, List.setIfInBounds_toArray, List.set_cons_zero, List.set_cons_succ]
  refine wpList_nil ?_
  go_upto_region 3 with fail
  refine wp_region_held_drew (S := fun V' => Bz w a0 a1 a2 a3 bx V') (by kernel_rfl) M1.out.z.drew (fun hHeld => ?_)
  have D1 : Hid (MR w v.drew a0 a1 a2 a3 bx g (Kz + 75) (lay u Kz)) := M1.out.drew
  have D2 : Hid (By v.drew l1 MM (rowF (lay u Kz) Kz x sm)) := Y1.out.past ((Below.refl _ _).drew)
  generalize v.drew = z0 at hHeld D1 D2 ⊢
  clear M1 Y1
  refine wpAnyH_take (i := 1) (v := .slice (some ⟨g, 0, none⟩) Kz c) ov1 (by kernel_rfl) (by kernel_rfl) (by kernel_rfl) (fun _ _ _ h => h) (Or.inl ⟨by rfl, fun V' hS => ?_⟩) hHeld ?_
  · go_simp
  simp only [Act.put, List.setIfInBounds_toArray, List.set_cons_zero, List.set_cons_succ]
  refine wpAnyH_take (i := 3) (v := .agg #[.int .u64 a0, .int .u64 a1, .int .u64 a2, .int .u64 a3]) ov3 (by kernel_rfl) (by kernel_rfl) (by kernel_rfl) (fun _ _ _ h => h) (Or.inl ⟨by rfl, fun V' hS => ?_⟩) hHeld ?_
  · obtain ⟨c0, c1, c2, c3, _⟩ := hS.cells
    go_simp
  simp only [Act.put, List.setIfInBounds_toArray, List.set_cons_zero, List.set_cons_succ]
  refine wpAnyH_take (i := 4) (v := .int .i64 m) ov4 (by kernel_rfl) (by kernel_rfl) (by kernel_rfl) (fun _ _ _ h => h) (Or.inl ⟨by rfl, fun V' hS => ?_⟩) hHeld ?_
  · go_simp
  simp only [Act.put, List.setIfInBounds_toArray, List.set_cons_zero, List.set_cons_succ]
  refine wpAnyH_ready (rs := [0]) (by kernel_rfl) (by simp) ?_
  refine AllReadyH.cons ov0 (fun K hK => ?_) AllReadyH.nil
  rw [if_pos (by rfl)]
  go_simp
  refine hK.out _ (z0.alloc (.cells #[] 5)) (hHeld.past ((Below.refl _ _).alloc (Nat.le_refl _) _)) (fun _ => ?_)
  clear hK K
  (try simp only [Act.put, List.setIfInBounds_toArray, List.set_cons_zero, List.set_cons_succ])
  refine wpAnyH_ready (rs := [2]) (by kernel_rfl) (by simp) ?_
  refine AllReadyH.cons ov2 (fun K hK => ?_) AllReadyH.nil
  rw [if_pos (by rfl)]
  refine wp_copyB _ _ rfl rfl g Kz c (lay u Kz) rfl (fun i hi => D1.out.row i (by omega)) K7.out ?_
  intro vc z2 hy2 hB2
  refine hK.out _ z2 (hHeld.past hB2) (fun _ => ?_)
  clear hK K
  (try simp only [Act.put, List.setIfInBounds_toArray, List.set_cons_zero, List.set_cons_succ])
  refine wpAnyH_ready (rs := [5]) (by kernel_rfl) (by simp) ?_
  refine AllReadyH.cons ov5 (fun K hK => ?_) AllReadyH.nil
  rw [if_pos (by rfl)]
  go_simp
  refine (RR.out z2 vc Kz (lay u Kz) hy2).mono ?_
  rintro e z3 ⟨m1, rfl, hy3, hB3⟩
  have hB4 : Below z0.heap.size z0 z3 := hB2.trans (hB3.mono hB2.size)
  (try go_wp2_with fail)
  refine hK.out _ _ (hHeld.past hB4) (fun _ => ?_)
  clear hK K
  (try simp only [Act.put, List.setIfInBounds_toArray, List.set_cons_zero, List.set_cons_succ])
  refine wpAnyH_take (i := 6) (v := .tuple #[m1, .int .i64 ER]) ov6 (by kernel_rfl) (by kernel_rfl) (by kernel_rfl) (fun _ _ _ h => h) (Or.inl ⟨by rfl, fun V' hS => ?_⟩) (hHeld.past hB4) ?_
  · go_simp
  simp only [Act.put, List.setIfInBounds_toArray, List.set_cons_zero, List.set_cons_succ]
  refine wpAnyH_take (i := 7) (v := m1) ov7 (by kernel_rfl) (by kernel_rfl) (by kernel_rfl) (fun _ _ _ h => h) (Or.inl ⟨by rfl, fun V' hS => ?_⟩) (hHeld.past hB4) ?_
  · go_simp
  simp only [Act.put, List.setIfInBounds_toArray, List.set_cons_zero, List.set_cons_succ]
  refine wpAnyH_take (i := 8) (v := .int .i64 ER) ov8 (by kernel_rfl) (by kernel_rfl) (by kernel_rfl) (fun _ _ _ h => h) (Or.inl ⟨by rfl, fun V' hS => ?_⟩) (hHeld.past hB4) ?_
  · go_simp
  simp only [Act.put, List.setIfInBounds_toArray, List.set_cons_zero, List.set_cons_succ]
  refine wpAnyH_take (i := 9) (v := m1) ov9 (by kernel_rfl) (by kernel_rfl) (by kernel_rfl) (fun _ _ _ h => h) (Or.inl ⟨by rfl, fun V' hS => ?_⟩) (hHeld.past hB4) ?_
  · go_simp
  simp only [Act.put, List.setIfInBounds_toArray, List.set_cons_zero, List.set_cons_succ]
  refine wpAnyH_take (i := 10) (v := .int .i64 ER) ov10 (by kernel_rfl) (by kernel_rfl) (by kernel_rfl) (fun _ _ _ h => h) (Or.inl ⟨by rfl, fun V' hS => ?_⟩) (hHeld.past hB4) ?_
  · go_simp
  simp only [Act.put, List.setIfInBounds_toArray, List.set_cons_zero, List.set_cons_succ]
  refine wpAnyH_done (by kernel_rfl) ?_ _
  have M1 : Hid (MR w z3 a0 a1 a2 a3 bx g (Kz + 75) (lay u Kz)) := D1.out.past hB4
  have Y1 : Hid (By z3 l1 MM (rowF (lay u Kz) Kz x sm)) := D2.out.past hB4
  have Y2 : Hid (By z3 m1 MM (rowF (lay u Kz) Kz x sm)) := hy3
  clear hHeld D1 D2 hy2 hy3 hB2 hB3 hB4
  generalize z3 = v at M1 Y1 Y2 ⊢
  go_upto_region 4 with fail
  have q1 := conv_by v l1 MM _ Y1.out
  have q2 := conv_by v m1 MM _ Y2.out
  generalize textB (rowF (lay u Kz) Kz x sm) MM = tx at q1 q2
  clear Y1 Y2
  refine wp_region_lit ?_
  refine lst_val (v := .int .i64 ER) (by kernel_rfl) ?_ ?_
  · go_simp
  simp only [Act.put, List.setIfInBounds_toArray, List.set_cons_zero, List.set_cons_succ]
  refine lst_val (v := .int .i64 ER) (by kernel_rfl) ?_ ?_
  · go_simp
  simp only [Act.put, List.setIfInBounds_toArray, List.set_cons_zero, List.set_cons_succ]
  refine lst_val (v := .bool false) (by kernel_rfl) ?_ ?_
  · go_simp
  simp only [Act.put, List.setIfInBounds_toArray, List.set_cons_zero, List.set_cons_succ]
  refine lst_val (v := .bool false) (by kernel_rfl) ?_ ?_
  · go_simp
  simp only [Act.put, List.setIfInBounds_toArray, List.set_cons_zero, List.set_cons_succ]
  refine lst_val (v := l1) (by kernel_rfl) ?_ ?_
  · go_simp
  simp only [Act.put, List.setIfInBounds_toArray, List.set_cons_zero, List.set_cons_succ]
  refine lst_val (v := .string tx) (by kernel_rfl) ?_ ?_
  · (go_simp; try (first | (rw [IntKind.wrap_u64]; omega) | (rw [IntKind.wrap_i64]; omega)))
  simp only [Act.put, List.setIfInBounds_toArray, List.set_cons_zero, List.set_cons_succ]
  refine lst_val (v := m1) (by kernel_rfl) ?_ ?_
  · go_simp
  simp only [Act.put, List.setIfInBounds_toArray, List.set_cons_zero, List.set_cons_succ]
  refine lst_val (v := .string tx) (by kernel_rfl) ?_ ?_
  · (go_simp; try (first | (rw [IntKind.wrap_u64]; omega) | (rw [IntKind.wrap_i64]; omega)))
  simp only [Act.put, List.setIfInBounds_toArray, List.set_cons_zero, List.set_cons_succ]
  refine lst_val (v := .bool false) (by kernel_rfl) ?_ ?_
  · go_simp
  simp only [Act.put, List.setIfInBounds_toArray, List.set_cons_zero, List.set_cons_succ]
  refine lst_val (v := .bool false) (by kernel_rfl) ?_ ?_
  · go_simp
  simp only [Act.put, List.setIfInBounds_toArray, List.set_cons_zero, List.set_cons_succ]
  refine lst_val (v := .bool false) (by kernel_rfl) ?_ ?_
  · go_simp
  simp only [Act.put, List.setIfInBounds_toArray, List.set_cons_zero, List.set_cons_succ]
  refine lst_val (v := .slice (some ⟨g, 0, none⟩) Kz c) (by kernel_rfl) ?_ ?_
  · go_simp
  simp only [Act.put, List.setIfInBounds_toArray, List.set_cons_zero, List.set_cons_succ]
  refine lst_val (v := vb) (by kernel_rfl) ?_ ?_
  · go_simp
  simp only [Act.put, List.setIfInBounds_toArray, List.set_cons_zero, List.set_cons_succ]
  refine lst_call (by kernel_rfl) (by first | (go_simp; done) | (go_simp; first | exact rfl | exact ⟨rfl, rfl⟩ | exact ⟨rfl, rfl, rfl⟩)) (stands_is v g c Kz n vb u M1.out.row (HB0.out.past M1.out.z.bel) Kn.out K7 CL.out) ?_
  rintro e v1 ⟨rfl, hB⟩
  refine ⟨_, rfl, ?_⟩
  replace M1 : Hid (MR w v1 a0 a1 a2 a3 bx g (Kz + 75) (lay u Kz)) := M1.out.past hB
  clear hB q1 q2
  clear v
  generalize v1 = v at M1 ⊢
  clear v1
  simp only [Act.put, List.setIfInBounds_toArray, List.set_cons_zero, List.set_cons_succ]
  refine lst_val (v := .bool false) (by kernel_rfl) ?_ ?_
  · go_simp
  simp only [Act.put, List.setIfInBounds_toArray, List.set_cons_zero, List.set_cons_succ]
  refine lst_val (v := .bool false) (by kernel_rfl) ?_ ?_
  · go_simp
  simp only [Act.put, List.setIfInBounds_toArray, List.set_cons_zero, List.set_cons_succ]
  refine wpList_nil ?_
  go_upto_region 6 with fail
  go_wp2
  go_loopw [12] (fun s12 wr => ∃ (i : Nat) (y : Nat → Nat), s12 = .int .i64 (i : Int) ∧ i ≤ Kz ∧ MR w wr a0 a1 a2 a3 bx g (Kz + 75) y) (fun s12 _ => Kz - (intOf s12).toNat)
  case atStart => exact ⟨0, _, rfl, by omega, M1.out⟩
  case round =>
    obtain ⟨i, y, rfl, hi, hM⟩ := hrel
    have M2 : Hid (MR w wr a0 a1 a2 a3 bx g (Kz + 75) y) := hM
    clear hM M1
    have iI : (i : Int) ≤ (Kz : Int) := by omega
    by_cases e : i = Kz
    · subst e
      have M1 : Hid (MR w wr a0 a1 a2 a3 bx g (i + 75) y) := M2.out
      clear M2 hi iI
      go_upto_region 10 with fail
      generalize wr = v at M1 ⊢
      refine wp_region_lit ?_
      refine lst_val (v := .slice (some ⟨g, 0, none⟩) i c) (by kernel_rfl) ?_ ?_
      · go_simp
      simp only [Act.put, List.setIfInBounds_toArray, List.set_cons_zero, List.set_cons_succ]
      refine lst_val (v := .agg #[.int .u64 a0, .int .u64 a1, .int .u64 a2, .int .u64 a3]) (by kernel_rfl) ?_ ?_
      · obtain ⟨c0, c1, c2, c3, _⟩ := M1.out.z.cells
        go_simp
      simp only [Act.put, List.setIfInBounds_toArray, List.set_cons_zero, List.set_cons_succ]
      refine lst_val (v := .int .i64 m) (by kernel_rfl) ?_ ?_
      · go_simp
      simp only [Act.put, List.setIfInBounds_toArray, List.set_cons_zero, List.set_cons_succ]
      refine lst_call (by kernel_rfl) (by first | (go_simp; done) | (go_simp; first | exact rfl | exact ⟨rfl, rfl⟩ | exact ⟨rfl, rfl, rfl⟩)) (RM.out v _ i y (M1.out.by (by omega) (by have := CL.out; omega) K7.out)) ?_
      rintro e v1 ⟨l2, rfl, hy, hB⟩
      refine ⟨_, rfl, ?_⟩
      replace M1 : Hid (MR w v1 a0 a1 a2 a3 bx g (i + 75) y) := M1.out.past hB
      have Y1 : Hid (By v1 l2 MM (rowF y i x sm)) := hy
      clear hy hB
      clear v
      generalize v1 = v at M1 Y1 ⊢
      clear v1
      simp only [Act.put, List.setIfInBounds_toArray, List.set_cons_zero, List.set_cons_succ]
      refine lst_val (v := .tuple #[l2, .int .i64 ER]) (by kernel_rfl) ?_ ?_
      · go_simp
      simp only [Act.put, List.setIfInBounds_toArray, List.set_cons_zero, List.set_cons_succ]
      refine lst_val (v := l2) (by kernel_rfl) ?_ ?_
      · go_simp
      simp only [Act.put, List.setIfInBounds_toArray, List.set_cons_zero, List.set_cons_succ]
      refine lst_val (v := .int .i64 ER) (by kernel_rfl) ?_ ?_
      · go_simp
      simp only [Act.put, List.setIfInBounds_toArray, List.set_cons_zero, List.set_cons_succ]
      refine lst_val (v := l2) (by kernel_rfl) ?_ ?_
      · go_simp
      simp only [Act.put, List.setIfInBounds_toArray, List.set_cons_zero, List.set_cons_succ]
      refine lst_val (v := .int .i64 ER) (by kernel_rfl) ?_ ?_
      · go_simp
      simp only [Act.put, List.setIfInBounds_toArray, List.set_cons_zero, List.set_cons_succ]
      refine wpList_nil ?_
      go_upto_region 11 with fail
      refine wp_region_held_drew (S := fun V' => Bz w a0 a1 a2 a3 bx V') (by kernel_rfl) M1.out.z.drew (fun hHeld => ?_)
      have D1 : Hid (MR w v.drew a0 a1 a2 a3 bx g (i + 75) y) := M1.out.drew
      have D2 : Hid (By v.drew l2 MM (rowF y i x sm)) := Y1.out.past ((Below.refl _ _).drew)
      generalize v.drew = z0 at hHeld D1 D2 ⊢
      clear M1 Y1
      refine wpAnyH_take (i := 1) (v := .slice (some ⟨g, 0, none⟩) i c) ov1 (by kernel_rfl) (by kernel_rfl) (by kernel_rfl) (fun _ _ _ h => h) (Or.inl ⟨by rfl, fun V' hS => ?_⟩) hHeld ?_
      · go_simp
      simp only [Act.put, List.setIfInBounds_toArray, List.set_cons_zero, List.set_cons_succ]
      refine wpAnyH_take (i := 3) (v := .agg #[.int .u64 a0, .int .u64 a1, .int .u64 a2, .int .u64 a3]) ov3 (by kernel_rfl) (by kernel_rfl) (by kernel_rfl) (fun _ _ _ h => h) (Or.inl ⟨by rfl, fun V' hS => ?_⟩) hHeld ?_
      · obtain ⟨c0, c1, c2, c3, _⟩ := hS.cells
        go_simp
      simp only [Act.put, List.setIfInBounds_toArray, List.set_cons_zero, List.set_cons_succ]
      refine wpAnyH_take (i := 4) (v := .int .i64 m) ov4 (by kernel_rfl) (by kernel_rfl) (by kernel_rfl) (fun _ _ _ h => h) (Or.inl ⟨by rfl, fun V' hS => ?_⟩) hHeld ?_
      · go_simp
      simp only [Act.put, List.setIfInBounds_toArray, List.set_cons_zero, List.set_cons_succ]
      refine wpAnyH_ready (rs := [0]) (by kernel_rfl) (by simp) ?_
      refine AllReadyH.cons ov0 (fun K hK => ?_) AllReadyH.nil
      rw [if_pos (by rfl)]
      go_simp
      refine hK.out _ (z0.alloc (.cells #[] 5)) (hHeld.past ((Below.refl _ _).alloc (Nat.le_refl _) _)) (fun _ => ?_)
      clear hK K
      (try simp only [Act.put, List.setIfInBounds_toArray, List.set_cons_zero, List.set_cons_succ])
      refine wpAnyH_ready (rs := [2]) (by kernel_rfl) (by simp) ?_
      refine AllReadyH.cons ov2 (fun K hK => ?_) AllReadyH.nil
      rw [if_pos (by rfl)]
      refine wp_copyB _ _ rfl rfl g i c y rfl (fun i hi => D1.out.row i (by omega)) K7.out ?_
      intro vc z2 hy2 hB2
      refine hK.out _ z2 (hHeld.past hB2) (fun _ => ?_)
      clear hK K
      (try simp only [Act.put, List.setIfInBounds_toArray, List.set_cons_zero, List.set_cons_succ])
      refine wpAnyH_ready (rs := [5]) (by kernel_rfl) (by simp) ?_
      refine AllReadyH.cons ov5 (fun K hK => ?_) AllReadyH.nil
      rw [if_pos (by rfl)]
      go_simp
      refine (RR.out z2 vc i y hy2).mono ?_
      rintro e z3 ⟨m2, rfl, hy3, hB3⟩
      have hB4 : Below z0.heap.size z0 z3 := hB2.trans (hB3.mono hB2.size)
      (try go_wp2_with fail)
      refine hK.out _ _ (hHeld.past hB4) (fun _ => ?_)
      clear hK K
      (try simp only [Act.put, List.setIfInBounds_toArray, List.set_cons_zero, List.set_cons_succ])
      refine wpAnyH_take (i := 6) (v := .tuple #[m2, .int .i64 ER]) ov6 (by kernel_rfl) (by kernel_rfl) (by kernel_rfl) (fun _ _ _ h => h) (Or.inl ⟨by rfl, fun V' hS => ?_⟩) (hHeld.past hB4) ?_
      · go_simp
      simp only [Act.put, List.setIfInBounds_toArray, List.set_cons_zero, List.set_cons_succ]
      refine wpAnyH_take (i := 7) (v := m2) ov7 (by kernel_rfl) (by kernel_rfl) (by kernel_rfl) (fun _ _ _ h => h) (Or.inl ⟨by rfl, fun V' hS => ?_⟩) (hHeld.past hB4) ?_
      · go_simp
      simp only [Act.put, List.setIfInBounds_toArray, List.set_cons_zero, List.set_cons_succ]
      refine wpAnyH_take (i := 8) (v := .int .i64 ER) ov8 (by kernel_rfl) (by kernel_rfl) (by kernel_rfl) (fun _ _ _ h => h) (Or.inl ⟨by rfl, fun V' hS => ?_⟩) (hHeld.past hB4) ?_
      · go_simp
      simp only [Act.put, List.setIfInBounds_toArray, List.set_cons_zero, List.set_cons_succ]
      refine wpAnyH_take (i := 9) (v := m2) ov9 (by kernel_rfl) (by kernel_rfl) (by kernel_rfl) (fun _ _ _ h => h) (Or.inl ⟨by rfl, fun V' hS => ?_⟩) (hHeld.past hB4) ?_
      · go_simp
      simp only [Act.put, List.setIfInBounds_toArray, List.set_cons_zero, List.set_cons_succ]
      refine wpAnyH_take (i := 10) (v := .int .i64 ER) ov10 (by kernel_rfl) (by kernel_rfl) (by kernel_rfl) (fun _ _ _ h => h) (Or.inl ⟨by rfl, fun V' hS => ?_⟩) (hHeld.past hB4) ?_
      · go_simp
      simp only [Act.put, List.setIfInBounds_toArray, List.set_cons_zero, List.set_cons_succ]
      refine wpAnyH_done (by kernel_rfl) ?_ _
      have M1 : Hid (MR w z3 a0 a1 a2 a3 bx g (i + 75) y) := D1.out.past hB4
      have Y1 : Hid (By z3 l2 MM (rowF y i x sm)) := D2.out.past hB4
      have Y2 : Hid (By z3 m2 MM (rowF y i x sm)) := hy3
      clear hHeld D1 D2 hy2 hy3 hB2 hB3 hB4
      generalize z3 = v at M1 Y1 Y2 ⊢
      go_upto_region 12 with fail
      go_upto_region 13 with (go_at_call 16; refine (ON.out _ _ (by_two v 1 2 5)).mono ?_; rintro e v5 ⟨one, rfl, hy, hB⟩)
      have k5 : Below v.heap.size v v5 := ((Below.refl _ _).alloc (Nat.le_refl _) _).trans (hB.mono (by simp))
      have HB5 : Hid (Below w.heap.size w v5) := M1.out.z.bel.trans (k5.mono M1.out.z.bel.size)
      have q1 := conv_by v5 l2 MM _ (Y1.out.past k5)
      have q2 := conv_by v5 m2 MM _ (Y2.out.past k5)
      have q3 := conv_by v5 one 2 _ hy
      generalize textB (rowF y i x sm) MM = tx at q1 q2
      have q4 : (convert 31 9 (.slice (some ⟨v5.heap.size, 0, none⟩) 2 2)).run Try.prog (v5.alloc (.cells #[.int .u8 2, .int .u8 0] 5)) = .ok (.string (textB (fun i => if i = 0 then 2 else 0) 2)) (v5.alloc (.cells #[.int .u8 2, .int .u8 0] 5)) := conv_by _ _ 2 _ (by_two v5 2 0 5)
      generalize textB (fun i => if i = 0 then 2 else 0) 2 = ty at q3 q4
      have HB6 : Hid (Below w.heap.size w (v5.alloc (.cells #[.int .u8 2, .int .u8 0] 5))) := HB5.out.alloc HB5.out.size _
      clear hy hB k5 M1 Y1 Y2 HB5
      refine wp_region_lit ?_
      refine lst_val (v := .int .i64 ER) (by kernel_rfl) ?_ ?_
      · go_simp
      simp only [Act.put, List.setIfInBounds_toArray, List.set_cons_zero, List.set_cons_succ]
      refine lst_val (v := .int .i64 ER) (by kernel_rfl) ?_ ?_
      · go_simp
      simp only [Act.put, List.setIfInBounds_toArray, List.set_cons_zero, List.set_cons_succ]
      refine lst_val (v := .bool true) (by kernel_rfl) ?_ ?_
      · go_simp
      simp only [Act.put, List.setIfInBounds_toArray, List.set_cons_zero, List.set_cons_succ]
      refine lst_val (v := .bool true) (by kernel_rfl) ?_ ?_
      · go_simp
      simp only [Act.put, List.setIfInBounds_toArray, List.set_cons_zero, List.set_cons_succ]
      refine lst_val (v := l2) (by kernel_rfl) ?_ ?_
      · go_simp
      simp only [Act.put, List.setIfInBounds_toArray, List.set_cons_zero, List.set_cons_succ]
      refine lst_val (v := .string tx) (by kernel_rfl) ?_ ?_
      · (go_simp; try (first | (rw [IntKind.wrap_u64]; omega) | (rw [IntKind.wrap_i64]; omega)))
      simp only [Act.put, List.setIfInBounds_toArray, List.set_cons_zero, List.set_cons_succ]
      refine lst_val (v := m2) (by kernel_rfl) ?_ ?_
      · go_simp
      simp only [Act.put, List.setIfInBounds_toArray, List.set_cons_zero, List.set_cons_succ]
      refine lst_val (v := .string tx) (by kernel_rfl) ?_ ?_
      · (go_simp; try (first | (rw [IntKind.wrap_u64]; omega) | (rw [IntKind.wrap_i64]; omega)))
      simp only [Act.put, List.setIfInBounds_toArray, List.set_cons_zero, List.set_cons_succ]
      refine lst_val (v := .bool true) (by kernel_rfl) ?_ ?_
      · go_simp
      simp only [Act.put, List.setIfInBounds_toArray, List.set_cons_zero, List.set_cons_succ]
      refine lst_val (v := .bool true) (by kernel_rfl) ?_ ?_
      · go_simp
      simp only [Act.put, List.setIfInBounds_toArray, List.set_cons_zero, List.set_cons_succ]
      refine lst_val (v := .bool true) (by kernel_rfl) ?_ ?_
      · go_simp
      simp only [Act.put, List.setIfInBounds_toArray, List.set_cons_zero, List.set_cons_succ]
      refine lst_val (v := .int .i64 0) (by kernel_rfl) ?_ ?_
      · go_simp
      simp only [Act.put, List.setIfInBounds_toArray, List.set_cons_zero, List.set_cons_succ]
      refine lst_val (v := .bool true) (by kernel_rfl) ?_ ?_
      · go_simp
      simp only [Act.put, List.setIfInBounds_toArray, List.set_cons_zero, List.set_cons_succ]
      refine lst_val (v := .bool true) (by kernel_rfl) ?_ ?_
      · go_simp
      simp only [Act.put, List.setIfInBounds_toArray, List.set_cons_zero, List.set_cons_succ]
      refine lst_val (v := .bool true) (by kernel_rfl) ?_ ?_
      · go_simp
      simp only [Act.put, List.setIfInBounds_toArray, List.set_cons_zero, List.set_cons_succ]
      refine lst_val (v := one) (by kernel_rfl) ?_ ?_
      · go_simp
      simp only [Act.put, List.setIfInBounds_toArray, List.set_cons_zero, List.set_cons_succ]
      refine lst_val (v := .string ty) (by kernel_rfl) ?_ ?_
      · (go_simp; try (first | (rw [IntKind.wrap_u64]; omega) | (rw [IntKind.wrap_i64]; omega)))
      simp only [Act.put, List.setIfInBounds_toArray, List.set_cons_zero, List.set_cons_succ]
      refine lst_new (v := .slice (some ⟨v5.heap.size, 0, none⟩) 2 2) (w' := (v5.alloc (.cells #[.int .u8 2, .int .u8 0] 5))) (by kernel_rfl) ?_ ?_
      · go_simp
      simp only [Act.put, List.setIfInBounds_toArray, List.set_cons_zero, List.set_cons_succ]
      refine lst_val (v := .string ty) (by kernel_rfl) ?_ ?_
      · (go_simp; try (first | (rw [IntKind.wrap_u64]; omega) | (rw [IntKind.wrap_i64]; omega)))
      simp only [Act.put, List.setIfInBounds_toArray, List.set_cons_zero, List.set_cons_succ]
      refine lst_val (v := .bool true) (by kernel_rfl) ?_ ?_
      · go_simp
      simp only [Act.put, List.setIfInBounds_toArray, List.set_cons_zero, List.set_cons_succ]
      refine lst_val (v := .bool true) (by kernel_rfl) ?_ ?_
      · go_simp
      simp only [Act.put, List.setIfInBounds_toArray, List.set_cons_zero, List.set_cons_succ]
      refine lst_val (v := .bool true) (by kernel_rfl) ?_ ?_
      · go_simp
      simp only [Act.put, List.setIfInBounds_toArray, List.set_cons_zero, List.set_cons_succ]
      refine wpList_nil ?_
      go_wp2
      go_ret
      exact ⟨rfl, HB6.out⟩
    · have iK : (i : Int) < (Kz : Int) := by omega
      have cc := M2.out.row i (by omega)
      rw [Nat.zero_add] at cc
      have cf := M2.out.fz i (by omega)
      obtain ⟨s, hs⟩ : ∃ s : Int, (9 : Int) + (i : Int) = s := ⟨_, rfl⟩
      have w1 : IntKind.i64.wrap s = s := by rw [IntKind.wrap_i64]; omega
      obtain ⟨y8, hy8⟩ : ∃ y8 : Int, IntKind.u8.wrap s = y8 := ⟨_, rfl⟩
      obtain ⟨q, hq, _⟩ := xor_byte (y i : Int) y8
      have MS := M2.out.set i q (by omega)
      have MT : Hid _ := MS
      clear MS M2
      generalize (y i : Int) = yi at cc hq
      go_wp2
      go_roundw
      case rel => exact ⟨i + 1, _, by first | rfl | go_num, by omega, MT.out⟩
      case measure => simp [intOf]; omega
theorem machRows_walk (w : World) (vb : Value) (n : Nat) (u : Nat → Nat) (a0 a1 a2 a3 : Int) (m : Int) (hb : By w vb n u) (_ : True) (ha : IsW (V a0 a1 a2 a3) a0 a1 a2 a3) (hm : -9223372036854775808 ≤ m ∧ m ≤ 9223372036854775807) : Calls Try.prog 4 #[vb, .agg #[.int .u64 a0, .int .u64 a1, .int .u64 a2, .int .u64 a3], .int .i64 m] w fun e w' => e = .returned (.bool true) ∧ Below w.heap.size w w' := by
  have one : IsW (V 1 0 0 0) 1 0 0 0 := (isW_lit 1 (by omega) (by omega)).self
  have ON : ∀ W v, By W v 2 (fun i => if i = 0 then 1 else 2) → Calls Try.prog 16 #[v, .agg #[.int .u64 1, .int .u64 0, .int .u64 0, .int .u64 0], .int .i64 2] W fun e w' => ∃ vR, e = .returned (.tuple #[vR, .int .i64 0]) ∧ By w' vR 2 (fun i => if i = 0 then 2 else 0) ∧ Below W.heap.size W w' := fun W v h => by
    refine (row_is W v 2 _ 1 0 0 0 2 h one ⟨by omega, by omega⟩).mono fun e w' hr => ?_
    obtain ⟨vR, h1, h2, h3⟩ := hr.good ⟨by omega, by omega⟩
    refine ⟨vR, h1, h2.ext fun i hi => ?_, h3⟩
    have hi' : i < 2 := hi
    obtain rfl | rfl : i = 0 ∨ i = 1 := by omega
    · decide
    · decide
  by_cases hbad : m < 0 ∨ 4194304 < m
  · exact machRows_core w vb n (min n 70000) u a0 a1 a2 a3 m 1 (loW a0 a1 a2 a3) 0 (smW a1 a2 a3) hb rfl (fun W v L u h => (row_is W v L u a0 a1 a2 a3 m h ha hm).mono fun e w' hr => hr.bad hbad) (fun W v L u h => (rowR_is W v L u a0 a1 a2 a3 m h ha hm).mono fun e w' hr => hr.bad hbad) ON
  · exact machRows_core w vb n (min n 70000) u a0 a1 a2 a3 m 0 (loW a0 a1 a2 a3) m.toNat (smW a1 a2 a3) hb rfl (fun W v L u h => (row_is W v L u a0 a1 a2 a3 m h ha hm).mono fun e w' hr => hr.good (by omega)) (fun W v L u h => (rowR_is W v L u a0 a1 a2 a3 m h ha hm).mono fun e w' hr => hr.good (by omega)) ON
end Go.Proofs.Ytlemnjhdnciddaa
