/- MachPieces: the walk, by its ways. -/
import Derived.Test.YtlemnjhdnciddaaGqc
namespace Go.Proofs.Ytlemnjhdnciddaa
open Go.RowKit
set_option maxHeartbeats 8000000 in
set_option maxRecDepth 100000 in
theorem pcA0 (w : World) (z0 i : Int) (d0 d1 d2 d3 : Int) (hd : IsW (V d0 d1 d2 d3) d0 d1 d2 d3) (s K : Nat) (hs : bits .and .i64 z0 8191 = (s : Int)) (hs6 : s ≤ 8191) (eK : upN s = K) (hi : -9223372036854775808 ≤ i ∧ i ≤ 9223372036854775807) (hm : -9223372036854775808 ≤ (0 : Int) ∧ (0 : Int) ≤ 9223372036854775807) (FX : Hid (lk K i 32 ≠ 0)) (I0i : Hid (i < 0)) (HE : Hid (lk K i 0 = 1)) : Calls Try.prog 6 #[.int .i64 z0, .int .i64 i, .int .i64 0, .agg #[.int .u64 d0, .int .u64 d1, .int .u64 d2, .int .u64 d3]] w fun e w' => e = .returned (.bool true) ∧ Below w.heap.size w w' := by
  have kf : K % 32 = 0 ∧ s ≤ K ∧ K ≤ s + 31 := by rw [← eK]; unfold upN; omega
  have k1 : s ≤ K := kf.2.1
  have k2 : (K : Int) ≤ (s : Int) + 31 := by omega
  have k3 : Int.tmod (K : Int) 32 = 0 := by rw [Int.tmod_eq_emod_of_nonneg (by omega)]; omega
  have KB : (K : Int) ≤ 8222 := by omega
  have GR : Hid (∀ W B, Mem W B W.heap.size none 0 0 (fun _ => 0) → Calls Try.prog 20 #[.pointer (some ⟨B, 0, none⟩), .int .i64 (s : Int)] W fun e w' => e = .returned (.int .i64 0) ∧ GrRes W w' B W.heap.size none K (fun _ => 0)) := fun W B hM => by
    have h := grow_is W B _ none 0 0 _ hM (s : Int)
    rw [grE_nat s (by omega), grN_zero s (by omega), eK, show grU (fun _ => 0) 0 = fun _ => 0 by funext j; unfold grU; split <;> rfl] at h
    exact h
  have LN : Hid (∀ W b B x n cx u, Mem W b B x n cx u → Calls Try.prog 12 #[.pointer (some ⟨b, 0, none⟩)] W fun e w' => e = .returned (.int .i64 (n : Int)) ∧ w' = W) := fun W b B x n cx u hM => len_is W b B x n cx u hM
  have I0 : Hid (Below w.heap.size w (w.alloc (.cells #[.int .u64 d0, .int .u64 d1, .int .u64 d2, .int .u64 d3] 30)) ∧ Box (w.alloc (.cells #[.int .u64 d0, .int .u64 d1, .int .u64 d2, .int .u64 d3] 30)) w.heap.size d0 d1 d2 d3) := ⟨(Below.refl _ _).alloc (Nat.le_refl _) _, Box.new w 30 d0 d1 d2 d3⟩
  have DX : Hid (IsW (V d0 d1 d2 d3) d0 d1 d2 d3) := hd
  have HI : Hid (i ≤ 9223372036854775807 ∧ (0 : Int) ≤ 9223372036854775807) := ⟨hi.2, hm.2⟩
  have i0 : i < 0 := I0i.out
  clear hd eK hs6 kf hi hm
  go_enter Try.func6, Try.ntmps6
  go_upto_region 1 with fail
  obtain ⟨W0, eW⟩ : ∃ W0, W0 = w.alloc (.cells #[.int .u64 d0, .int .u64 d1, .int .u64 d2, .int .u64 d3] 30) := ⟨_, rfl⟩
  rw [← eW] at I0 ⊢
  clear eW
  go_upto_region 3 with (go_at_call 19; refine (newMemory_is _).mono ?_; rintro e v1 ⟨rfl, hm1, hB1⟩)
  obtain ⟨b, eb⟩ : ∃ b, W0.heap.size = b := ⟨_, rfl⟩
  rw [eb] at hm1 ⊢
  have M1 : Hid (Below w.heap.size w v1 ∧ Box v1 w.heap.size d0 d1 d2 d3 ∧ Mem v1 b v1.heap.size none 0 0 (fun _ => 0) ∧ w.heap.size < b) := ⟨I0.out.1.trans (hB1.mono I0.out.1.size), I0.out.2.below hB1 I0.out.2.lt, hm1, by rw [← eb]; exact I0.out.2.lt⟩
  clear hm1 hB1 I0 eb
  refine wp_region_lit ?_
  refine lst_val (v := .pointer (some ⟨b, 0, none⟩)) (by kernel_rfl) ?_ ?_
  · go_simp
  simp only [Act.put, List.setIfInBounds_toArray, List.set_cons_zero, List.set_cons_succ]
  refine lst_val (v := .bool false) (by kernel_rfl) ?_ ?_
  · go_simp
  simp only [Act.put, List.setIfInBounds_toArray, List.set_cons_zero, List.set_cons_succ]
  refine lst_val (v := .bool false) (by kernel_rfl) ?_ ?_
  · go_simp
  simp only [Act.put, List.setIfInBounds_toArray, List.set_cons_zero, List.set_cons_succ]
  refine lst_val (v := .pointer (some ⟨b, 0, none⟩)) (by kernel_rfl) ?_ ?_
  · go_simp
  simp only [Act.put, List.setIfInBounds_toArray, List.set_cons_zero, List.set_cons_succ]
  refine lst_val (v := .int .i64 (s : Int)) (by kernel_rfl) ?_ ?_
  · go_simp
  simp only [Act.put, List.setIfInBounds_toArray, List.set_cons_zero, List.set_cons_succ]
  refine lst_call (by kernel_rfl) (by first | (go_simp; done) | (go_simp; first | exact rfl | exact ⟨rfl, rfl⟩ | exact ⟨rfl, rfl, rfl⟩)) (GR.out _ _ M1.out.2.2.1) ?_
  rintro e v2 ⟨rfl, x, cx, hm, ho, hr⟩
  refine ⟨_, rfl, ?_⟩
  obtain ⟨B, eB⟩ : ∃ B, v1.heap.size = B := ⟨_, rfl⟩
  have M2 : Hid (MB w v2 b w.heap.size w.heap.size b B x K cx (fun _ => 0) d0 d1 d2 d3 d0 d1 d2 d3) := by
    have h0 : MB w v1 b w.heap.size w.heap.size b B none 0 0 (fun _ => 0) d0 d1 d2 d3 d0 d1 d2 d3 := ⟨M1.out.1, M1.out.2.1, M1.out.2.1, by rw [← eB]; exact M1.out.2.2.1, by have := M1.out.2.2.2; omega, by have := M1.out.2.2.2; omega, fun q hq => (by rcases hq with rfl | ⟨a, e, _⟩; exact Nat.le_refl _; cases e), by have := M1.out.2.2.2; omega⟩
    rw [eB] at hm
    exact h0.own hm ho hr
  clear hm ho hr eB M1 GR
  simp only [Act.put, List.setIfInBounds_toArray, List.set_cons_zero, List.set_cons_succ]
  refine lst_val (v := .bool false) (by kernel_rfl) ?_ ?_
  · go_simp
  simp only [Act.put, List.setIfInBounds_toArray, List.set_cons_zero, List.set_cons_succ]
  refine lst_val (v := .bool false) (by kernel_rfl) ?_ ?_
  · go_simp
  simp only [Act.put, List.setIfInBounds_toArray, List.set_cons_zero, List.set_cons_succ]
  refine lst_val (v := .bool false) (by kernel_rfl) ?_ ?_
  · go_simp
  simp only [Act.put, List.setIfInBounds_toArray, List.set_cons_zero, List.set_cons_succ]
  refine lst_val (v := .pointer (some ⟨b, 0, none⟩)) (by kernel_rfl) ?_ ?_
  · go_simp
  simp only [Act.put, List.setIfInBounds_toArray, List.set_cons_zero, List.set_cons_succ]
  refine lst_call (by kernel_rfl) (by first | (go_simp; done) | (go_simp; first | exact rfl | exact ⟨rfl, rfl⟩ | exact ⟨rfl, rfl, rfl⟩)) (LN.out _ _ _ _ _ _ _ M2.out.me) ?_
  rintro e w' ⟨rfl, hw⟩
  have hw2 := hw.symm
  clear hw
  subst hw2
  refine ⟨_, rfl, ?_⟩
  simp only [Act.put, List.setIfInBounds_toArray, List.set_cons_zero, List.set_cons_succ]
  refine lst_val (v := .int .i64 (s : Int)) (by kernel_rfl) ?_ ?_
  · go_simp
  simp only [Act.put, List.setIfInBounds_toArray, List.set_cons_zero, List.set_cons_succ]
  refine lst_val (v := .bool false) (by kernel_rfl) ?_ ?_
  · go_simp
  simp only [Act.put, List.setIfInBounds_toArray, List.set_cons_zero, List.set_cons_succ]
  refine lst_val (v := .bool false) (by kernel_rfl) ?_ ?_
  · go_simp
  simp only [Act.put, List.setIfInBounds_toArray, List.set_cons_zero, List.set_cons_succ]
  refine lst_val (v := .bool false) (by kernel_rfl) ?_ ?_
  · go_simp
  simp only [Act.put, List.setIfInBounds_toArray, List.set_cons_zero, List.set_cons_succ]
  refine lst_val (v := .pointer (some ⟨b, 0, none⟩)) (by kernel_rfl) ?_ ?_
  · go_simp
  simp only [Act.put, List.setIfInBounds_toArray, List.set_cons_zero, List.set_cons_succ]
  refine lst_call (by kernel_rfl) (by first | (go_simp; done) | (go_simp; first | exact rfl | exact ⟨rfl, rfl⟩ | exact ⟨rfl, rfl, rfl⟩)) (LN.out _ _ _ _ _ _ _ M2.out.me) ?_
  rintro e w' ⟨rfl, hw⟩
  have hw2 := hw.symm
  clear hw
  subst hw2
  refine ⟨_, rfl, ?_⟩
  simp only [Act.put, List.setIfInBounds_toArray, List.set_cons_zero, List.set_cons_succ]
  refine lst_val (v := .int .i64 (s : Int)) (by kernel_rfl) ?_ ?_
  · go_simp
  simp only [Act.put, List.setIfInBounds_toArray, List.set_cons_zero, List.set_cons_succ]
  refine lst_val (v := .int .i64 ((s : Int) + 31)) (by kernel_rfl) ?_ ?_
  · (go_simp; try (first | (rw [IntKind.wrap_u64]; omega) | (rw [IntKind.wrap_i64]; omega)))
  simp only [Act.put, List.setIfInBounds_toArray, List.set_cons_zero, List.set_cons_succ]
  refine lst_val (v := .bool false) (by kernel_rfl) ?_ ?_
  · go_simp
  simp only [Act.put, List.setIfInBounds_toArray, List.set_cons_zero, List.set_cons_succ]
  refine lst_val (v := .bool false) (by kernel_rfl) ?_ ?_
  · go_simp
  simp only [Act.put, List.setIfInBounds_toArray, List.set_cons_zero, List.set_cons_succ]
  refine lst_val (v := .bool false) (by kernel_rfl) ?_ ?_
  · go_simp
  simp only [Act.put, List.setIfInBounds_toArray, List.set_cons_zero, List.set_cons_succ]
  refine lst_val (v := .pointer (some ⟨b, 0, none⟩)) (by kernel_rfl) ?_ ?_
  · go_simp
  simp only [Act.put, List.setIfInBounds_toArray, List.set_cons_zero, List.set_cons_succ]
  refine lst_call (by kernel_rfl) (by first | (go_simp; done) | (go_simp; first | exact rfl | exact ⟨rfl, rfl⟩ | exact ⟨rfl, rfl, rfl⟩)) (LN.out _ _ _ _ _ _ _ M2.out.me) ?_
  rintro e w' ⟨rfl, hw⟩
  have hw2 := hw.symm
  clear hw
  subst hw2
  refine ⟨_, rfl, ?_⟩
  simp only [Act.put, List.setIfInBounds_toArray, List.set_cons_zero, List.set_cons_succ]
  refine lst_val (v := .int .i64 0) (by kernel_rfl) ?_ ?_
  · go_simp
  simp only [Act.put, List.setIfInBounds_toArray, List.set_cons_zero, List.set_cons_succ]
  refine lst_val (v := .bool false) (by kernel_rfl) ?_ ?_
  · go_simp
  simp only [Act.put, List.setIfInBounds_toArray, List.set_cons_zero, List.set_cons_succ]
  refine lst_val (v := .bool false) (by kernel_rfl) ?_ ?_
  · go_simp
  simp only [Act.put, List.setIfInBounds_toArray, List.set_cons_zero, List.set_cons_succ]
  refine wpList_nil ?_
  clear k1 k2 k3
  go_upto_region 7 with (go_at_call 12; refine (LN.out _ _ _ _ _ _ _ M2.out.me).mono ?_; rintro e w' ⟨rfl, hw⟩; (have hw2 := hw.symm); clear hw; subst hw2)
  go_upto_region 11 with fail
  have RD : Hid (Calls Try.prog 25 #[.pointer (some ⟨b, 0, none⟩), .int .i64 i, .int .i64 0] v2 fun e w' => ∃ vR, e = .returned (.tuple #[vR, .int .i64 1]) ∧ RdRes v2 w' 0 (fun _ => 0) vR ∧ Below v2.heap.size v2 w') := by
    have h := read_is v2 b B x K cx _ M2.out.me i 0 HI.out.1 HI.out.2
    rw [HE.out] at h
    exact h
  go_upto_region 12 with (go_at_call 25; refine (RD.out).mono ?_; rintro e v4 ⟨vR, rfl, hr, hB⟩)
  obtain rfl := rdRes_none hr
  have M4 : Hid (MB w v4 b w.heap.size w.heap.size b B x K cx (fun _ => 0) d0 d1 d2 d3 d0 d1 d2 d3) := M2.out.past hB
  clear hr hB M2 RD
  have MV : Hid (Calls Try.prog 26 #[.pointer (some ⟨b, 0, none⟩), .int .i64 i, .int .i64 i, .int .i64 0] v4 fun e w' => e = .returned (.int .i64 1) ∧ Mem w' b B x K cx (fun _ => 0) ∧ Off b x v4 w') := by
    have h := move_is v4 b B x K cx _ M4.out.me i i 0 HI.out.1 HI.out.1 HI.out.2
    rw [mvE_same, HE.out, ite_zero] at h
    exact h
  refine wp_region_lit ?_
  refine lst_val (v := .int .i64 1) (by kernel_rfl) ?_ ?_
  · go_simp
  simp only [Act.put, List.setIfInBounds_toArray, List.set_cons_zero, List.set_cons_succ]
  refine lst_val (v := .int .i64 1) (by kernel_rfl) ?_ ?_
  · go_simp
  simp only [Act.put, List.setIfInBounds_toArray, List.set_cons_zero, List.set_cons_succ]
  refine lst_val (v := .bool false) (by kernel_rfl) ?_ ?_
  · go_simp
  simp only [Act.put, List.setIfInBounds_toArray, List.set_cons_zero, List.set_cons_succ]
  refine lst_val (v := .bool false) (by kernel_rfl) ?_ ?_
  · go_simp
  simp only [Act.put, List.setIfInBounds_toArray, List.set_cons_zero, List.set_cons_succ]
  refine lst_val (v := .pointer (some ⟨b, 0, none⟩)) (by kernel_rfl) ?_ ?_
  · go_simp
  simp only [Act.put, List.setIfInBounds_toArray, List.set_cons_zero, List.set_cons_succ]
  refine lst_val (v := .int .i64 i) (by kernel_rfl) ?_ ?_
  · go_simp
  simp only [Act.put, List.setIfInBounds_toArray, List.set_cons_zero, List.set_cons_succ]
  refine lst_val (v := .int .i64 i) (by kernel_rfl) ?_ ?_
  · go_simp
  simp only [Act.put, List.setIfInBounds_toArray, List.set_cons_zero, List.set_cons_succ]
  refine lst_val (v := .int .i64 0) (by kernel_rfl) ?_ ?_
  · go_simp
  simp only [Act.put, List.setIfInBounds_toArray, List.set_cons_zero, List.set_cons_succ]
  refine lst_call (by kernel_rfl) (by first | (go_simp; done) | (go_simp; first | exact rfl | exact ⟨rfl, rfl⟩ | exact ⟨rfl, rfl, rfl⟩)) (MV.out) ?_
  rintro e v5 ⟨rfl, hm, ho⟩
  refine ⟨_, rfl, ?_⟩
  have M5 : Hid (MB w v5 b w.heap.size w.heap.size b B x K cx (fun _ => 0) d0 d1 d2 d3 d0 d1 d2 d3) := M4.out.self hm ho
  clear hm ho MV M4
  simp only [Act.put, List.setIfInBounds_toArray, List.set_cons_zero, List.set_cons_succ]
  refine lst_val (v := .int .i64 1) (by kernel_rfl) ?_ ?_
  · go_simp
  simp only [Act.put, List.setIfInBounds_toArray, List.set_cons_zero, List.set_cons_succ]
  refine lst_val (v := .bool false) (by kernel_rfl) ?_ ?_
  · go_simp
  simp only [Act.put, List.setIfInBounds_toArray, List.set_cons_zero, List.set_cons_succ]
  refine lst_val (v := .bool false) (by kernel_rfl) ?_ ?_
  · go_simp
  simp only [Act.put, List.setIfInBounds_toArray, List.set_cons_zero, List.set_cons_succ]
  refine lst_val (v := .bool false) (by kernel_rfl) ?_ ?_
  · go_simp
  simp only [Act.put, List.setIfInBounds_toArray, List.set_cons_zero, List.set_cons_succ]
  refine lst_val (v := .int .i64 1) (by kernel_rfl) ?_ ?_
  · go_simp
  simp only [Act.put, List.setIfInBounds_toArray, List.set_cons_zero, List.set_cons_succ]
  refine lst_val (v := .bool false) (by kernel_rfl) ?_ ?_
  · go_simp
  simp only [Act.put, List.setIfInBounds_toArray, List.set_cons_zero, List.set_cons_succ]
  refine lst_val (v := .bool false) (by kernel_rfl) ?_ ?_
  · go_simp
  simp only [Act.put, List.setIfInBounds_toArray, List.set_cons_zero, List.set_cons_succ]
  refine lst_not (by kernel_rfl) ?_
  simp only [Act.put, List.setIfInBounds_toArray, List.set_cons_zero, List.set_cons_succ]
  refine lst_not (by kernel_rfl) ?_
  simp only [Act.put, List.setIfInBounds_toArray, List.set_cons_zero, List.set_cons_succ]
  refine lst_not (by kernel_rfl) ?_
  simp only [Act.put, List.setIfInBounds_toArray, List.set_cons_zero, List.set_cons_succ]
  refine lst_not (by kernel_rfl) ?_
  simp only [Act.put, List.setIfInBounds_toArray, List.set_cons_zero, List.set_cons_succ]
  refine lst_val (v := .bool false) (by kernel_rfl) ?_ ?_
  · go_simp
  simp only [Act.put, List.setIfInBounds_toArray, List.set_cons_zero, List.set_cons_succ]
  refine lst_val (v := .bool false) (by kernel_rfl) ?_ ?_
  · go_simp
  simp only [Act.put, List.setIfInBounds_toArray, List.set_cons_zero, List.set_cons_succ]
  refine lst_val (v := .bool false) (by kernel_rfl) ?_ ?_
  · go_simp
  simp only [Act.put, List.setIfInBounds_toArray, List.set_cons_zero, List.set_cons_succ]
  refine lst_val (v := .int .i64 1) (by kernel_rfl) ?_ ?_
  · go_simp
  simp only [Act.put, List.setIfInBounds_toArray, List.set_cons_zero, List.set_cons_succ]
  refine lst_val (v := .bool true) (by kernel_rfl) ?_ ?_
  · go_simp
  simp only [Act.put, List.setIfInBounds_toArray, List.set_cons_zero, List.set_cons_succ]
  refine lst_val (v := .bool true) (by kernel_rfl) ?_ ?_
  · go_simp
  simp only [Act.put, List.setIfInBounds_toArray, List.set_cons_zero, List.set_cons_succ]
  refine lst_val (v := .slice none 0 0) (by kernel_rfl) ?_ ?_
  · go_simp
  simp only [Act.put, List.setIfInBounds_toArray, List.set_cons_zero, List.set_cons_succ]
  refine lst_val (v := .int .i64 0) (by kernel_rfl) ?_ ?_
  · go_simp
  simp only [Act.put, List.setIfInBounds_toArray, List.set_cons_zero, List.set_cons_succ]
  refine lst_val (v := .bool false) (by kernel_rfl) ?_ ?_
  · go_simp
  simp only [Act.put, List.setIfInBounds_toArray, List.set_cons_zero, List.set_cons_succ]
  refine lst_val (v := .bool false) (by kernel_rfl) ?_ ?_
  · go_simp
  simp only [Act.put, List.setIfInBounds_toArray, List.set_cons_zero, List.set_cons_succ]
  refine lst_val (v := .bool false) (by kernel_rfl) ?_ ?_
  · go_simp
  simp only [Act.put, List.setIfInBounds_toArray, List.set_cons_zero, List.set_cons_succ]
  refine wpList_nil ?_
  go_upto_region 14 with fail
  refine wp_region_lit ?_
  refine lst_val (v := .int .i64 1) (by kernel_rfl) ?_ ?_
  · go_simp
  simp only [Act.put, List.setIfInBounds_toArray, List.set_cons_zero, List.set_cons_succ]
  refine lst_val (v := .bool false) (by kernel_rfl) ?_ ?_
  · go_simp
  simp only [Act.put, List.setIfInBounds_toArray, List.set_cons_zero, List.set_cons_succ]
  refine lst_val (v := .bool false) (by kernel_rfl) ?_ ?_
  · go_simp
  simp only [Act.put, List.setIfInBounds_toArray, List.set_cons_zero, List.set_cons_succ]
  refine lst_not (by kernel_rfl) ?_
  simp only [Act.put, List.setIfInBounds_toArray, List.set_cons_zero, List.set_cons_succ]
  refine lst_not (by kernel_rfl) ?_
  simp only [Act.put, List.setIfInBounds_toArray, List.set_cons_zero, List.set_cons_succ]
  refine lst_not (by kernel_rfl) ?_
  simp only [Act.put, List.setIfInBounds_toArray, List.set_cons_zero, List.set_cons_succ]
  refine lst_not (by kernel_rfl) ?_
  simp only [Act.put, List.setIfInBounds_toArray, List.set_cons_zero, List.set_cons_succ]
  refine lst_not (by kernel_rfl) ?_
  simp only [Act.put, List.setIfInBounds_toArray, List.set_cons_zero, List.set_cons_succ]
  refine lst_val (v := .bool false) (by kernel_rfl) ?_ ?_
  · go_simp
  simp only [Act.put, List.setIfInBounds_toArray, List.set_cons_zero, List.set_cons_succ]
  refine wpList_nil ?_
  go_upto_region 16 with fail
  clear HE
  obtain ⟨F, hF⟩ : ∃ F, lk K i 32 = F := ⟨_, rfl⟩
  have HF : Hid (lk K i 32 = F) := hF
  clear hF
  go_upto_region 17 with (go_at_call 27; refine (load_is _ b B x K cx _ M5.out.me (fun _ => (by decide : (0 : Nat) < 256)) i HI.out.1 wz (ldOk_zero K i)).mono ?_; rintro e v6 ⟨rfl, hB⟩; rw [HF.out]; unfold wz W4.v)
  have Z6 : Hid (Box (v6.alloc (.cells #[.int .u64 0, .int .u64 0, .int .u64 0, .int .u64 0] 30)) v6.heap.size 0 0 0 0 ∧ ¬ OwnB b x v6.heap.size) := ⟨Box.new v6 _ 0 0 0 0, (M5.out.past hB).fresh⟩
  have M6 : Hid (MB w (v6.alloc (.cells #[.int .u64 0, .int .u64 0, .int .u64 0, .int .u64 0] 30)) b w.heap.size w.heap.size b B x K cx (fun _ => 0) d0 d1 d2 d3 d0 d1 d2 d3) := (M5.out.past hB).past ((Below.refl _ _).alloc (Nat.le_refl _) _)
  clear hB M5
  generalize v6.alloc (.cells #[.int .u64 0, .int .u64 0, .int .u64 0, .int .u64 0] 30) = v7 at Z6 M6 ⊢
  generalize v6.heap.size = bz at Z6 ⊢
  obtain ⟨p0, p1, p2, p3, _⟩ := Box.facts M6.out.xa
  have ST : Hid (Calls Try.prog 22 #[.pointer (some ⟨b, 0, none⟩), .int .i64 i, .agg #[.int .u64 d0, .int .u64 d1, .int .u64 d2, .int .u64 d3]] v7 fun e w' => e = .returned (.int .i64 F) ∧ Mem w' b B x K cx (if F = 0 then ins (fun _ => 0) i.toNat (bN (⟨d0, d1, d2, d3⟩ : W4)) 32 else fun _ => 0) ∧ Off b x v7 w') := by
    have h := store_is v7 b B x K cx _ M6.out.me i HI.out.1 (⟨d0, d1, d2, d3⟩ : W4) DX.out
    rw [HF.out] at h
    exact h
  go_upto_region 18 with (go_at_call 22; refine (ST.out).mono ?_; rintro e v8 ⟨rfl, hm, ho⟩)
  have M8 : Hid (MB w v8 b w.heap.size w.heap.size b B x K cx (if F = 0 then ins (fun _ => 0) i.toNat (bN (⟨d0, d1, d2, d3⟩ : W4)) 32 else fun _ => 0) d0 d1 d2 d3 d0 d1 d2 d3) := M6.out.self hm ho
  have Z8 : Hid (Box v8 bz 0 0 0 0 ∧ ¬ OwnB b x bz) := ⟨Z6.out.1.but ho.but Z6.out.2, Z6.out.2⟩
  clear hm ho M6 Z6 ST p0 p1 p2 p3
  have hz0 : ∀ W, Sem.run Try.prog (Op.equalIn 10000 30 (.agg #[.int .u64 0, .int .u64 0, .int .u64 0, .int .u64 0]) (.agg #[.int .u64 0, .int .u64 0, .int .u64 0, .int .u64 0])) W = .ok true W := fun W => by rw [eqw_run]; rfl
  have hF0 : F ≠ 0 := by rw [← HF.out]; exact FX.out
  have g1 : (F == 0) = false := by simpa using hF0
  have g2 : ¬ (0 ≤ i ∧ i ≤ (K : Int) - 32) := fun h => hF0 (by rw [← HF.out]; exact lk_ok (by omega) (by omega))
  rw [if_neg hF0] at M8
  have g3 : ¬ (0 : Int) ≤ i := Int.not_le.2 I0i.out
  clear g2
  refine wp_region_lit ?_
  refine lst_val (v := .int .i64 F) (by kernel_rfl) ?_ ?_
  · go_simp
  simp only [Act.put, List.setIfInBounds_toArray, List.set_cons_zero, List.set_cons_succ]
  refine lst_val (v := .int .i64 F) (by kernel_rfl) ?_ ?_
  · go_simp
  simp only [Act.put, List.setIfInBounds_toArray, List.set_cons_zero, List.set_cons_succ]
  refine lst_val (v := .bool false) (by kernel_rfl) ?_ ?_
  · go_simp
  simp only [Act.put, List.setIfInBounds_toArray, List.set_cons_zero, List.set_cons_succ]
  refine lst_val (v := .bool false) (by kernel_rfl) ?_ ?_
  · go_simp
  simp only [Act.put, List.setIfInBounds_toArray, List.set_cons_zero, List.set_cons_succ]
  refine lst_val (v := .int .i64 F) (by kernel_rfl) ?_ ?_
  · go_simp
  simp only [Act.put, List.setIfInBounds_toArray, List.set_cons_zero, List.set_cons_succ]
  refine lst_val (v := .bool true) (by kernel_rfl) ?_ ?_
  · go_simp
  simp only [Act.put, List.setIfInBounds_toArray, List.set_cons_zero, List.set_cons_succ]
  refine lst_val (v := .bool true) (by kernel_rfl) ?_ ?_
  · go_simp
  simp only [Act.put, List.setIfInBounds_toArray, List.set_cons_zero, List.set_cons_succ]
  refine lst_val (v := .agg #[.int .u64 0, .int .u64 0, .int .u64 0, .int .u64 0]) (by kernel_rfl) ?_ ?_
  · obtain ⟨c0, c1, c2, c3, _⟩ := Box.facts Z8.out.1
    go_simp
  simp only [Act.put, List.setIfInBounds_toArray, List.set_cons_zero, List.set_cons_succ]
  refine lst_val (v := .agg #[.int .u64 0, .int .u64 0, .int .u64 0, .int .u64 0]) (by kernel_rfl) ?_ ?_
  · go_simp
  simp only [Act.put, List.setIfInBounds_toArray, List.set_cons_zero, List.set_cons_succ]
  refine lst_val (v := .bool false) (by kernel_rfl) ?_ ?_
  · go_simp
  simp only [Act.put, List.setIfInBounds_toArray, List.set_cons_zero, List.set_cons_succ]
  refine lst_val (v := .bool false) (by kernel_rfl) ?_ ?_
  · go_simp
  simp only [Act.put, List.setIfInBounds_toArray, List.set_cons_zero, List.set_cons_succ]
  refine lst_val (v := .bool false) (by kernel_rfl) ?_ ?_
  · go_simp
  simp only [Act.put, List.setIfInBounds_toArray, List.set_cons_zero, List.set_cons_succ]
  refine lst_val (v := .bool false) (by kernel_rfl) ?_ ?_
  · go_simp
  simp only [Act.put, List.setIfInBounds_toArray, List.set_cons_zero, List.set_cons_succ]
  refine lst_val (v := .int .i64 F) (by kernel_rfl) ?_ ?_
  · go_simp
  simp only [Act.put, List.setIfInBounds_toArray, List.set_cons_zero, List.set_cons_succ]
  refine lst_val (v := .bool false) (by kernel_rfl) ?_ ?_
  · go_simp
  simp only [Act.put, List.setIfInBounds_toArray, List.set_cons_zero, List.set_cons_succ]
  refine lst_val (v := .int .i64 i) (by kernel_rfl) ?_ ?_
  · go_simp
  simp only [Act.put, List.setIfInBounds_toArray, List.set_cons_zero, List.set_cons_succ]
  refine lst_val (v := .bool false) (by kernel_rfl) ?_ ?_
  · go_simp
  simp only [Act.put, List.setIfInBounds_toArray, List.set_cons_zero, List.set_cons_succ]
  refine lst_val (v := .bool false) (by kernel_rfl) ?_ ?_
  · go_simp
  simp only [Act.put, List.setIfInBounds_toArray, List.set_cons_zero, List.set_cons_succ]
  refine lst_not (by kernel_rfl) ?_
  simp only [Act.put, List.setIfInBounds_toArray, List.set_cons_zero, List.set_cons_succ]
  refine lst_not (by kernel_rfl) ?_
  simp only [Act.put, List.setIfInBounds_toArray, List.set_cons_zero, List.set_cons_succ]
  refine lst_not (by kernel_rfl) ?_
  simp only [Act.put, List.setIfInBounds_toArray, List.set_cons_zero, List.set_cons_succ]
  refine lst_not (by kernel_rfl) ?_
  simp only [Act.put, List.setIfInBounds_toArray, List.set_cons_zero, List.set_cons_succ]
  refine lst_val (v := .bool false) (by kernel_rfl) ?_ ?_
  · go_simp
  simp only [Act.put, List.setIfInBounds_toArray, List.set_cons_zero, List.set_cons_succ]
  refine lst_val (v := .bool false) (by kernel_rfl) ?_ ?_
  · go_simp
  simp only [Act.put, List.setIfInBounds_toArray, List.set_cons_zero, List.set_cons_succ]
  refine lst_val (v := .bool false) (by kernel_rfl) ?_ ?_
  · go_simp
  simp only [Act.put, List.setIfInBounds_toArray, List.set_cons_zero, List.set_cons_succ]
  refine wpList_nil ?_
  clear hz0
  go_wp2_with (go_at_call 14; refine (wrote_is _).mono ?_; rintro e v9 ⟨rfl, hB9⟩)
  go_ret
  exact ⟨rfl, M8.out.bel.trans (hB9.mono M8.out.bel.size)⟩
set_option maxHeartbeats 8000000 in
set_option maxRecDepth 100000 in
theorem pcA1 (w : World) (z0 i m : Int) (d0 d1 d2 d3 : Int) (hd : IsW (V d0 d1 d2 d3) d0 d1 d2 d3) (s K : Nat) (hs : bits .and .i64 z0 8191 = (s : Int)) (hs6 : s ≤ 8191) (eK : upN s = K) (hi : -9223372036854775808 ≤ i ∧ i ≤ 9223372036854775807) (hm : -9223372036854775808 ≤ (m : Int) ∧ (m : Int) ≤ 9223372036854775807) (FX : Hid (lk K i 32 ≠ 0)) (I0i : Hid (i < 0)) (c1 : (m == 0) = false) (c2 : (K : Int) < m) (HE : Hid (lk K i m = 1)) : Calls Try.prog 6 #[.int .i64 z0, .int .i64 i, .int .i64 m, .agg #[.int .u64 d0, .int .u64 d1, .int .u64 d2, .int .u64 d3]] w fun e w' => e = .returned (.bool true) ∧ Below w.heap.size w w' := by
  have kf : K % 32 = 0 ∧ s ≤ K ∧ K ≤ s + 31 := by rw [← eK]; unfold upN; omega
  have k1 : s ≤ K := kf.2.1
  have k2 : (K : Int) ≤ (s : Int) + 31 := by omega
  have k3 : Int.tmod (K : Int) 32 = 0 := by rw [Int.tmod_eq_emod_of_nonneg (by omega)]; omega
  have KB : (K : Int) ≤ 8222 := by omega
  have GR : Hid (∀ W B, Mem W B W.heap.size none 0 0 (fun _ => 0) → Calls Try.prog 20 #[.pointer (some ⟨B, 0, none⟩), .int .i64 (s : Int)] W fun e w' => e = .returned (.int .i64 0) ∧ GrRes W w' B W.heap.size none K (fun _ => 0)) := fun W B hM => by
    have h := grow_is W B _ none 0 0 _ hM (s : Int)
    rw [grE_nat s (by omega), grN_zero s (by omega), eK, show grU (fun _ => 0) 0 = fun _ => 0 by funext j; unfold grU; split <;> rfl] at h
    exact h
  have LN : Hid (∀ W b B x n cx u, Mem W b B x n cx u → Calls Try.prog 12 #[.pointer (some ⟨b, 0, none⟩)] W fun e w' => e = .returned (.int .i64 (n : Int)) ∧ w' = W) := fun W b B x n cx u hM => len_is W b B x n cx u hM
  have I0 : Hid (Below w.heap.size w (w.alloc (.cells #[.int .u64 d0, .int .u64 d1, .int .u64 d2, .int .u64 d3] 30)) ∧ Box (w.alloc (.cells #[.int .u64 d0, .int .u64 d1, .int .u64 d2, .int .u64 d3] 30)) w.heap.size d0 d1 d2 d3) := ⟨(Below.refl _ _).alloc (Nat.le_refl _) _, Box.new w 30 d0 d1 d2 d3⟩
  have DX : Hid (IsW (V d0 d1 d2 d3) d0 d1 d2 d3) := hd
  have HI : Hid (i ≤ 9223372036854775807 ∧ (m : Int) ≤ 9223372036854775807) := ⟨hi.2, hm.2⟩
  have i0 : i < 0 := I0i.out
  have c1b : ((m : Int) != 0) = true := by simpa using c1
  clear hd eK hs6 kf hi hm
  go_enter Try.func6, Try.ntmps6
  go_upto_region 1 with fail
  obtain ⟨W0, eW⟩ : ∃ W0, W0 = w.alloc (.cells #[.int .u64 d0, .int .u64 d1, .int .u64 d2, .int .u64 d3] 30) := ⟨_, rfl⟩
  rw [← eW] at I0 ⊢
  clear eW
  go_upto_region 3 with (go_at_call 19; refine (newMemory_is _).mono ?_; rintro e v1 ⟨rfl, hm1, hB1⟩)
  obtain ⟨b, eb⟩ : ∃ b, W0.heap.size = b := ⟨_, rfl⟩
  rw [eb] at hm1 ⊢
  have M1 : Hid (Below w.heap.size w v1 ∧ Box v1 w.heap.size d0 d1 d2 d3 ∧ Mem v1 b v1.heap.size none 0 0 (fun _ => 0) ∧ w.heap.size < b) := ⟨I0.out.1.trans (hB1.mono I0.out.1.size), I0.out.2.below hB1 I0.out.2.lt, hm1, by rw [← eb]; exact I0.out.2.lt⟩
  clear hm1 hB1 I0 eb
  refine wp_region_lit ?_
  refine lst_val (v := .pointer (some ⟨b, 0, none⟩)) (by kernel_rfl) ?_ ?_
  · go_simp
  simp only [Act.put, List.setIfInBounds_toArray, List.set_cons_zero, List.set_cons_succ]
  refine lst_val (v := .bool false) (by kernel_rfl) ?_ ?_
  · go_simp
  simp only [Act.put, List.setIfInBounds_toArray, List.set_cons_zero, List.set_cons_succ]
  refine lst_val (v := .bool false) (by kernel_rfl) ?_ ?_
  · go_simp
  simp only [Act.put, List.setIfInBounds_toArray, List.set_cons_zero, List.set_cons_succ]
  refine lst_val (v := .pointer (some ⟨b, 0, none⟩)) (by kernel_rfl) ?_ ?_
  · go_simp
  simp only [Act.put, List.setIfInBounds_toArray, List.set_cons_zero, List.set_cons_succ]
  refine lst_val (v := .int .i64 (s : Int)) (by kernel_rfl) ?_ ?_
  · go_simp
  simp only [Act.put, List.setIfInBounds_toArray, List.set_cons_zero, List.set_cons_succ]
  refine lst_call (by kernel_rfl) (by first | (go_simp; done) | (go_simp; first | exact rfl | exact ⟨rfl, rfl⟩ | exact ⟨rfl, rfl, rfl⟩)) (GR.out _ _ M1.out.2.2.1) ?_
  rintro e v2 ⟨rfl, x, cx, hm, ho, hr⟩
  refine ⟨_, rfl, ?_⟩
  obtain ⟨B, eB⟩ : ∃ B, v1.heap.size = B := ⟨_, rfl⟩
  have M2 : Hid (MB w v2 b w.heap.size w.heap.size b B x K cx (fun _ => 0) d0 d1 d2 d3 d0 d1 d2 d3) := by
    have h0 : MB w v1 b w.heap.size w.heap.size b B none 0 0 (fun _ => 0) d0 d1 d2 d3 d0 d1 d2 d3 := ⟨M1.out.1, M1.out.2.1, M1.out.2.1, by rw [← eB]; exact M1.out.2.2.1, by have := M1.out.2.2.2; omega, by have := M1.out.2.2.2; omega, fun q hq => (by rcases hq with rfl | ⟨a, e, _⟩; exact Nat.le_refl _; cases e), by have := M1.out.2.2.2; omega⟩
    rw [eB] at hm
    exact h0.own hm ho hr
  clear hm ho hr eB M1 GR
  simp only [Act.put, List.setIfInBounds_toArray, List.set_cons_zero, List.set_cons_succ]
  refine lst_val (v := .bool false) (by kernel_rfl) ?_ ?_
  · go_simp
  simp only [Act.put, List.setIfInBounds_toArray, List.set_cons_zero, List.set_cons_succ]
  refine lst_val (v := .bool false) (by kernel_rfl) ?_ ?_
  · go_simp
  simp only [Act.put, List.setIfInBounds_toArray, List.set_cons_zero, List.set_cons_succ]
  refine lst_val (v := .bool false) (by kernel_rfl) ?_ ?_
  · go_simp
  simp only [Act.put, List.setIfInBounds_toArray, List.set_cons_zero, List.set_cons_succ]
  refine lst_val (v := .pointer (some ⟨b, 0, none⟩)) (by kernel_rfl) ?_ ?_
  · go_simp
  simp only [Act.put, List.setIfInBounds_toArray, List.set_cons_zero, List.set_cons_succ]
  refine lst_call (by kernel_rfl) (by first | (go_simp; done) | (go_simp; first | exact rfl | exact ⟨rfl, rfl⟩ | exact ⟨rfl, rfl, rfl⟩)) (LN.out _ _ _ _ _ _ _ M2.out.me) ?_
  rintro e w' ⟨rfl, hw⟩
  have hw2 := hw.symm
  clear hw
  subst hw2
  refine ⟨_, rfl, ?_⟩
  simp only [Act.put, List.setIfInBounds_toArray, List.set_cons_zero, List.set_cons_succ]
  refine lst_val (v := .int .i64 (s : Int)) (by kernel_rfl) ?_ ?_
  · go_simp
  simp only [Act.put, List.setIfInBounds_toArray, List.set_cons_zero, List.set_cons_succ]
  refine lst_val (v := .bool false) (by kernel_rfl) ?_ ?_
  · go_simp
  simp only [Act.put, List.setIfInBounds_toArray, List.set_cons_zero, List.set_cons_succ]
  refine lst_val (v := .bool false) (by kernel_rfl) ?_ ?_
  · go_simp
  simp only [Act.put, List.setIfInBounds_toArray, List.set_cons_zero, List.set_cons_succ]
  refine lst_val (v := .bool false) (by kernel_rfl) ?_ ?_
  · go_simp
  simp only [Act.put, List.setIfInBounds_toArray, List.set_cons_zero, List.set_cons_succ]
  refine lst_val (v := .pointer (some ⟨b, 0, none⟩)) (by kernel_rfl) ?_ ?_
  · go_simp
  simp only [Act.put, List.setIfInBounds_toArray, List.set_cons_zero, List.set_cons_succ]
  refine lst_call (by kernel_rfl) (by first | (go_simp; done) | (go_simp; first | exact rfl | exact ⟨rfl, rfl⟩ | exact ⟨rfl, rfl, rfl⟩)) (LN.out _ _ _ _ _ _ _ M2.out.me) ?_
  rintro e w' ⟨rfl, hw⟩
  have hw2 := hw.symm
  clear hw
  subst hw2
  refine ⟨_, rfl, ?_⟩
  simp only [Act.put, List.setIfInBounds_toArray, List.set_cons_zero, List.set_cons_succ]
  refine lst_val (v := .int .i64 (s : Int)) (by kernel_rfl) ?_ ?_
  · go_simp
  simp only [Act.put, List.setIfInBounds_toArray, List.set_cons_zero, List.set_cons_succ]
  refine lst_val (v := .int .i64 ((s : Int) + 31)) (by kernel_rfl) ?_ ?_
  · (go_simp; try (first | (rw [IntKind.wrap_u64]; omega) | (rw [IntKind.wrap_i64]; omega)))
  simp only [Act.put, List.setIfInBounds_toArray, List.set_cons_zero, List.set_cons_succ]
  refine lst_val (v := .bool false) (by kernel_rfl) ?_ ?_
  · go_simp
  simp only [Act.put, List.setIfInBounds_toArray, List.set_cons_zero, List.set_cons_succ]
  refine lst_val (v := .bool false) (by kernel_rfl) ?_ ?_
  · go_simp
  simp only [Act.put, List.setIfInBounds_toArray, List.set_cons_zero, List.set_cons_succ]
  refine lst_val (v := .bool false) (by kernel_rfl) ?_ ?_
  · go_simp
  simp only [Act.put, List.setIfInBounds_toArray, List.set_cons_zero, List.set_cons_succ]
  refine lst_val (v := .pointer (some ⟨b, 0, none⟩)) (by kernel_rfl) ?_ ?_
  · go_simp
  simp only [Act.put, List.setIfInBounds_toArray, List.set_cons_zero, List.set_cons_succ]
  refine lst_call (by kernel_rfl) (by first | (go_simp; done) | (go_simp; first | exact rfl | exact ⟨rfl, rfl⟩ | exact ⟨rfl, rfl, rfl⟩)) (LN.out _ _ _ _ _ _ _ M2.out.me) ?_
  rintro e w' ⟨rfl, hw⟩
  have hw2 := hw.symm
  clear hw
  subst hw2
  refine ⟨_, rfl, ?_⟩
  simp only [Act.put, List.setIfInBounds_toArray, List.set_cons_zero, List.set_cons_succ]
  refine lst_val (v := .int .i64 0) (by kernel_rfl) ?_ ?_
  · go_simp
  simp only [Act.put, List.setIfInBounds_toArray, List.set_cons_zero, List.set_cons_succ]
  refine lst_val (v := .bool false) (by kernel_rfl) ?_ ?_
  · go_simp
  simp only [Act.put, List.setIfInBounds_toArray, List.set_cons_zero, List.set_cons_succ]
  refine lst_val (v := .bool false) (by kernel_rfl) ?_ ?_
  · go_simp
  simp only [Act.put, List.setIfInBounds_toArray, List.set_cons_zero, List.set_cons_succ]
  refine wpList_nil ?_
  clear k1 k2 k3
  go_upto_region 7 with (go_at_call 12; refine (LN.out _ _ _ _ _ _ _ M2.out.me).mono ?_; rintro e w' ⟨rfl, hw⟩; (have hw2 := hw.symm); clear hw; subst hw2)
  go_upto_region 11 with fail
  have RD : Hid (Calls Try.prog 25 #[.pointer (some ⟨b, 0, none⟩), .int .i64 i, .int .i64 m] v2 fun e w' => ∃ vR, e = .returned (.tuple #[vR, .int .i64 1]) ∧ RdRes v2 w' 0 (fun _ => 0) vR ∧ Below v2.heap.size v2 w') := by
    have h := read_is v2 b B x K cx _ M2.out.me i m HI.out.1 HI.out.2
    rw [HE.out] at h
    exact h
  go_upto_region 12 with (go_at_call 25; refine (RD.out).mono ?_; rintro e v4 ⟨vR, rfl, hr, hB⟩)
  obtain rfl := rdRes_none hr
  have M4 : Hid (MB w v4 b w.heap.size w.heap.size b B x K cx (fun _ => 0) d0 d1 d2 d3 d0 d1 d2 d3) := M2.out.past hB
  clear hr hB M2 RD
  have MV : Hid (Calls Try.prog 26 #[.pointer (some ⟨b, 0, none⟩), .int .i64 i, .int .i64 i, .int .i64 m] v4 fun e w' => e = .returned (.int .i64 1) ∧ Mem w' b B x K cx (fun _ => 0) ∧ Off b x v4 w') := by
    have h := move_is v4 b B x K cx _ M4.out.me i i m HI.out.1 HI.out.1 HI.out.2
    rw [mvE_same, HE.out, ite_zero] at h
    exact h
  refine wp_region_lit ?_
  refine lst_val (v := .int .i64 1) (by kernel_rfl) ?_ ?_
  · go_simp
  simp only [Act.put, List.setIfInBounds_toArray, List.set_cons_zero, List.set_cons_succ]
  refine lst_val (v := .int .i64 1) (by kernel_rfl) ?_ ?_
  · go_simp
  simp only [Act.put, List.setIfInBounds_toArray, List.set_cons_zero, List.set_cons_succ]
  refine lst_val (v := .bool false) (by kernel_rfl) ?_ ?_
  · go_simp
  simp only [Act.put, List.setIfInBounds_toArray, List.set_cons_zero, List.set_cons_succ]
  refine lst_val (v := .bool false) (by kernel_rfl) ?_ ?_
  · go_simp
  simp only [Act.put, List.setIfInBounds_toArray, List.set_cons_zero, List.set_cons_succ]
  refine lst_val (v := .pointer (some ⟨b, 0, none⟩)) (by kernel_rfl) ?_ ?_
  · go_simp
  simp only [Act.put, List.setIfInBounds_toArray, List.set_cons_zero, List.set_cons_succ]
  refine lst_val (v := .int .i64 i) (by kernel_rfl) ?_ ?_
  · go_simp
  simp only [Act.put, List.setIfInBounds_toArray, List.set_cons_zero, List.set_cons_succ]
  refine lst_val (v := .int .i64 i) (by kernel_rfl) ?_ ?_
  · go_simp
  simp only [Act.put, List.setIfInBounds_toArray, List.set_cons_zero, List.set_cons_succ]
  refine lst_val (v := .int .i64 m) (by kernel_rfl) ?_ ?_
  · go_simp
  simp only [Act.put, List.setIfInBounds_toArray, List.set_cons_zero, List.set_cons_succ]
  refine lst_call (by kernel_rfl) (by first | (go_simp; done) | (go_simp; first | exact rfl | exact ⟨rfl, rfl⟩ | exact ⟨rfl, rfl, rfl⟩)) (MV.out) ?_
  rintro e v5 ⟨rfl, hm, ho⟩
  refine ⟨_, rfl, ?_⟩
  have M5 : Hid (MB w v5 b w.heap.size w.heap.size b B x K cx (fun _ => 0) d0 d1 d2 d3 d0 d1 d2 d3) := M4.out.self hm ho
  clear hm ho MV M4
  simp only [Act.put, List.setIfInBounds_toArray, List.set_cons_zero, List.set_cons_succ]
  refine lst_val (v := .int .i64 1) (by kernel_rfl) ?_ ?_
  · go_simp
  simp only [Act.put, List.setIfInBounds_toArray, List.set_cons_zero, List.set_cons_succ]
  refine lst_val (v := .bool false) (by kernel_rfl) ?_ ?_
  · go_simp
  simp only [Act.put, List.setIfInBounds_toArray, List.set_cons_zero, List.set_cons_succ]
  refine lst_val (v := .bool false) (by kernel_rfl) ?_ ?_
  · go_simp
  simp only [Act.put, List.setIfInBounds_toArray, List.set_cons_zero, List.set_cons_succ]
  refine lst_val (v := .bool false) (by kernel_rfl) ?_ ?_
  · go_simp
  simp only [Act.put, List.setIfInBounds_toArray, List.set_cons_zero, List.set_cons_succ]
  refine lst_val (v := .int .i64 1) (by kernel_rfl) ?_ ?_
  · go_simp
  simp only [Act.put, List.setIfInBounds_toArray, List.set_cons_zero, List.set_cons_succ]
  refine lst_val (v := .bool false) (by kernel_rfl) ?_ ?_
  · go_simp
  simp only [Act.put, List.setIfInBounds_toArray, List.set_cons_zero, List.set_cons_succ]
  refine lst_val (v := .bool false) (by kernel_rfl) ?_ ?_
  · go_simp
  simp only [Act.put, List.setIfInBounds_toArray, List.set_cons_zero, List.set_cons_succ]
  refine lst_not (by kernel_rfl) ?_
  simp only [Act.put, List.setIfInBounds_toArray, List.set_cons_zero, List.set_cons_succ]
  refine lst_not (by kernel_rfl) ?_
  simp only [Act.put, List.setIfInBounds_toArray, List.set_cons_zero, List.set_cons_succ]
  refine lst_not (by kernel_rfl) ?_
  simp only [Act.put, List.setIfInBounds_toArray, List.set_cons_zero, List.set_cons_succ]
  refine lst_not (by kernel_rfl) ?_
  simp only [Act.put, List.setIfInBounds_toArray, List.set_cons_zero, List.set_cons_succ]
  refine lst_val (v := .bool false) (by kernel_rfl) ?_ ?_
  · go_simp
  simp only [Act.put, List.setIfInBounds_toArray, List.set_cons_zero, List.set_cons_succ]
  refine lst_val (v := .bool false) (by kernel_rfl) ?_ ?_
  · go_simp
  simp only [Act.put, List.setIfInBounds_toArray, List.set_cons_zero, List.set_cons_succ]
  refine lst_val (v := .bool false) (by kernel_rfl) ?_ ?_
  · go_simp
  simp only [Act.put, List.setIfInBounds_toArray, List.set_cons_zero, List.set_cons_succ]
  refine lst_val (v := .int .i64 1) (by kernel_rfl) ?_ ?_
  · go_simp
  simp only [Act.put, List.setIfInBounds_toArray, List.set_cons_zero, List.set_cons_succ]
  refine lst_val (v := .bool true) (by kernel_rfl) ?_ ?_
  · go_simp
  simp only [Act.put, List.setIfInBounds_toArray, List.set_cons_zero, List.set_cons_succ]
  refine lst_val (v := .bool true) (by kernel_rfl) ?_ ?_
  · go_simp
  simp only [Act.put, List.setIfInBounds_toArray, List.set_cons_zero, List.set_cons_succ]
  refine lst_val (v := .slice none 0 0) (by kernel_rfl) ?_ ?_
  · go_simp
  simp only [Act.put, List.setIfInBounds_toArray, List.set_cons_zero, List.set_cons_succ]
  refine lst_val (v := .int .i64 0) (by kernel_rfl) ?_ ?_
  · go_simp
  simp only [Act.put, List.setIfInBounds_toArray, List.set_cons_zero, List.set_cons_succ]
  refine lst_val (v := .bool false) (by kernel_rfl) ?_ ?_
  · go_simp
  simp only [Act.put, List.setIfInBounds_toArray, List.set_cons_zero, List.set_cons_succ]
  refine lst_val (v := .bool false) (by kernel_rfl) ?_ ?_
  · go_simp
  simp only [Act.put, List.setIfInBounds_toArray, List.set_cons_zero, List.set_cons_succ]
  refine lst_val (v := .bool false) (by kernel_rfl) ?_ ?_
  · go_simp
  simp only [Act.put, List.setIfInBounds_toArray, List.set_cons_zero, List.set_cons_succ]
  refine wpList_nil ?_
  go_upto_region 14 with fail
  refine wp_region_lit ?_
  refine lst_val (v := .int .i64 1) (by kernel_rfl) ?_ ?_
  · go_simp
  simp only [Act.put, List.setIfInBounds_toArray, List.set_cons_zero, List.set_cons_succ]
  refine lst_val (v := .bool false) (by kernel_rfl) ?_ ?_
  · go_simp
  simp only [Act.put, List.setIfInBounds_toArray, List.set_cons_zero, List.set_cons_succ]
  refine lst_val (v := .bool false) (by kernel_rfl) ?_ ?_
  · go_simp
  simp only [Act.put, List.setIfInBounds_toArray, List.set_cons_zero, List.set_cons_succ]
  refine lst_not (by kernel_rfl) ?_
  simp only [Act.put, List.setIfInBounds_toArray, List.set_cons_zero, List.set_cons_succ]
  refine lst_not (by kernel_rfl) ?_
  simp only [Act.put, List.setIfInBounds_toArray, List.set_cons_zero, List.set_cons_succ]
  refine lst_not (by kernel_rfl) ?_
  simp only [Act.put, List.setIfInBounds_toArray, List.set_cons_zero, List.set_cons_succ]
  refine lst_not (by kernel_rfl) ?_
  simp only [Act.put, List.setIfInBounds_toArray, List.set_cons_zero, List.set_cons_succ]
  refine lst_not (by kernel_rfl) ?_
  simp only [Act.put, List.setIfInBounds_toArray, List.set_cons_zero, List.set_cons_succ]
  refine lst_val (v := .bool false) (by kernel_rfl) ?_ ?_
  · go_simp
  simp only [Act.put, List.setIfInBounds_toArray, List.set_cons_zero, List.set_cons_succ]
  refine wpList_nil ?_
  go_upto_region 16 with fail
  clear HE
  obtain ⟨F, hF⟩ : ∃ F, lk K i 32 = F := ⟨_, rfl⟩
  have HF : Hid (lk K i 32 = F) := hF
  clear hF
  go_upto_region 17 with (go_at_call 27; refine (load_is _ b B x K cx _ M5.out.me (fun _ => (by decide : (0 : Nat) < 256)) i HI.out.1 wz (ldOk_zero K i)).mono ?_; rintro e v6 ⟨rfl, hB⟩; rw [HF.out]; unfold wz W4.v)
  have Z6 : Hid (Box (v6.alloc (.cells #[.int .u64 0, .int .u64 0, .int .u64 0, .int .u64 0] 30)) v6.heap.size 0 0 0 0 ∧ ¬ OwnB b x v6.heap.size) := ⟨Box.new v6 _ 0 0 0 0, (M5.out.past hB).fresh⟩
  have M6 : Hid (MB w (v6.alloc (.cells #[.int .u64 0, .int .u64 0, .int .u64 0, .int .u64 0] 30)) b w.heap.size w.heap.size b B x K cx (fun _ => 0) d0 d1 d2 d3 d0 d1 d2 d3) := (M5.out.past hB).past ((Below.refl _ _).alloc (Nat.le_refl _) _)
  clear hB M5
  generalize v6.alloc (.cells #[.int .u64 0, .int .u64 0, .int .u64 0, .int .u64 0] 30) = v7 at Z6 M6 ⊢
  generalize v6.heap.size = bz at Z6 ⊢
  obtain ⟨p0, p1, p2, p3, _⟩ := Box.facts M6.out.xa
  have ST : Hid (Calls Try.prog 22 #[.pointer (some ⟨b, 0, none⟩), .int .i64 i, .agg #[.int .u64 d0, .int .u64 d1, .int .u64 d2, .int .u64 d3]] v7 fun e w' => e = .returned (.int .i64 F) ∧ Mem w' b B x K cx (if F = 0 then ins (fun _ => 0) i.toNat (bN (⟨d0, d1, d2, d3⟩ : W4)) 32 else fun _ => 0) ∧ Off b x v7 w') := by
    have h := store_is v7 b B x K cx _ M6.out.me i HI.out.1 (⟨d0, d1, d2, d3⟩ : W4) DX.out
    rw [HF.out] at h
    exact h
  go_upto_region 18 with (go_at_call 22; refine (ST.out).mono ?_; rintro e v8 ⟨rfl, hm, ho⟩)
  have M8 : Hid (MB w v8 b w.heap.size w.heap.size b B x K cx (if F = 0 then ins (fun _ => 0) i.toNat (bN (⟨d0, d1, d2, d3⟩ : W4)) 32 else fun _ => 0) d0 d1 d2 d3 d0 d1 d2 d3) := M6.out.self hm ho
  have Z8 : Hid (Box v8 bz 0 0 0 0 ∧ ¬ OwnB b x bz) := ⟨Z6.out.1.but ho.but Z6.out.2, Z6.out.2⟩
  clear hm ho M6 Z6 ST p0 p1 p2 p3
  have hz0 : ∀ W, Sem.run Try.prog (Op.equalIn 10000 30 (.agg #[.int .u64 0, .int .u64 0, .int .u64 0, .int .u64 0]) (.agg #[.int .u64 0, .int .u64 0, .int .u64 0, .int .u64 0])) W = .ok true W := fun W => by rw [eqw_run]; rfl
  have hF0 : F ≠ 0 := by rw [← HF.out]; exact FX.out
  have g1 : (F == 0) = false := by simpa using hF0
  have g2 : ¬ (0 ≤ i ∧ i ≤ (K : Int) - 32) := fun h => hF0 (by rw [← HF.out]; exact lk_ok (by omega) (by omega))
  rw [if_neg hF0] at M8
  have g3 : ¬ (0 : Int) ≤ i := Int.not_le.2 I0i.out
  clear g2
  refine wp_region_lit ?_
  refine lst_val (v := .int .i64 F) (by kernel_rfl) ?_ ?_
  · go_simp
  simp only [Act.put, List.setIfInBounds_toArray, List.set_cons_zero, List.set_cons_succ]
  refine lst_val (v := .int .i64 F) (by kernel_rfl) ?_ ?_
  · go_simp
  simp only [Act.put, List.setIfInBounds_toArray, List.set_cons_zero, List.set_cons_succ]
  refine lst_val (v := .bool false) (by kernel_rfl) ?_ ?_
  · go_simp
  simp only [Act.put, List.setIfInBounds_toArray, List.set_cons_zero, List.set_cons_succ]
  refine lst_val (v := .bool false) (by kernel_rfl) ?_ ?_
  · go_simp
  simp only [Act.put, List.setIfInBounds_toArray, List.set_cons_zero, List.set_cons_succ]
  refine lst_val (v := .int .i64 F) (by kernel_rfl) ?_ ?_
  · go_simp
  simp only [Act.put, List.setIfInBounds_toArray, List.set_cons_zero, List.set_cons_succ]
  refine lst_val (v := .bool true) (by kernel_rfl) ?_ ?_
  · go_simp
  simp only [Act.put, List.setIfInBounds_toArray, List.set_cons_zero, List.set_cons_succ]
  refine lst_val (v := .bool true) (by kernel_rfl) ?_ ?_
  · go_simp
  simp only [Act.put, List.setIfInBounds_toArray, List.set_cons_zero, List.set_cons_succ]
  refine lst_val (v := .agg #[.int .u64 0, .int .u64 0, .int .u64 0, .int .u64 0]) (by kernel_rfl) ?_ ?_
  · obtain ⟨c0, c1, c2, c3, _⟩ := Box.facts Z8.out.1
    go_simp
  simp only [Act.put, List.setIfInBounds_toArray, List.set_cons_zero, List.set_cons_succ]
  refine lst_val (v := .agg #[.int .u64 0, .int .u64 0, .int .u64 0, .int .u64 0]) (by kernel_rfl) ?_ ?_
  · go_simp
  simp only [Act.put, List.setIfInBounds_toArray, List.set_cons_zero, List.set_cons_succ]
  refine lst_val (v := .bool false) (by kernel_rfl) ?_ ?_
  · go_simp
  simp only [Act.put, List.setIfInBounds_toArray, List.set_cons_zero, List.set_cons_succ]
  refine lst_val (v := .bool false) (by kernel_rfl) ?_ ?_
  · go_simp
  simp only [Act.put, List.setIfInBounds_toArray, List.set_cons_zero, List.set_cons_succ]
  refine lst_val (v := .bool false) (by kernel_rfl) ?_ ?_
  · go_simp
  simp only [Act.put, List.setIfInBounds_toArray, List.set_cons_zero, List.set_cons_succ]
  refine lst_val (v := .bool false) (by kernel_rfl) ?_ ?_
  · go_simp
  simp only [Act.put, List.setIfInBounds_toArray, List.set_cons_zero, List.set_cons_succ]
  refine lst_val (v := .int .i64 F) (by kernel_rfl) ?_ ?_
  · go_simp
  simp only [Act.put, List.setIfInBounds_toArray, List.set_cons_zero, List.set_cons_succ]
  refine lst_val (v := .bool false) (by kernel_rfl) ?_ ?_
  · go_simp
  simp only [Act.put, List.setIfInBounds_toArray, List.set_cons_zero, List.set_cons_succ]
  refine lst_val (v := .int .i64 i) (by kernel_rfl) ?_ ?_
  · go_simp
  simp only [Act.put, List.setIfInBounds_toArray, List.set_cons_zero, List.set_cons_succ]
  refine lst_val (v := .bool false) (by kernel_rfl) ?_ ?_
  · go_simp
  simp only [Act.put, List.setIfInBounds_toArray, List.set_cons_zero, List.set_cons_succ]
  refine lst_val (v := .bool false) (by kernel_rfl) ?_ ?_
  · go_simp
  simp only [Act.put, List.setIfInBounds_toArray, List.set_cons_zero, List.set_cons_succ]
  refine lst_not (by kernel_rfl) ?_
  simp only [Act.put, List.setIfInBounds_toArray, List.set_cons_zero, List.set_cons_succ]
  refine lst_not (by kernel_rfl) ?_
  simp only [Act.put, List.setIfInBounds_toArray, List.set_cons_zero, List.set_cons_succ]
  refine lst_not (by kernel_rfl) ?_
  simp only [Act.put, List.setIfInBounds_toArray, List.set_cons_zero, List.set_cons_succ]
  refine lst_not (by kernel_rfl) ?_
  simp only [Act.put, List.setIfInBounds_toArray, List.set_cons_zero, List.set_cons_succ]
  refine lst_val (v := .bool false) (by kernel_rfl) ?_ ?_
  · go_simp
  simp only [Act.put, List.setIfInBounds_toArray, List.set_cons_zero, List.set_cons_succ]
  refine lst_val (v := .bool false) (by kernel_rfl) ?_ ?_
  · go_simp
  simp only [Act.put, List.setIfInBounds_toArray, List.set_cons_zero, List.set_cons_succ]
  refine lst_val (v := .bool false) (by kernel_rfl) ?_ ?_
  · go_simp
  simp only [Act.put, List.setIfInBounds_toArray, List.set_cons_zero, List.set_cons_succ]
  refine wpList_nil ?_
  clear hz0
  go_wp2_with (go_at_call 14; refine (wrote_is _).mono ?_; rintro e v9 ⟨rfl, hB9⟩)
  go_ret
  exact ⟨rfl, M8.out.bel.trans (hB9.mono M8.out.bel.size)⟩
set_option maxHeartbeats 8000000 in
set_option maxRecDepth 100000 in
theorem pcA2 (w : World) (z0 i m : Int) (d0 d1 d2 d3 : Int) (hd : IsW (V d0 d1 d2 d3) d0 d1 d2 d3) (s K : Nat) (hs : bits .and .i64 z0 8191 = (s : Int)) (hs6 : s ≤ 8191) (eK : upN s = K) (hi : -9223372036854775808 ≤ i ∧ i ≤ 9223372036854775807) (hm : -9223372036854775808 ≤ (m : Int) ∧ (m : Int) ≤ 9223372036854775807) (FX : Hid (lk K i 32 ≠ 0)) (I0i : Hid (i < 0)) (c1 : (m == 0) = false) (c2 : ¬ (K : Int) < m) (q : Int) (hq : IntKind.i64.wrap ((K : Int) - m) = q) (c3 : q < i) (HE : Hid (lk K i m = 1)) : Calls Try.prog 6 #[.int .i64 z0, .int .i64 i, .int .i64 m, .agg #[.int .u64 d0, .int .u64 d1, .int .u64 d2, .int .u64 d3]] w fun e w' => e = .returned (.bool true) ∧ Below w.heap.size w w' := by
  have kf : K % 32 = 0 ∧ s ≤ K ∧ K ≤ s + 31 := by rw [← eK]; unfold upN; omega
  have k1 : s ≤ K := kf.2.1
  have k2 : (K : Int) ≤ (s : Int) + 31 := by omega
  have k3 : Int.tmod (K : Int) 32 = 0 := by rw [Int.tmod_eq_emod_of_nonneg (by omega)]; omega
  have KB : (K : Int) ≤ 8222 := by omega
  have GR : Hid (∀ W B, Mem W B W.heap.size none 0 0 (fun _ => 0) → Calls Try.prog 20 #[.pointer (some ⟨B, 0, none⟩), .int .i64 (s : Int)] W fun e w' => e = .returned (.int .i64 0) ∧ GrRes W w' B W.heap.size none K (fun _ => 0)) := fun W B hM => by
    have h := grow_is W B _ none 0 0 _ hM (s : Int)
    rw [grE_nat s (by omega), grN_zero s (by omega), eK, show grU (fun _ => 0) 0 = fun _ => 0 by funext j; unfold grU; split <;> rfl] at h
    exact h
  have LN : Hid (∀ W b B x n cx u, Mem W b B x n cx u → Calls Try.prog 12 #[.pointer (some ⟨b, 0, none⟩)] W fun e w' => e = .returned (.int .i64 (n : Int)) ∧ w' = W) := fun W b B x n cx u hM => len_is W b B x n cx u hM
  have I0 : Hid (Below w.heap.size w (w.alloc (.cells #[.int .u64 d0, .int .u64 d1, .int .u64 d2, .int .u64 d3] 30)) ∧ Box (w.alloc (.cells #[.int .u64 d0, .int .u64 d1, .int .u64 d2, .int .u64 d3] 30)) w.heap.size d0 d1 d2 d3) := ⟨(Below.refl _ _).alloc (Nat.le_refl _) _, Box.new w 30 d0 d1 d2 d3⟩
  have DX : Hid (IsW (V d0 d1 d2 d3) d0 d1 d2 d3) := hd
  have HI : Hid (i ≤ 9223372036854775807 ∧ (m : Int) ≤ 9223372036854775807) := ⟨hi.2, hm.2⟩
  have i0 : i < 0 := I0i.out
  have c1b : ((m : Int) != 0) = true := by simpa using c1
  clear hd eK hs6 kf hi hm
  go_enter Try.func6, Try.ntmps6
  go_upto_region 1 with fail
  obtain ⟨W0, eW⟩ : ∃ W0, W0 = w.alloc (.cells #[.int .u64 d0, .int .u64 d1, .int .u64 d2, .int .u64 d3] 30) := ⟨_, rfl⟩
  rw [← eW] at I0 ⊢
  clear eW
  go_upto_region 3 with (go_at_call 19; refine (newMemory_is _).mono ?_; rintro e v1 ⟨rfl, hm1, hB1⟩)
  obtain ⟨b, eb⟩ : ∃ b, W0.heap.size = b := ⟨_, rfl⟩
  rw [eb] at hm1 ⊢
  have M1 : Hid (Below w.heap.size w v1 ∧ Box v1 w.heap.size d0 d1 d2 d3 ∧ Mem v1 b v1.heap.size none 0 0 (fun _ => 0) ∧ w.heap.size < b) := ⟨I0.out.1.trans (hB1.mono I0.out.1.size), I0.out.2.below hB1 I0.out.2.lt, hm1, by rw [← eb]; exact I0.out.2.lt⟩
  clear hm1 hB1 I0 eb
  refine wp_region_lit ?_
  refine lst_val (v := .pointer (some ⟨b, 0, none⟩)) (by kernel_rfl) ?_ ?_
  · go_simp
  simp only [Act.put, List.setIfInBounds_toArray, List.set_cons_zero, List.set_cons_succ]
  refine lst_val (v := .bool false) (by kernel_rfl) ?_ ?_
  · go_simp
  simp only [Act.put, List.setIfInBounds_toArray, List.set_cons_zero, List.set_cons_succ]
  refine lst_val (v := .bool false) (by kernel_rfl) ?_ ?_
  · go_simp
  simp only [Act.put, List.setIfInBounds_toArray, List.set_cons_zero, List.set_cons_succ]
  refine lst_val (v := .pointer (some ⟨b, 0, none⟩)) (by kernel_rfl) ?_ ?_
  · go_simp
  simp only [Act.put, List.setIfInBounds_toArray, List.set_cons_zero, List.set_cons_succ]
  refine lst_val (v := .int .i64 (s : Int)) (by kernel_rfl) ?_ ?_
  · go_simp
  simp only [Act.put, List.setIfInBounds_toArray, List.set_cons_zero, List.set_cons_succ]
  refine lst_call (by kernel_rfl) (by first | (go_simp; done) | (go_simp; first | exact rfl | exact ⟨rfl, rfl⟩ | exact ⟨rfl, rfl, rfl⟩)) (GR.out _ _ M1.out.2.2.1) ?_
  rintro e v2 ⟨rfl, x, cx, hm, ho, hr⟩
  refine ⟨_, rfl, ?_⟩
  obtain ⟨B, eB⟩ : ∃ B, v1.heap.size = B := ⟨_, rfl⟩
  have M2 : Hid (MB w v2 b w.heap.size w.heap.size b B x K cx (fun _ => 0) d0 d1 d2 d3 d0 d1 d2 d3) := by
    have h0 : MB w v1 b w.heap.size w.heap.size b B none 0 0 (fun _ => 0) d0 d1 d2 d3 d0 d1 d2 d3 := ⟨M1.out.1, M1.out.2.1, M1.out.2.1, by rw [← eB]; exact M1.out.2.2.1, by have := M1.out.2.2.2; omega, by have := M1.out.2.2.2; omega, fun q hq => (by rcases hq with rfl | ⟨a, e, _⟩; exact Nat.le_refl _; cases e), by have := M1.out.2.2.2; omega⟩
    rw [eB] at hm
    exact h0.own hm ho hr
  clear hm ho hr eB M1 GR
  simp only [Act.put, List.setIfInBounds_toArray, List.set_cons_zero, List.set_cons_succ]
  refine lst_val (v := .bool false) (by kernel_rfl) ?_ ?_
  · go_simp
  simp only [Act.put, List.setIfInBounds_toArray, List.set_cons_zero, List.set_cons_succ]
  refine lst_val (v := .bool false) (by kernel_rfl) ?_ ?_
  · go_simp
  simp only [Act.put, List.setIfInBounds_toArray, List.set_cons_zero, List.set_cons_succ]
  refine lst_val (v := .bool false) (by kernel_rfl) ?_ ?_
  · go_simp
  simp only [Act.put, List.setIfInBounds_toArray, List.set_cons_zero, List.set_cons_succ]
  refine lst_val (v := .pointer (some ⟨b, 0, none⟩)) (by kernel_rfl) ?_ ?_
  · go_simp
  simp only [Act.put, List.setIfInBounds_toArray, List.set_cons_zero, List.set_cons_succ]
  refine lst_call (by kernel_rfl) (by first | (go_simp; done) | (go_simp; first | exact rfl | exact ⟨rfl, rfl⟩ | exact ⟨rfl, rfl, rfl⟩)) (LN.out _ _ _ _ _ _ _ M2.out.me) ?_
  rintro e w' ⟨rfl, hw⟩
  have hw2 := hw.symm
  clear hw
  subst hw2
  refine ⟨_, rfl, ?_⟩
  simp only [Act.put, List.setIfInBounds_toArray, List.set_cons_zero, List.set_cons_succ]
  refine lst_val (v := .int .i64 (s : Int)) (by kernel_rfl) ?_ ?_
  · go_simp
  simp only [Act.put, List.setIfInBounds_toArray, List.set_cons_zero, List.set_cons_succ]
  refine lst_val (v := .bool false) (by kernel_rfl) ?_ ?_
  · go_simp
  simp only [Act.put, List.setIfInBounds_toArray, List.set_cons_zero, List.set_cons_succ]
  refine lst_val (v := .bool false) (by kernel_rfl) ?_ ?_
  · go_simp
  simp only [Act.put, List.setIfInBounds_toArray, List.set_cons_zero, List.set_cons_succ]
  refine lst_val (v := .bool false) (by kernel_rfl) ?_ ?_
  · go_simp
  simp only [Act.put, List.setIfInBounds_toArray, List.set_cons_zero, List.set_cons_succ]
  refine lst_val (v := .pointer (some ⟨b, 0, none⟩)) (by kernel_rfl) ?_ ?_
  · go_simp
  simp only [Act.put, List.setIfInBounds_toArray, List.set_cons_zero, List.set_cons_succ]
  refine lst_call (by kernel_rfl) (by first | (go_simp; done) | (go_simp; first | exact rfl | exact ⟨rfl, rfl⟩ | exact ⟨rfl, rfl, rfl⟩)) (LN.out _ _ _ _ _ _ _ M2.out.me) ?_
  rintro e w' ⟨rfl, hw⟩
  have hw2 := hw.symm
  clear hw
  subst hw2
  refine ⟨_, rfl, ?_⟩
  simp only [Act.put, List.setIfInBounds_toArray, List.set_cons_zero, List.set_cons_succ]
  refine lst_val (v := .int .i64 (s : Int)) (by kernel_rfl) ?_ ?_
  · go_simp
  simp only [Act.put, List.setIfInBounds_toArray, List.set_cons_zero, List.set_cons_succ]
  refine lst_val (v := .int .i64 ((s : Int) + 31)) (by kernel_rfl) ?_ ?_
  · (go_simp; try (first | (rw [IntKind.wrap_u64]; omega) | (rw [IntKind.wrap_i64]; omega)))
  simp only [Act.put, List.setIfInBounds_toArray, List.set_cons_zero, List.set_cons_succ]
  refine lst_val (v := .bool false) (by kernel_rfl) ?_ ?_
  · go_simp
  simp only [Act.put, List.setIfInBounds_toArray, List.set_cons_zero, List.set_cons_succ]
  refine lst_val (v := .bool false) (by kernel_rfl) ?_ ?_
  · go_simp
  simp only [Act.put, List.setIfInBounds_toArray, List.set_cons_zero, List.set_cons_succ]
  refine lst_val (v := .bool false) (by kernel_rfl) ?_ ?_
  · go_simp
  simp only [Act.put, List.setIfInBounds_toArray, List.set_cons_zero, List.set_cons_succ]
  refine lst_val (v := .pointer (some ⟨b, 0, none⟩)) (by kernel_rfl) ?_ ?_
  · go_simp
  simp only [Act.put, List.setIfInBounds_toArray, List.set_cons_zero, List.set_cons_succ]
  refine lst_call (by kernel_rfl) (by first | (go_simp; done) | (go_simp; first | exact rfl | exact ⟨rfl, rfl⟩ | exact ⟨rfl, rfl, rfl⟩)) (LN.out _ _ _ _ _ _ _ M2.out.me) ?_
  rintro e w' ⟨rfl, hw⟩
  have hw2 := hw.symm
  clear hw
  subst hw2
  refine ⟨_, rfl, ?_⟩
  simp only [Act.put, List.setIfInBounds_toArray, List.set_cons_zero, List.set_cons_succ]
  refine lst_val (v := .int .i64 0) (by kernel_rfl) ?_ ?_
  · go_simp
  simp only [Act.put, List.setIfInBounds_toArray, List.set_cons_zero, List.set_cons_succ]
  refine lst_val (v := .bool false) (by kernel_rfl) ?_ ?_
  · go_simp
  simp only [Act.put, List.setIfInBounds_toArray, List.set_cons_zero, List.set_cons_succ]
  refine lst_val (v := .bool false) (by kernel_rfl) ?_ ?_
  · go_simp
  simp only [Act.put, List.setIfInBounds_toArray, List.set_cons_zero, List.set_cons_succ]
  refine wpList_nil ?_
  clear k1 k2 k3
  go_upto_region 7 with (go_at_call 12; refine (LN.out _ _ _ _ _ _ _ M2.out.me).mono ?_; rintro e w' ⟨rfl, hw⟩; (have hw2 := hw.symm); clear hw; subst hw2)
  go_upto_region 11 with fail
  have RD : Hid (Calls Try.prog 25 #[.pointer (some ⟨b, 0, none⟩), .int .i64 i, .int .i64 m] v2 fun e w' => ∃ vR, e = .returned (.tuple #[vR, .int .i64 1]) ∧ RdRes v2 w' 0 (fun _ => 0) vR ∧ Below v2.heap.size v2 w') := by
    have h := read_is v2 b B x K cx _ M2.out.me i m HI.out.1 HI.out.2
    rw [HE.out] at h
    exact h
  go_upto_region 12 with (go_at_call 25; refine (RD.out).mono ?_; rintro e v4 ⟨vR, rfl, hr, hB⟩)
  obtain rfl := rdRes_none hr
  have M4 : Hid (MB w v4 b w.heap.size w.heap.size b B x K cx (fun _ => 0) d0 d1 d2 d3 d0 d1 d2 d3) := M2.out.past hB
  clear hr hB M2 RD
  have MV : Hid (Calls Try.prog 26 #[.pointer (some ⟨b, 0, none⟩), .int .i64 i, .int .i64 i, .int .i64 m] v4 fun e w' => e = .returned (.int .i64 1) ∧ Mem w' b B x K cx (fun _ => 0) ∧ Off b x v4 w') := by
    have h := move_is v4 b B x K cx _ M4.out.me i i m HI.out.1 HI.out.1 HI.out.2
    rw [mvE_same, HE.out, ite_zero] at h
    exact h
  refine wp_region_lit ?_
  refine lst_val (v := .int .i64 1) (by kernel_rfl) ?_ ?_
  · go_simp
  simp only [Act.put, List.setIfInBounds_toArray, List.set_cons_zero, List.set_cons_succ]
  refine lst_val (v := .int .i64 1) (by kernel_rfl) ?_ ?_
  · go_simp
  simp only [Act.put, List.setIfInBounds_toArray, List.set_cons_zero, List.set_cons_succ]
  refine lst_val (v := .bool false) (by kernel_rfl) ?_ ?_
  · go_simp
  simp only [Act.put, List.setIfInBounds_toArray, List.set_cons_zero, List.set_cons_succ]
  refine lst_val (v := .bool false) (by kernel_rfl) ?_ ?_
  · go_simp
  simp only [Act.put, List.setIfInBounds_toArray, List.set_cons_zero, List.set_cons_succ]
  refine lst_val (v := .pointer (some ⟨b, 0, none⟩)) (by kernel_rfl) ?_ ?_
  · go_simp
  simp only [Act.put, List.setIfInBounds_toArray, List.set_cons_zero, List.set_cons_succ]
  refine lst_val (v := .int .i64 i) (by kernel_rfl) ?_ ?_
  · go_simp
  simp only [Act.put, List.setIfInBounds_toArray, List.set_cons_zero, List.set_cons_succ]
  refine lst_val (v := .int .i64 i) (by kernel_rfl) ?_ ?_
  · go_simp
  simp only [Act.put, List.setIfInBounds_toArray, List.set_cons_zero, List.set_cons_succ]
  refine lst_val (v := .int .i64 m) (by kernel_rfl) ?_ ?_
  · go_simp
  simp only [Act.put, List.setIfInBounds_toArray, List.set_cons_zero, List.set_cons_succ]
  refine lst_call (by kernel_rfl) (by first | (go_simp; done) | (go_simp; first | exact rfl | exact ⟨rfl, rfl⟩ | exact ⟨rfl, rfl, rfl⟩)) (MV.out) ?_
  rintro e v5 ⟨rfl, hm, ho⟩
  refine ⟨_, rfl, ?_⟩
  have M5 : Hid (MB w v5 b w.heap.size w.heap.size b B x K cx (fun _ => 0) d0 d1 d2 d3 d0 d1 d2 d3) := M4.out.self hm ho
  clear hm ho MV M4
  simp only [Act.put, List.setIfInBounds_toArray, List.set_cons_zero, List.set_cons_succ]
  refine lst_val (v := .int .i64 1) (by kernel_rfl) ?_ ?_
  · go_simp
  simp only [Act.put, List.setIfInBounds_toArray, List.set_cons_zero, List.set_cons_succ]
  refine lst_val (v := .bool false) (by kernel_rfl) ?_ ?_
  · go_simp
  simp only [Act.put, List.setIfInBounds_toArray, List.set_cons_zero, List.set_cons_succ]
  refine lst_val (v := .bool false) (by kernel_rfl) ?_ ?_
  · go_simp
  simp only [Act.put, List.setIfInBounds_toArray, List.set_cons_zero, List.set_cons_succ]
  refine lst_val (v := .bool false) (by kernel_rfl) ?_ ?_
  · go_simp
  simp only [Act.put, List.setIfInBounds_toArray, List.set_cons_zero, List.set_cons_succ]
  refine lst_val (v := .int .i64 1) (by kernel_rfl) ?_ ?_
  · go_simp
  simp only [Act.put, List.setIfInBounds_toArray, List.set_cons_zero, List.set_cons_succ]
  refine lst_val (v := .bool false) (by kernel_rfl) ?_ ?_
  · go_simp
  simp only [Act.put, List.setIfInBounds_toArray, List.set_cons_zero, List.set_cons_succ]
  refine lst_val (v := .bool false) (by kernel_rfl) ?_ ?_
  · go_simp
  simp only [Act.put, List.setIfInBounds_toArray, List.set_cons_zero, List.set_cons_succ]
  refine lst_not (by kernel_rfl) ?_
  simp only [Act.put, List.setIfInBounds_toArray, List.set_cons_zero, List.set_cons_succ]
  refine lst_not (by kernel_rfl) ?_
  simp only [Act.put, List.setIfInBounds_toArray, List.set_cons_zero, List.set_cons_succ]
  refine lst_not (by kernel_rfl) ?_
  simp only [Act.put, List.setIfInBounds_toArray, List.set_cons_zero, List.set_cons_succ]
  refine lst_not (by kernel_rfl) ?_
  simp only [Act.put, List.setIfInBounds_toArray, List.set_cons_zero, List.set_cons_succ]
  refine lst_val (v := .bool false) (by kernel_rfl) ?_ ?_
  · go_simp
  simp only [Act.put, List.setIfInBounds_toArray, List.set_cons_zero, List.set_cons_succ]
  refine lst_val (v := .bool false) (by kernel_rfl) ?_ ?_
  · go_simp
  simp only [Act.put, List.setIfInBounds_toArray, List.set_cons_zero, List.set_cons_succ]
  refine lst_val (v := .bool false) (by kernel_rfl) ?_ ?_
  · go_simp
  simp only [Act.put, List.setIfInBounds_toArray, List.set_cons_zero, List.set_cons_succ]
  refine lst_val (v := .int .i64 1) (by kernel_rfl) ?_ ?_
  · go_simp
  simp only [Act.put, List.setIfInBounds_toArray, List.set_cons_zero, List.set_cons_succ]
  refine lst_val (v := .bool true) (by kernel_rfl) ?_ ?_
  · go_simp
  simp only [Act.put, List.setIfInBounds_toArray, List.set_cons_zero, List.set_cons_succ]
  refine lst_val (v := .bool true) (by kernel_rfl) ?_ ?_
  · go_simp
  simp only [Act.put, List.setIfInBounds_toArray, List.set_cons_zero, List.set_cons_succ]
  refine lst_val (v := .slice none 0 0) (by kernel_rfl) ?_ ?_
  · go_simp
  simp only [Act.put, List.setIfInBounds_toArray, List.set_cons_zero, List.set_cons_succ]
  refine lst_val (v := .int .i64 0) (by kernel_rfl) ?_ ?_
  · go_simp
  simp only [Act.put, List.setIfInBounds_toArray, List.set_cons_zero, List.set_cons_succ]
  refine lst_val (v := .bool false) (by kernel_rfl) ?_ ?_
  · go_simp
  simp only [Act.put, List.setIfInBounds_toArray, List.set_cons_zero, List.set_cons_succ]
  refine lst_val (v := .bool false) (by kernel_rfl) ?_ ?_
  · go_simp
  simp only [Act.put, List.setIfInBounds_toArray, List.set_cons_zero, List.set_cons_succ]
  refine lst_val (v := .bool false) (by kernel_rfl) ?_ ?_
  · go_simp
  simp only [Act.put, List.setIfInBounds_toArray, List.set_cons_zero, List.set_cons_succ]
  refine wpList_nil ?_
  go_upto_region 14 with fail
  refine wp_region_lit ?_
  refine lst_val (v := .int .i64 1) (by kernel_rfl) ?_ ?_
  · go_simp
  simp only [Act.put, List.setIfInBounds_toArray, List.set_cons_zero, List.set_cons_succ]
  refine lst_val (v := .bool false) (by kernel_rfl) ?_ ?_
  · go_simp
  simp only [Act.put, List.setIfInBounds_toArray, List.set_cons_zero, List.set_cons_succ]
  refine lst_val (v := .bool false) (by kernel_rfl) ?_ ?_
  · go_simp
  simp only [Act.put, List.setIfInBounds_toArray, List.set_cons_zero, List.set_cons_succ]
  refine lst_not (by kernel_rfl) ?_
  simp only [Act.put, List.setIfInBounds_toArray, List.set_cons_zero, List.set_cons_succ]
  refine lst_not (by kernel_rfl) ?_
  simp only [Act.put, List.setIfInBounds_toArray, List.set_cons_zero, List.set_cons_succ]
  refine lst_not (by kernel_rfl) ?_
  simp only [Act.put, List.setIfInBounds_toArray, List.set_cons_zero, List.set_cons_succ]
  refine lst_not (by kernel_rfl) ?_
  simp only [Act.put, List.setIfInBounds_toArray, List.set_cons_zero, List.set_cons_succ]
  refine lst_not (by kernel_rfl) ?_
  simp only [Act.put, List.setIfInBounds_toArray, List.set_cons_zero, List.set_cons_succ]
  refine lst_val (v := .bool false) (by kernel_rfl) ?_ ?_
  · go_simp
  simp only [Act.put, List.setIfInBounds_toArray, List.set_cons_zero, List.set_cons_succ]
  refine wpList_nil ?_
  go_upto_region 16 with fail
  clear HE
  obtain ⟨F, hF⟩ : ∃ F, lk K i 32 = F := ⟨_, rfl⟩
  have HF : Hid (lk K i 32 = F) := hF
  clear hF
  go_upto_region 17 with (go_at_call 27; refine (load_is _ b B x K cx _ M5.out.me (fun _ => (by decide : (0 : Nat) < 256)) i HI.out.1 wz (ldOk_zero K i)).mono ?_; rintro e v6 ⟨rfl, hB⟩; rw [HF.out]; unfold wz W4.v)
  have Z6 : Hid (Box (v6.alloc (.cells #[.int .u64 0, .int .u64 0, .int .u64 0, .int .u64 0] 30)) v6.heap.size 0 0 0 0 ∧ ¬ OwnB b x v6.heap.size) := ⟨Box.new v6 _ 0 0 0 0, (M5.out.past hB).fresh⟩
  have M6 : Hid (MB w (v6.alloc (.cells #[.int .u64 0, .int .u64 0, .int .u64 0, .int .u64 0] 30)) b w.heap.size w.heap.size b B x K cx (fun _ => 0) d0 d1 d2 d3 d0 d1 d2 d3) := (M5.out.past hB).past ((Below.refl _ _).alloc (Nat.le_refl _) _)
  clear hB M5
  generalize v6.alloc (.cells #[.int .u64 0, .int .u64 0, .int .u64 0, .int .u64 0] 30) = v7 at Z6 M6 ⊢
  generalize v6.heap.size = bz at Z6 ⊢
  obtain ⟨p0, p1, p2, p3, _⟩ := Box.facts M6.out.xa
  have ST : Hid (Calls Try.prog 22 #[.pointer (some ⟨b, 0, none⟩), .int .i64 i, .agg #[.int .u64 d0, .int .u64 d1, .int .u64 d2, .int .u64 d3]] v7 fun e w' => e = .returned (.int .i64 F) ∧ Mem w' b B x K cx (if F = 0 then ins (fun _ => 0) i.toNat (bN (⟨d0, d1, d2, d3⟩ : W4)) 32 else fun _ => 0) ∧ Off b x v7 w') := by
    have h := store_is v7 b B x K cx _ M6.out.me i HI.out.1 (⟨d0, d1, d2, d3⟩ : W4) DX.out
    rw [HF.out] at h
    exact h
  go_upto_region 18 with (go_at_call 22; refine (ST.out).mono ?_; rintro e v8 ⟨rfl, hm, ho⟩)
  have M8 : Hid (MB w v8 b w.heap.size w.heap.size b B x K cx (if F = 0 then ins (fun _ => 0) i.toNat (bN (⟨d0, d1, d2, d3⟩ : W4)) 32 else fun _ => 0) d0 d1 d2 d3 d0 d1 d2 d3) := M6.out.self hm ho
  have Z8 : Hid (Box v8 bz 0 0 0 0 ∧ ¬ OwnB b x bz) := ⟨Z6.out.1.but ho.but Z6.out.2, Z6.out.2⟩
  clear hm ho M6 Z6 ST p0 p1 p2 p3
  have hz0 : ∀ W, Sem.run Try.prog (Op.equalIn 10000 30 (.agg #[.int .u64 0, .int .u64 0, .int .u64 0, .int .u64 0]) (.agg #[.int .u64 0, .int .u64 0, .int .u64 0, .int .u64 0])) W = .ok true W := fun W => by rw [eqw_run]; rfl
  have hF0 : F ≠ 0 := by rw [← HF.out]; exact FX.out
  have g1 : (F == 0) = false := by simpa using hF0
  have g2 : ¬ (0 ≤ i ∧ i ≤ (K : Int) - 32) := fun h => hF0 (by rw [← HF.out]; exact lk_ok (by omega) (by omega))
  rw [if_neg hF0] at M8
  have g3 : ¬ (0 : Int) ≤ i := Int.not_le.2 I0i.out
  clear g2
  refine wp_region_lit ?_
  refine lst_val (v := .int .i64 F) (by kernel_rfl) ?_ ?_
  · go_simp
  simp only [Act.put, List.setIfInBounds_toArray, List.set_cons_zero, List.set_cons_succ]
  refine lst_val (v := .int .i64 F) (by kernel_rfl) ?_ ?_
  · go_simp
  simp only [Act.put, List.setIfInBounds_toArray, List.set_cons_zero, List.set_cons_succ]
  refine lst_val (v := .bool false) (by kernel_rfl) ?_ ?_
  · go_simp
  simp only [Act.put, List.setIfInBounds_toArray, List.set_cons_zero, List.set_cons_succ]
  refine lst_val (v := .bool false) (by kernel_rfl) ?_ ?_
  · go_simp
  simp only [Act.put, List.setIfInBounds_toArray, List.set_cons_zero, List.set_cons_succ]
  refine lst_val (v := .int .i64 F) (by kernel_rfl) ?_ ?_
  · go_simp
  simp only [Act.put, List.setIfInBounds_toArray, List.set_cons_zero, List.set_cons_succ]
  refine lst_val (v := .bool true) (by kernel_rfl) ?_ ?_
  · go_simp
  simp only [Act.put, List.setIfInBounds_toArray, List.set_cons_zero, List.set_cons_succ]
  refine lst_val (v := .bool true) (by kernel_rfl) ?_ ?_
  · go_simp
  simp only [Act.put, List.setIfInBounds_toArray, List.set_cons_zero, List.set_cons_succ]
  refine lst_val (v := .agg #[.int .u64 0, .int .u64 0, .int .u64 0, .int .u64 0]) (by kernel_rfl) ?_ ?_
  · obtain ⟨c0, c1, c2, c3, _⟩ := Box.facts Z8.out.1
    go_simp
  simp only [Act.put, List.setIfInBounds_toArray, List.set_cons_zero, List.set_cons_succ]
  refine lst_val (v := .agg #[.int .u64 0, .int .u64 0, .int .u64 0, .int .u64 0]) (by kernel_rfl) ?_ ?_
  · go_simp
  simp only [Act.put, List.setIfInBounds_toArray, List.set_cons_zero, List.set_cons_succ]
  refine lst_val (v := .bool false) (by kernel_rfl) ?_ ?_
  · go_simp
  simp only [Act.put, List.setIfInBounds_toArray, List.set_cons_zero, List.set_cons_succ]
  refine lst_val (v := .bool false) (by kernel_rfl) ?_ ?_
  · go_simp
  simp only [Act.put, List.setIfInBounds_toArray, List.set_cons_zero, List.set_cons_succ]
  refine lst_val (v := .bool false) (by kernel_rfl) ?_ ?_
  · go_simp
  simp only [Act.put, List.setIfInBounds_toArray, List.set_cons_zero, List.set_cons_succ]
  refine lst_val (v := .bool false) (by kernel_rfl) ?_ ?_
  · go_simp
  simp only [Act.put, List.setIfInBounds_toArray, List.set_cons_zero, List.set_cons_succ]
  refine lst_val (v := .int .i64 F) (by kernel_rfl) ?_ ?_
  · go_simp
  simp only [Act.put, List.setIfInBounds_toArray, List.set_cons_zero, List.set_cons_succ]
  refine lst_val (v := .bool false) (by kernel_rfl) ?_ ?_
  · go_simp
  simp only [Act.put, List.setIfInBounds_toArray, List.set_cons_zero, List.set_cons_succ]
  refine lst_val (v := .int .i64 i) (by kernel_rfl) ?_ ?_
  · go_simp
  simp only [Act.put, List.setIfInBounds_toArray, List.set_cons_zero, List.set_cons_succ]
  refine lst_val (v := .bool false) (by kernel_rfl) ?_ ?_
  · go_simp
  simp only [Act.put, List.setIfInBounds_toArray, List.set_cons_zero, List.set_cons_succ]
  refine lst_val (v := .bool false) (by kernel_rfl) ?_ ?_
  · go_simp
  simp only [Act.put, List.setIfInBounds_toArray, List.set_cons_zero, List.set_cons_succ]
  refine lst_not (by kernel_rfl) ?_
  simp only [Act.put, List.setIfInBounds_toArray, List.set_cons_zero, List.set_cons_succ]
  refine lst_not (by kernel_rfl) ?_
  simp only [Act.put, List.setIfInBounds_toArray, List.set_cons_zero, List.set_cons_succ]
  refine lst_not (by kernel_rfl) ?_
  simp only [Act.put, List.setIfInBounds_toArray, List.set_cons_zero, List.set_cons_succ]
  refine lst_not (by kernel_rfl) ?_
  simp only [Act.put, List.setIfInBounds_toArray, List.set_cons_zero, List.set_cons_succ]
  refine lst_val (v := .bool false) (by kernel_rfl) ?_ ?_
  · go_simp
  simp only [Act.put, List.setIfInBounds_toArray, List.set_cons_zero, List.set_cons_succ]
  refine lst_val (v := .bool false) (by kernel_rfl) ?_ ?_
  · go_simp
  simp only [Act.put, List.setIfInBounds_toArray, List.set_cons_zero, List.set_cons_succ]
  refine lst_val (v := .bool false) (by kernel_rfl) ?_ ?_
  · go_simp
  simp only [Act.put, List.setIfInBounds_toArray, List.set_cons_zero, List.set_cons_succ]
  refine wpList_nil ?_
  clear hz0
  go_wp2_with (go_at_call 14; refine (wrote_is _).mono ?_; rintro e v9 ⟨rfl, hB9⟩)
  go_ret
  exact ⟨rfl, M8.out.bel.trans (hB9.mono M8.out.bel.size)⟩
set_option maxHeartbeats 8000000 in
set_option maxRecDepth 100000 in
theorem pcA3 (w : World) (z0 i m : Int) (d0 d1 d2 d3 : Int) (hd : IsW (V d0 d1 d2 d3) d0 d1 d2 d3) (s K : Nat) (hs : bits .and .i64 z0 8191 = (s : Int)) (hs6 : s ≤ 8191) (eK : upN s = K) (hi : -9223372036854775808 ≤ i ∧ i ≤ 9223372036854775807) (hm : -9223372036854775808 ≤ (m : Int) ∧ (m : Int) ≤ 9223372036854775807) (FX : Hid (lk K i 32 ≠ 0)) (I0i : Hid (i < 0)) (c1 : (m == 0) = false) (c2 : ¬ (K : Int) < m) (q : Int) (hq : IntKind.i64.wrap ((K : Int) - m) = q) (c3 : ¬ q < i) (HE : Hid (lk K i m = 1)) : Calls Try.prog 6 #[.int .i64 z0, .int .i64 i, .int .i64 m, .agg #[.int .u64 d0, .int .u64 d1, .int .u64 d2, .int .u64 d3]] w fun e w' => e = .returned (.bool true) ∧ Below w.heap.size w w' := by
  have kf : K % 32 = 0 ∧ s ≤ K ∧ K ≤ s + 31 := by rw [← eK]; unfold upN; omega
  have k1 : s ≤ K := kf.2.1
  have k2 : (K : Int) ≤ (s : Int) + 31 := by omega
  have k3 : Int.tmod (K : Int) 32 = 0 := by rw [Int.tmod_eq_emod_of_nonneg (by omega)]; omega
  have KB : (K : Int) ≤ 8222 := by omega
  have GR : Hid (∀ W B, Mem W B W.heap.size none 0 0 (fun _ => 0) → Calls Try.prog 20 #[.pointer (some ⟨B, 0, none⟩), .int .i64 (s : Int)] W fun e w' => e = .returned (.int .i64 0) ∧ GrRes W w' B W.heap.size none K (fun _ => 0)) := fun W B hM => by
    have h := grow_is W B _ none 0 0 _ hM (s : Int)
    rw [grE_nat s (by omega), grN_zero s (by omega), eK, show grU (fun _ => 0) 0 = fun _ => 0 by funext j; unfold grU; split <;> rfl] at h
    exact h
  have LN : Hid (∀ W b B x n cx u, Mem W b B x n cx u → Calls Try.prog 12 #[.pointer (some ⟨b, 0, none⟩)] W fun e w' => e = .returned (.int .i64 (n : Int)) ∧ w' = W) := fun W b B x n cx u hM => len_is W b B x n cx u hM
  have I0 : Hid (Below w.heap.size w (w.alloc (.cells #[.int .u64 d0, .int .u64 d1, .int .u64 d2, .int .u64 d3] 30)) ∧ Box (w.alloc (.cells #[.int .u64 d0, .int .u64 d1, .int .u64 d2, .int .u64 d3] 30)) w.heap.size d0 d1 d2 d3) := ⟨(Below.refl _ _).alloc (Nat.le_refl _) _, Box.new w 30 d0 d1 d2 d3⟩
  have DX : Hid (IsW (V d0 d1 d2 d3) d0 d1 d2 d3) := hd
  have HI : Hid (i ≤ 9223372036854775807 ∧ (m : Int) ≤ 9223372036854775807) := ⟨hi.2, hm.2⟩
  have i0 : i < 0 := I0i.out
  have c1b : ((m : Int) != 0) = true := by simpa using c1
  clear hd eK hs6 kf hi hm
  go_enter Try.func6, Try.ntmps6
  go_upto_region 1 with fail
  obtain ⟨W0, eW⟩ : ∃ W0, W0 = w.alloc (.cells #[.int .u64 d0, .int .u64 d1, .int .u64 d2, .int .u64 d3] 30) := ⟨_, rfl⟩
  rw [← eW] at I0 ⊢
  clear eW
  go_upto_region 3 with (go_at_call 19; refine (newMemory_is _).mono ?_; rintro e v1 ⟨rfl, hm1, hB1⟩)
  obtain ⟨b, eb⟩ : ∃ b, W0.heap.size = b := ⟨_, rfl⟩
  rw [eb] at hm1 ⊢
  have M1 : Hid (Below w.heap.size w v1 ∧ Box v1 w.heap.size d0 d1 d2 d3 ∧ Mem v1 b v1.heap.size none 0 0 (fun _ => 0) ∧ w.heap.size < b) := ⟨I0.out.1.trans (hB1.mono I0.out.1.size), I0.out.2.below hB1 I0.out.2.lt, hm1, by rw [← eb]; exact I0.out.2.lt⟩
  clear hm1 hB1 I0 eb
  refine wp_region_lit ?_
  refine lst_val (v := .pointer (some ⟨b, 0, none⟩)) (by kernel_rfl) ?_ ?_
  · go_simp
  simp only [Act.put, List.setIfInBounds_toArray, List.set_cons_zero, List.set_cons_succ]
  refine lst_val (v := .bool false) (by kernel_rfl) ?_ ?_
  · go_simp
  simp only [Act.put, List.setIfInBounds_toArray, List.set_cons_zero, List.set_cons_succ]
  refine lst_val (v := .bool false) (by kernel_rfl) ?_ ?_
  · go_simp
  simp only [Act.put, List.setIfInBounds_toArray, List.set_cons_zero, List.set_cons_succ]
  refine lst_val (v := .pointer (some ⟨b, 0, none⟩)) (by kernel_rfl) ?_ ?_
  · go_simp
  simp only [Act.put, List.setIfInBounds_toArray, List.set_cons_zero, List.set_cons_succ]
  refine lst_val (v := .int .i64 (s : Int)) (by kernel_rfl) ?_ ?_
  · go_simp
  simp only [Act.put, List.setIfInBounds_toArray, List.set_cons_zero, List.set_cons_succ]
  refine lst_call (by kernel_rfl) (by first | (go_simp; done) | (go_simp; first | exact rfl | exact ⟨rfl, rfl⟩ | exact ⟨rfl, rfl, rfl⟩)) (GR.out _ _ M1.out.2.2.1) ?_
  rintro e v2 ⟨rfl, x, cx, hm, ho, hr⟩
  refine ⟨_, rfl, ?_⟩
  obtain ⟨B, eB⟩ : ∃ B, v1.heap.size = B := ⟨_, rfl⟩
  have M2 : Hid (MB w v2 b w.heap.size w.heap.size b B x K cx (fun _ => 0) d0 d1 d2 d3 d0 d1 d2 d3) := by
    have h0 : MB w v1 b w.heap.size w.heap.size b B none 0 0 (fun _ => 0) d0 d1 d2 d3 d0 d1 d2 d3 := ⟨M1.out.1, M1.out.2.1, M1.out.2.1, by rw [← eB]; exact M1.out.2.2.1, by have := M1.out.2.2.2; omega, by have := M1.out.2.2.2; omega, fun q hq => (by rcases hq with rfl | ⟨a, e, _⟩; exact Nat.le_refl _; cases e), by have := M1.out.2.2.2; omega⟩
    rw [eB] at hm
    exact h0.own hm ho hr
  clear hm ho hr eB M1 GR
  simp only [Act.put, List.setIfInBounds_toArray, List.set_cons_zero, List.set_cons_succ]
  refine lst_val (v := .bool false) (by kernel_rfl) ?_ ?_
  · go_simp
  simp only [Act.put, List.setIfInBounds_toArray, List.set_cons_zero, List.set_cons_succ]
  refine lst_val (v := .bool false) (by kernel_rfl) ?_ ?_
  · go_simp
  simp only [Act.put, List.setIfInBounds_toArray, List.set_cons_zero, List.set_cons_succ]
  refine lst_val (v := .bool false) (by kernel_rfl) ?_ ?_
  · go_simp
  simp only [Act.put, List.setIfInBounds_toArray, List.set_cons_zero, List.set_cons_succ]
  refine lst_val (v := .pointer (some ⟨b, 0, none⟩)) (by kernel_rfl) ?_ ?_
  · go_simp
  simp only [Act.put, List.setIfInBounds_toArray, List.set_cons_zero, List.set_cons_succ]
  refine lst_call (by kernel_rfl) (by first | (go_simp; done) | (go_simp; first | exact rfl | exact ⟨rfl, rfl⟩ | exact ⟨rfl, rfl, rfl⟩)) (LN.out _ _ _ _ _ _ _ M2.out.me) ?_
  rintro e w' ⟨rfl, hw⟩
  have hw2 := hw.symm
  clear hw
  subst hw2
  refine ⟨_, rfl, ?_⟩
  simp only [Act.put, List.setIfInBounds_toArray, List.set_cons_zero, List.set_cons_succ]
  refine lst_val (v := .int .i64 (s : Int)) (by kernel_rfl) ?_ ?_
  · go_simp
  simp only [Act.put, List.setIfInBounds_toArray, List.set_cons_zero, List.set_cons_succ]
  refine lst_val (v := .bool false) (by kernel_rfl) ?_ ?_
  · go_simp
  simp only [Act.put, List.setIfInBounds_toArray, List.set_cons_zero, List.set_cons_succ]
  refine lst_val (v := .bool false) (by kernel_rfl) ?_ ?_
  · go_simp
  simp only [Act.put, List.setIfInBounds_toArray, List.set_cons_zero, List.set_cons_succ]
  refine lst_val (v := .bool false) (by kernel_rfl) ?_ ?_
  · go_simp
  simp only [Act.put, List.setIfInBounds_toArray, List.set_cons_zero, List.set_cons_succ]
  refine lst_val (v := .pointer (some ⟨b, 0, none⟩)) (by kernel_rfl) ?_ ?_
  · go_simp
  simp only [Act.put, List.setIfInBounds_toArray, List.set_cons_zero, List.set_cons_succ]
  refine lst_call (by kernel_rfl) (by first | (go_simp; done) | (go_simp; first | exact rfl | exact ⟨rfl, rfl⟩ | exact ⟨rfl, rfl, rfl⟩)) (LN.out _ _ _ _ _ _ _ M2.out.me) ?_
  rintro e w' ⟨rfl, hw⟩
  have hw2 := hw.symm
  clear hw
  subst hw2
  refine ⟨_, rfl, ?_⟩
  simp only [Act.put, List.setIfInBounds_toArray, List.set_cons_zero, List.set_cons_succ]
  refine lst_val (v := .int .i64 (s : Int)) (by kernel_rfl) ?_ ?_
  · go_simp
  simp only [Act.put, List.setIfInBounds_toArray, List.set_cons_zero, List.set_cons_succ]
  refine lst_val (v := .int .i64 ((s : Int) + 31)) (by kernel_rfl) ?_ ?_
  · (go_simp; try (first | (rw [IntKind.wrap_u64]; omega) | (rw [IntKind.wrap_i64]; omega)))
  simp only [Act.put, List.setIfInBounds_toArray, List.set_cons_zero, List.set_cons_succ]
  refine lst_val (v := .bool false) (by kernel_rfl) ?_ ?_
  · go_simp
  simp only [Act.put, List.setIfInBounds_toArray, List.set_cons_zero, List.set_cons_succ]
  refine lst_val (v := .bool false) (by kernel_rfl) ?_ ?_
  · go_simp
  simp only [Act.put, List.setIfInBounds_toArray, List.set_cons_zero, List.set_cons_succ]
  refine lst_val (v := .bool false) (by kernel_rfl) ?_ ?_
  · go_simp
  simp only [Act.put, List.setIfInBounds_toArray, List.set_cons_zero, List.set_cons_succ]
  refine lst_val (v := .pointer (some ⟨b, 0, none⟩)) (by kernel_rfl) ?_ ?_
  · go_simp
  simp only [Act.put, List.setIfInBounds_toArray, List.set_cons_zero, List.set_cons_succ]
  refine lst_call (by kernel_rfl) (by first | (go_simp; done) | (go_simp; first | exact rfl | exact ⟨rfl, rfl⟩ | exact ⟨rfl, rfl, rfl⟩)) (LN.out _ _ _ _ _ _ _ M2.out.me) ?_
  rintro e w' ⟨rfl, hw⟩
  have hw2 := hw.symm
  clear hw
  subst hw2
  refine ⟨_, rfl, ?_⟩
  simp only [Act.put, List.setIfInBounds_toArray, List.set_cons_zero, List.set_cons_succ]
  refine lst_val (v := .int .i64 0) (by kernel_rfl) ?_ ?_
  · go_simp
  simp only [Act.put, List.setIfInBounds_toArray, List.set_cons_zero, List.set_cons_succ]
  refine lst_val (v := .bool false) (by kernel_rfl) ?_ ?_
  · go_simp
  simp only [Act.put, List.setIfInBounds_toArray, List.set_cons_zero, List.set_cons_succ]
  refine lst_val (v := .bool false) (by kernel_rfl) ?_ ?_
  · go_simp
  simp only [Act.put, List.setIfInBounds_toArray, List.set_cons_zero, List.set_cons_succ]
  refine wpList_nil ?_
  clear k1 k2 k3
  go_upto_region 7 with (go_at_call 12; refine (LN.out _ _ _ _ _ _ _ M2.out.me).mono ?_; rintro e w' ⟨rfl, hw⟩; (have hw2 := hw.symm); clear hw; subst hw2)
  go_upto_region 11 with fail
  have RD : Hid (Calls Try.prog 25 #[.pointer (some ⟨b, 0, none⟩), .int .i64 i, .int .i64 m] v2 fun e w' => ∃ vR, e = .returned (.tuple #[vR, .int .i64 1]) ∧ RdRes v2 w' 0 (fun _ => 0) vR ∧ Below v2.heap.size v2 w') := by
    have h := read_is v2 b B x K cx _ M2.out.me i m HI.out.1 HI.out.2
    rw [HE.out] at h
    exact h
  go_upto_region 12 with (go_at_call 25; refine (RD.out).mono ?_; rintro e v4 ⟨vR, rfl, hr, hB⟩)
  obtain rfl := rdRes_none hr
  have M4 : Hid (MB w v4 b w.heap.size w.heap.size b B x K cx (fun _ => 0) d0 d1 d2 d3 d0 d1 d2 d3) := M2.out.past hB
  clear hr hB M2 RD
  have MV : Hid (Calls Try.prog 26 #[.pointer (some ⟨b, 0, none⟩), .int .i64 i, .int .i64 i, .int .i64 m] v4 fun e w' => e = .returned (.int .i64 1) ∧ Mem w' b B x K cx (fun _ => 0) ∧ Off b x v4 w') := by
    have h := move_is v4 b B x K cx _ M4.out.me i i m HI.out.1 HI.out.1 HI.out.2
    rw [mvE_same, HE.out, ite_zero] at h
    exact h
  refine wp_region_lit ?_
  refine lst_val (v := .int .i64 1) (by kernel_rfl) ?_ ?_
  · go_simp
  simp only [Act.put, List.setIfInBounds_toArray, List.set_cons_zero, List.set_cons_succ]
  refine lst_val (v := .int .i64 1) (by kernel_rfl) ?_ ?_
  · go_simp
  simp only [Act.put, List.setIfInBounds_toArray, List.set_cons_zero, List.set_cons_succ]
  refine lst_val (v := .bool false) (by kernel_rfl) ?_ ?_
  · go_simp
  simp only [Act.put, List.setIfInBounds_toArray, List.set_cons_zero, List.set_cons_succ]
  refine lst_val (v := .bool false) (by kernel_rfl) ?_ ?_
  · go_simp
  simp only [Act.put, List.setIfInBounds_toArray, List.set_cons_zero, List.set_cons_succ]
  refine lst_val (v := .pointer (some ⟨b, 0, none⟩)) (by kernel_rfl) ?_ ?_
  · go_simp
  simp only [Act.put, List.setIfInBounds_toArray, List.set_cons_zero, List.set_cons_succ]
  refine lst_val (v := .int .i64 i) (by kernel_rfl) ?_ ?_
  · go_simp
  simp only [Act.put, List.setIfInBounds_toArray, List.set_cons_zero, List.set_cons_succ]
  refine lst_val (v := .int .i64 i) (by kernel_rfl) ?_ ?_
  · go_simp
  simp only [Act.put, List.setIfInBounds_toArray, List.set_cons_zero, List.set_cons_succ]
  refine lst_val (v := .int .i64 m) (by kernel_rfl) ?_ ?_
  · go_simp
  simp only [Act.put, List.setIfInBounds_toArray, List.set_cons_zero, List.set_cons_succ]
  refine lst_call (by kernel_rfl) (by first | (go_simp; done) | (go_simp; first | exact rfl | exact ⟨rfl, rfl⟩ | exact ⟨rfl, rfl, rfl⟩)) (MV.out) ?_
  rintro e v5 ⟨rfl, hm, ho⟩
  refine ⟨_, rfl, ?_⟩
  have M5 : Hid (MB w v5 b w.heap.size w.heap.size b B x K cx (fun _ => 0) d0 d1 d2 d3 d0 d1 d2 d3) := M4.out.self hm ho
  clear hm ho MV M4
  simp only [Act.put, List.setIfInBounds_toArray, List.set_cons_zero, List.set_cons_succ]
  refine lst_val (v := .int .i64 1) (by kernel_rfl) ?_ ?_
  · go_simp
  simp only [Act.put, List.setIfInBounds_toArray, List.set_cons_zero, List.set_cons_succ]
  refine lst_val (v := .bool false) (by kernel_rfl) ?_ ?_
  · go_simp
  simp only [Act.put, List.setIfInBounds_toArray, List.set_cons_zero, List.set_cons_succ]
  refine lst_val (v := .bool false) (by kernel_rfl) ?_ ?_
  · go_simp
  simp only [Act.put, List.setIfInBounds_toArray, List.set_cons_zero, List.set_cons_succ]
  refine lst_val (v := .bool false) (by kernel_rfl) ?_ ?_
  · go_simp
  simp only [Act.put, List.setIfInBounds_toArray, List.set_cons_zero, List.set_cons_succ]
  refine lst_val (v := .int .i64 1) (by kernel_rfl) ?_ ?_
  · go_simp
  simp only [Act.put, List.setIfInBounds_toArray, List.set_cons_zero, List.set_cons_succ]
  refine lst_val (v := .bool false) (by kernel_rfl) ?_ ?_
  · go_simp
  simp only [Act.put, List.setIfInBounds_toArray, List.set_cons_zero, List.set_cons_succ]
  refine lst_val (v := .bool false) (by kernel_rfl) ?_ ?_
  · go_simp
  simp only [Act.put, List.setIfInBounds_toArray, List.set_cons_zero, List.set_cons_succ]
  refine lst_not (by kernel_rfl) ?_
  simp only [Act.put, List.setIfInBounds_toArray, List.set_cons_zero, List.set_cons_succ]
  refine lst_not (by kernel_rfl) ?_
  simp only [Act.put, List.setIfInBounds_toArray, List.set_cons_zero, List.set_cons_succ]
  refine lst_not (by kernel_rfl) ?_
  simp only [Act.put, List.setIfInBounds_toArray, List.set_cons_zero, List.set_cons_succ]
  refine lst_not (by kernel_rfl) ?_
  simp only [Act.put, List.setIfInBounds_toArray, List.set_cons_zero, List.set_cons_succ]
  refine lst_val (v := .bool false) (by kernel_rfl) ?_ ?_
  · go_simp
  simp only [Act.put, List.setIfInBounds_toArray, List.set_cons_zero, List.set_cons_succ]
  refine lst_val (v := .bool false) (by kernel_rfl) ?_ ?_
  · go_simp
  simp only [Act.put, List.setIfInBounds_toArray, List.set_cons_zero, List.set_cons_succ]
  refine lst_val (v := .bool false) (by kernel_rfl) ?_ ?_
  · go_simp
  simp only [Act.put, List.setIfInBounds_toArray, List.set_cons_zero, List.set_cons_succ]
  refine lst_val (v := .int .i64 1) (by kernel_rfl) ?_ ?_
  · go_simp
  simp only [Act.put, List.setIfInBounds_toArray, List.set_cons_zero, List.set_cons_succ]
  refine lst_val (v := .bool true) (by kernel_rfl) ?_ ?_
  · go_simp
  simp only [Act.put, List.setIfInBounds_toArray, List.set_cons_zero, List.set_cons_succ]
  refine lst_val (v := .bool true) (by kernel_rfl) ?_ ?_
  · go_simp
  simp only [Act.put, List.setIfInBounds_toArray, List.set_cons_zero, List.set_cons_succ]
  refine lst_val (v := .slice none 0 0) (by kernel_rfl) ?_ ?_
  · go_simp
  simp only [Act.put, List.setIfInBounds_toArray, List.set_cons_zero, List.set_cons_succ]
  refine lst_val (v := .int .i64 0) (by kernel_rfl) ?_ ?_
  · go_simp
  simp only [Act.put, List.setIfInBounds_toArray, List.set_cons_zero, List.set_cons_succ]
  refine lst_val (v := .bool false) (by kernel_rfl) ?_ ?_
  · go_simp
  simp only [Act.put, List.setIfInBounds_toArray, List.set_cons_zero, List.set_cons_succ]
  refine lst_val (v := .bool false) (by kernel_rfl) ?_ ?_
  · go_simp
  simp only [Act.put, List.setIfInBounds_toArray, List.set_cons_zero, List.set_cons_succ]
  refine lst_val (v := .bool false) (by kernel_rfl) ?_ ?_
  · go_simp
  simp only [Act.put, List.setIfInBounds_toArray, List.set_cons_zero, List.set_cons_succ]
  refine wpList_nil ?_
  go_upto_region 14 with fail
  refine wp_region_lit ?_
  refine lst_val (v := .int .i64 1) (by kernel_rfl) ?_ ?_
  · go_simp
  simp only [Act.put, List.setIfInBounds_toArray, List.set_cons_zero, List.set_cons_succ]
  refine lst_val (v := .bool false) (by kernel_rfl) ?_ ?_
  · go_simp
  simp only [Act.put, List.setIfInBounds_toArray, List.set_cons_zero, List.set_cons_succ]
  refine lst_val (v := .bool false) (by kernel_rfl) ?_ ?_
  · go_simp
  simp only [Act.put, List.setIfInBounds_toArray, List.set_cons_zero, List.set_cons_succ]
  refine lst_not (by kernel_rfl) ?_
  simp only [Act.put, List.setIfInBounds_toArray, List.set_cons_zero, List.set_cons_succ]
  refine lst_not (by kernel_rfl) ?_
  simp only [Act.put, List.setIfInBounds_toArray, List.set_cons_zero, List.set_cons_succ]
  refine lst_not (by kernel_rfl) ?_
  simp only [Act.put, List.setIfInBounds_toArray, List.set_cons_zero, List.set_cons_succ]
  refine lst_not (by kernel_rfl) ?_
  simp only [Act.put, List.setIfInBounds_toArray, List.set_cons_zero, List.set_cons_succ]
  refine lst_not (by kernel_rfl) ?_
  simp only [Act.put, List.setIfInBounds_toArray, List.set_cons_zero, List.set_cons_succ]
  refine lst_val (v := .bool false) (by kernel_rfl) ?_ ?_
  · go_simp
  simp only [Act.put, List.setIfInBounds_toArray, List.set_cons_zero, List.set_cons_succ]
  refine wpList_nil ?_
  go_upto_region 16 with fail
  clear HE
  obtain ⟨F, hF⟩ : ∃ F, lk K i 32 = F := ⟨_, rfl⟩
  have HF : Hid (lk K i 32 = F) := hF
  clear hF
  go_upto_region 17 with (go_at_call 27; refine (load_is _ b B x K cx _ M5.out.me (fun _ => (by decide : (0 : Nat) < 256)) i HI.out.1 wz (ldOk_zero K i)).mono ?_; rintro e v6 ⟨rfl, hB⟩; rw [HF.out]; unfold wz W4.v)
  have Z6 : Hid (Box (v6.alloc (.cells #[.int .u64 0, .int .u64 0, .int .u64 0, .int .u64 0] 30)) v6.heap.size 0 0 0 0 ∧ ¬ OwnB b x v6.heap.size) := ⟨Box.new v6 _ 0 0 0 0, (M5.out.past hB).fresh⟩
  have M6 : Hid (MB w (v6.alloc (.cells #[.int .u64 0, .int .u64 0, .int .u64 0, .int .u64 0] 30)) b w.heap.size w.heap.size b B x K cx (fun _ => 0) d0 d1 d2 d3 d0 d1 d2 d3) := (M5.out.past hB).past ((Below.refl _ _).alloc (Nat.le_refl _) _)
  clear hB M5
  generalize v6.alloc (.cells #[.int .u64 0, .int .u64 0, .int .u64 0, .int .u64 0] 30) = v7 at Z6 M6 ⊢
  generalize v6.heap.size = bz at Z6 ⊢
  obtain ⟨p0, p1, p2, p3, _⟩ := Box.facts M6.out.xa
  have ST : Hid (Calls Try.prog 22 #[.pointer (some ⟨b, 0, none⟩), .int .i64 i, .agg #[.int .u64 d0, .int .u64 d1, .int .u64 d2, .int .u64 d3]] v7 fun e w' => e = .returned (.int .i64 F) ∧ Mem w' b B x K cx (if F = 0 then ins (fun _ => 0) i.toNat (bN (⟨d0, d1, d2, d3⟩ : W4)) 32 else fun _ => 0) ∧ Off b x v7 w') := by
    have h := store_is v7 b B x K cx _ M6.out.me i HI.out.1 (⟨d0, d1, d2, d3⟩ : W4) DX.out
    rw [HF.out] at h
    exact h
  go_upto_region 18 with (go_at_call 22; refine (ST.out).mono ?_; rintro e v8 ⟨rfl, hm, ho⟩)
  have M8 : Hid (MB w v8 b w.heap.size w.heap.size b B x K cx (if F = 0 then ins (fun _ => 0) i.toNat (bN (⟨d0, d1, d2, d3⟩ : W4)) 32 else fun _ => 0) d0 d1 d2 d3 d0 d1 d2 d3) := M6.out.self hm ho
  have Z8 : Hid (Box v8 bz 0 0 0 0 ∧ ¬ OwnB b x bz) := ⟨Z6.out.1.but ho.but Z6.out.2, Z6.out.2⟩
  clear hm ho M6 Z6 ST p0 p1 p2 p3
  have hz0 : ∀ W, Sem.run Try.prog (Op.equalIn 10000 30 (.agg #[.int .u64 0, .int .u64 0, .int .u64 0, .int .u64 0]) (.agg #[.int .u64 0, .int .u64 0, .int .u64 0, .int .u64 0])) W = .ok true W := fun W => by rw [eqw_run]; rfl
  have hF0 : F ≠ 0 := by rw [← HF.out]; exact FX.out
  have g1 : (F == 0) = false := by simpa using hF0
  have g2 : ¬ (0 ≤ i ∧ i ≤ (K : Int) - 32) := fun h => hF0 (by rw [← HF.out]; exact lk_ok (by omega) (by omega))
  rw [if_neg hF0] at M8
  have g3 : ¬ (0 : Int) ≤ i := Int.not_le.2 I0i.out
  clear g2
  refine wp_region_lit ?_
  refine lst_val (v := .int .i64 F) (by kernel_rfl) ?_ ?_
  · go_simp
  simp only [Act.put, List.setIfInBounds_toArray, List.set_cons_zero, List.set_cons_succ]
  refine lst_val (v := .int .i64 F) (by kernel_rfl) ?_ ?_
  · go_simp
  simp only [Act.put, List.setIfInBounds_toArray, List.set_cons_zero, List.set_cons_succ]
  refine lst_val (v := .bool false) (by kernel_rfl) ?_ ?_
  · go_simp
  simp only [Act.put, List.setIfInBounds_toArray, List.set_cons_zero, List.set_cons_succ]
  refine lst_val (v := .bool false) (by kernel_rfl) ?_ ?_
  · go_simp
  simp only [Act.put, List.setIfInBounds_toArray, List.set_cons_zero, List.set_cons_succ]
  refine lst_val (v := .int .i64 F) (by kernel_rfl) ?_ ?_
  · go_simp
  simp only [Act.put, List.setIfInBounds_toArray, List.set_cons_zero, List.set_cons_succ]
  refine lst_val (v := .bool true) (by kernel_rfl) ?_ ?_
  · go_simp
  simp only [Act.put, List.setIfInBounds_toArray, List.set_cons_zero, List.set_cons_succ]
  refine lst_val (v := .bool true) (by kernel_rfl) ?_ ?_
  · go_simp
  simp only [Act.put, List.setIfInBounds_toArray, List.set_cons_zero, List.set_cons_succ]
  refine lst_val (v := .agg #[.int .u64 0, .int .u64 0, .int .u64 0, .int .u64 0]) (by kernel_rfl) ?_ ?_
  · obtain ⟨c0, c1, c2, c3, _⟩ := Box.facts Z8.out.1
    go_simp
  simp only [Act.put, List.setIfInBounds_toArray, List.set_cons_zero, List.set_cons_succ]
  refine lst_val (v := .agg #[.int .u64 0, .int .u64 0, .int .u64 0, .int .u64 0]) (by kernel_rfl) ?_ ?_
  · go_simp
  simp only [Act.put, List.setIfInBounds_toArray, List.set_cons_zero, List.set_cons_succ]
  refine lst_val (v := .bool false) (by kernel_rfl) ?_ ?_
  · go_simp
  simp only [Act.put, List.setIfInBounds_toArray, List.set_cons_zero, List.set_cons_succ]
  refine lst_val (v := .bool false) (by kernel_rfl) ?_ ?_
  · go_simp
  simp only [Act.put, List.setIfInBounds_toArray, List.set_cons_zero, List.set_cons_succ]
  refine lst_val (v := .bool false) (by kernel_rfl) ?_ ?_
  · go_simp
  simp only [Act.put, List.setIfInBounds_toArray, List.set_cons_zero, List.set_cons_succ]
  refine lst_val (v := .bool false) (by kernel_rfl) ?_ ?_
  · go_simp
  simp only [Act.put, List.setIfInBounds_toArray, List.set_cons_zero, List.set_cons_succ]
  refine lst_val (v := .int .i64 F) (by kernel_rfl) ?_ ?_
  · go_simp
  simp only [Act.put, List.setIfInBounds_toArray, List.set_cons_zero, List.set_cons_succ]
  refine lst_val (v := .bool false) (by kernel_rfl) ?_ ?_
  · go_simp
  simp only [Act.put, List.setIfInBounds_toArray, List.set_cons_zero, List.set_cons_succ]
  refine lst_val (v := .int .i64 i) (by kernel_rfl) ?_ ?_
  · go_simp
  simp only [Act.put, List.setIfInBounds_toArray, List.set_cons_zero, List.set_cons_succ]
  refine lst_val (v := .bool false) (by kernel_rfl) ?_ ?_
  · go_simp
  simp only [Act.put, List.setIfInBounds_toArray, List.set_cons_zero, List.set_cons_succ]
  refine lst_val (v := .bool false) (by kernel_rfl) ?_ ?_
  · go_simp
  simp only [Act.put, List.setIfInBounds_toArray, List.set_cons_zero, List.set_cons_succ]
  refine lst_not (by kernel_rfl) ?_
  simp only [Act.put, List.setIfInBounds_toArray, List.set_cons_zero, List.set_cons_succ]
  refine lst_not (by kernel_rfl) ?_
  simp only [Act.put, List.setIfInBounds_toArray, List.set_cons_zero, List.set_cons_succ]
  refine lst_not (by kernel_rfl) ?_
  simp only [Act.put, List.setIfInBounds_toArray, List.set_cons_zero, List.set_cons_succ]
  refine lst_not (by kernel_rfl) ?_
  simp only [Act.put, List.setIfInBounds_toArray, List.set_cons_zero, List.set_cons_succ]
  refine lst_val (v := .bool false) (by kernel_rfl) ?_ ?_
  · go_simp
  simp only [Act.put, List.setIfInBounds_toArray, List.set_cons_zero, List.set_cons_succ]
  refine lst_val (v := .bool false) (by kernel_rfl) ?_ ?_
  · go_simp
  simp only [Act.put, List.setIfInBounds_toArray, List.set_cons_zero, List.set_cons_succ]
  refine lst_val (v := .bool false) (by kernel_rfl) ?_ ?_
  · go_simp
  simp only [Act.put, List.setIfInBounds_toArray, List.set_cons_zero, List.set_cons_succ]
  refine wpList_nil ?_
  clear hz0
  go_wp2_with (go_at_call 14; refine (wrote_is _).mono ?_; rintro e v9 ⟨rfl, hB9⟩)
  go_ret
  exact ⟨rfl, M8.out.bel.trans (hB9.mono M8.out.bel.size)⟩
end Go.Proofs.Ytlemnjhdnciddaa
