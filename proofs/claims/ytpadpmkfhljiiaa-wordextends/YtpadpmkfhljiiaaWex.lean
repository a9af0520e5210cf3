/- WordExtends: the walk: for every two words the law returns true and turns nothing that was there. -/
import Derived.Test.YtpadpmkfhljiiaaWx
import Derived.Test.YtpadpmkfhljiiaaWq
import Derived.Test.YtpadpmkfhljiiaaWd
import Derived.Test.YtpadpmkfhljiiaaWcr
import Derived.Deep.CutRange
import Derived.Deep.DeepCutAuto
namespace Go.Proofs.Ytpadpmkfhljiiaa
open Go.RowKit
theorem eqw_selfx (a0 a1 a2 a3 : Int) (W : World) : Sem.run Try.prog (Op.equalIn 10000 24 (.agg #[.int .u64 a0, .int .u64 a1, .int .u64 a2, .int .u64 a3]) (.agg #[.int .u64 a0, .int .u64 a1, .int .u64 a2, .int .u64 a3])) W = .ok true W := by
  rw [eqw_run]; simp [eqw]
set_option maxHeartbeats 4000000 in
set_option maxRecDepth 100000 in
theorem wordExtends_ge (kv : Int) (k0 k1 k2 k3 x0 x1 x2 x3 : Int) (w : World) (hk : IsW kv k0 k1 k2 k3) (h : ¬ kv % MM < 31) :
    Calls Try.prog 12 #[.agg #[.int .u64 k0, .int .u64 k1, .int .u64 k2, .int .u64 k3], .agg #[.int .u64 x0, .int .u64 x1, .int .u64 x2, .int .u64 x3]] w fun e w' => e = .returned (.bool true) ∧ Below w.heap.size w w' := by
  have eqs := eqw_selfx
  have HSE : Hid _ := fun w => signExtend_ge kv k0 k1 k2 k3 x0 x1 x2 x3 w hk h
  have HL : Hid (decide (kv % MM < 31 % MM) = false) := by unfold Hid; rw [decide_eq_false]; exact h
  clear h
  go_enter Try.func12, Try.ntmps12
  go_upto_region 1 with fail
  go_cut [10] (fun s10 wx => s10 = .bool true ∧ Below w.heap.size w wx ∧ w.heap.size < wx.heap.size ∧ w.heap.size + 1 < wx.heap.size ∧ wx.cell? ⟨w.heap.size, 0, none⟩ = some (.int .u64 k0) ∧ wx.cell? ⟨w.heap.size, 1, none⟩ = some (.int .u64 k1) ∧ wx.cell? ⟨w.heap.size, 2, none⟩ = some (.int .u64 k2) ∧ wx.cell? ⟨w.heap.size, 3, none⟩ = some (.int .u64 k3) ∧ wx.cell? ⟨w.heap.size + 1, 0, none⟩ = some (.int .u64 x0) ∧ wx.cell? ⟨w.heap.size + 1, 1, none⟩ = some (.int .u64 x1) ∧ wx.cell? ⟨w.heap.size + 1, 2, none⟩ = some (.int .u64 x2) ∧ wx.cell? ⟨w.heap.size + 1, 3, none⟩ = some (.int .u64 x3))
  case first =>
    have B0 : Below w.heap.size w ((w.alloc (.cells #[.int .u64 k0, .int .u64 k1, .int .u64 k2, .int .u64 k3] 24)).alloc (.cells #[.int .u64 x0, .int .u64 x1, .int .u64 x2, .int .u64 x3] 24)) := by (repeat' (first | with_reducible assumption | with_reducible exact Below.refl _ _ | with_reducible refine Below.drew ?_ | with_reducible refine bdrewN ?_ _ | with_reducible refine Below.alloc ?_ ?_ _ | with_reducible refine Below.setCell ?_ ?_ _ | omega | (simp; done) | (simp; omega)))
    go_wp2_with fail
    refine (lt_is _ _ _ _ _ _ _ _ _ hk (isW_lit 31 (by omega) (by omega)) false HL.out).mono ?_
    rintro e v_1 ⟨rfl, hB⟩
    have hS : Below w.heap.size w v_1 ∧ w.heap.size < v_1.heap.size ∧ w.heap.size + 1 < v_1.heap.size ∧ v_1.cell? ⟨w.heap.size, 0, none⟩ = some (.int .u64 k0) ∧ v_1.cell? ⟨w.heap.size, 1, none⟩ = some (.int .u64 k1) ∧ v_1.cell? ⟨w.heap.size, 2, none⟩ = some (.int .u64 k2) ∧ v_1.cell? ⟨w.heap.size, 3, none⟩ = some (.int .u64 k3) ∧ v_1.cell? ⟨w.heap.size + 1, 0, none⟩ = some (.int .u64 x0) ∧ v_1.cell? ⟨w.heap.size + 1, 1, none⟩ = some (.int .u64 x1) ∧ v_1.cell? ⟨w.heap.size + 1, 2, none⟩ = some (.int .u64 x2) ∧ v_1.cell? ⟨w.heap.size + 1, 3, none⟩ = some (.int .u64 x3) := by (have hzz := hB.size; refine ⟨?_, ?_, ?_, ?_, ?_, ?_, ?_, ?_, ?_, ?_, ?_⟩; (focus (with_reducible refine Below.trans ?_ (hB.mono ?_) <;> first | with_reducible assumption | omega | ((repeat' (first | with_reducible assumption | with_reducible exact Below.refl _ _ | with_reducible refine Below.drew ?_ | with_reducible refine bdrewN ?_ _ | with_reducible refine Below.alloc ?_ ?_ _ | with_reducible refine Below.setCell ?_ ?_ _ | omega | (simp; done) | (simp; omega))); done) | (simp; omega))); (focus (first | omega | (simp at hzz; omega))); (focus (first | omega | (simp at hzz; omega))); all_goals (with_reducible refine (hB.cell ?_).trans ?_ <;> first | with_reducible assumption | omega | (simp; done) | (simp; omega) | (go_simp; done)))
    clear hB B0
    obtain ⟨B, z0, z1, k00, k01, k02, k03, k10, k11, k12, k13⟩ := hS
    go_wp2
    go_meet
    case rel => exact ⟨rfl, B, z0, z1, k00, k01, k02, k03, k10, k11, k12, k13⟩
  case rest =>
    obtain ⟨rfl, B, z0, z1, k00, k01, k02, k03, k10, k11, k12, k13⟩ := hcut
    go_upto_region 2 with fail
    go_region_held3 (fun w' => Below w.heap.size w w' ∧ w.heap.size < w'.heap.size ∧ w.heap.size + 1 < w'.heap.size ∧ w'.cell? ⟨w.heap.size, 0, none⟩ = some (.int .u64 k0) ∧ w'.cell? ⟨w.heap.size, 1, none⟩ = some (.int .u64 k1) ∧ w'.cell? ⟨w.heap.size, 2, none⟩ = some (.int .u64 k2) ∧ w'.cell? ⟨w.heap.size, 3, none⟩ = some (.int .u64 k3) ∧ w'.cell? ⟨w.heap.size + 1, 0, none⟩ = some (.int .u64 x0) ∧ w'.cell? ⟨w.heap.size + 1, 1, none⟩ = some (.int .u64 x1) ∧ w'.cell? ⟨w.heap.size + 1, 2, none⟩ = some (.int .u64 x2) ∧ w'.cell? ⟨w.heap.size + 1, 3, none⟩ = some (.int .u64 x3)) (first | with_reducible exact ⟨B, z0, z1, k00, k01, k02, k03, k10, k11, k12, k13⟩ | exact ⟨B.drew, z0, z1, k00, k01, k02, k03, k10, k11, k12, k13⟩ | ((try dsimp only); refine ⟨?_, ?_, ?_, ?_, ?_, ?_, ?_, ?_, ?_, ?_, ?_⟩; (focus ((repeat' (first | with_reducible assumption | with_reducible exact Below.refl _ _ | with_reducible refine Below.drew ?_ | with_reducible refine bdrewN ?_ _ | with_reducible refine Below.alloc ?_ ?_ _ | with_reducible refine Below.setCell ?_ ?_ _ | omega | (simp; done) | (simp; omega))); done)); (focus (first | omega | (simp; done) | (simp; omega))); (focus (first | omega | (simp; done) | (simp; omega))); all_goals (go_simp; done))) (((first | (rw [if_pos ?hw]; rotate_left; rfl; go_simp) | (rw [if_pos (by rfl)]; go_simp) | skip); first
      | (go_at_call 50; refine (HSE.out _).mono ?_; rintro e v_0 ⟨rfl, hB⟩; (first | have hS := carryS2 (below_undrew hB) (Nat.le_refl _) ⟨B, z0, z1, k00, k01, k02, k03, k10, k11, k12, k13⟩ | have hS := carryS2 hB (Nat.le_refl _) ⟨B, z0, z1, k00, k01, k02, k03, k10, k11, k12, k13⟩ | have hS := carryS2 (below_undrewN hB) (Nat.le_refl _) ⟨B, z0, z1, k00, k01, k02, k03, k10, k11, k12, k13⟩); clear hB B k00 k01 k02 k03 k10 k11 k12 k13; obtain ⟨B, z0, z1, k00, k01, k02, k03, k10, k11, k12, k13⟩ := hS; dsimp only)
      | (go_at_call 19; refine (awake_any _).mono ?_; rintro e v_1 ⟨rfl, hB⟩; (first | have hS := carryS2 (below_undrew hB) (Nat.le_refl _) ⟨B, z0, z1, k00, k01, k02, k03, k10, k11, k12, k13⟩ | have hS := carryS2 hB (Nat.le_refl _) ⟨B, z0, z1, k00, k01, k02, k03, k10, k11, k12, k13⟩ | have hS := carryS2 (below_undrewN hB) (Nat.le_refl _) ⟨B, z0, z1, k00, k01, k02, k03, k10, k11, k12, k13⟩); clear hB B k00 k01 k02 k03 k10 k11 k12 k13; obtain ⟨B, z0, z1, k00, k01, k02, k03, k10, k11, k12, k13⟩ := hS; dsimp only)))
    go_wp2
    go_ret
    exact ⟨rfl, by first | with_reducible assumption | ((repeat' (first | with_reducible assumption | with_reducible exact Below.refl _ _ | with_reducible refine Below.drew ?_ | with_reducible refine bdrewN ?_ _ | with_reducible refine Below.alloc ?_ ?_ _ | with_reducible refine Below.setCell ?_ ?_ _ | omega | (simp; done) | (simp; omega))); done)⟩
set_option maxHeartbeats 4000000 in
set_option maxRecDepth 100000 in
theorem wordExtends_lt (kv m f : Int) (y0 y1 y2 y3 z0 z1 z2 z3 : Int) (k0 k1 k2 k3 x0 x1 x2 x3 : Int) (w : World) (hk : IsW kv k0 k1 k2 k3) (h0 : 0 ≤ kv) (h1 : kv < 31) (hm : m = 248 - 8 * kv) (U : ∀ w : World, Calls Try.prog 86 #[.agg #[.int .u64 x0, .int .u64 x1, .int .u64 x2, .int .u64 x3], .int .u64 m] w fun e w' => e = .returned (.agg #[.int .u64 z0, .int .u64 z1, .int .u64 z2, .int .u64 z3]) ∧ Below w.heap.size w w') (Sg : ∀ w : World, Calls Try.prog 88 #[.agg #[.int .u64 z0, .int .u64 z1, .int .u64 z2, .int .u64 z3]] w fun e w' => e = .returned (.int .u64 f) ∧ Below w.heap.size w w') (D : ∀ w : World, Calls Try.prog 87 #[.agg #[.int .u64 z0, .int .u64 z1, .int .u64 z2, .int .u64 z3], .int .u64 m, .int .u64 f] w fun e w' => e = .returned (.agg #[.int .u64 y0, .int .u64 y1, .int .u64 y2, .int .u64 y3]) ∧ Below w.heap.size w w') (U2 : ∀ w : World, Calls Try.prog 86 #[.agg #[.int .u64 y0, .int .u64 y1, .int .u64 y2, .int .u64 y3], .int .u64 m] w fun e w' => e = .returned (.agg #[.int .u64 z0, .int .u64 z1, .int .u64 z2, .int .u64 z3]) ∧ Below w.heap.size w w') :
    Calls Try.prog 12 #[.agg #[.int .u64 k0, .int .u64 k1, .int .u64 k2, .int .u64 k3], .agg #[.int .u64 x0, .int .u64 x1, .int .u64 x2, .int .u64 x3]] w fun e w' => e = .returned (.bool true) ∧ Below w.heap.size w w' := by
  have eqs := eqw_selfx
  have HE1 : Hid _ := signExtend_is kv m f k0 k1 k2 k3 x0 x1 x2 x3 z0 z1 z2 z3 y0 y1 y2 y3 hk h0 h1 hm U Sg D
  have HE2 : Hid _ := signExtend_is kv m f k0 k1 k2 k3 y0 y1 y2 y3 z0 z1 z2 z3 y0 y1 y2 y3 hk h0 h1 hm U2 Sg D
  have HM : Hid (m = 248 - kv * 8) := by unfold Hid; omega
  have hm0 : 0 ≤ m := by omega
  have hm1 : m < 256 := by omega
  have HSL : Hid _ := fun n0 n1 n2 n3 hn => shl_is m n0 n1 n2 n3 x0 x1 x2 x3 z0 z1 z2 z3 hn hm0 hm1 U
  have HSR : Hid _ := fun n0 n1 n2 n3 hn => sar_is m f n0 n1 n2 n3 z0 z1 z2 z3 y0 y1 y2 y3 hn hm0 hm1 Sg D
  have HL : Hid (decide (kv % MM < 31 % MM) = true) := by unfold Hid; rw [mod_small h0 (by omega)]; exact decide_eq_true h1
  clear U Sg D U2 hm hm0 hm1 h0 h1
  go_enter Try.func12, Try.ntmps12
  go_upto_region 1 with fail
  go_cut [10] (fun s10 wx => s10 = .bool false ∧ Below w.heap.size w wx ∧ w.heap.size < wx.heap.size ∧ w.heap.size + 1 < wx.heap.size ∧ wx.cell? ⟨w.heap.size, 0, none⟩ = some (.int .u64 k0) ∧ wx.cell? ⟨w.heap.size, 1, none⟩ = some (.int .u64 k1) ∧ wx.cell? ⟨w.heap.size, 2, none⟩ = some (.int .u64 k2) ∧ wx.cell? ⟨w.heap.size, 3, none⟩ = some (.int .u64 k3) ∧ wx.cell? ⟨w.heap.size + 1, 0, none⟩ = some (.int .u64 x0) ∧ wx.cell? ⟨w.heap.size + 1, 1, none⟩ = some (.int .u64 x1) ∧ wx.cell? ⟨w.heap.size + 1, 2, none⟩ = some (.int .u64 x2) ∧ wx.cell? ⟨w.heap.size + 1, 3, none⟩ = some (.int .u64 x3))
  case first =>
    have B0 : Below w.heap.size w ((w.alloc (.cells #[.int .u64 k0, .int .u64 k1, .int .u64 k2, .int .u64 k3] 24)).alloc (.cells #[.int .u64 x0, .int .u64 x1, .int .u64 x2, .int .u64 x3] 24)) := by (repeat' (first | with_reducible assumption | with_reducible exact Below.refl _ _ | with_reducible refine Below.drew ?_ | with_reducible refine bdrewN ?_ _ | with_reducible refine Below.alloc ?_ ?_ _ | with_reducible refine Below.setCell ?_ ?_ _ | omega | (simp; done) | (simp; omega)))
    go_wp2_with fail
    refine (lt_is _ _ _ _ _ _ _ _ _ hk (isW_lit 31 (by omega) (by omega)) true HL.out).mono ?_
    rintro e v_1 ⟨rfl, hB⟩
    have hS : Below w.heap.size w v_1 ∧ w.heap.size < v_1.heap.size ∧ w.heap.size + 1 < v_1.heap.size ∧ v_1.cell? ⟨w.heap.size, 0, none⟩ = some (.int .u64 k0) ∧ v_1.cell? ⟨w.heap.size, 1, none⟩ = some (.int .u64 k1) ∧ v_1.cell? ⟨w.heap.size, 2, none⟩ = some (.int .u64 k2) ∧ v_1.cell? ⟨w.heap.size, 3, none⟩ = some (.int .u64 k3) ∧ v_1.cell? ⟨w.heap.size + 1, 0, none⟩ = some (.int .u64 x0) ∧ v_1.cell? ⟨w.heap.size + 1, 1, none⟩ = some (.int .u64 x1) ∧ v_1.cell? ⟨w.heap.size + 1, 2, none⟩ = some (.int .u64 x2) ∧ v_1.cell? ⟨w.heap.size + 1, 3, none⟩ = some (.int .u64 x3) := by (have hzz := hB.size; refine ⟨?_, ?_, ?_, ?_, ?_, ?_, ?_, ?_, ?_, ?_, ?_⟩; (focus (with_reducible refine Below.trans ?_ (hB.mono ?_) <;> first | with_reducible assumption | omega | ((repeat' (first | with_reducible assumption | with_reducible exact Below.refl _ _ | with_reducible refine Below.drew ?_ | with_reducible refine bdrewN ?_ _ | with_reducible refine Below.alloc ?_ ?_ _ | with_reducible refine Below.setCell ?_ ?_ _ | omega | (simp; done) | (simp; omega))); done) | (simp; omega))); (focus (first | omega | (simp at hzz; omega))); (focus (first | omega | (simp at hzz; omega))); all_goals (with_reducible refine (hB.cell ?_).trans ?_ <;> first | with_reducible assumption | omega | (simp; done) | (simp; omega) | (go_simp; done)))
    clear hB B0
    obtain ⟨B, z0, z1, k00, k01, k02, k03, k10, k11, k12, k13⟩ := hS
    go_wp2
    go_meet
    case rel => exact ⟨rfl, B, z0, z1, k00, k01, k02, k03, k10, k11, k12, k13⟩
  case rest =>
    obtain ⟨rfl, B, z0, z1, k00, k01, k02, k03, k10, k11, k12, k13⟩ := hcut
    go_upto_region 3 with fail
    go_cut [5] (fun s5 wx => ∃ (b5 : Nat) (n0 n1 n2 n3 : Int), s5 = .pointer (some ⟨b5, 0, none⟩) ∧ IsW m n0 n1 n2 n3 ∧ Below w.heap.size w wx ∧ w.heap.size < wx.heap.size ∧ w.heap.size + 1 < wx.heap.size ∧ b5 < wx.heap.size ∧ wx.cell? ⟨w.heap.size, 0, none⟩ = some (.int .u64 k0) ∧ wx.cell? ⟨w.heap.size, 1, none⟩ = some (.int .u64 k1) ∧ wx.cell? ⟨w.heap.size, 2, none⟩ = some (.int .u64 k2) ∧ wx.cell? ⟨w.heap.size, 3, none⟩ = some (.int .u64 k3) ∧ wx.cell? ⟨w.heap.size + 1, 0, none⟩ = some (.int .u64 x0) ∧ wx.cell? ⟨w.heap.size + 1, 1, none⟩ = some (.int .u64 x1) ∧ wx.cell? ⟨w.heap.size + 1, 2, none⟩ = some (.int .u64 x2) ∧ wx.cell? ⟨w.heap.size + 1, 3, none⟩ = some (.int .u64 x3) ∧ wx.cell? ⟨b5, 0, none⟩ = some (.int .u64 n0) ∧ wx.cell? ⟨b5, 1, none⟩ = some (.int .u64 n1) ∧ wx.cell? ⟨b5, 2, none⟩ = some (.int .u64 n2) ∧ wx.cell? ⟨b5, 3, none⟩ = some (.int .u64 n3))
    case first =>
      go_wp2_with fail
      refine (mul_any _ _ _ _ _ _ _ _ _ _ _ hk (isW_lit 8 (by omega) (by omega))).mono ?_
      rintro e v_1 ⟨p0, p1, p2, p3, rfl, hp, hB⟩
      (first | have hS := carryS2 (below_undrew hB) (Nat.le_refl _) ⟨B, z0, z1, k00, k01, k02, k03, k10, k11, k12, k13⟩ | have hS := carryS2 hB (Nat.le_refl _) ⟨B, z0, z1, k00, k01, k02, k03, k10, k11, k12, k13⟩ | have hS := carryS2 (below_undrewN hB) (Nat.le_refl _) ⟨B, z0, z1, k00, k01, k02, k03, k10, k11, k12, k13⟩); clear hB B k00 k01 k02 k03 k10 k11 k12 k13; obtain ⟨B, z0, z1, k00, k01, k02, k03, k10, k11, k12, k13⟩ := hS
      go_wp2_with fail
      refine (sub_any _ _ _ _ _ _ _ _ _ _ _ (isW_lit 248 (by omega) (by omega)) hp).mono ?_
      rintro e v_2 ⟨t0, t1, t2, t3, rfl, ht, hB⟩
      (first | have hS := carryS2 (below_undrew hB) (Nat.le_refl _) ⟨B, z0, z1, k00, k01, k02, k03, k10, k11, k12, k13⟩ | have hS := carryS2 hB (Nat.le_refl _) ⟨B, z0, z1, k00, k01, k02, k03, k10, k11, k12, k13⟩ | have hS := carryS2 (below_undrewN hB) (Nat.le_refl _) ⟨B, z0, z1, k00, k01, k02, k03, k10, k11, k12, k13⟩); clear hB B k00 k01 k02 k03 k10 k11 k12 k13; obtain ⟨B, z0, z1, k00, k01, k02, k03, k10, k11, k12, k13⟩ := hS
      go_wp2
      go_meet
      case rel => refine ⟨_, t0, t1, t2, t3, rfl, (by rw [HM.out]; exact ht), ?_, ?_, ?_, ?_, ?_, ?_, ?_, ?_, ?_, ?_, ?_, ?_, ?_, ?_, ?_, ?_⟩ <;> first | with_reducible assumption | ((repeat' (first | with_reducible assumption | with_reducible exact Below.refl _ _ | with_reducible refine Below.drew ?_ | with_reducible refine bdrewN ?_ _ | with_reducible refine Below.alloc ?_ ?_ _ | with_reducible refine Below.setCell ?_ ?_ _ | omega | (simp; done) | (simp; omega))); done) | omega | (simp; done) | (simp; omega) | (go_simp; done)
    case rest =>
      obtain ⟨b5, n0, n1, n2, n3, rfl, hn, B, z0, z1, z2, k00, k01, k02, k03, k10, k11, k12, k13, k20, k21, k22, k23⟩ := hcut
      go_upto_region 4 with fail
      go_cut [6] (fun s6 wx => ∃ (b6 : Nat), s6 = .pointer (some ⟨b6, 0, none⟩) ∧ Below w.heap.size w wx ∧ w.heap.size < wx.heap.size ∧ w.heap.size + 1 < wx.heap.size ∧ b5 < wx.heap.size ∧ b6 < wx.heap.size ∧ wx.cell? ⟨w.heap.size, 0, none⟩ = some (.int .u64 k0) ∧ wx.cell? ⟨w.heap.size, 1, none⟩ = some (.int .u64 k1) ∧ wx.cell? ⟨w.heap.size, 2, none⟩ = some (.int .u64 k2) ∧ wx.cell? ⟨w.heap.size, 3, none⟩ = some (.int .u64 k3) ∧ wx.cell? ⟨w.heap.size + 1, 0, none⟩ = some (.int .u64 x0) ∧ wx.cell? ⟨w.heap.size + 1, 1, none⟩ = some (.int .u64 x1) ∧ wx.cell? ⟨w.heap.size + 1, 2, none⟩ = some (.int .u64 x2) ∧ wx.cell? ⟨w.heap.size + 1, 3, none⟩ = some (.int .u64 x3) ∧ wx.cell? ⟨b5, 0, none⟩ = some (.int .u64 n0) ∧ wx.cell? ⟨b5, 1, none⟩ = some (.int .u64 n1) ∧ wx.cell? ⟨b5, 2, none⟩ = some (.int .u64 n2) ∧ wx.cell? ⟨b5, 3, none⟩ = some (.int .u64 n3) ∧ wx.cell? ⟨b6, 0, none⟩ = some (.int .u64 y0) ∧ wx.cell? ⟨b6, 1, none⟩ = some (.int .u64 y1) ∧ wx.cell? ⟨b6, 2, none⟩ = some (.int .u64 y2) ∧ wx.cell? ⟨b6, 3, none⟩ = some (.int .u64 y3))
      case first =>
        go_wp2_with fail
        refine (HE1.out _).mono ?_
        rintro e v_1 ⟨rfl, hB⟩
        (first | have hS := carryS3 (below_undrew hB) (Nat.le_refl _) ⟨B, z0, z1, z2, k00, k01, k02, k03, k10, k11, k12, k13, k20, k21, k22, k23⟩ | have hS := carryS3 hB (Nat.le_refl _) ⟨B, z0, z1, z2, k00, k01, k02, k03, k10, k11, k12, k13, k20, k21, k22, k23⟩ | have hS := carryS3 (below_undrewN hB) (Nat.le_refl _) ⟨B, z0, z1, z2, k00, k01, k02, k03, k10, k11, k12, k13, k20, k21, k22, k23⟩); clear hB B k00 k01 k02 k03 k10 k11 k12 k13 k20 k21 k22 k23; obtain ⟨B, z0, z1, z2, k00, k01, k02, k03, k10, k11, k12, k13, k20, k21, k22, k23⟩ := hS
        go_wp2
        go_meet
        case rel => refine ⟨_, rfl, ?_, ?_, ?_, ?_, ?_, ?_, ?_, ?_, ?_, ?_, ?_, ?_, ?_, ?_, ?_, ?_, ?_, ?_, ?_, ?_, ?_⟩ <;> first | with_reducible assumption | ((repeat' (first | with_reducible assumption | with_reducible exact Below.refl _ _ | with_reducible refine Below.drew ?_ | with_reducible refine bdrewN ?_ _ | with_reducible refine Below.alloc ?_ ?_ _ | with_reducible refine Below.setCell ?_ ?_ _ | omega | (simp; done) | (simp; omega))); done) | omega | (simp; done) | (simp; omega) | (go_simp; done)
      case rest =>
        obtain ⟨b6, rfl, B, z0, z1, z2, z3, k00, k01, k02, k03, k10, k11, k12, k13, k20, k21, k22, k23, k30, k31, k32, k33⟩ := hcut
        go_upto_region 5 with fail
        go_region_held3 (fun w' => Below w.heap.size w w' ∧ w.heap.size < w'.heap.size ∧ w.heap.size + 1 < w'.heap.size ∧ b5 < w'.heap.size ∧ b6 < w'.heap.size ∧ w'.cell? ⟨w.heap.size, 0, none⟩ = some (.int .u64 k0) ∧ w'.cell? ⟨w.heap.size, 1, none⟩ = some (.int .u64 k1) ∧ w'.cell? ⟨w.heap.size, 2, none⟩ = some (.int .u64 k2) ∧ w'.cell? ⟨w.heap.size, 3, none⟩ = some (.int .u64 k3) ∧ w'.cell? ⟨w.heap.size + 1, 0, none⟩ = some (.int .u64 x0) ∧ w'.cell? ⟨w.heap.size + 1, 1, none⟩ = some (.int .u64 x1) ∧ w'.cell? ⟨w.heap.size + 1, 2, none⟩ = some (.int .u64 x2) ∧ w'.cell? ⟨w.heap.size + 1, 3, none⟩ = some (.int .u64 x3) ∧ w'.cell? ⟨b5, 0, none⟩ = some (.int .u64 n0) ∧ w'.cell? ⟨b5, 1, none⟩ = some (.int .u64 n1) ∧ w'.cell? ⟨b5, 2, none⟩ = some (.int .u64 n2) ∧ w'.cell? ⟨b5, 3, none⟩ = some (.int .u64 n3) ∧ w'.cell? ⟨b6, 0, none⟩ = some (.int .u64 y0) ∧ w'.cell? ⟨b6, 1, none⟩ = some (.int .u64 y1) ∧ w'.cell? ⟨b6, 2, none⟩ = some (.int .u64 y2) ∧ w'.cell? ⟨b6, 3, none⟩ = some (.int .u64 y3)) (first | with_reducible exact ⟨B, z0, z1, z2, z3, k00, k01, k02, k03, k10, k11, k12, k13, k20, k21, k22, k23, k30, k31, k32, k33⟩ | exact ⟨B.drew, z0, z1, z2, z3, k00, k01, k02, k03, k10, k11, k12, k13, k20, k21, k22, k23, k30, k31, k32, k33⟩ | ((try dsimp only); refine ⟨?_, ?_, ?_, ?_, ?_, ?_, ?_, ?_, ?_, ?_, ?_, ?_, ?_, ?_, ?_, ?_, ?_, ?_, ?_, ?_, ?_⟩; (focus ((repeat' (first | with_reducible assumption | with_reducible exact Below.refl _ _ | with_reducible refine Below.drew ?_ | with_reducible refine bdrewN ?_ _ | with_reducible refine Below.alloc ?_ ?_ _ | with_reducible refine Below.setCell ?_ ?_ _ | omega | (simp; done) | (simp; omega))); done)); (focus (first | omega | (simp; done) | (simp; omega))); (focus (first | omega | (simp; done) | (simp; omega))); (focus (first | omega | (simp; done) | (simp; omega))); (focus (first | omega | (simp; done) | (simp; omega))); all_goals (go_simp; done))) (((first | (rw [if_pos ?hw]; rotate_left; rfl; go_simp) | (rw [if_pos (by rfl)]; go_simp) | skip); first
          | (go_at_call 47; refine (HSL.out _ _ _ _ hn _).mono ?_; rintro e v_0 ⟨rfl, hB⟩; (first | have hS := carryS4 (below_undrew hB) (Nat.le_refl _) ⟨B, z0, z1, z2, z3, k00, k01, k02, k03, k10, k11, k12, k13, k20, k21, k22, k23, k30, k31, k32, k33⟩ | have hS := carryS4 hB (Nat.le_refl _) ⟨B, z0, z1, z2, z3, k00, k01, k02, k03, k10, k11, k12, k13, k20, k21, k22, k23, k30, k31, k32, k33⟩ | have hS := carryS4 (below_undrewN hB) (Nat.le_refl _) ⟨B, z0, z1, z2, z3, k00, k01, k02, k03, k10, k11, k12, k13, k20, k21, k22, k23, k30, k31, k32, k33⟩); clear hB B k00 k01 k02 k03 k10 k11 k12 k13 k20 k21 k22 k23 k30 k31 k32 k33; obtain ⟨B, z0, z1, z2, z3, k00, k01, k02, k03, k10, k11, k12, k13, k20, k21, k22, k23, k30, k31, k32, k33⟩ := hS; dsimp only)
          | (go_at_call 49; refine (HSR.out _ _ _ _ hn _).mono ?_; rintro e v_1 ⟨rfl, hB⟩; (first | have hS := carryS4 (below_undrew hB) (Nat.le_refl _) ⟨B, z0, z1, z2, z3, k00, k01, k02, k03, k10, k11, k12, k13, k20, k21, k22, k23, k30, k31, k32, k33⟩ | have hS := carryS4 hB (Nat.le_refl _) ⟨B, z0, z1, z2, z3, k00, k01, k02, k03, k10, k11, k12, k13, k20, k21, k22, k23, k30, k31, k32, k33⟩ | have hS := carryS4 (below_undrewN hB) (Nat.le_refl _) ⟨B, z0, z1, z2, z3, k00, k01, k02, k03, k10, k11, k12, k13, k20, k21, k22, k23, k30, k31, k32, k33⟩); clear hB B k00 k01 k02 k03 k10 k11 k12 k13 k20 k21 k22 k23 k30 k31 k32 k33; obtain ⟨B, z0, z1, z2, z3, k00, k01, k02, k03, k10, k11, k12, k13, k20, k21, k22, k23, k30, k31, k32, k33⟩ := hS; dsimp only)
          | (go_at_call 50; refine (HE2.out _).mono ?_; rintro e v_2 ⟨rfl, hB⟩; (first | have hS := carryS4 (below_undrew hB) (Nat.le_refl _) ⟨B, z0, z1, z2, z3, k00, k01, k02, k03, k10, k11, k12, k13, k20, k21, k22, k23, k30, k31, k32, k33⟩ | have hS := carryS4 hB (Nat.le_refl _) ⟨B, z0, z1, z2, z3, k00, k01, k02, k03, k10, k11, k12, k13, k20, k21, k22, k23, k30, k31, k32, k33⟩ | have hS := carryS4 (below_undrewN hB) (Nat.le_refl _) ⟨B, z0, z1, z2, z3, k00, k01, k02, k03, k10, k11, k12, k13, k20, k21, k22, k23, k30, k31, k32, k33⟩); clear hB B k00 k01 k02 k03 k10 k11 k12 k13 k20 k21 k22 k23 k30 k31 k32 k33; obtain ⟨B, z0, z1, z2, z3, k00, k01, k02, k03, k10, k11, k12, k13, k20, k21, k22, k23, k30, k31, k32, k33⟩ := hS; dsimp only)
          | (go_at_call 19; refine (awake_any _).mono ?_; rintro e v_3 ⟨rfl, hB⟩; (first | have hS := carryS4 (below_undrew hB) (Nat.le_refl _) ⟨B, z0, z1, z2, z3, k00, k01, k02, k03, k10, k11, k12, k13, k20, k21, k22, k23, k30, k31, k32, k33⟩ | have hS := carryS4 hB (Nat.le_refl _) ⟨B, z0, z1, z2, z3, k00, k01, k02, k03, k10, k11, k12, k13, k20, k21, k22, k23, k30, k31, k32, k33⟩ | have hS := carryS4 (below_undrewN hB) (Nat.le_refl _) ⟨B, z0, z1, z2, z3, k00, k01, k02, k03, k10, k11, k12, k13, k20, k21, k22, k23, k30, k31, k32, k33⟩); clear hB B k00 k01 k02 k03 k10 k11 k12 k13 k20 k21 k22 k23 k30 k31 k32 k33; obtain ⟨B, z0, z1, z2, z3, k00, k01, k02, k03, k10, k11, k12, k13, k20, k21, k22, k23, k30, k31, k32, k33⟩ := hS; dsimp only)))
        go_wp2
        go_ret
        exact ⟨rfl, by first | with_reducible assumption | ((repeat' (first | with_reducible assumption | with_reducible exact Below.refl _ _ | with_reducible refine Below.drew ?_ | with_reducible refine bdrewN ?_ _ | with_reducible refine Below.alloc ?_ ?_ _ | with_reducible refine Below.setCell ?_ ?_ _ | omega | (simp; done) | (simp; omega))); done)⟩
theorem wordExtends_walk (x y : Int) (k0 k1 k2 k3 a0 a1 a2 a3 : Int) (w : World) (hk : IsW x k0 k1 k2 k3) (ha : IsW y a0 a1 a2 a3) :
    Calls Try.prog 12 #[.agg #[.int .u64 k0, .int .u64 k1, .int .u64 k2, .int .u64 k3], .agg #[.int .u64 a0, .int .u64 a1, .int .u64 a2, .int .u64 a3]] w fun e w' => e = .returned (.bool true) ∧ Below w.heap.size w w' := by
  by_cases h : x % MM < 31
  · have hr := hk.range
    have hs := hk.self
    have hv : V k0 k1 k2 k3 = x % MM := hk.2
    obtain ⟨z0, z1, z2, z3, f, y0, y1, y2, y3, v, U, Sg, D, U2, hy⟩ := ext_ex y (248 - 8 * V k0 k1 k2 k3) a0 a1 a2 a3 ha (by omega) (by omega)
    exact wordExtends_lt (V k0 k1 k2 k3) _ f y0 y1 y2 y3 z0 z1 z2 z3 k0 k1 k2 k3 a0 a1 a2 a3 w hs hr.1 (by omega) rfl U Sg D U2
  · exact wordExtends_ge x k0 k1 k2 k3 a0 a1 a2 a3 w hk h
end Go.Proofs.Ytpadpmkfhljiiaa
