/- Package undo: the calls that take back. -/
import Derived.Test.YtohfkgfjcnldaaaTn
namespace Go.Proofs.Ytohfkgfjcnldaaa
open Go.RowKit
set_option maxHeartbeats 2000000 in
set_option maxRecDepth 100000 in
theorem un_rem (w : World) (b pm : Nat) (ra : Option Addr) (rc : Nat) (ba : Option Addr) (bc : Nat) (ma : Option Addr) (mc : Nat) (m : Int → Option Nat) (L : List (Int × Int)) (U : List Value) (M : List Nat) (h : Tab w b pm ra rc ba bc ma mc m L U M) (u : Un) (hu : UnOk w b (TS b pm ra ba ma) u) (kd : u.kd = 0) (ok : okU u L) (hL : L.length < 549755813888) : Calls Try.prog 72 #[.pointer (some ⟨u.x, 0, none⟩), .pointer (some ⟨u.y, 0, none⟩)] w fun e w' => e = .returned (.tuple #[]) ∧ ∃ ra' rc' m', Tab w' b pm ra' rc' ba bc ma mc m' (apU u L) U M ∧ But (TS b pm ra ba ma) w w' ∧ Grown (TS b pm ra ba ma) (TS b pm ra' ba ma) w := by
  have x0 : w.cell? ⟨u.x, 0, none⟩ = some (.pointer (some ⟨b, 0, none⟩)) := hu.cx.cell 0
  have y0 : w.cell? ⟨u.y, 0, none⟩ = some (.int .i64 (u.at_ : Int)) := hu.cy.cell 0
  have hi : u.at_ < L.length := by unfold okU at ok; rwa [if_pos kd] at ok
  have RM : Hid (Calls Try.prog 73 #[.pointer (some ⟨b, 0, none⟩), .int .i64 (u.at_ : Int)] w fun e w' => e = .returned (.agg #[.int .i64 (atL L u.at_).1, .int .i64 (atL L u.at_).2]) ∧ ∃ m', Tab w' b pm ra rc ba bc ma mc m' (remL L u.at_) U M ∧ But (TS b pm ra ba ma) w w') := remT w b pm ra rc ba bc ma mc m L U M h u.at_ hi hL
  have EA : Hid (apU u L = remL L u.at_) := by unfold apU; rw [if_pos kd]; exact rfl
  clear h hu kd ok hL hi
  generalize u.at_ = i at *
  generalize u.x = x at *
  generalize u.y = y at *
  go_enter Try.func72, Try.ntmps72
  go_wp2_with (go_at_call 73; refine (RM.out).mono ?_; rintro e v2 ⟨rfl, m', h1, h2⟩)
  go_end0
  rw [EA.out]
  exact ⟨rfl, ra, rc, m', h1, h2, Grown.refl _ _⟩
set_option maxHeartbeats 2000000 in
set_option maxRecDepth 100000 in
theorem un_ins (w : World) (b pm : Nat) (ra : Option Addr) (rc : Nat) (ba : Option Addr) (bc : Nat) (ma : Option Addr) (mc : Nat) (m : Int → Option Nat) (L : List (Int × Int)) (U : List Value) (M : List Nat) (h : Tab w b pm ra rc ba bc ma mc m L U M) (u : Un) (hu : UnOk w b (TS b pm ra ba ma) u) (k0 : u.kd ≠ 0) (k1 : u.kd ≠ 1) (ok : okU u L) (hL : L.length < 549755813888) : Calls Try.prog 75 #[.pointer (some ⟨u.x, 0, none⟩), .pointer (some ⟨u.y, 0, none⟩), .pointer (some ⟨u.z, 0, none⟩)] w fun e w' => e = .returned (.tuple #[]) ∧ ∃ ra' rc' m', Tab w' b pm ra' rc' ba bc ma mc m' (apU u L) U M ∧ But (TS b pm ra ba ma) w w' ∧ Grown (TS b pm ra ba ma) (TS b pm ra' ba ma) w := by
  have x0 : w.cell? ⟨u.x, 0, none⟩ = some (.pointer (some ⟨b, 0, none⟩)) := hu.cx.cell 0
  have y0 : w.cell? ⟨u.y, 0, none⟩ = some (.int .i64 (u.at_ : Int)) := hu.cy.cell 0
  have z0 : w.cell? ⟨u.z, 0, none⟩ = some (.int .i64 u.r.1) := (hu.cz k0).cell 0
  have z1 : w.cell? ⟨u.z, 1, none⟩ = some (.int .i64 u.r.2) := (hu.cz k0).cell 1
  unfold okU at ok
  rw [if_neg k0, if_neg k1] at ok
  have hr : m u.r.1 = none := by
    cases e : m u.r.1 with
    | none => rfl
    | some j => exact absurd (h.ix.some e).2 (ok.2.1 j (h.ix.some e).1)
  have IN : Hid (Calls Try.prog 70 #[.pointer (some ⟨b, 0, none⟩), .int .i64 (u.at_ : Int), .agg #[.int .i64 u.r.1, .int .i64 u.r.2]] w fun e w' => e = .returned (.tuple #[]) ∧ ∃ ra' rc' m', Tab w' b pm ra' rc' ba bc ma mc m' (insL L u.at_ u.r) U M ∧ But (TS b pm ra ba ma) w w' ∧ Grown (TS b pm ra ba ma) (TS b pm ra' ba ma) w) := insT w b pm ra rc ba bc ma mc m L U M h u.at_ u.r ok.1 hr ok.2.2 hL
  have EA : Hid (apU u L = insL L u.at_ u.r) := by unfold apU; rw [if_neg k0, if_neg k1]; exact rfl
  clear h hu ok hL hr k0 k1
  generalize u.at_ = i at *
  generalize u.x = x at *
  generalize u.y = y at *
  generalize u.z = z at *
  generalize u.r = r at *
  go_enter Try.func75, Try.ntmps75
  go_wp2_with (go_at_call 70; refine (IN.out).mono ?_; rintro e v2 ⟨rfl, ra', rc', m', h1, h2, h3⟩)
  go_end0
  rw [EA.out]
  exact ⟨rfl, ra', rc', m', h1, h2, h3⟩
set_option maxHeartbeats 2000000 in
set_option maxRecDepth 100000 in
theorem un_put (w : World) (b pm : Nat) (ra : Option Addr) (rc : Nat) (ba : Option Addr) (bc : Nat) (ma : Option Addr) (mc : Nat) (m : Int → Option Nat) (L : List (Int × Int)) (U : List Value) (M : List Nat) (h : Tab w b pm ra rc ba bc ma mc m L U M) (u : Un) (hu : UnOk w b (TS b pm ra ba ma) u) (kd : u.kd = 1) (ok : okU u L) (hL : L.length < 549755813888) : Calls Try.prog 74 #[.pointer (some ⟨u.z, 0, none⟩), .pointer (some ⟨u.x, 0, none⟩), .pointer (some ⟨u.y, 0, none⟩)] w fun e w' => e = .returned (.tuple #[]) ∧ ∃ ra' rc' m', Tab w' b pm ra' rc' ba bc ma mc m' (apU u L) U M ∧ But (TS b pm ra ba ma) w w' ∧ Grown (TS b pm ra ba ma) (TS b pm ra' ba ma) w := by
  have k0 : u.kd ≠ 0 := by omega
  unfold okU at ok
  rw [if_neg k0, if_pos kd] at ok
  obtain ⟨g, eg, _⟩ := h.row (atL_get ok.1)
  have EA : Hid (apU u L = L.set u.at_ u.r) := by unfold apU; rw [if_neg k0, if_pos kd]; exact rfl
  have HP : Hid (L[u.at_]? = some (atL L u.at_) ∧ u.at_ < L.length ∧ (atL L u.at_).1 = u.r.1 ∧ I64 u.r.1 ∧ ra = some ⟨g, 0, none⟩) := ⟨atL_get ok.1, ok.1, ok.2.1, ok.2.2, eg⟩
  have HD : Hid (Tab w.drew b pm ra rc ba bc ma mc m L U M) := h.but (S := fun _ => False) ((But.refl _ _).drew) (fun _ _ => id)
  have HB : Hid (But (TS b pm ra ba ma) w w.drew) := (But.refl _ _).drew
  obtain ⟨nn, en⟩ : ∃ nn, L.length = nn := ⟨_, rfl⟩
  have EN : Hid (L.length = nn) := en
  have nX : (nn : Int) < 549755813888 := by omega
  have iI : (u.at_ : Int) < (nn : Int) := by have := ok.1; omega
  have CX : Hid (CBox w.drew u.x 24 [.pointer (some ⟨b, 0, none⟩)] ∧ CBox w.drew u.y 3 [.int .i64 (u.at_ : Int)] ∧ CBox w.drew u.z 112 [.int .i64 u.r.1, .int .i64 u.r.2] ∧ ¬ TS b pm ra ba ma u.x ∧ ¬ TS b pm ra ba ma u.y ∧ ¬ TS b pm ra ba ma u.z) := ⟨hu.cx, hu.cy, hu.cz k0, hu.nx, hu.ny, hu.nz k0⟩
  have hh : w.drew.cell? ⟨b, 0, none⟩ = some (.slice (some ⟨g, 0, none⟩) nn rc) ∧ w.drew.cell? ⟨u.x, 0, none⟩ = some (.pointer (some ⟨b, 0, none⟩)) ∧ w.drew.cell? ⟨u.y, 0, none⟩ = some (.int .i64 (u.at_ : Int)) ∧ w.drew.cell? ⟨u.z, 0, none⟩ = some (.int .i64 u.r.1) ∧ w.drew.cell? ⟨u.z, 1, none⟩ = some (.int .i64 u.r.2) := ⟨by have := HD.out.c0; rw [en, eg] at this; exact this, CX.out.1.cell 0, CX.out.2.1.cell 0, CX.out.2.2.1.cell 0, CX.out.2.2.1.cell 1⟩
  clear h hu kd ok hL k0 en eg
  generalize u.at_ = i at *
  generalize u.x = x at *
  generalize u.y = y at *
  generalize u.z = z at *
  generalize u.r = r at *
  go_enter Try.func74, Try.ntmps74
  go_upto_region 0 with fail
  refine wp_region_held_drew (S := fun V' => V'.cell? ⟨b, 0, none⟩ = some (.slice (some ⟨g, 0, none⟩) nn rc) ∧ V'.cell? ⟨x, 0, none⟩ = some (.pointer (some ⟨b, 0, none⟩)) ∧ V'.cell? ⟨y, 0, none⟩ = some (.int .i64 (i : Int)) ∧ V'.cell? ⟨z, 0, none⟩ = some (.int .i64 r.1) ∧ V'.cell? ⟨z, 1, none⟩ = some (.int .i64 r.2)) (by kernel_rfl) hh (fun hHeld => ?_)
  generalize w.drew = z0 at hHeld HD HB CX ⊢
  clear hh
  refine wpAnyH_take (i := 0) (v := .pointer (some ⟨b, 0, none⟩)) ov0 (by kernel_rfl) (by kernel_rfl) (by kernel_rfl) (fun _ _ _ h => h) (Or.inl ⟨by rfl, fun V' hS => ?_⟩) hHeld ?_
  · obtain ⟨s0, s1, s2, s3, s4⟩ := hS
    go_simp
  simp only [Act.put, List.setIfInBounds_toArray, List.set_cons_zero, List.set_cons_succ]
  refine wpAnyH_take (i := 1) (v := .pointer (some ⟨b, 0, none⟩)) ov1 (by kernel_rfl) (by kernel_rfl) (by kernel_rfl) (fun _ _ _ h => h) (Or.inl ⟨by rfl, fun V' hS => ?_⟩) hHeld ?_
  · go_simp
  simp only [Act.put, List.setIfInBounds_toArray, List.set_cons_zero, List.set_cons_succ]
  refine wpAnyH_take (i := 2) (v := .pointer (some ⟨b, 0, none⟩)) ov2 (by kernel_rfl) (by kernel_rfl) (by kernel_rfl) (fun _ _ _ h => h) (Or.inl ⟨by rfl, fun V' hS => ?_⟩) hHeld ?_
  · go_simp
  simp only [Act.put, List.setIfInBounds_toArray, List.set_cons_zero, List.set_cons_succ]
  refine wpAnyH_take (i := 3) (v := .slice (some ⟨g, 0, none⟩) nn rc) ov3 (by kernel_rfl) (by kernel_rfl) (by kernel_rfl) (fun _ _ _ h => h) (Or.inl ⟨by rfl, fun V' hS => ?_⟩) hHeld ?_
  · obtain ⟨s0, s1, s2, s3, s4⟩ := hS
    go_simp
  simp only [Act.put, List.setIfInBounds_toArray, List.set_cons_zero, List.set_cons_succ]
  refine wpAnyH_take (i := 4) (v := .int .i64 (i : Int)) ov4 (by kernel_rfl) (by kernel_rfl) (by kernel_rfl) (fun _ _ _ h => h) (Or.inl ⟨by rfl, fun V' hS => ?_⟩) hHeld ?_
  · obtain ⟨s0, s1, s2, s3, s4⟩ := hS
    go_simp
  simp only [Act.put, List.setIfInBounds_toArray, List.set_cons_zero, List.set_cons_succ]
  refine wpAnyH_take (i := 5) (v := .agg #[.int .i64 r.1, .int .i64 r.2]) ov5 (by kernel_rfl) (by kernel_rfl) (by kernel_rfl) (fun _ _ _ h => h) (Or.inl ⟨by rfl, fun V' hS => ?_⟩) hHeld ?_
  · obtain ⟨s0, s1, s2, s3, s4⟩ := hS
    go_simp
  simp only [Act.put, List.setIfInBounds_toArray, List.set_cons_zero, List.set_cons_succ]
  refine wpAnyH_take (i := 6) (v := .pointer (some ⟨g, i * 2, none⟩)) ov6 (by kernel_rfl) (by kernel_rfl) (by kernel_rfl) (fun _ _ _ h => h) (Or.inl ⟨by rfl, fun V' hS => ?_⟩) hHeld ?_
  · go_simp
  simp only [Act.put, List.setIfInBounds_toArray, List.set_cons_zero, List.set_cons_succ]
  refine wpAnyH_ready (rs := [7]) (by kernel_rfl) (by simp) ?_
  refine AllReadyH.cons ov7 (fun K hK => ?_) AllReadyH.nil
  rw [if_pos (by rfl)]
  obtain ⟨d0, d1, f0, f1⟩ := HD.out.rowg HP.out.2.2.2.2 HP.out.1
  go_simp
  clear d0 d1 f0 f1
  have H7 : Hid (Tab (put2 z0 g (i * 2) r) b pm ra rc ba bc ma mc m (L.set i r) U M ∧ But (Own ra) z0 (put2 z0 g (i * 2) r)) := HD.out.putT HP.out.2.2.2.2 i r HP.out.2.1 HP.out.2.2.1 HP.out.2.2.2.1
  have NO : ∀ k, ¬ TS b pm ra ba ma k → ¬ Own ra k := fun k hk e => hk (Or.inr (Or.inr (Or.inl e)))
  have hH7 : (put2 z0 g (i * 2) r).cell? ⟨b, 0, none⟩ = some (.slice (some ⟨g, 0, none⟩) nn rc) ∧ (put2 z0 g (i * 2) r).cell? ⟨x, 0, none⟩ = some (.pointer (some ⟨b, 0, none⟩)) ∧ (put2 z0 g (i * 2) r).cell? ⟨y, 0, none⟩ = some (.int .i64 (i : Int)) ∧ (put2 z0 g (i * 2) r).cell? ⟨z, 0, none⟩ = some (.int .i64 r.1) ∧ (put2 z0 g (i * 2) r).cell? ⟨z, 1, none⟩ = some (.int .i64 r.2) := ⟨by have := H7.out.1.c0; rw [List.length_set, EN.out, HP.out.2.2.2.2] at this; exact this, (CX.out.1.but H7.out.2 (NO _ CX.out.2.2.2.1)).cell 0, (CX.out.2.1.but H7.out.2 (NO _ CX.out.2.2.2.2.1)).cell 0, (CX.out.2.2.1.but H7.out.2 (NO _ CX.out.2.2.2.2.2)).cell 0, (CX.out.2.2.1.but H7.out.2 (NO _ CX.out.2.2.2.2.2)).cell 1⟩
  clear NO
  refine hK.out _ (put2 z0 g (i * 2) r) hH7 (fun _ => ?_)
  clear hK K
  (try simp only [Act.put, List.setIfInBounds_toArray, List.set_cons_zero, List.set_cons_succ])
  generalize put2 z0 g (i * 2) r = v7 at H7 hH7 ⊢
  refine wpAnyH_done (by kernel_rfl) ?_ _
  go_end0
  rw [EA.out]
  exact ⟨rfl, ra, rc, m, H7.out.1, HB.out.trans (H7.out.2.mono (fun _ e => Or.inr (Or.inr (Or.inl e)))), Grown.refl _ _⟩
end Go.Proofs.Ytohfkgfjcnldaaa
