/- Package undo: Set of a key that is there. -/
import Derived.Test.YtohfkgfjcnldaaaTl
namespace Go.Proofs.Ytohfkgfjcnldaaa
open Go.RowKit
theorem Tab.putT {W : World} {g b pm : Nat} {ra : Option Addr} {rc : Nat} {ba : Option Addr} {bc : Nat} {ma : Option Addr} {mc : Nat} {m : Int → Option Nat} {L : List (Int × Int)} {U : List Value} {M : List Nat} (h : Tab W b pm ra rc ba bc ma mc m L U M) (hg : ra = some ⟨g, 0, none⟩) (i : Nat) (r : Int × Int) (hi : i < L.length) (hr : (atL L i).1 = r.1) (kr : I64 r.1) : Tab (put2 W g (i * 2) r) b pm ra rc ba bc ma mc m (L.set i r) U M ∧ But (Own ra) W (put2 W g (i * 2) r) :=
  ⟨⟨by rw [List.length_set]; exact (h.toTab0.put hg i r).1, ix_put h.ix i r hi hr, keys_put h.keys i r kr⟩, (h.toTab0.put hg i r).2⟩
set_option maxHeartbeats 2000000 in
set_option maxRecDepth 100000 in
theorem set_old (w : World) (b pm : Nat) (ra : Option Addr) (rc : Nat) (ba : Option Addr) (bc : Nat) (ma : Option Addr) (mc : Nat) (m : Int → Option Nat) (L : List (Int × Int)) (V : List Un) (M : List Nat) (h : Tab w b pm ra rc ba bc ma mc m L (V.map uv) M) (hV : ∀ u ∈ V, UnOk w b (TS b pm ra ba ma) u) (k v : Int) (hk : I64 k) (hL : L.length < 549755813888) (hl : V.length < 549755813888) (i : Nat) (hm : m k = some i) :
    Calls Try.prog 39 #[.pointer (some ⟨b, 0, none⟩), .int .i64 k, .int .i64 v] w fun e w' => e = .returned (.tuple #[]) ∧ ∃ S' V', TabU w' b S' (L.set i (k, v)) V' M ∧ But (TS b pm ra ba ma) w w' ∧ Grown (TS b pm ra ba ma) S' w ∧ Noted w.heap.size M V V' L (L.set i (k, v)) := by
  have HV : Hid (∀ u ∈ V, UnOk w b (TS b pm ra ba ma) u) := hV
  have H0 : Hid (Tab w b pm ra rc ba bc ma mc m L (V.map uv) M) := h
  have HLT : Hid (∀ j, TS b pm ra ba ma j → j < w.heap.size) := h.toTab0.lt
  obtain ⟨w1, ew⟩ : ∃ w1, w.alloc (.cells #[.pointer (some ⟨b, 0, none⟩)] 24) = w1 := ⟨_, rfl⟩
  have X1 : Hid (CBox w1 w.heap.size 24 [.pointer (some ⟨b, 0, none⟩)]) := by rw [← ew]; exact CBox.new w _ _
  have B1 : Hid (But (fun _ => False) w w1) := by rw [← ew]; exact (But.refl _ _).alloc _
  have H1 : Hid (Tab w1 b pm ra rc ba bc ma mc m L (V.map uv) M) := h.but B1.out (fun _ _ => id)
  have S1 : Hid (w1.heap.size = w.heap.size + 1) := by rw [← ew]; show _ = _; simp
  have hk1 := H1.out.pl.look k hk
  have c1 := H1.out.c1
  obtain ⟨bx, ex⟩ : ∃ bx, w.heap.size = bx := ⟨_, rfl⟩
  rw [ex] at X1
  obtain ⟨by_, ey⟩ : ∃ by_, w1.heap.size = by_ := ⟨_, rfl⟩
  have EXY : Hid (w.heap.size = bx ∧ by_ = bx + 1) := ⟨ex, by have := S1.out; omega⟩
  have x0 : w1.cell? ⟨bx, 0, none⟩ = some (.pointer (some ⟨b, 0, none⟩)) := X1.out.cell 0
  rw [hm] at hk1
  simp only [Option.getD_some, Option.isSome_some] at hk1
  obtain ⟨il, ik⟩ := h.ix.some hm
  obtain ⟨g, eg, _⟩ := h.row (atL_get il)
  obtain ⟨p, ep⟩ : ∃ p, atL L i = p := ⟨_, rfl⟩
  have HP : Hid (L[i]? = some p ∧ p.1 = k ∧ I64 k ∧ L.length < 549755813888 ∧ V.length < 549755813888 ∧ ra = some ⟨g, 0, none⟩ ∧ i < L.length ∧ atL L i = p) := ⟨by rw [← ep]; exact atL_get il, by rw [← ep]; exact ik, hk, hL, hl, eg, il, ep⟩
  obtain ⟨nn, en⟩ : ∃ nn, L.length = nn := ⟨_, rfl⟩
  have EN : Hid (L.length = nn) := en
  have nX : (nn : Int) < 549755813888 := by omega
  have iI : (i : Int) < (nn : Int) := by omega
  clear h hV hm hL hl hk il ik eg ep en
  go_enter Try.func39, Try.ntmps39
  go_upto_region 6 with fail
  have X2 : Hid (CBox (w1.alloc (.cells #[.int .i64 (i : Int)] 3)) bx 24 [.pointer (some ⟨b, 0, none⟩)]) := X1.out.but (S := fun _ => False) ((But.refl _ _).alloc _) id
  have Y2 : Hid (CBox (w1.alloc (.cells #[.int .i64 (i : Int)] 3)) w1.heap.size 3 [.int .i64 (i : Int)]) := CBox.new w1 _ _
  have B2 : Hid (But (fun _ => False) w (w1.alloc (.cells #[.int .i64 (i : Int)] 3))) := B1.out.alloc _
  have H2 : Hid (Tab (w1.alloc (.cells #[.int .i64 (i : Int)] 3)) b pm ra rc ba bc ma mc m L (V.map uv) M) := H0.out.but B2.out (fun _ _ => id)
  rw [ey] at Y2
  generalize w1.alloc (.cells #[.int .i64 (i : Int)] 3) = v2 at X2 Y2 B2 H2 ⊢
  clear X1 B1 H1 ew S1 hk1 c1 ex x0 ey
  have NT : Hid (¬ TS b pm ra ba ma bx ∧ ¬ TS b pm ra ba ma by_ ∧ bx ≠ by_ ∧ w.heap.size ≤ by_) := ⟨fun e => by have := HLT.out _ e; have := EXY.out; omega, fun e => by have := HLT.out _ e; have := EXY.out; omega, by have := EXY.out; omega, by have := EXY.out; omega⟩
  have HD : Hid (Tab v2.drew b pm ra rc ba bc ma mc m L (V.map uv) M) := H2.out.but (S := fun _ => False) ((But.refl _ _).drew) (fun _ _ => id)
  have XD : Hid (CBox v2.drew bx 24 [.pointer (some ⟨b, 0, none⟩)] ∧ CBox v2.drew by_ 3 [.int .i64 (i : Int)] ∧ But (fun _ => False) w v2.drew) := ⟨X2.out, Y2.out, B2.out.drew⟩
  have hh : v2.drew.cell? ⟨b, 0, none⟩ = some (.slice (some ⟨g, 0, none⟩) nn rc) ∧ v2.drew.cell? ⟨bx, 0, none⟩ = some (.pointer (some ⟨b, 0, none⟩)) ∧ v2.drew.cell? ⟨by_, 0, none⟩ = some (.int .i64 (i : Int)) ∧ v2.drew.cell? ⟨g, i * 2, none⟩ = some (.int .i64 p.1) ∧ v2.drew.cell? ⟨g, i * 2 + 1, none⟩ = some (.int .i64 p.2) := ⟨by have := HD.out.c0; rw [EN.out, HP.out.2.2.2.2.2.1] at this; exact this, XD.out.1.cell 0, XD.out.2.1.cell 0, (HD.out.rowg HP.out.2.2.2.2.2.1 HP.out.1).1, (HD.out.rowg HP.out.2.2.2.2.2.1 HP.out.1).2.1⟩
  refine wp_region_held_drew (S := fun V' => V'.cell? ⟨b, 0, none⟩ = some (.slice (some ⟨g, 0, none⟩) nn rc) ∧ V'.cell? ⟨bx, 0, none⟩ = some (.pointer (some ⟨b, 0, none⟩)) ∧ V'.cell? ⟨by_, 0, none⟩ = some (.int .i64 (i : Int)) ∧ V'.cell? ⟨g, i * 2, none⟩ = some (.int .i64 p.1) ∧ V'.cell? ⟨g, i * 2 + 1, none⟩ = some (.int .i64 p.2)) (by kernel_rfl) hh (fun hHeld => ?_)
  generalize v2.drew = z0 at hHeld HD XD ⊢
  clear hh X2 Y2 B2 H2
  refine wpAnyH_take (i := 0) (v := .pointer (some ⟨b, 0, none⟩)) ov0 (by kernel_rfl) (by kernel_rfl) (by kernel_rfl) (fun _ _ _ h => h) (Or.inl ⟨by rfl, fun V' hS => ?_⟩) hHeld ?_
  · obtain ⟨s0, s1, s2, s3, s4⟩ := hS
    go_simp
  simp only [Act.put, List.setIfInBounds_toArray, List.set_cons_zero, List.set_cons_succ]
  refine wpAnyH_take (i := 1) (v := .pointer (some ⟨b, 0, none⟩)) ov1 (by kernel_rfl) (by kernel_rfl) (by kernel_rfl) (fun _ _ _ h => h) (Or.inl ⟨by rfl, fun V' hS => ?_⟩) hHeld ?_
  · go_simp
  simp only [Act.put, List.setIfInBounds_toArray, List.set_cons_zero, List.set_cons_succ]
  refine wpAnyH_take (i := 2) (v := .pointer (some ⟨b, 0, none⟩)) ov2 (by kernel_rfl) (by kernel_rfl) (by kernel_rfl) (fun _ _ _ h => h) (Or.inl ⟨by rfl, fun V' hS => ?_⟩) hHeld ?_
  · go_simp
  simp only [Act.put, List.setIfInBounds_toArray, List.set_cons_zero, List.set_cons_succ]
  refine wpAnyH_take (i := 3) (v := .slice (some ⟨g, 0, none⟩) nn rc) ov3 (by kernel_rfl) (by kernel_rfl) (by kernel_rfl) (fun _ _ _ h => h) (Or.inl ⟨by rfl, fun V' hS => ?_⟩) hHeld ?_
  · obtain ⟨s0, s1, s2, s3, s4⟩ := hS
    go_simp
  simp only [Act.put, List.setIfInBounds_toArray, List.set_cons_zero, List.set_cons_succ]
  refine wpAnyH_take (i := 4) (v := .int .i64 (i : Int)) ov4 (by kernel_rfl) (by kernel_rfl) (by kernel_rfl) (fun _ _ _ h => h) (Or.inl ⟨by rfl, fun V' hS => ?_⟩) hHeld ?_
  · obtain ⟨s0, s1, s2, s3, s4⟩ := hS
    go_simp
  simp only [Act.put, List.setIfInBounds_toArray, List.set_cons_zero, List.set_cons_succ]
  refine wpAnyH_take (i := 5) (v := .pointer (some ⟨g, i * 2, none⟩)) ov5 (by kernel_rfl) (by kernel_rfl) (by kernel_rfl) (fun _ _ _ h => h) (Or.inl ⟨by rfl, fun V' hS => ?_⟩) hHeld ?_
  · go_simp
  simp only [Act.put, List.setIfInBounds_toArray, List.set_cons_zero, List.set_cons_succ]
  refine wpAnyH_take (i := 6) (v := .agg #[.int .i64 p.1, .int .i64 p.2]) ov6 (by kernel_rfl) (by kernel_rfl) (by kernel_rfl) (fun _ _ _ h => h) (Or.inl ⟨by rfl, fun V' hS => ?_⟩) hHeld ?_
  · obtain ⟨s0, s1, s2, s3, s4⟩ := hS
    go_simp
  simp only [Act.put, List.setIfInBounds_toArray, List.set_cons_zero, List.set_cons_succ]
  refine wpAnyH_ready (rs := [7]) (by kernel_rfl) (by simp) ?_
  refine AllReadyH.cons ov7 (fun K hK => ?_) AllReadyH.nil
  rw [if_pos (by rfl)]
  go_simp
  have A3 : Hid (CBox (z0.alloc (.cells #[.int .i64 0, .int .i64 0] 112)) z0.heap.size 112 [.int .i64 0, .int .i64 0] ∧ But (fun _ => False) z0 (z0.alloc (.cells #[.int .i64 0, .int .i64 0] 112)) ∧ w.heap.size ≤ z0.heap.size ∧ bx < z0.heap.size ∧ by_ < z0.heap.size ∧ ¬ TS b pm ra ba ma z0.heap.size) := ⟨CBox.new z0 _ _, (But.refl _ _).alloc _, XD.out.2.2.size, XD.out.1.lt, XD.out.2.1.lt, fun e => by have := HD.out.toTab0.lt _ e; omega⟩
  have hH3 : (z0.alloc (.cells #[.int .i64 0, .int .i64 0] 112)).cell? ⟨b, 0, none⟩ = some (.slice (some ⟨g, 0, none⟩) nn rc) ∧ (z0.alloc (.cells #[.int .i64 0, .int .i64 0] 112)).cell? ⟨bx, 0, none⟩ = some (.pointer (some ⟨b, 0, none⟩)) ∧ (z0.alloc (.cells #[.int .i64 0, .int .i64 0] 112)).cell? ⟨by_, 0, none⟩ = some (.int .i64 (i : Int)) ∧ (z0.alloc (.cells #[.int .i64 0, .int .i64 0] 112)).cell? ⟨g, i * 2, none⟩ = some (.int .i64 p.1) ∧ (z0.alloc (.cells #[.int .i64 0, .int .i64 0] 112)).cell? ⟨g, i * 2 + 1, none⟩ = some (.int .i64 p.2) := ⟨cell_alloc hHeld.1, cell_alloc hHeld.2.1, cell_alloc hHeld.2.2.1, cell_alloc hHeld.2.2.2.1, cell_alloc hHeld.2.2.2.2⟩
  refine hK.out _ (z0.alloc (.cells #[.int .i64 0, .int .i64 0] 112)) hH3 (fun _ => ?_)
  clear hK K
  (try simp only [Act.put, List.setIfInBounds_toArray, List.set_cons_zero, List.set_cons_succ])
  generalize z0.alloc (.cells #[.int .i64 0, .int .i64 0] 112) = z1 at A3 hH3 ⊢
  obtain ⟨bz, ez⟩ : ∃ bz, z0.heap.size = bz := ⟨_, rfl⟩
  rw [ez] at A3 ⊢
  have EZ : Hid (z0.heap.size = bz) := ez
  clear ez
  refine wpAnyH_ready (rs := [8]) (by kernel_rfl) (by simp) ?_
  refine AllReadyH.cons ov8 (fun K hK => ?_) AllReadyH.nil
  rw [if_pos (by rfl)]
  have k0 : z1.cell? ⟨bz, 0, none⟩ = some (.int .i64 0) := A3.out.1.cell 0
  have k1 : z1.cell? ⟨bz, 1, none⟩ = some (.int .i64 0) := A3.out.1.cell 1
  have f0 : z1.frozen? ⟨bz, 0, none⟩ = false := A3.out.1.frozen 0
  have f1 : z1.frozen? ⟨bz, 1, none⟩ = false := A3.out.1.frozen 1
  go_simp
  clear k0 k1 f0 f1
  have A4 : Hid (CBox (put2 z1 bz 0 p) bz 112 [.int .i64 p.1, .int .i64 p.2] ∧ But (fun _ => False) w (put2 z1 bz 0 p)) := ⟨(A3.out.1.set 0 _).set 1 _, (((XD.out.2.2.trans A3.out.2.1)).setCell _ _ (Or.inr A3.out.2.2.1)).setCell _ _ (Or.inr A3.out.2.2.1)⟩
  have Q4 : Hid (But (fun k => k = bz) z1 (put2 z1 bz 0 p)) := ((But.refl (fun k => k = bz) z1).setCell ⟨bz, 0, none⟩ (.int .i64 p.1) (Or.inl rfl)).setCell ⟨bz, 1, none⟩ (.int .i64 p.2) (Or.inl rfl)
  have H4 : Hid (Tab (put2 z1 bz 0 p) b pm ra rc ba bc ma mc m L (V.map uv) M) := H0.out.but A4.out.2 (fun _ _ => id)
  have X4 : Hid (CBox (put2 z1 bz 0 p) bx 24 [.pointer (some ⟨b, 0, none⟩)] ∧ CBox (put2 z1 bz 0 p) by_ 3 [.int .i64 (i : Int)]) := ⟨(XD.out.1.but A3.out.2.1 id).but Q4.out (by have := A3.out.2.2.2.1; show ¬ bx = bz; omega), (XD.out.2.1.but A3.out.2.1 id).but Q4.out (by have := A3.out.2.2.2.2.1; show ¬ by_ = bz; omega)⟩
  have hH4 : (put2 z1 bz 0 p).cell? ⟨b, 0, none⟩ = some (.slice (some ⟨g, 0, none⟩) nn rc) ∧ (put2 z1 bz 0 p).cell? ⟨bx, 0, none⟩ = some (.pointer (some ⟨b, 0, none⟩)) ∧ (put2 z1 bz 0 p).cell? ⟨by_, 0, none⟩ = some (.int .i64 (i : Int)) ∧ (put2 z1 bz 0 p).cell? ⟨g, i * 2, none⟩ = some (.int .i64 p.1) ∧ (put2 z1 bz 0 p).cell? ⟨g, i * 2 + 1, none⟩ = some (.int .i64 p.2) := ⟨by have := H4.out.c0; rw [EN.out, HP.out.2.2.2.2.2.1] at this; exact this, X4.out.1.cell 0, X4.out.2.cell 0, (H4.out.rowg HP.out.2.2.2.2.2.1 HP.out.1).1, (H4.out.rowg HP.out.2.2.2.2.2.1 HP.out.1).2.1⟩
  refine hK.out _ (put2 z1 bz 0 p) hH4 (fun _ => ?_)
  clear hK K
  (try simp only [Act.put, List.setIfInBounds_toArray, List.set_cons_zero, List.set_cons_succ])
  generalize put2 z1 bz 0 p = v4 at A4 H4 X4 hH4 ⊢
  refine wpAnyH_done (by kernel_rfl) ?_ _
  have NZ : Hid (¬ TS b pm ra ba ma bz) := by rw [← EZ.out]; exact fun e => A3.out.2.2.2.2.2 (EZ.out ▸ e)
  have NZ2 : Hid (w.heap.size ≤ bz) := A3.out.2.2.1
  clear hHeld hH3 hH4 A3 Q4 HD XD
  go_upto_region 7 with fail
  have H6 : Hid (Tab v4.drew b pm ra rc ba bc ma mc m L (V.map uv) M) := H4.out.but (S := fun _ => False) ((But.refl _ _).drew) (fun _ _ => id)
  have X6 : Hid (CBox v4.drew bx 24 [.pointer (some ⟨b, 0, none⟩)] ∧ CBox v4.drew by_ 3 [.int .i64 (i : Int)] ∧ CBox v4.drew bz 112 [.int .i64 p.1, .int .i64 p.2] ∧ But (fun _ => False) w v4.drew) := ⟨X4.out.1, X4.out.2, A4.out.1, A4.out.2.drew⟩
  have hh7 : v4.drew.cell? ⟨b, 0, none⟩ = some (.slice (some ⟨g, 0, none⟩) nn rc) ∧ v4.drew.cell? ⟨bx, 0, none⟩ = some (.pointer (some ⟨b, 0, none⟩)) ∧ v4.drew.cell? ⟨by_, 0, none⟩ = some (.int .i64 (i : Int)) := ⟨by have := H6.out.c0; rw [EN.out, HP.out.2.2.2.2.2.1] at this; exact this, X6.out.1.cell 0, X6.out.2.1.cell 0⟩
  clear H4 X4 A4
  refine wp_region_held_drew (S := fun V' => V'.cell? ⟨b, 0, none⟩ = some (.slice (some ⟨g, 0, none⟩) nn rc) ∧ V'.cell? ⟨bx, 0, none⟩ = some (.pointer (some ⟨b, 0, none⟩)) ∧ V'.cell? ⟨by_, 0, none⟩ = some (.int .i64 (i : Int))) (by kernel_rfl) hh7 (fun hHeld => ?_)
  generalize v4.drew = z5 at hHeld H6 X6 ⊢
  clear hh7
  refine wpAnyH_take (i := 0) (v := .pointer (some ⟨b, 0, none⟩)) ov0 (by kernel_rfl) (by kernel_rfl) (by kernel_rfl) (fun _ _ _ h => h) (Or.inl ⟨by rfl, fun V' hS => ?_⟩) hHeld ?_
  · obtain ⟨s0, s1, s2⟩ := hS
    go_simp
  simp only [Act.put, List.setIfInBounds_toArray, List.set_cons_zero, List.set_cons_succ]
  refine wpAnyH_take (i := 1) (v := .pointer (some ⟨b, 0, none⟩)) ov1 (by kernel_rfl) (by kernel_rfl) (by kernel_rfl) (fun _ _ _ h => h) (Or.inl ⟨by rfl, fun V' hS => ?_⟩) hHeld ?_
  · go_simp
  simp only [Act.put, List.setIfInBounds_toArray, List.set_cons_zero, List.set_cons_succ]
  refine wpAnyH_take (i := 2) (v := .pointer (some ⟨b, 0, none⟩)) ov2 (by kernel_rfl) (by kernel_rfl) (by kernel_rfl) (fun _ _ _ h => h) (Or.inl ⟨by rfl, fun V' hS => ?_⟩) hHeld ?_
  · go_simp
  simp only [Act.put, List.setIfInBounds_toArray, List.set_cons_zero, List.set_cons_succ]
  refine wpAnyH_take (i := 3) (v := .slice (some ⟨g, 0, none⟩) nn rc) ov3 (by kernel_rfl) (by kernel_rfl) (by kernel_rfl) (fun _ _ _ h => h) (Or.inl ⟨by rfl, fun V' hS => ?_⟩) hHeld ?_
  · obtain ⟨s0, s1, s2⟩ := hS
    go_simp
  simp only [Act.put, List.setIfInBounds_toArray, List.set_cons_zero, List.set_cons_succ]
  refine wpAnyH_take (i := 4) (v := .int .i64 (i : Int)) ov4 (by kernel_rfl) (by kernel_rfl) (by kernel_rfl) (fun _ _ _ h => h) (Or.inl ⟨by rfl, fun V' hS => ?_⟩) hHeld ?_
  · obtain ⟨s0, s1, s2⟩ := hS
    go_simp
  simp only [Act.put, List.setIfInBounds_toArray, List.set_cons_zero, List.set_cons_succ]
  refine wpAnyH_take (i := 5) (v := .int .i64 k) ov5 (by kernel_rfl) (by kernel_rfl) (by kernel_rfl) (fun _ _ _ h => h) (Or.inl ⟨by rfl, fun V' hS => ?_⟩) hHeld ?_
  · go_simp
  simp only [Act.put, List.setIfInBounds_toArray, List.set_cons_zero, List.set_cons_succ]
  refine wpAnyH_take (i := 6) (v := .int .i64 v) ov6 (by kernel_rfl) (by kernel_rfl) (by kernel_rfl) (fun _ _ _ h => h) (Or.inl ⟨by rfl, fun V' hS => ?_⟩) hHeld ?_
  · go_simp
  simp only [Act.put, List.setIfInBounds_toArray, List.set_cons_zero, List.set_cons_succ]
  refine wpAnyH_take (i := 7) (v := .agg #[.int .i64 k, .int .i64 v]) ov7 (by kernel_rfl) (by kernel_rfl) (by kernel_rfl) (fun _ _ _ h => h) (Or.inl ⟨by rfl, fun V' hS => ?_⟩) hHeld ?_
  · go_simp
  simp only [Act.put, List.setIfInBounds_toArray, List.set_cons_zero, List.set_cons_succ]
  refine wpAnyH_take (i := 8) (v := .pointer (some ⟨g, i * 2, none⟩)) ov8 (by kernel_rfl) (by kernel_rfl) (by kernel_rfl) (fun _ _ _ h => h) (Or.inl ⟨by rfl, fun V' hS => ?_⟩) hHeld ?_
  · go_simp
  simp only [Act.put, List.setIfInBounds_toArray, List.set_cons_zero, List.set_cons_succ]
  refine wpAnyH_ready (rs := [9]) (by kernel_rfl) (by simp) ?_
  refine AllReadyH.cons ov9 (fun K hK => ?_) AllReadyH.nil
  rw [if_pos (by rfl)]
  obtain ⟨d0, d1, f0, f1⟩ := H6.out.rowg HP.out.2.2.2.2.2.1 HP.out.1
  go_simp
  clear d0 d1 f0 f1
  have H7 : Hid (Tab (put2 z5 g (i * 2) (k, v)) b pm ra rc ba bc ma mc m (L.set i (k, v)) (V.map uv) M ∧ But (Own ra) z5 (put2 z5 g (i * 2) (k, v))) := H6.out.putT HP.out.2.2.2.2.2.1 i (k, v) HP.out.2.2.2.2.2.2.1 (by rw [HP.out.2.2.2.2.2.2.2]; exact HP.out.2.1) HP.out.2.2.1
  have X7 : Hid (CBox (put2 z5 g (i * 2) (k, v)) bx 24 [.pointer (some ⟨b, 0, none⟩)] ∧ CBox (put2 z5 g (i * 2) (k, v)) by_ 3 [.int .i64 (i : Int)] ∧ CBox (put2 z5 g (i * 2) (k, v)) bz 112 [.int .i64 p.1, .int .i64 p.2]) := ⟨X6.out.1.but H7.out.2 (fun e => NT.out.1 (Or.inr (Or.inr (Or.inl e)))), X6.out.2.1.but H7.out.2 (fun e => NT.out.2.1 (Or.inr (Or.inr (Or.inl e)))), X6.out.2.2.1.but H7.out.2 (fun e => NZ.out (Or.inr (Or.inr (Or.inl e))))⟩
  have B7 : Hid (But (TS b pm ra ba ma) w (put2 z5 g (i * 2) (k, v))) := (X6.out.2.2.2.mono (fun _ e => e.elim)).trans (H7.out.2.mono (fun _ e => Or.inr (Or.inr (Or.inl e))))
  have W7 : Hid (∀ u ∈ V, UnOk (put2 z5 g (i * 2) (k, v)) b (TS b pm ra ba ma) u) := fun u hu => ((HV.out u hu).kept X6.out.2.2.2 (fun _ e => e.elim)).but (H7.out.2.mono (fun _ e => Or.inr (Or.inr (Or.inl e)))) (Grown.refl _ _)
  have hH7 : (put2 z5 g (i * 2) (k, v)).cell? ⟨b, 0, none⟩ = some (.slice (some ⟨g, 0, none⟩) nn rc) ∧ (put2 z5 g (i * 2) (k, v)).cell? ⟨bx, 0, none⟩ = some (.pointer (some ⟨b, 0, none⟩)) ∧ (put2 z5 g (i * 2) (k, v)).cell? ⟨by_, 0, none⟩ = some (.int .i64 (i : Int)) := ⟨by have := H7.out.1.c0; rw [List.length_set, EN.out, HP.out.2.2.2.2.2.1] at this; exact this, X7.out.1.cell 0, X7.out.2.1.cell 0⟩
  refine hK.out _ (put2 z5 g (i * 2) (k, v)) hH7 (fun _ => ?_)
  clear hK K
  (try simp only [Act.put, List.setIfInBounds_toArray, List.set_cons_zero, List.set_cons_succ])
  generalize put2 z5 g (i * 2) (k, v) = v7 at H7 X7 B7 W7 hH7 ⊢
  refine wpAnyH_done (by kernel_rfl) ?_ _
  have x1 : v7.cell? ⟨bx, 0, none⟩ = some (.pointer (some ⟨b, 0, none⟩)) := X7.out.1.cell 0
  have NO : Hid (Calls Try.prog 71 #[.pointer (some ⟨b, 0, none⟩), .func (.func 74) #[] #[.pointer (some ⟨bz, 0, none⟩), .pointer (some ⟨bx, 0, none⟩), .pointer (some ⟨by_, 0, none⟩)]] v7 fun e w' => e = .returned (.tuple #[]) ∧ ∃ S' V', TabU w' b S' (L.set i (k, v)) V' M ∧ But (TS b pm ra ba ma) v7 w' ∧ Grown (TS b pm ra ba ma) S' v7 ∧ Noted w.heap.size M V V' L (L.set i (k, v))) := noteU v7 b pm ra rc ba bc ma mc m (L.set i (k, v)) V M H7.out.1 W7.out HP.out.2.2.2.2.1 ⟨1, i, p, bx, by_, bz⟩ ⟨X7.out.1, X7.out.2.1, fun _ => X7.out.2.2, NT.out.1, NT.out.2.1, fun _ => NZ.out⟩ L (by unfold okU; rw [if_neg (by show ¬ (1 : Nat) = 0; decide), if_pos rfl]; exact ⟨by rw [List.length_set]; exact HP.out.2.2.2.2.2.2.1, by rw [atL_set_same _ _ _ HP.out.2.2.2.2.2.2.1]; exact HP.out.2.1.symm, by rw [HP.out.2.1]; exact HP.out.2.2.1⟩) (by unfold apU; rw [if_neg (by show ¬ (1 : Nat) = 0; decide), if_pos rfl]; have := set_set L i (k, v) HP.out.2.2.2.2.2.2.1; rw [HP.out.2.2.2.2.2.2.2] at this; exact this) w.heap.size ⟨by have := EXY.out; show w.heap.size ≤ bx; omega, by have := EXY.out; show w.heap.size ≤ by_; omega, fun _ => NZ2.out⟩
  clear hHeld hH7 X7 W7 HV H6 X6
  go_wp2_with (go_at_call 71; refine (NO.out).mono ?_; rintro e v8 ⟨rfl, S', V', q1, q2, q3, q4⟩)
  go_end0
  exact ⟨rfl, S', V', q1, B7.out.trans q2, (Grown.refl _ _).then B7.out.size q3, q4⟩
end Go.Proofs.Ytohfkgfjcnldaaa
