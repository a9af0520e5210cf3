/- Package undo: swap. -/
import Derived.Test.YtohfkgfjcnldaaaTc
import Derived.Test.YtohfkgfjcnldaaaUo
import Derived.Deep.RegionHeld3
namespace Go.Proofs.Ytohfkgfjcnldaaa
open Go.RowKit
/-- two numbers are laid at a place -/
def put2 (W : World) (g o : Nat) (p : Int × Int) : World := (W.setCell ⟨g, o, none⟩ (.int .i64 p.1)).setCell ⟨g, o + 1, none⟩ (.int .i64 p.2)
theorem row_set2 {W : World} {g cap n : Nat} {L : List (Int × Int)} (h : W.ownsRow 0 112 2 (.slice (some ⟨g, 0, none⟩) n cap) n (rowsD L)) (i : Nat) (p : Int × Int) (hn : n = L.length) : (put2 W g (i * 2) p).ownsRow 0 112 2 (.slice (some ⟨g, 0, none⟩) n cap) n (rowsD (L.set i p)) := by
  obtain ⟨_, _, cur, h2, h3, h4, h5, h6⟩ := owns_row_some h
  dsimp only at h2
  refine ⟨by rw [rowsD_len, List.length_set, hn], Or.inr ⟨g, cap, (cur.setIfInBounds (i * 2) (.int .i64 p.1)).setIfInBounds (i * 2 + 1) (.int .i64 p.2), rfl, Nat.zero_le _, ?_, h3, h4, by simp [h5], ?_⟩⟩
  · unfold put2
    simp [World.setCell, Array.getElem?_modify, h2]
  · rw [Array.toList_setIfInBounds, Array.toList_setIfInBounds, List.take_set, List.take_set, h6, rowsD_set]
theorem Tab0.rowg {W : World} {g : Nat} {b pm : Nat} {ra : Option Addr} {rc : Nat} {ba : Option Addr} {bc : Nat} {ma : Option Addr} {mc n : Nat} {m : Int → Option Nat} {L : List (Int × Int)} {U : List Value} {M : List Nat} (h : Tab0 W b pm ra rc ba bc ma mc n m L U M) (hg : ra = some ⟨g, 0, none⟩) {i : Nat} {p : Int × Int} (hi : L[i]? = some p) : W.cell? ⟨g, i * 2, none⟩ = some (.int .i64 p.1) ∧ W.cell? ⟨g, i * 2 + 1, none⟩ = some (.int .i64 p.2) ∧ W.frozen? ⟨g, i * 2, none⟩ = false ∧ W.frozen? ⟨g, i * 2 + 1, none⟩ = false := by
  obtain ⟨g', e, r⟩ := h.row hi
  rw [hg] at e
  injection e with e
  injection e with e
  subst e
  exact r
theorem Tab0.put {W : World} {g : Nat} {b pm : Nat} {ra : Option Addr} {rc : Nat} {ba : Option Addr} {bc : Nat} {ma : Option Addr} {mc n : Nat} {m : Int → Option Nat} {L : List (Int × Int)} {U : List Value} {M : List Nat} (h : Tab0 W b pm ra rc ba bc ma mc n m L U M) (hg : ra = some ⟨g, 0, none⟩) (i : Nat) (p : Int × Int) : Tab0 (put2 W g (i * 2) p) b pm ra rc ba bc ma mc n m (L.set i p) U M ∧ But (Own ra) W (put2 W g (i * 2) p) := by
  have hB : But (Own ra) W (put2 W g (i * 2) p) := ((But.refl _ _).setCell _ _ (Or.inl ⟨_, hg, rfl⟩)).setCell _ _ (Or.inl ⟨_, hg, rfl⟩)
  refine ⟨⟨?_, ?_, row_new h.backs hB ?_, row_new h.marks hB ?_, h.pl.block (hB.block _ h.pl.lt ?_)⟩, hB⟩
  · rw [List.length_set]
    exact h.box.but hB (fun e => row_box h.rows h.box (by decide) e rfl)
  · rw [List.length_set]
    have := h.rows
    subst hg
    exact row_set2 this i p rfl
  · exact fun j hj e => rows_apart h.backs h.rows (by decide) hj e
  · exact fun j hj e => rows_apart h.marks h.rows (by decide) hj e
  · exact fun e => row_map h.rows h.pl e rfl
theorem Tab0.upMap {w W : World} {n' : Nat} {m' : Int → Option Nat} {b pm : Nat} {ra : Option Addr} {rc : Nat} {ba : Option Addr} {bc : Nat} {ma : Option Addr} {mc n : Nat} {m : Int → Option Nat} {L : List (Int × Int)} {U : List Value} {M : List Nat} (h : Tab0 w b pm ra rc ba bc ma mc n m L U M) (hp : PM W pm n' m') (hg : w.grownBy W (some pm)) : Tab0 W b pm ra rc ba bc ma mc n' m' L U M ∧ But (TS b pm ra ba ma) w W := by
  have hB : But (fun k => k = pm) w W := grown_but hg (fun k e => by injection e with e; exact e.symm)
  refine ⟨⟨h.box.but hB h.bpm, row_new h.rows hB ?_, row_new h.backs hB ?_, row_new h.marks hB ?_, hp⟩, hB.mono (fun i hi => Or.inr (Or.inl hi))⟩
  · exact fun j hj e => row_map h.rows h.pl hj e
  · exact fun j hj e => row_map h.backs h.pl hj e
  · exact fun j hj e => row_map h.marks h.pl hj e
theorem Tab0.drew {W : World} {b pm : Nat} {ra : Option Addr} {rc : Nat} {ba : Option Addr} {bc : Nat} {ma : Option Addr} {mc n : Nat} {m : Int → Option Nat} {L : List (Int × Int)} {U : List Value} {M : List Nat} (h : Tab0 W b pm ra rc ba bc ma mc n m L U M) : Tab0 W.drew b pm ra rc ba bc ma mc n m L U M := h.but (S := fun _ => False) ((But.refl _ _).drew) (fun _ _ => id)
def stepN (n : Nat) (m : Int → Option Nat) (k : Int) : Nat := if (m k).isSome then n else n + 1
theorem stepN_le (n : Nat) (m : Int → Option Nat) (k : Int) : stepN n m k ≤ n + 1 := by unfold stepN; split <;> omega
/-- two rows have changed places -/
def swapL (L : List (Int × Int)) (i j : Nat) (p q : Int × Int) : List (Int × Int) := (L.set i q).set j p
theorem swapL_len (L : List (Int × Int)) (i j : Nat) (p q : Int × Int) : (swapL L i j p q).length = L.length := by unfold swapL; rw [List.length_set, List.length_set]
theorem swap_at2 {L : List (Int × Int)} {i j : Nat} {p q : Int × Int} (h : j < L.length) : (swapL L i j p q)[j]? = some p := by unfold swapL; exact List.getElem?_set_self (by rw [List.length_set]; exact h)
theorem swap_at1 {L : List (Int × Int)} {i j : Nat} {p q : Int × Int} (h : L[i]? = some p) (k : L[j]? = some q) : (swapL L i j p q)[i]? = some q := by
  have il := (List.getElem?_eq_some_iff.1 h).1
  by_cases e : j = i
  · subst e
    rw [swap_at2 il]
    rw [h] at k
    exact k
  · unfold swapL
    rw [List.getElem?_set_ne e]
    exact List.getElem?_set_self il
set_option maxHeartbeats 2000000 in
set_option maxRecDepth 100000 in
theorem swap_is (w : World) (b pm : Nat) (ra : Option Addr) (rc : Nat) (ba : Option Addr) (bc : Nat) (ma : Option Addr) (mc n : Nat) (m : Int → Option Nat) (L : List (Int × Int)) (U : List Value) (M : List Nat) (h : Tab0 w b pm ra rc ba bc ma mc n m L U M) (i j : Nat) (p q : Int × Int) (hp : L[i]? = some p) (hq : L[j]? = some q) (kp : I64 p.1) (kq : I64 q.1) (hL : L.length < 1099511627776) (hn : n < 1099511627776) :
    Calls Try.prog 88 #[.pointer (some ⟨b, 0, none⟩), .int .i64 (i : Int), .int .i64 (j : Int)] w fun e w' => e = .returned (.tuple #[]) ∧ Tab0 w' b pm ra rc ba bc ma mc (stepN (stepN n m q.1) (upd m q.1 (some i)) p.1) (upd (upd m q.1 (some i)) p.1 (some j)) (swapL L i j p q) U M ∧ But (TS b pm ra ba ma) w w' := by
  obtain ⟨g, eg, _⟩ := h.row hp
  have il : i < L.length := (List.getElem?_eq_some_iff.1 hp).1
  have jl : j < L.length := (List.getElem?_eq_some_iff.1 hq).1
  have iI : (i : Int) < (L.length : Int) := by omega
  have jI : (j : Int) < (L.length : Int) := by omega
  have lX : (L.length : Int) ≤ 1099511627776 := by omega
  have HP : Hid (L[i]? = some p ∧ L[j]? = some q ∧ i < L.length ∧ j < L.length ∧ ra = some ⟨g, 0, none⟩ ∧ I64 p.1 ∧ I64 q.1 ∧ n < 1099511627776 ∧ L.length < 1099511627776) := ⟨hp, hq, il, jl, eg, kp, kq, hn, hL⟩
  have c0 : w.drew.cell? ⟨b, 0, none⟩ = some (.slice (some ⟨g, 0, none⟩) L.length rc) := by rw [← eg]; exact h.c0
  have HZ : Hid (Tab0 w.drew b pm ra rc ba bc ma mc n m L U M) := h.drew
  have HY : Hid (But (TS b pm ra ba ma) w w.drew) := (But.refl _ _).drew
  obtain ⟨nn, en⟩ : ∃ nn, L.length = nn := ⟨_, rfl⟩
  have EN : Hid (L.length = nn) := en
  rw [en] at iI jI lX c0
  clear h hp hq il jl eg kp kq hn hL en
  go_enter Try.func88, Try.ntmps88
  go_upto_region 0 with fail
  refine wp_region_held_drew (S := fun V' => V'.cell? ⟨b, 0, none⟩ = some (.slice (some ⟨g, 0, none⟩) nn rc)) (by kernel_rfl) c0 (fun hHeld => ?_)
  generalize w.drew = z0 at hHeld HY HZ ⊢
  clear c0
  refine wpAnyH_take (i := 0) (v := .pointer (some ⟨b, 0, none⟩)) ov0 (by kernel_rfl) (by kernel_rfl) (by kernel_rfl) (fun _ _ _ h => h) (Or.inl ⟨by rfl, fun V' hS => ?_⟩) hHeld ?_
  · go_simp
  simp only [Act.put, List.setIfInBounds_toArray, List.set_cons_zero, List.set_cons_succ]
  refine wpAnyH_take (i := 1) (v := .pointer (some ⟨b, 0, none⟩)) ov1 (by kernel_rfl) (by kernel_rfl) (by kernel_rfl) (fun _ _ _ h => h) (Or.inl ⟨by rfl, fun V' hS => ?_⟩) hHeld ?_
  · go_simp
  simp only [Act.put, List.setIfInBounds_toArray, List.set_cons_zero, List.set_cons_succ]
  refine wpAnyH_take (i := 2) (v := .pointer (some ⟨b, 0, none⟩)) ov2 (by kernel_rfl) (by kernel_rfl) (by kernel_rfl) (fun _ _ _ h => h) (Or.inl ⟨by rfl, fun V' hS => ?_⟩) hHeld ?_
  · go_simp
  simp only [Act.put, List.setIfInBounds_toArray, List.set_cons_zero, List.set_cons_succ]
  refine wpAnyH_take (i := 3) (v := .slice (some ⟨g, 0, none⟩) nn rc) ov3 (by kernel_rfl) (by kernel_rfl) (by kernel_rfl) (fun _ _ _ h => h) (Or.inl ⟨by rfl, fun V' hS => ?_⟩) hHeld ?_
  · go_simp
  simp only [Act.put, List.setIfInBounds_toArray, List.set_cons_zero, List.set_cons_succ]
  refine wpAnyH_take (i := 4) (v := .int .i64 (i : Int)) ov4 (by kernel_rfl) (by kernel_rfl) (by kernel_rfl) (fun _ _ _ h => h) (Or.inl ⟨by rfl, fun V' hS => ?_⟩) hHeld ?_
  · go_simp
  simp only [Act.put, List.setIfInBounds_toArray, List.set_cons_zero, List.set_cons_succ]
  refine wpAnyH_take (i := 5) (v := .pointer (some ⟨b, 0, none⟩)) ov5 (by kernel_rfl) (by kernel_rfl) (by kernel_rfl) (fun _ _ _ h => h) (Or.inl ⟨by rfl, fun V' hS => ?_⟩) hHeld ?_
  · go_simp
  simp only [Act.put, List.setIfInBounds_toArray, List.set_cons_zero, List.set_cons_succ]
  refine wpAnyH_take (i := 6) (v := .pointer (some ⟨b, 0, none⟩)) ov6 (by kernel_rfl) (by kernel_rfl) (by kernel_rfl) (fun _ _ _ h => h) (Or.inl ⟨by rfl, fun V' hS => ?_⟩) hHeld ?_
  · go_simp
  simp only [Act.put, List.setIfInBounds_toArray, List.set_cons_zero, List.set_cons_succ]
  refine wpAnyH_take (i := 7) (v := .pointer (some ⟨b, 0, none⟩)) ov7 (by kernel_rfl) (by kernel_rfl) (by kernel_rfl) (fun _ _ _ h => h) (Or.inl ⟨by rfl, fun V' hS => ?_⟩) hHeld ?_
  · go_simp
  simp only [Act.put, List.setIfInBounds_toArray, List.set_cons_zero, List.set_cons_succ]
  refine wpAnyH_take (i := 8) (v := .slice (some ⟨g, 0, none⟩) nn rc) ov8 (by kernel_rfl) (by kernel_rfl) (by kernel_rfl) (fun _ _ _ h => h) (Or.inl ⟨by rfl, fun V' hS => ?_⟩) hHeld ?_
  · go_simp
  simp only [Act.put, List.setIfInBounds_toArray, List.set_cons_zero, List.set_cons_succ]
  refine wpAnyH_take (i := 9) (v := .int .i64 (j : Int)) ov9 (by kernel_rfl) (by kernel_rfl) (by kernel_rfl) (fun _ _ _ h => h) (Or.inl ⟨by rfl, fun V' hS => ?_⟩) hHeld ?_
  · go_simp
  simp only [Act.put, List.setIfInBounds_toArray, List.set_cons_zero, List.set_cons_succ]
  refine wpAnyH_take (i := 10) (v := .pointer (some ⟨b, 0, none⟩)) ov10 (by kernel_rfl) (by kernel_rfl) (by kernel_rfl) (fun _ _ _ h => h) (Or.inl ⟨by rfl, fun V' hS => ?_⟩) hHeld ?_
  · go_simp
  simp only [Act.put, List.setIfInBounds_toArray, List.set_cons_zero, List.set_cons_succ]
  refine wpAnyH_take (i := 11) (v := .pointer (some ⟨b, 0, none⟩)) ov11 (by kernel_rfl) (by kernel_rfl) (by kernel_rfl) (fun _ _ _ h => h) (Or.inl ⟨by rfl, fun V' hS => ?_⟩) hHeld ?_
  · go_simp
  simp only [Act.put, List.setIfInBounds_toArray, List.set_cons_zero, List.set_cons_succ]
  refine wpAnyH_take (i := 12) (v := .pointer (some ⟨b, 0, none⟩)) ov12 (by kernel_rfl) (by kernel_rfl) (by kernel_rfl) (fun _ _ _ h => h) (Or.inl ⟨by rfl, fun V' hS => ?_⟩) hHeld ?_
  · go_simp
  simp only [Act.put, List.setIfInBounds_toArray, List.set_cons_zero, List.set_cons_succ]
  refine wpAnyH_take (i := 13) (v := .slice (some ⟨g, 0, none⟩) nn rc) ov13 (by kernel_rfl) (by kernel_rfl) (by kernel_rfl) (fun _ _ _ h => h) (Or.inl ⟨by rfl, fun V' hS => ?_⟩) hHeld ?_
  · go_simp
  simp only [Act.put, List.setIfInBounds_toArray, List.set_cons_zero, List.set_cons_succ]
  refine wpAnyH_take (i := 14) (v := .int .i64 (j : Int)) ov14 (by kernel_rfl) (by kernel_rfl) (by kernel_rfl) (fun _ _ _ h => h) (Or.inl ⟨by rfl, fun V' hS => ?_⟩) hHeld ?_
  · go_simp
  simp only [Act.put, List.setIfInBounds_toArray, List.set_cons_zero, List.set_cons_succ]
  refine wpAnyH_take (i := 15) (v := .pointer (some ⟨g, j * 2, none⟩)) ov15 (by kernel_rfl) (by kernel_rfl) (by kernel_rfl) (fun _ _ _ h => h) (Or.inl ⟨by rfl, fun V' hS => ?_⟩) hHeld ?_
  · go_simp
  simp only [Act.put, List.setIfInBounds_toArray, List.set_cons_zero, List.set_cons_succ]
  refine wpAnyH_take (i := 17) (v := .pointer (some ⟨b, 0, none⟩)) ov17 (by kernel_rfl) (by kernel_rfl) (by kernel_rfl) (fun _ _ _ h => h) (Or.inl ⟨by rfl, fun V' hS => ?_⟩) hHeld ?_
  · go_simp
  simp only [Act.put, List.setIfInBounds_toArray, List.set_cons_zero, List.set_cons_succ]
  refine wpAnyH_take (i := 18) (v := .pointer (some ⟨b, 0, none⟩)) ov18 (by kernel_rfl) (by kernel_rfl) (by kernel_rfl) (fun _ _ _ h => h) (Or.inl ⟨by rfl, fun V' hS => ?_⟩) hHeld ?_
  · go_simp
  simp only [Act.put, List.setIfInBounds_toArray, List.set_cons_zero, List.set_cons_succ]
  refine wpAnyH_take (i := 19) (v := .pointer (some ⟨b, 0, none⟩)) ov19 (by kernel_rfl) (by kernel_rfl) (by kernel_rfl) (fun _ _ _ h => h) (Or.inl ⟨by rfl, fun V' hS => ?_⟩) hHeld ?_
  · go_simp
  simp only [Act.put, List.setIfInBounds_toArray, List.set_cons_zero, List.set_cons_succ]
  refine wpAnyH_take (i := 20) (v := .slice (some ⟨g, 0, none⟩) nn rc) ov20 (by kernel_rfl) (by kernel_rfl) (by kernel_rfl) (fun _ _ _ h => h) (Or.inl ⟨by rfl, fun V' hS => ?_⟩) hHeld ?_
  · go_simp
  simp only [Act.put, List.setIfInBounds_toArray, List.set_cons_zero, List.set_cons_succ]
  refine wpAnyH_take (i := 21) (v := .int .i64 (i : Int)) ov21 (by kernel_rfl) (by kernel_rfl) (by kernel_rfl) (fun _ _ _ h => h) (Or.inl ⟨by rfl, fun V' hS => ?_⟩) hHeld ?_
  · go_simp
  simp only [Act.put, List.setIfInBounds_toArray, List.set_cons_zero, List.set_cons_succ]
  refine wpAnyH_take (i := 22) (v := .pointer (some ⟨g, i * 2, none⟩)) ov22 (by kernel_rfl) (by kernel_rfl) (by kernel_rfl) (fun _ _ _ h => h) (Or.inl ⟨by rfl, fun V' hS => ?_⟩) hHeld ?_
  · go_simp
  simp only [Act.put, List.setIfInBounds_toArray, List.set_cons_zero, List.set_cons_succ]
  refine wpAnyH_ready (rs := [16, 23]) (by kernel_rfl) (by simp) ?_
  refine AllReadyH.cons ov16 (fun K hK => ?_) (AllReadyH.cons ov23 (fun K hK => ?_) AllReadyH.nil)
  · rw [if_pos (by rfl)]
    obtain ⟨d0, d1, _, _⟩ := HZ.out.rowg HP.out.2.2.2.2.1 HP.out.2.1
    go_simp
    clear d0 d1
    refine hK.out _ _ hHeld (fun _ => ?_)
    clear hK K
    (try simp only [Act.put, List.setIfInBounds_toArray, List.set_cons_zero, List.set_cons_succ])
    refine wpAnyH_ready (rs := [23]) (by kernel_rfl) (by simp) ?_
    refine AllReadyH.cons ov23 (fun K hK => ?_) AllReadyH.nil
    rw [if_pos (by rfl)]
    obtain ⟨d0, d1, _, _⟩ := HZ.out.rowg HP.out.2.2.2.2.1 HP.out.1
    go_simp
    clear d0 d1
    refine hK.out _ _ hHeld (fun _ => ?_)
    clear hK K
    (try simp only [Act.put, List.setIfInBounds_toArray, List.set_cons_zero, List.set_cons_succ])
    refine wpAnyH_take (i := 24) (v := .pointer (some ⟨g, i * 2, none⟩)) ov24 (by kernel_rfl) (by kernel_rfl) (by kernel_rfl) (fun _ _ _ h => h) (Or.inl ⟨by rfl, fun V' hS => ?_⟩) hHeld ?_
    · go_simp
    simp only [Act.put, List.setIfInBounds_toArray, List.set_cons_zero, List.set_cons_succ]
    refine wpAnyH_ready (rs := [25]) (by kernel_rfl) (by simp) ?_
    refine AllReadyH.cons ov25 (fun K hK => ?_) AllReadyH.nil
    rw [if_pos (by rfl)]
    obtain ⟨d0, d1, f0, f1⟩ := HZ.out.rowg HP.out.2.2.2.2.1 HP.out.1
    go_simp
    clear d0 d1 f0 f1
    have HZ1 : Hid (Tab0 (put2 z0 g (i * 2) q) b pm ra rc ba bc ma mc n m (L.set i q) U M) := (HZ.out.put HP.out.2.2.2.2.1 i q).1
    have HY1 : Hid (But (TS b pm ra ba ma) w (put2 z0 g (i * 2) q)) := HY.out.trans ((HZ.out.put HP.out.2.2.2.2.1 i q).2.mono (fun _ hi => Or.inr (Or.inr (Or.inl hi))))
    have hH1 : (put2 z0 g (i * 2) q).cell? ⟨b, 0, none⟩ = some (.slice (some ⟨g, 0, none⟩) nn rc) := by have := HZ1.out.c0; rw [List.length_set, EN.out, HP.out.2.2.2.2.1] at this; exact this
    refine hK.out _ (put2 z0 g (i * 2) q) hH1 (fun _ => ?_)
    clear hK K
    (try simp only [Act.put, List.setIfInBounds_toArray, List.set_cons_zero, List.set_cons_succ])
    generalize put2 z0 g (i * 2) q = z1 at HZ1 HY1 hH1 ⊢
    refine wpAnyH_take (i := 26) (v := .pointer (some ⟨g, j * 2, none⟩)) ov26 (by kernel_rfl) (by kernel_rfl) (by kernel_rfl) (fun _ _ _ h => h) (Or.inl ⟨by rfl, fun V' hS => ?_⟩) hH1 ?_
    · go_simp
    simp only [Act.put, List.setIfInBounds_toArray, List.set_cons_zero, List.set_cons_succ]
    refine wpAnyH_ready (rs := [27]) (by kernel_rfl) (by simp) ?_
    refine AllReadyH.cons ov27 (fun K hK => ?_) AllReadyH.nil
    rw [if_pos (by rfl)]
    obtain ⟨q9, e9⟩ : ∃ q9, (L.set i q)[j]? = some q9 := ⟨_, List.getElem?_eq_getElem (by rw [List.length_set]; exact HP.out.2.2.2.1)⟩
    obtain ⟨d0, d1, f0, f1⟩ := HZ1.out.rowg HP.out.2.2.2.2.1 e9
    go_simp
    clear d0 d1 f0 f1 e9
    have HZ2 : Hid (Tab0 (put2 z1 g (j * 2) p) b pm ra rc ba bc ma mc n m (swapL L i j p q) U M) := (HZ1.out.put HP.out.2.2.2.2.1 j p).1
    have HY2 : Hid (But (TS b pm ra ba ma) w (put2 z1 g (j * 2) p)) := HY1.out.trans ((HZ1.out.put HP.out.2.2.2.2.1 j p).2.mono (fun _ hi => Or.inr (Or.inr (Or.inl hi))))
    have hH2 : (put2 z1 g (j * 2) p).cell? ⟨b, 0, none⟩ = some (.slice (some ⟨g, 0, none⟩) nn rc) := by have := HZ2.out.c0; unfold swapL at this; rw [List.length_set, List.length_set, EN.out, HP.out.2.2.2.2.1] at this; exact this
    refine hK.out _ (put2 z1 g (j * 2) p) hH2 (fun _ => ?_)
    clear hK K
    (try simp only [Act.put, List.setIfInBounds_toArray, List.set_cons_zero, List.set_cons_succ])
    generalize put2 z1 g (j * 2) p = z2 at HZ2 HY2 hH2 ⊢
    refine wpAnyH_done (by kernel_rfl) ?_ _
    clear hHeld hH1 hH2 HZ1 HY1 HZ HY
    go_upto_region 1 with fail
    have K1 : Hid ((swapL L i j p q)[i]? = some q) := swap_at1 HP.out.1 HP.out.2.1
    have HD1 : Hid (Tab0 z2.drew b pm ra rc ba bc ma mc n m (swapL L i j p q) U M) := HZ2.out.drew
    have HE1 : Hid (But (TS b pm ra ba ma) w z2.drew) := HY2.out.drew
    have hh1 : z2.drew.cell? ⟨b, 0, none⟩ = some (.slice (some ⟨g, 0, none⟩) nn rc) ∧ z2.drew.cell? ⟨b, 1, none⟩ = some (.map (some pm)) ∧ z2.drew.cell? ⟨g, i * 2, none⟩ = some (.int .i64 q.1) := ⟨by have := HD1.out.c0; rw [swapL_len, EN.out, HP.out.2.2.2.2.1] at this; exact this, HD1.out.c1, (HD1.out.rowg HP.out.2.2.2.2.1 K1.out).1⟩
    refine wp_region_held_drew (S := fun V' => V'.cell? ⟨b, 0, none⟩ = some (.slice (some ⟨g, 0, none⟩) nn rc) ∧ V'.cell? ⟨b, 1, none⟩ = some (.map (some pm)) ∧ V'.cell? ⟨g, i * 2, none⟩ = some (.int .i64 q.1)) (by kernel_rfl) hh1 (fun hHeld => ?_)
    generalize z2.drew = z4 at hHeld HD1 HE1 ⊢
    clear hh1
    refine wpAnyH_take (i := 0) (v := .pointer (some ⟨b, 0, none⟩)) ov0 (by kernel_rfl) (by kernel_rfl) (by kernel_rfl) (fun _ _ _ h => h) (Or.inl ⟨by rfl, fun V' hS => ?_⟩) hHeld ?_
    · go_simp
    simp only [Act.put, List.setIfInBounds_toArray, List.set_cons_zero, List.set_cons_succ]
    refine wpAnyH_take (i := 1) (v := .pointer (some ⟨b, 0, none⟩)) ov1 (by kernel_rfl) (by kernel_rfl) (by kernel_rfl) (fun _ _ _ h => h) (Or.inl ⟨by rfl, fun V' hS => ?_⟩) hHeld ?_
    · go_simp
    simp only [Act.put, List.setIfInBounds_toArray, List.set_cons_zero, List.set_cons_succ]
    refine wpAnyH_take (i := 2) (v := .pointer (some ⟨b, 1, none⟩)) ov2 (by kernel_rfl) (by kernel_rfl) (by kernel_rfl) (fun _ _ _ h => h) (Or.inl ⟨by rfl, fun V' hS => ?_⟩) hHeld ?_
    · go_simp
    simp only [Act.put, List.setIfInBounds_toArray, List.set_cons_zero, List.set_cons_succ]
    refine wpAnyH_take (i := 3) (v := .map (some pm)) ov3 (by kernel_rfl) (by kernel_rfl) (by kernel_rfl) (fun _ _ _ h => h) (Or.inl ⟨by rfl, fun V' hS => ?_⟩) hHeld ?_
    · obtain ⟨s0, s1, s2⟩ := hS
      go_simp
    simp only [Act.put, List.setIfInBounds_toArray, List.set_cons_zero, List.set_cons_succ]
    refine wpAnyH_take (i := 4) (v := .pointer (some ⟨b, 0, none⟩)) ov4 (by kernel_rfl) (by kernel_rfl) (by kernel_rfl) (fun _ _ _ h => h) (Or.inl ⟨by rfl, fun V' hS => ?_⟩) hHeld ?_
    · go_simp
    simp only [Act.put, List.setIfInBounds_toArray, List.set_cons_zero, List.set_cons_succ]
    refine wpAnyH_take (i := 5) (v := .pointer (some ⟨b, 0, none⟩)) ov5 (by kernel_rfl) (by kernel_rfl) (by kernel_rfl) (fun _ _ _ h => h) (Or.inl ⟨by rfl, fun V' hS => ?_⟩) hHeld ?_
    · go_simp
    simp only [Act.put, List.setIfInBounds_toArray, List.set_cons_zero, List.set_cons_succ]
    refine wpAnyH_take (i := 6) (v := .pointer (some ⟨b, 0, none⟩)) ov6 (by kernel_rfl) (by kernel_rfl) (by kernel_rfl) (fun _ _ _ h => h) (Or.inl ⟨by rfl, fun V' hS => ?_⟩) hHeld ?_
    · go_simp
    simp only [Act.put, List.setIfInBounds_toArray, List.set_cons_zero, List.set_cons_succ]
    refine wpAnyH_take (i := 7) (v := .slice (some ⟨g, 0, none⟩) nn rc) ov7 (by kernel_rfl) (by kernel_rfl) (by kernel_rfl) (fun _ _ _ h => h) (Or.inl ⟨by rfl, fun V' hS => ?_⟩) hHeld ?_
    · obtain ⟨s0, s1, s2⟩ := hS
      go_simp
    simp only [Act.put, List.setIfInBounds_toArray, List.set_cons_zero, List.set_cons_succ]
    refine wpAnyH_take (i := 8) (v := .int .i64 (i : Int)) ov8 (by kernel_rfl) (by kernel_rfl) (by kernel_rfl) (fun _ _ _ h => h) (Or.inl ⟨by rfl, fun V' hS => ?_⟩) hHeld ?_
    · go_simp
    simp only [Act.put, List.setIfInBounds_toArray, List.set_cons_zero, List.set_cons_succ]
    refine wpAnyH_take (i := 9) (v := .pointer (some ⟨g, i * 2, none⟩)) ov9 (by kernel_rfl) (by kernel_rfl) (by kernel_rfl) (fun _ _ _ h => h) (Or.inl ⟨by rfl, fun V' hS => ?_⟩) hHeld ?_
    · go_simp
    simp only [Act.put, List.setIfInBounds_toArray, List.set_cons_zero, List.set_cons_succ]
    refine wpAnyH_take (i := 10) (v := .pointer (some ⟨g, i * 2, none⟩)) ov10 (by kernel_rfl) (by kernel_rfl) (by kernel_rfl) (fun _ _ _ h => h) (Or.inl ⟨by rfl, fun V' hS => ?_⟩) hHeld ?_
    · go_simp
    simp only [Act.put, List.setIfInBounds_toArray, List.set_cons_zero, List.set_cons_succ]
    refine wpAnyH_take (i := 11) (v := .int .i64 q.1) ov11 (by kernel_rfl) (by kernel_rfl) (by kernel_rfl) (fun _ _ _ h => h) (Or.inl ⟨by rfl, fun V' hS => ?_⟩) hHeld ?_
    · obtain ⟨s0, s1, s2⟩ := hS
      go_simp
    simp only [Act.put, List.setIfInBounds_toArray, List.set_cons_zero, List.set_cons_succ]
    refine wpAnyH_take (i := 12) (v := .int .i64 (i : Int)) ov12 (by kernel_rfl) (by kernel_rfl) (by kernel_rfl) (fun _ _ _ h => h) (Or.inl ⟨by rfl, fun V' hS => ?_⟩) hHeld ?_
    · go_simp
    simp only [Act.put, List.setIfInBounds_toArray, List.set_cons_zero, List.set_cons_succ]
    refine wpAnyH_ready (rs := [13]) (by kernel_rfl) (by simp) ?_
    refine AllReadyH.cons ov13 (fun K hK => ?_) AllReadyH.nil
    rw [if_pos (by rfl)]
    obtain ⟨W9, hr, hpm, hgw⟩ := HD1.out.pl.store q.1 HP.out.2.2.2.2.2.2.1 i (by unfold I64; have := HP.out.2.2; omega) (by unfold maxLen; have := HP.out.2.2; omega)
    go_simp
    have HZ3 : Hid (Tab0 W9 b pm ra rc ba bc ma mc (stepN n m q.1) (upd m q.1 (some i)) (swapL L i j p q) U M) := (HD1.out.upMap hpm hgw).1
    have HY3 : Hid (But (TS b pm ra ba ma) w W9) := HE1.out.trans (HD1.out.upMap hpm hgw).2
    clear hr hpm hgw
    have hh9 : W9.cell? ⟨b, 0, none⟩ = some (.slice (some ⟨g, 0, none⟩) nn rc) ∧ W9.cell? ⟨b, 1, none⟩ = some (.map (some pm)) ∧ W9.cell? ⟨g, i * 2, none⟩ = some (.int .i64 q.1) := ⟨by have := HZ3.out.c0; rw [swapL_len, EN.out, HP.out.2.2.2.2.1] at this; exact this, HZ3.out.c1, (HZ3.out.rowg HP.out.2.2.2.2.1 K1.out).1⟩
    refine hK.out _ _ hh9 (fun _ => ?_)
    clear hK K
    (try simp only [Act.put, List.setIfInBounds_toArray, List.set_cons_zero, List.set_cons_succ])
    refine wpAnyH_done (by kernel_rfl) ?_ _
    clear hHeld HD1 HE1 K1
    go_upto_region 2 with fail
    have K2 : Hid ((swapL L i j p q)[j]? = some p) := swap_at2 HP.out.2.2.2.1
    have HD2 : Hid (Tab0 W9.drew b pm ra rc ba bc ma mc (stepN n m q.1) (upd m q.1 (some i)) (swapL L i j p q) U M) := HZ3.out.drew
    have HE2 : Hid (But (TS b pm ra ba ma) w W9.drew) := HY3.out.drew
    have hh2 : W9.drew.cell? ⟨b, 0, none⟩ = some (.slice (some ⟨g, 0, none⟩) nn rc) ∧ W9.drew.cell? ⟨b, 1, none⟩ = some (.map (some pm)) ∧ W9.drew.cell? ⟨g, j * 2, none⟩ = some (.int .i64 p.1) := ⟨by have := HD2.out.c0; rw [swapL_len, EN.out, HP.out.2.2.2.2.1] at this; exact this, HD2.out.c1, (HD2.out.rowg HP.out.2.2.2.2.1 K2.out).1⟩
    refine wp_region_held_drew (S := fun V' => V'.cell? ⟨b, 0, none⟩ = some (.slice (some ⟨g, 0, none⟩) nn rc) ∧ V'.cell? ⟨b, 1, none⟩ = some (.map (some pm)) ∧ V'.cell? ⟨g, j * 2, none⟩ = some (.int .i64 p.1)) (by kernel_rfl) hh2 (fun hHeld => ?_)
    generalize W9.drew = z5 at hHeld HD2 HE2 ⊢
    clear hh2
    refine wpAnyH_take (i := 0) (v := .pointer (some ⟨b, 0, none⟩)) ov0 (by kernel_rfl) (by kernel_rfl) (by kernel_rfl) (fun _ _ _ h => h) (Or.inl ⟨by rfl, fun V' hS => ?_⟩) hHeld ?_
    · go_simp
    simp only [Act.put, List.setIfInBounds_toArray, List.set_cons_zero, List.set_cons_succ]
    refine wpAnyH_take (i := 1) (v := .pointer (some ⟨b, 0, none⟩)) ov1 (by kernel_rfl) (by kernel_rfl) (by kernel_rfl) (fun _ _ _ h => h) (Or.inl ⟨by rfl, fun V' hS => ?_⟩) hHeld ?_
    · go_simp
    simp only [Act.put, List.setIfInBounds_toArray, List.set_cons_zero, List.set_cons_succ]
    refine wpAnyH_take (i := 2) (v := .pointer (some ⟨b, 1, none⟩)) ov2 (by kernel_rfl) (by kernel_rfl) (by kernel_rfl) (fun _ _ _ h => h) (Or.inl ⟨by rfl, fun V' hS => ?_⟩) hHeld ?_
    · go_simp
    simp only [Act.put, List.setIfInBounds_toArray, List.set_cons_zero, List.set_cons_succ]
    refine wpAnyH_take (i := 3) (v := .map (some pm)) ov3 (by kernel_rfl) (by kernel_rfl) (by kernel_rfl) (fun _ _ _ h => h) (Or.inl ⟨by rfl, fun V' hS => ?_⟩) hHeld ?_
    · obtain ⟨s0, s1, s2⟩ := hS
      go_simp
    simp only [Act.put, List.setIfInBounds_toArray, List.set_cons_zero, List.set_cons_succ]
    refine wpAnyH_take (i := 4) (v := .pointer (some ⟨b, 0, none⟩)) ov4 (by kernel_rfl) (by kernel_rfl) (by kernel_rfl) (fun _ _ _ h => h) (Or.inl ⟨by rfl, fun V' hS => ?_⟩) hHeld ?_
    · go_simp
    simp only [Act.put, List.setIfInBounds_toArray, List.set_cons_zero, List.set_cons_succ]
    refine wpAnyH_take (i := 5) (v := .pointer (some ⟨b, 0, none⟩)) ov5 (by kernel_rfl) (by kernel_rfl) (by kernel_rfl) (fun _ _ _ h => h) (Or.inl ⟨by rfl, fun V' hS => ?_⟩) hHeld ?_
    · go_simp
    simp only [Act.put, List.setIfInBounds_toArray, List.set_cons_zero, List.set_cons_succ]
    refine wpAnyH_take (i := 6) (v := .pointer (some ⟨b, 0, none⟩)) ov6 (by kernel_rfl) (by kernel_rfl) (by kernel_rfl) (fun _ _ _ h => h) (Or.inl ⟨by rfl, fun V' hS => ?_⟩) hHeld ?_
    · go_simp
    simp only [Act.put, List.setIfInBounds_toArray, List.set_cons_zero, List.set_cons_succ]
    refine wpAnyH_take (i := 7) (v := .slice (some ⟨g, 0, none⟩) nn rc) ov7 (by kernel_rfl) (by kernel_rfl) (by kernel_rfl) (fun _ _ _ h => h) (Or.inl ⟨by rfl, fun V' hS => ?_⟩) hHeld ?_
    · obtain ⟨s0, s1, s2⟩ := hS
      go_simp
    simp only [Act.put, List.setIfInBounds_toArray, List.set_cons_zero, List.set_cons_succ]
    refine wpAnyH_take (i := 8) (v := .int .i64 (j : Int)) ov8 (by kernel_rfl) (by kernel_rfl) (by kernel_rfl) (fun _ _ _ h => h) (Or.inl ⟨by rfl, fun V' hS => ?_⟩) hHeld ?_
    · go_simp
    simp only [Act.put, List.setIfInBounds_toArray, List.set_cons_zero, List.set_cons_succ]
    refine wpAnyH_take (i := 9) (v := .pointer (some ⟨g, j * 2, none⟩)) ov9 (by kernel_rfl) (by kernel_rfl) (by kernel_rfl) (fun _ _ _ h => h) (Or.inl ⟨by rfl, fun V' hS => ?_⟩) hHeld ?_
    · go_simp
    simp only [Act.put, List.setIfInBounds_toArray, List.set_cons_zero, List.set_cons_succ]
    refine wpAnyH_take (i := 10) (v := .pointer (some ⟨g, j * 2, none⟩)) ov10 (by kernel_rfl) (by kernel_rfl) (by kernel_rfl) (fun _ _ _ h => h) (Or.inl ⟨by rfl, fun V' hS => ?_⟩) hHeld ?_
    · go_simp
    simp only [Act.put, List.setIfInBounds_toArray, List.set_cons_zero, List.set_cons_succ]
    refine wpAnyH_take (i := 11) (v := .int .i64 p.1) ov11 (by kernel_rfl) (by kernel_rfl) (by kernel_rfl) (fun _ _ _ h => h) (Or.inl ⟨by rfl, fun V' hS => ?_⟩) hHeld ?_
    · obtain ⟨s0, s1, s2⟩ := hS
      go_simp
    simp only [Act.put, List.setIfInBounds_toArray, List.set_cons_zero, List.set_cons_succ]
    refine wpAnyH_take (i := 12) (v := .int .i64 (j : Int)) ov12 (by kernel_rfl) (by kernel_rfl) (by kernel_rfl) (fun _ _ _ h => h) (Or.inl ⟨by rfl, fun V' hS => ?_⟩) hHeld ?_
    · go_simp
    simp only [Act.put, List.setIfInBounds_toArray, List.set_cons_zero, List.set_cons_succ]
    refine wpAnyH_ready (rs := [13]) (by kernel_rfl) (by simp) ?_
    refine AllReadyH.cons ov13 (fun K hK => ?_) AllReadyH.nil
    rw [if_pos (by rfl)]
    obtain ⟨W8, hr, hpm, hgw⟩ := HD2.out.pl.store p.1 HP.out.2.2.2.2.2.1 j (by unfold I64; have := HP.out.2.2; omega) (by have := stepN_le n m q.1; unfold maxLen; have := HP.out.2.2; omega)
    go_simp
    have HZ4 : Hid (Tab0 W8 b pm ra rc ba bc ma mc (stepN (stepN n m q.1) (upd m q.1 (some i)) p.1) (upd (upd m q.1 (some i)) p.1 (some j)) (swapL L i j p q) U M) := (HD2.out.upMap hpm hgw).1
    have HY4 : Hid (But (TS b pm ra ba ma) w W8) := HE2.out.trans (HD2.out.upMap hpm hgw).2
    clear hr hpm hgw
    have hh8 : W8.cell? ⟨b, 0, none⟩ = some (.slice (some ⟨g, 0, none⟩) nn rc) ∧ W8.cell? ⟨b, 1, none⟩ = some (.map (some pm)) ∧ W8.cell? ⟨g, j * 2, none⟩ = some (.int .i64 p.1) := ⟨by have := HZ4.out.c0; rw [swapL_len, EN.out, HP.out.2.2.2.2.1] at this; exact this, HZ4.out.c1, (HZ4.out.rowg HP.out.2.2.2.2.1 K2.out).1⟩
    refine hK.out _ _ hh8 (fun _ => ?_)
    clear hK K
    (try simp only [Act.put, List.setIfInBounds_toArray, List.set_cons_zero, List.set_cons_succ])
    refine wpAnyH_done (by kernel_rfl) ?_ _
    go_end0
    exact ⟨rfl, HZ4.out, HY4.out⟩
  · rw [if_pos (by rfl)]
    obtain ⟨d0, d1, _, _⟩ := HZ.out.rowg HP.out.2.2.2.2.1 HP.out.1
    go_simp
    clear d0 d1
    refine hK.out _ _ hHeld (fun _ => ?_)
    clear hK K
    (try simp only [Act.put, List.setIfInBounds_toArray, List.set_cons_zero, List.set_cons_succ])
    refine wpAnyH_ready (rs := [16]) (by kernel_rfl) (by simp) ?_
    refine AllReadyH.cons ov16 (fun K hK => ?_) AllReadyH.nil
    rw [if_pos (by rfl)]
    obtain ⟨d0, d1, _, _⟩ := HZ.out.rowg HP.out.2.2.2.2.1 HP.out.2.1
    go_simp
    clear d0 d1
    refine hK.out _ _ hHeld (fun _ => ?_)
    clear hK K
    (try simp only [Act.put, List.setIfInBounds_toArray, List.set_cons_zero, List.set_cons_succ])
    refine wpAnyH_take (i := 24) (v := .pointer (some ⟨g, i * 2, none⟩)) ov24 (by kernel_rfl) (by kernel_rfl) (by kernel_rfl) (fun _ _ _ h => h) (Or.inl ⟨by rfl, fun V' hS => ?_⟩) hHeld ?_
    · go_simp
    simp only [Act.put, List.setIfInBounds_toArray, List.set_cons_zero, List.set_cons_succ]
    refine wpAnyH_ready (rs := [25]) (by kernel_rfl) (by simp) ?_
    refine AllReadyH.cons ov25 (fun K hK => ?_) AllReadyH.nil
    rw [if_pos (by rfl)]
    obtain ⟨d0, d1, f0, f1⟩ := HZ.out.rowg HP.out.2.2.2.2.1 HP.out.1
    go_simp
    clear d0 d1 f0 f1
    have HZ1 : Hid (Tab0 (put2 z0 g (i * 2) q) b pm ra rc ba bc ma mc n m (L.set i q) U M) := (HZ.out.put HP.out.2.2.2.2.1 i q).1
    have HY1 : Hid (But (TS b pm ra ba ma) w (put2 z0 g (i * 2) q)) := HY.out.trans ((HZ.out.put HP.out.2.2.2.2.1 i q).2.mono (fun _ hi => Or.inr (Or.inr (Or.inl hi))))
    have hH1 : (put2 z0 g (i * 2) q).cell? ⟨b, 0, none⟩ = some (.slice (some ⟨g, 0, none⟩) nn rc) := by have := HZ1.out.c0; rw [List.length_set, EN.out, HP.out.2.2.2.2.1] at this; exact this
    refine hK.out _ (put2 z0 g (i * 2) q) hH1 (fun _ => ?_)
    clear hK K
    (try simp only [Act.put, List.setIfInBounds_toArray, List.set_cons_zero, List.set_cons_succ])
    generalize put2 z0 g (i * 2) q = z1 at HZ1 HY1 hH1 ⊢
    refine wpAnyH_take (i := 26) (v := .pointer (some ⟨g, j * 2, none⟩)) ov26 (by kernel_rfl) (by kernel_rfl) (by kernel_rfl) (fun _ _ _ h => h) (Or.inl ⟨by rfl, fun V' hS => ?_⟩) hH1 ?_
    · go_simp
    simp only [Act.put, List.setIfInBounds_toArray, List.set_cons_zero, List.set_cons_succ]
    refine wpAnyH_ready (rs := [27]) (by kernel_rfl) (by simp) ?_
    refine AllReadyH.cons ov27 (fun K hK => ?_) AllReadyH.nil
    rw [if_pos (by rfl)]
    obtain ⟨q9, e9⟩ : ∃ q9, (L.set i q)[j]? = some q9 := ⟨_, List.getElem?_eq_getElem (by rw [List.length_set]; exact HP.out.2.2.2.1)⟩
    obtain ⟨d0, d1, f0, f1⟩ := HZ1.out.rowg HP.out.2.2.2.2.1 e9
    go_simp
    clear d0 d1 f0 f1 e9
    have HZ2 : Hid (Tab0 (put2 z1 g (j * 2) p) b pm ra rc ba bc ma mc n m (swapL L i j p q) U M) := (HZ1.out.put HP.out.2.2.2.2.1 j p).1
    have HY2 : Hid (But (TS b pm ra ba ma) w (put2 z1 g (j * 2) p)) := HY1.out.trans ((HZ1.out.put HP.out.2.2.2.2.1 j p).2.mono (fun _ hi => Or.inr (Or.inr (Or.inl hi))))
    have hH2 : (put2 z1 g (j * 2) p).cell? ⟨b, 0, none⟩ = some (.slice (some ⟨g, 0, none⟩) nn rc) := by have := HZ2.out.c0; unfold swapL at this; rw [List.length_set, List.length_set, EN.out, HP.out.2.2.2.2.1] at this; exact this
    refine hK.out _ (put2 z1 g (j * 2) p) hH2 (fun _ => ?_)
    clear hK K
    (try simp only [Act.put, List.setIfInBounds_toArray, List.set_cons_zero, List.set_cons_succ])
    generalize put2 z1 g (j * 2) p = z2 at HZ2 HY2 hH2 ⊢
    refine wpAnyH_done (by kernel_rfl) ?_ _
    clear hHeld hH1 hH2 HZ1 HY1 HZ HY
    go_upto_region 1 with fail
    have K1 : Hid ((swapL L i j p q)[i]? = some q) := swap_at1 HP.out.1 HP.out.2.1
    have HD1 : Hid (Tab0 z2.drew b pm ra rc ba bc ma mc n m (swapL L i j p q) U M) := HZ2.out.drew
    have HE1 : Hid (But (TS b pm ra ba ma) w z2.drew) := HY2.out.drew
    have hh1 : z2.drew.cell? ⟨b, 0, none⟩ = some (.slice (some ⟨g, 0, none⟩) nn rc) ∧ z2.drew.cell? ⟨b, 1, none⟩ = some (.map (some pm)) ∧ z2.drew.cell? ⟨g, i * 2, none⟩ = some (.int .i64 q.1) := ⟨by have := HD1.out.c0; rw [swapL_len, EN.out, HP.out.2.2.2.2.1] at this; exact this, HD1.out.c1, (HD1.out.rowg HP.out.2.2.2.2.1 K1.out).1⟩
    refine wp_region_held_drew (S := fun V' => V'.cell? ⟨b, 0, none⟩ = some (.slice (some ⟨g, 0, none⟩) nn rc) ∧ V'.cell? ⟨b, 1, none⟩ = some (.map (some pm)) ∧ V'.cell? ⟨g, i * 2, none⟩ = some (.int .i64 q.1)) (by kernel_rfl) hh1 (fun hHeld => ?_)
    generalize z2.drew = z4 at hHeld HD1 HE1 ⊢
    clear hh1
    refine wpAnyH_take (i := 0) (v := .pointer (some ⟨b, 0, none⟩)) ov0 (by kernel_rfl) (by kernel_rfl) (by kernel_rfl) (fun _ _ _ h => h) (Or.inl ⟨by rfl, fun V' hS => ?_⟩) hHeld ?_
    · go_simp
    simp only [Act.put, List.setIfInBounds_toArray, List.set_cons_zero, List.set_cons_succ]
    refine wpAnyH_take (i := 1) (v := .pointer (some ⟨b, 0, none⟩)) ov1 (by kernel_rfl) (by kernel_rfl) (by kernel_rfl) (fun _ _ _ h => h) (Or.inl ⟨by rfl, fun V' hS => ?_⟩) hHeld ?_
    · go_simp
    simp only [Act.put, List.setIfInBounds_toArray, List.set_cons_zero, List.set_cons_succ]
    refine wpAnyH_take (i := 2) (v := .pointer (some ⟨b, 1, none⟩)) ov2 (by kernel_rfl) (by kernel_rfl) (by kernel_rfl) (fun _ _ _ h => h) (Or.inl ⟨by rfl, fun V' hS => ?_⟩) hHeld ?_
    · go_simp
    simp only [Act.put, List.setIfInBounds_toArray, List.set_cons_zero, List.set_cons_succ]
    refine wpAnyH_take (i := 3) (v := .map (some pm)) ov3 (by kernel_rfl) (by kernel_rfl) (by kernel_rfl) (fun _ _ _ h => h) (Or.inl ⟨by rfl, fun V' hS => ?_⟩) hHeld ?_
    · obtain ⟨s0, s1, s2⟩ := hS
      go_simp
    simp only [Act.put, List.setIfInBounds_toArray, List.set_cons_zero, List.set_cons_succ]
    refine wpAnyH_take (i := 4) (v := .pointer (some ⟨b, 0, none⟩)) ov4 (by kernel_rfl) (by kernel_rfl) (by kernel_rfl) (fun _ _ _ h => h) (Or.inl ⟨by rfl, fun V' hS => ?_⟩) hHeld ?_
    · go_simp
    simp only [Act.put, List.setIfInBounds_toArray, List.set_cons_zero, List.set_cons_succ]
    refine wpAnyH_take (i := 5) (v := .pointer (some ⟨b, 0, none⟩)) ov5 (by kernel_rfl) (by kernel_rfl) (by kernel_rfl) (fun _ _ _ h => h) (Or.inl ⟨by rfl, fun V' hS => ?_⟩) hHeld ?_
    · go_simp
    simp only [Act.put, List.setIfInBounds_toArray, List.set_cons_zero, List.set_cons_succ]
    refine wpAnyH_take (i := 6) (v := .pointer (some ⟨b, 0, none⟩)) ov6 (by kernel_rfl) (by kernel_rfl) (by kernel_rfl) (fun _ _ _ h => h) (Or.inl ⟨by rfl, fun V' hS => ?_⟩) hHeld ?_
    · go_simp
    simp only [Act.put, List.setIfInBounds_toArray, List.set_cons_zero, List.set_cons_succ]
    refine wpAnyH_take (i := 7) (v := .slice (some ⟨g, 0, none⟩) nn rc) ov7 (by kernel_rfl) (by kernel_rfl) (by kernel_rfl) (fun _ _ _ h => h) (Or.inl ⟨by rfl, fun V' hS => ?_⟩) hHeld ?_
    · obtain ⟨s0, s1, s2⟩ := hS
      go_simp
    simp only [Act.put, List.setIfInBounds_toArray, List.set_cons_zero, List.set_cons_succ]
    refine wpAnyH_take (i := 8) (v := .int .i64 (i : Int)) ov8 (by kernel_rfl) (by kernel_rfl) (by kernel_rfl) (fun _ _ _ h => h) (Or.inl ⟨by rfl, fun V' hS => ?_⟩) hHeld ?_
    · go_simp
    simp only [Act.put, List.setIfInBounds_toArray, List.set_cons_zero, List.set_cons_succ]
    refine wpAnyH_take (i := 9) (v := .pointer (some ⟨g, i * 2, none⟩)) ov9 (by kernel_rfl) (by kernel_rfl) (by kernel_rfl) (fun _ _ _ h => h) (Or.inl ⟨by rfl, fun V' hS => ?_⟩) hHeld ?_
    · go_simp
    simp only [Act.put, List.setIfInBounds_toArray, List.set_cons_zero, List.set_cons_succ]
    refine wpAnyH_take (i := 10) (v := .pointer (some ⟨g, i * 2, none⟩)) ov10 (by kernel_rfl) (by kernel_rfl) (by kernel_rfl) (fun _ _ _ h => h) (Or.inl ⟨by rfl, fun V' hS => ?_⟩) hHeld ?_
    · go_simp
    simp only [Act.put, List.setIfInBounds_toArray, List.set_cons_zero, List.set_cons_succ]
    refine wpAnyH_take (i := 11) (v := .int .i64 q.1) ov11 (by kernel_rfl) (by kernel_rfl) (by kernel_rfl) (fun _ _ _ h => h) (Or.inl ⟨by rfl, fun V' hS => ?_⟩) hHeld ?_
    · obtain ⟨s0, s1, s2⟩ := hS
      go_simp
    simp only [Act.put, List.setIfInBounds_toArray, List.set_cons_zero, List.set_cons_succ]
    refine wpAnyH_take (i := 12) (v := .int .i64 (i : Int)) ov12 (by kernel_rfl) (by kernel_rfl) (by kernel_rfl) (fun _ _ _ h => h) (Or.inl ⟨by rfl, fun V' hS => ?_⟩) hHeld ?_
    · go_simp
    simp only [Act.put, List.setIfInBounds_toArray, List.set_cons_zero, List.set_cons_succ]
    refine wpAnyH_ready (rs := [13]) (by kernel_rfl) (by simp) ?_
    refine AllReadyH.cons ov13 (fun K hK => ?_) AllReadyH.nil
    rw [if_pos (by rfl)]
    obtain ⟨W9, hr, hpm, hgw⟩ := HD1.out.pl.store q.1 HP.out.2.2.2.2.2.2.1 i (by unfold I64; have := HP.out.2.2; omega) (by unfold maxLen; have := HP.out.2.2; omega)
    go_simp
    have HZ3 : Hid (Tab0 W9 b pm ra rc ba bc ma mc (stepN n m q.1) (upd m q.1 (some i)) (swapL L i j p q) U M) := (HD1.out.upMap hpm hgw).1
    have HY3 : Hid (But (TS b pm ra ba ma) w W9) := HE1.out.trans (HD1.out.upMap hpm hgw).2
    clear hr hpm hgw
    have hh9 : W9.cell? ⟨b, 0, none⟩ = some (.slice (some ⟨g, 0, none⟩) nn rc) ∧ W9.cell? ⟨b, 1, none⟩ = some (.map (some pm)) ∧ W9.cell? ⟨g, i * 2, none⟩ = some (.int .i64 q.1) := ⟨by have := HZ3.out.c0; rw [swapL_len, EN.out, HP.out.2.2.2.2.1] at this; exact this, HZ3.out.c1, (HZ3.out.rowg HP.out.2.2.2.2.1 K1.out).1⟩
    refine hK.out _ _ hh9 (fun _ => ?_)
    clear hK K
    (try simp only [Act.put, List.setIfInBounds_toArray, List.set_cons_zero, List.set_cons_succ])
    refine wpAnyH_done (by kernel_rfl) ?_ _
    clear hHeld HD1 HE1 K1
    go_upto_region 2 with fail
    have K2 : Hid ((swapL L i j p q)[j]? = some p) := swap_at2 HP.out.2.2.2.1
    have HD2 : Hid (Tab0 W9.drew b pm ra rc ba bc ma mc (stepN n m q.1) (upd m q.1 (some i)) (swapL L i j p q) U M) := HZ3.out.drew
    have HE2 : Hid (But (TS b pm ra ba ma) w W9.drew) := HY3.out.drew
    have hh2 : W9.drew.cell? ⟨b, 0, none⟩ = some (.slice (some ⟨g, 0, none⟩) nn rc) ∧ W9.drew.cell? ⟨b, 1, none⟩ = some (.map (some pm)) ∧ W9.drew.cell? ⟨g, j * 2, none⟩ = some (.int .i64 p.1) := ⟨by have := HD2.out.c0; rw [swapL_len, EN.out, HP.out.2.2.2.2.1] at this; exact this, HD2.out.c1, (HD2.out.rowg HP.out.2.2.2.2.1 K2.out).1⟩
    refine wp_region_held_drew (S := fun V' => V'.cell? ⟨b, 0, none⟩ = some (.slice (some ⟨g, 0, none⟩) nn rc) ∧ V'.cell? ⟨b, 1, none⟩ = some (.map (some pm)) ∧ V'.cell? ⟨g, j * 2, none⟩ = some (.int .i64 p.1)) (by kernel_rfl) hh2 (fun hHeld => ?_)
    generalize W9.drew = z5 at hHeld HD2 HE2 ⊢
    clear hh2
    refine wpAnyH_take (i := 0) (v := .pointer (some ⟨b, 0, none⟩)) ov0 (by kernel_rfl) (by kernel_rfl) (by kernel_rfl) (fun _ _ _ h => h) (Or.inl ⟨by rfl, fun V' hS => ?_⟩) hHeld ?_
    · go_simp
    simp only [Act.put, List.setIfInBounds_toArray, List.set_cons_zero, List.set_cons_succ]
    refine wpAnyH_take (i := 1) (v := .pointer (some ⟨b, 0, none⟩)) ov1 (by kernel_rfl) (by kernel_rfl) (by kernel_rfl) (fun _ _ _ h => h) (Or.inl ⟨by rfl, fun V' hS => ?_⟩) hHeld ?_
    · go_simp
    simp only [Act.put, List.setIfInBounds_toArray, List.set_cons_zero, List.set_cons_succ]
    refine wpAnyH_take (i := 2) (v := .pointer (some ⟨b, 1, none⟩)) ov2 (by kernel_rfl) (by kernel_rfl) (by kernel_rfl) (fun _ _ _ h => h) (Or.inl ⟨by rfl, fun V' hS => ?_⟩) hHeld ?_
    · go_simp
    simp only [Act.put, List.setIfInBounds_toArray, List.set_cons_zero, List.set_cons_succ]
    refine wpAnyH_take (i := 3) (v := .map (some pm)) ov3 (by kernel_rfl) (by kernel_rfl) (by kernel_rfl) (fun _ _ _ h => h) (Or.inl ⟨by rfl, fun V' hS => ?_⟩) hHeld ?_
    · obtain ⟨s0, s1, s2⟩ := hS
      go_simp
    simp only [Act.put, List.setIfInBounds_toArray, List.set_cons_zero, List.set_cons_succ]
    refine wpAnyH_take (i := 4) (v := .pointer (some ⟨b, 0, none⟩)) ov4 (by kernel_rfl) (by kernel_rfl) (by kernel_rfl) (fun _ _ _ h => h) (Or.inl ⟨by rfl, fun V' hS => ?_⟩) hHeld ?_
    · go_simp
    simp only [Act.put, List.setIfInBounds_toArray, List.set_cons_zero, List.set_cons_succ]
    refine wpAnyH_take (i := 5) (v := .pointer (some ⟨b, 0, none⟩)) ov5 (by kernel_rfl) (by kernel_rfl) (by kernel_rfl) (fun _ _ _ h => h) (Or.inl ⟨by rfl, fun V' hS => ?_⟩) hHeld ?_
    · go_simp
    simp only [Act.put, List.setIfInBounds_toArray, List.set_cons_zero, List.set_cons_succ]
    refine wpAnyH_take (i := 6) (v := .pointer (some ⟨b, 0, none⟩)) ov6 (by kernel_rfl) (by kernel_rfl) (by kernel_rfl) (fun _ _ _ h => h) (Or.inl ⟨by rfl, fun V' hS => ?_⟩) hHeld ?_
    · go_simp
    simp only [Act.put, List.setIfInBounds_toArray, List.set_cons_zero, List.set_cons_succ]
    refine wpAnyH_take (i := 7) (v := .slice (some ⟨g, 0, none⟩) nn rc) ov7 (by kernel_rfl) (by kernel_rfl) (by kernel_rfl) (fun _ _ _ h => h) (Or.inl ⟨by rfl, fun V' hS => ?_⟩) hHeld ?_
    · obtain ⟨s0, s1, s2⟩ := hS
      go_simp
    simp only [Act.put, List.setIfInBounds_toArray, List.set_cons_zero, List.set_cons_succ]
    refine wpAnyH_take (i := 8) (v := .int .i64 (j : Int)) ov8 (by kernel_rfl) (by kernel_rfl) (by kernel_rfl) (fun _ _ _ h => h) (Or.inl ⟨by rfl, fun V' hS => ?_⟩) hHeld ?_
    · go_simp
    simp only [Act.put, List.setIfInBounds_toArray, List.set_cons_zero, List.set_cons_succ]
    refine wpAnyH_take (i := 9) (v := .pointer (some ⟨g, j * 2, none⟩)) ov9 (by kernel_rfl) (by kernel_rfl) (by kernel_rfl) (fun _ _ _ h => h) (Or.inl ⟨by rfl, fun V' hS => ?_⟩) hHeld ?_
    · go_simp
    simp only [Act.put, List.setIfInBounds_toArray, List.set_cons_zero, List.set_cons_succ]
    refine wpAnyH_take (i := 10) (v := .pointer (some ⟨g, j * 2, none⟩)) ov10 (by kernel_rfl) (by kernel_rfl) (by kernel_rfl) (fun _ _ _ h => h) (Or.inl ⟨by rfl, fun V' hS => ?_⟩) hHeld ?_
    · go_simp
    simp only [Act.put, List.setIfInBounds_toArray, List.set_cons_zero, List.set_cons_succ]
    refine wpAnyH_take (i := 11) (v := .int .i64 p.1) ov11 (by kernel_rfl) (by kernel_rfl) (by kernel_rfl) (fun _ _ _ h => h) (Or.inl ⟨by rfl, fun V' hS => ?_⟩) hHeld ?_
    · obtain ⟨s0, s1, s2⟩ := hS
      go_simp
    simp only [Act.put, List.setIfInBounds_toArray, List.set_cons_zero, List.set_cons_succ]
    refine wpAnyH_take (i := 12) (v := .int .i64 (j : Int)) ov12 (by kernel_rfl) (by kernel_rfl) (by kernel_rfl) (fun _ _ _ h => h) (Or.inl ⟨by rfl, fun V' hS => ?_⟩) hHeld ?_
    · go_simp
    simp only [Act.put, List.setIfInBounds_toArray, List.set_cons_zero, List.set_cons_succ]
    refine wpAnyH_ready (rs := [13]) (by kernel_rfl) (by simp) ?_
    refine AllReadyH.cons ov13 (fun K hK => ?_) AllReadyH.nil
    rw [if_pos (by rfl)]
    obtain ⟨W8, hr, hpm, hgw⟩ := HD2.out.pl.store p.1 HP.out.2.2.2.2.2.1 j (by unfold I64; have := HP.out.2.2; omega) (by have := stepN_le n m q.1; unfold maxLen; have := HP.out.2.2; omega)
    go_simp
    have HZ4 : Hid (Tab0 W8 b pm ra rc ba bc ma mc (stepN (stepN n m q.1) (upd m q.1 (some i)) p.1) (upd (upd m q.1 (some i)) p.1 (some j)) (swapL L i j p q) U M) := (HD2.out.upMap hpm hgw).1
    have HY4 : Hid (But (TS b pm ra ba ma) w W8) := HE2.out.trans (HD2.out.upMap hpm hgw).2
    clear hr hpm hgw
    have hh8 : W8.cell? ⟨b, 0, none⟩ = some (.slice (some ⟨g, 0, none⟩) nn rc) ∧ W8.cell? ⟨b, 1, none⟩ = some (.map (some pm)) ∧ W8.cell? ⟨g, j * 2, none⟩ = some (.int .i64 p.1) := ⟨by have := HZ4.out.c0; rw [swapL_len, EN.out, HP.out.2.2.2.2.1] at this; exact this, HZ4.out.c1, (HZ4.out.rowg HP.out.2.2.2.2.1 K2.out).1⟩
    refine hK.out _ _ hh8 (fun _ => ?_)
    clear hK K
    (try simp only [Act.put, List.setIfInBounds_toArray, List.set_cons_zero, List.set_cons_succ])
    refine wpAnyH_done (by kernel_rfl) ?_ _
    go_end0
    exact ⟨rfl, HZ4.out, HY4.out⟩
end Go.Proofs.Ytohfkgfjcnldaaa
