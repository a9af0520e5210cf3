/- Package undo: remove. -/
import Derived.Test.YtohfkgfjcnldaaaTh
namespace Go.Proofs.Ytohfkgfjcnldaaa
open Go.RowKit
theorem results_cellr {fn : Func} {p : Tmp} {ty : TypeId} (h : fn.results = #[.cell p ty]) (tmps : Array Value) (P : Program) (w : World) (a : Addr) (ha : tmps.getD p undef = .pointer (some a)) {v : Value} (hl : (loadVar ty a).run P w = .ok v w) : (results fn tmps).run P w = .ok v w := by
  have ha' : tmps[p]?.getD undef = .pointer (some a) := by simpa using ha
  simp only [results, h]
  simp [ha', hl, asAddr]
theorem loadRow {w : World} {x : Nat} {p : Int × Int} (c0 : w.cell? ⟨x, 0, none⟩ = some (.int .i64 p.1)) (c1 : w.cell? ⟨x, 1, none⟩ = some (.int .i64 p.2)) : (loadVar 112 ⟨x, 0, none⟩).run Try.prog w = .ok (.agg #[.int .i64 p.1, .int .i64 p.2]) w := by
  go_simp
set_option maxHeartbeats 4000000 in
set_option maxRecDepth 100000 in
theorem remove_is (w : World) (b pm : Nat) (ra : Option Addr) (rc : Nat) (ba : Option Addr) (bc : Nat) (ma : Option Addr) (mc n : Nat) (m : Int → Option Nat) (L : List (Int × Int)) (U : List Value) (M : List Nat) (h : Tab0 w b pm ra rc ba bc ma mc n m L U M) (i lt : Nat) (hlt : L.length = lt + 1) (p q : Int × Int) (hp : L[i]? = some p) (hq : L[lt]? = some q) (kp : I64 p.1) (kq : I64 q.1) (hL : L.length < 549755813888) (hn : n < 549755813888) :
    Calls Try.prog 73 #[.pointer (some ⟨b, 0, none⟩), .int .i64 (i : Int)] w fun e w' => e = .returned (.agg #[.int .i64 p.1, .int .i64 p.2]) ∧ Tab0 w' b pm ra rc ba bc ma mc ((stepN (stepN n m q.1) (upd m q.1 (some i)) p.1) - 1) (upd (upd (upd m q.1 (some i)) p.1 (some lt)) p.1 none) ((swapL L i lt p q).take lt) U M ∧ But (TS b pm ra ba ma) w w' := by
  obtain ⟨w1, ew⟩ : ∃ w1, w.alloc (.cells #[.int .i64 0, .int .i64 0] 112) = w1 := ⟨_, rfl⟩
  have X1 : Hid (CBox w1 w.heap.size 112 [.int .i64 0, .int .i64 0]) := by rw [← ew]; exact CBox.new w _ _
  have H1 : Hid (Tab0 w1 b pm ra rc ba bc ma mc n m L U M) := by rw [← ew]; exact h.alloc _
  have Y1 : Hid (But (TS b pm ra ba ma) w w1) := by rw [← ew]; exact (But.refl _ _).alloc _
  have HLT : Hid (∀ j, TS b pm ra ba ma j → j < w.heap.size) := h.lt
  obtain ⟨g, eg, _⟩ := h.row hq
  have HP : Hid (L[i]? = some p ∧ L[lt]? = some q ∧ I64 p.1 ∧ I64 q.1 ∧ L.length = lt + 1 ∧ n < 549755813888 ∧ ra = some ⟨g, 0, none⟩) := ⟨hp, hq, kp, kq, hlt, hn, eg⟩
  have SW : Hid (Calls Try.prog 88 #[.pointer (some ⟨b, 0, none⟩), .int .i64 (i : Int), .int .i64 (lt : Int)] w1 fun e w' => e = .returned (.tuple #[]) ∧ Tab0 w' b pm ra rc ba bc ma mc (stepN (stepN n m q.1) (upd m q.1 (some i)) p.1) (upd (upd m q.1 (some i)) p.1 (some lt)) (swapL L i lt p q) U M ∧ But (TS b pm ra ba ma) w1 w') := swap_is w1 b pm ra rc ba bc ma mc n m L U M H1.out i lt p q hp hq kp kq (by omega) (by omega)
  have c0 := H1.out.c0
  rw [hlt] at c0
  have lX : (lt : Int) ≤ 549755813888 := by omega
  obtain ⟨bx, ex⟩ : ∃ bx, w.heap.size = bx := ⟨_, rfl⟩
  have EX : Hid (w.heap.size = bx) := ex
  rw [ex] at X1
  clear h hp hq kp kq hL hn hlt eg H1
  go_enter Try.func73, Try.ntmps73
  go_upto_region 3 with (go_at_call 88; refine (SW.out).mono ?_; rintro e v2 ⟨rfl, h1, h2⟩)
  have H2 : Hid (Tab0 v2 b pm ra rc ba bc ma mc (stepN (stepN n m q.1) (upd m q.1 (some i)) p.1) (upd (upd m q.1 (some i)) p.1 (some lt)) (swapL L i lt p q) U M) := h1
  have Y2 : Hid (But (TS b pm ra ba ma) w v2) := Y1.out.trans h2
  have NT : Hid (¬ TS b pm ra ba ma bx) := fun e => by have := HLT.out bx e; rw [EX.out] at this; omega
  have X2 : Hid (CBox v2 bx 112 [.int .i64 0, .int .i64 0]) := X1.out.but h2 NT.out
  clear h1 h2 SW X1 Y1 c0 ew ex
  have AT : Hid ((swapL L i lt p q)[lt]? = some p) := swap_at2 (by have := HP.out; omega)
  have EL : Hid ((swapL L i lt p q).length = lt + 1) := by rw [swapL_len]; exact HP.out.2.2.2.2.1
  have c0 : v2.cell? ⟨b, 0, none⟩ = some (.slice (some ⟨g, 0, none⟩) (lt + 1) rc) := by have := H2.out.c0; rw [EL.out, HP.out.2.2.2.2.2.2] at this; exact this
  obtain ⟨d0, d1, _, _⟩ := H2.out.rowg HP.out.2.2.2.2.2.2 AT.out
  go_upto_region 4 with fail
  clear c0 d0 d1
  have H3 : Hid (Tab0 (v2.alloc (.cells #[.int .i64 p.1, .int .i64 p.2] 112)) b pm ra rc ba bc ma mc (stepN (stepN n m q.1) (upd m q.1 (some i)) p.1) (upd (upd m q.1 (some i)) p.1 (some lt)) (swapL L i lt p q) U M) := H2.out.alloc _
  have Y3 : Hid (But (TS b pm ra ba ma) w (v2.alloc (.cells #[.int .i64 p.1, .int .i64 p.2] 112))) := Y2.out.alloc _
  have X3 : Hid (CBox (v2.alloc (.cells #[.int .i64 p.1, .int .i64 p.2] 112)) bx 112 [.int .i64 0, .int .i64 0]) := X2.out.but (S := fun _ => False) ((But.refl _ _).alloc _) id
  have Z3 : Hid (CBox (v2.alloc (.cells #[.int .i64 p.1, .int .i64 p.2] 112)) v2.heap.size 112 [.int .i64 p.1, .int .i64 p.2]) := CBox.new v2 _ _
  have NZ : Hid (¬ TS b pm ra ba ma v2.heap.size ∧ v2.heap.size ≠ bx) := ⟨fun e => by have := HLT.out _ e; have := Y2.out.size; omega, fun e => by have := X2.out.lt; omega⟩
  generalize v2.alloc (.cells #[.int .i64 p.1, .int .i64 p.2] 112) = v3 at H3 Y3 X3 Z3 ⊢
  generalize v2.heap.size = by_ at Z3 NZ ⊢
  clear H2 Y2 X2
  have HD : Hid (Tab0 v3.drew b pm ra rc ba bc ma mc (stepN (stepN n m q.1) (upd m q.1 (some i)) p.1) (upd (upd m q.1 (some i)) p.1 (some lt)) (swapL L i lt p q) U M) := H3.out.drew
  have YD : Hid (But (TS b pm ra ba ma) w v3.drew) := Y3.out.drew
  have XD : Hid (CBox v3.drew bx 112 [.int .i64 0, .int .i64 0]) := X3.out
  have ZD : Hid (CBox v3.drew by_ 112 [.int .i64 p.1, .int .i64 p.2]) := Z3.out
  have hh : v3.drew.cell? ⟨b, 1, none⟩ = some (.map (some pm)) ∧ v3.drew.cell? ⟨by_, 0, none⟩ = some (.int .i64 p.1) := ⟨HD.out.c1, ZD.out.cell 0⟩
  refine wp_region_held_drew (S := fun V' => V'.cell? ⟨b, 1, none⟩ = some (.map (some pm)) ∧ V'.cell? ⟨by_, 0, none⟩ = some (.int .i64 p.1)) (by kernel_rfl) hh (fun hHeld => ?_)
  generalize v3.drew = z0 at hHeld HD YD XD ZD ⊢
  clear hh
  refine wpAnyH_take (i := 0) (v := .pointer (some ⟨b, 0, none⟩)) ov0 (by kernel_rfl) (by kernel_rfl) (by kernel_rfl) (fun _ _ _ h => h) (Or.inl ⟨by rfl, fun V' hS => ?_⟩) hHeld ?_
  · go_simp
  simp only [Act.put, List.setIfInBounds_toArray, List.set_cons_zero, List.set_cons_succ]
  refine wpAnyH_take (i := 1) (v := .pointer (some ⟨b, 0, none⟩)) ov1 (by kernel_rfl) (by kernel_rfl) (by kernel_rfl) (fun _ _ _ h => h) (Or.inl ⟨by rfl, fun V' hS => ?_⟩) hHeld ?_
  · go_simp
  simp only [Act.put, List.setIfInBounds_toArray, List.set_cons_zero, List.set_cons_succ]
  refine wpAnyH_take (i := 2) (v := .pointer (some ⟨b, 1, none⟩)) ov2 (by kernel_rfl) (by kernel_rfl) (by kernel_rfl) (fun _ _ _ h => h) (Or.inl ⟨by rfl, fun V' hS => ?_⟩) hHeld ?_
  · go_simp
  simp only [Act.put, List.setIfInBounds_toArray, List.set_cons_zero, List.set_cons_succ]
  refine wpAnyH_take (i := 3) (v := .map (some pm)) ov3 (by kernel_rfl) (by kernel_rfl) (by kernel_rfl) (fun _ _ _ h => h) (Or.inl ⟨by rfl, fun V' hS => ?_⟩) hHeld ?_
  · obtain ⟨s1, s2⟩ := hS
    go_simp
  simp only [Act.put, List.setIfInBounds_toArray, List.set_cons_zero, List.set_cons_succ]
  refine wpAnyH_take (i := 4) (v := .pointer (some ⟨by_, 0, none⟩)) ov4 (by kernel_rfl) (by kernel_rfl) (by kernel_rfl) (fun _ _ _ h => h) (Or.inl ⟨by rfl, fun V' hS => ?_⟩) hHeld ?_
  · go_simp
  simp only [Act.put, List.setIfInBounds_toArray, List.set_cons_zero, List.set_cons_succ]
  refine wpAnyH_take (i := 5) (v := .int .i64 p.1) ov5 (by kernel_rfl) (by kernel_rfl) (by kernel_rfl) (fun _ _ _ h => h) (Or.inl ⟨by rfl, fun V' hS => ?_⟩) hHeld ?_
  · obtain ⟨s1, s2⟩ := hS
    go_simp
  simp only [Act.put, List.setIfInBounds_toArray, List.set_cons_zero, List.set_cons_succ]
  refine wpAnyH_ready (rs := [6]) (by kernel_rfl) (by simp) ?_
  refine AllReadyH.cons ov6 (fun K hK => ?_) AllReadyH.nil
  rw [if_pos (by rfl)]
  obtain ⟨v5, hr, hpm, hgw⟩ := HD.out.pl.drop p.1 HP.out.2.2.1 (by unfold upd; rw [if_pos rfl]; rfl) 0
  go_simp
  have H5 : Hid (Tab0 v5 b pm ra rc ba bc ma mc ((stepN (stepN n m q.1) (upd m q.1 (some i)) p.1) - 1) (upd (upd (upd m q.1 (some i)) p.1 (some lt)) p.1 none) (swapL L i lt p q) U M) := (HD.out.upMap hpm hgw).1
  have Q5 : Hid (But (fun k => k = pm) z0 v5) := grown_but hgw (fun k e => by injection e with e; exact e.symm)
  have Y5 : Hid (But (TS b pm ra ba ma) w v5) := YD.out.trans (HD.out.upMap hpm hgw).2
  have X5 : Hid (CBox v5 bx 112 [.int .i64 0, .int .i64 0]) := XD.out.but Q5.out (fun e => NT.out (Or.inr (Or.inl e)))
  have Z5 : Hid (CBox v5 by_ 112 [.int .i64 p.1, .int .i64 p.2]) := ZD.out.but Q5.out (fun e => NZ.out.1 (Or.inr (Or.inl e)))
  have hH5 : v5.cell? ⟨b, 1, none⟩ = some (.map (some pm)) ∧ v5.cell? ⟨by_, 0, none⟩ = some (.int .i64 p.1) := ⟨H5.out.c1, Z5.out.cell 0⟩
  clear hr hpm hgw Q5
  refine hK.out _ _ hH5 (fun _ => ?_)
  clear hK K
  (try simp only [Act.put, List.setIfInBounds_toArray, List.set_cons_zero, List.set_cons_succ])
  refine wpAnyH_done (by kernel_rfl) ?_ _
  clear hHeld hH5 HD YD XD ZD H3 Y3 X3 Z3
  obtain ⟨a1, c1, v6, hs1, hs2, hs3, hs4⟩ := clear_tail und_rows elem_rows size_row zero_row rfl (by simp [Value.cells, Value.oneCell']) (by decide) H5.out.rows lt (by rw [EL.out]; omega)
  have hc : lt ≤ rc := by
    rcases hs3.2 with ⟨e1, e2⟩ | ⟨g9, c, cur, e1, _, _, h5, _⟩
    · omega
    · injection e1 with _ _ e3; omega
  rw [EL.out] at hs1 hs2
  have hs5 := slice_head (W := v6) und_rows elem_rows size_row ra (lt + 1) rc lt hc
  have HR : Hid (v6.ownsRow 0 112 2 (.slice ra lt rc) lt (rowsD ((swapL L i lt p q).take lt)) ∧ But (Own ra) v5 v6) := ⟨by rw [rowsD_take] at hs3; exact hs3, hs4⟩
  have NB : ∀ j, Own ra j → j ≠ b := fun j e => row_box H5.out.rows H5.out.box (by decide) e
  have k0 : v5.cell? ⟨b, 0, none⟩ = some (.slice ra (lt + 1) rc) := by have := H5.out.c0; rw [EL.out] at this; exact this
  have d0 : v6.cell? ⟨b, 0, none⟩ = some (.slice ra (lt + 1) rc) := (hs4.cell (p := ⟨b, 0, none⟩) H5.out.box.lt (fun e => NB b e rfl)).trans k0
  have f0 : v6.frozen? ⟨b, 0, none⟩ = false := (hs4.frozen (p := ⟨b, 0, none⟩) H5.out.box.lt (fun e => NB b e rfl)).trans (H5.out.fr 0)
  have X6 : Hid (CBox v6 bx 112 [.int .i64 0, .int .i64 0]) := X5.out.but hs4 (fun e => NT.out (Or.inr (Or.inr (Or.inl e))))
  have Z6 : Hid (CBox v6 by_ 112 [.int .i64 p.1, .int .i64 p.2]) := Z5.out.but hs4 (fun e => NZ.out.1 (Or.inr (Or.inr (Or.inl e))))
  have dE : lt + 1 - lt = 1 := by omega
  rw [dE] at hs1 hs2
  clear hs3 hs4 NB hc dE
  go_upto_region 7 with fail
  have H7 : Hid (Tab0 (v6.setCell ⟨b, 0, none⟩ (.slice ra lt rc)) b pm ra rc ba bc ma mc ((stepN (stepN n m q.1) (upd m q.1 (some i)) p.1) - 1) (upd (upd (upd m q.1 (some i)) p.1 (some lt)) p.1 none) ((swapL L i lt p q).take lt) U M ∧ But (TS b pm ra ba ma) v5 (v6.setCell ⟨b, 0, none⟩ (.slice ra lt rc))) := by
    have el : ((swapL L i lt p q).take lt).length = lt := List.length_take_of_le (by rw [EL.out]; omega)
    have := H5.out.upRows (ra' := ra) (rc' := rc) (L' := (swapL L i lt p q).take lt) HR.out.2 (by rw [el]; exact HR.out.1) (Or.inl rfl)
    rw [el] at this
    exact ⟨this.1, this.2.1⟩
  have NBX : Hid (bx ≠ b ∧ by_ ≠ b) := ⟨fun e => NT.out (Or.inl e), fun e => NZ.out.1 (Or.inl e)⟩
  have S7 : Hid (But (fun k => k = b) v6 (v6.setCell ⟨b, 0, none⟩ (.slice ra lt rc))) := (But.refl _ _).setCell _ _ (Or.inl rfl)
  have X7 : Hid (CBox (v6.setCell ⟨b, 0, none⟩ (.slice ra lt rc)) bx 112 [.int .i64 0, .int .i64 0]) := X6.out.but S7.out NBX.out.1
  have Z7 : Hid (CBox (v6.setCell ⟨b, 0, none⟩ (.slice ra lt rc)) by_ 112 [.int .i64 p.1, .int .i64 p.2]) := Z6.out.but S7.out NBX.out.2
  clear hs1 hs2 hs5 k0 d0 f0 S7 X6 Z6 HR
  generalize v6.setCell ⟨b, 0, none⟩ (.slice ra lt rc) = v7 at H7 X7 Z7 ⊢
  have z0 : v7.cell? ⟨by_, 0, none⟩ = some (.int .i64 p.1) := Z7.out.cell 0
  have z1 : v7.cell? ⟨by_, 1, none⟩ = some (.int .i64 p.2) := Z7.out.cell 1
  have x0 : v7.cell? ⟨bx, 0, none⟩ = some (.int .i64 0) := X7.out.cell 0
  have x1 : v7.cell? ⟨bx, 1, none⟩ = some (.int .i64 0) := X7.out.cell 1
  have y0 : v7.frozen? ⟨bx, 0, none⟩ = false := X7.out.frozen 0
  have y1 : v7.frozen? ⟨bx, 1, none⟩ = false := X7.out.frozen 1
  go_wp2
  have X8 : CBox ((v7.setCell ⟨bx, 0, none⟩ (.int .i64 p.1)).setCell ⟨bx, 1, none⟩ (.int .i64 p.2)) bx 112 [.int .i64 p.1, .int .i64 p.2] := (X7.out.set 0 _).set 1 _
  have S8 : But (fun k => k = bx) v7 ((v7.setCell ⟨bx, 0, none⟩ (.int .i64 p.1)).setCell ⟨bx, 1, none⟩ (.int .i64 p.2)) := ((But.refl (fun k => k = bx) v7).setCell ⟨bx, 0, none⟩ (.int .i64 p.1) (Or.inl rfl)).setCell ⟨bx, 1, none⟩ (.int .i64 p.2) (Or.inl rfl)
  have H8 := H7.out.1.but S8 (fun j hj e => NT.out (e ▸ hj))
  refine bodyPost_ret (v := .agg #[.int .i64 p.1, .int .i64 p.2]) (results_cellr rfl _ _ _ ⟨bx, 0, none⟩ rfl (loadRow (X8.cell 0) (X8.cell 1))) rfl ⟨rfl, H8, ?_⟩
  exact ⟨S8.os.trans (H7.out.2.os.trans Y5.out.os), S8.tape.trans (H7.out.2.tape.trans Y5.out.tape), S8.output.trans (H7.out.2.output.trans Y5.out.output), Nat.le_trans Y5.out.size (Nat.le_trans H7.out.2.size S8.size), fun k hk hn => (S8.block k (Nat.lt_of_lt_of_le hk (Nat.le_trans Y5.out.size H7.out.2.size)) (fun e => by rw [EX.out] at hk; omega)).trans ((Y5.out.trans H7.out.2).block k hk hn)⟩
end Go.Proofs.Ytohfkgfjcnldaaa
