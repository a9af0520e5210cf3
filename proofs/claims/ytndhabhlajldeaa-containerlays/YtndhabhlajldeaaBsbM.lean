/- The laws' sameParts, same, rejects, of what is the same. -/
import Derived.Test.YtndhabhlajldeaaBrq
import Derived.Test.YtndhabhlajldeaaBrn
import Derived.Test.YtndhabhlajldeaaBrm
namespace Go.Proofs.Ytndhabhlajldeaa
open Go.RowKit
set_option maxHeartbeats 4000000 in
set_option maxRecDepth 100000 in
theorem sameParts_is {P R : Nat → Prop} (w : World) (v u : Value) (ll : List (List Nat)) (h : PL P w v ll) (k : PL R w u ll) : Calls Try.prog 59 #[v, u] w fun e w' => e = .returned (.bool true) ∧ Below w.heap.size w w' := by
  obtain ⟨ad, cap, rfl, _, hl⟩ := h.len
  obtain ⟨bd, cbp, rfl, _, _⟩ := k.len
  have HX : Hid (∀ W, Below w.heap.size w W → PL P W (.slice ad ll.length cap) ll) := fun W hW => h.past hW
  have HY : Hid (∀ W, Below w.heap.size w W → PL R W (.slice bd ll.length cbp) ll) := fun W hW => k.past hW
  have nI : (ll.length : Int) ≤ 1152921504606846976 := by omega
  generalize hn : ll.length = n at *
  have HN : Hid (ll.length = n) := hn
  clear h k hl hn
  generalize hbw : w.heap.size = bw at *
  have GE : Hid (bw ≤ w.heap.size) := by unfold Hid; omega
  clear hbw
  have B00 : Hid (Below bw w w) := Below.refl _ _
  go_enter Try.func59, Try.ntmps59
  go_wp2
  go_loopw [5] (fun s5 wr => ∃ k : Nat, s5 = .int .i64 (k : Int) ∧ k ≤ n ∧ Below bw w wr) (fun s5 _ => n - (intOf s5).toNat)
  case atStart => exact ⟨0, rfl, by omega, B00.out⟩
  case round =>
    obtain ⟨k, rfl, hk, hB⟩ := hrel
    have B : Hid (Below bw w wr) := hB
    clear hB B00
    by_cases e : k = n
    · subst e
      go_wp2
      go_ret
      exact ⟨rfl, B.out⟩
    · have kn : (k : Int) < (n : Int) := by omega
      obtain ⟨x, hx⟩ : ∃ x, ll[k]? = some x := ⟨ll[k]'(by have := HN.out; omega), List.getElem?_eq_getElem _⟩
      obtain ⟨g1, a1, y1, rfl, c1, b1⟩ := (HX.out wr B.out).get hx
      obtain ⟨g2, a2, y2, rfl, c2, b2⟩ := (HY.out wr B.out).get hx
      obtain ⟨ua, uc, rfl, _, _⟩ := b1.len
      obtain ⟨va, vc, rfl, _, _⟩ := b2.len
      have SB : Hid (∀ W, Below wr.heap.size wr W → Calls Try.prog 37 #[.slice ua x.length uc, .slice va x.length vc] W fun e w' => e = .returned (.bool true) ∧ Below W.heap.size W w') := fun W hW => by
        have := sameBytes_is W _ _ x x (b1.past hW) (b2.past hW)
        rwa [show decide (x = x) = true from by simp] at this
      clear e b1 b2 hx
      go_upto_region 6 with fail
      refine wp_region_held_drew (S := fun V' => V'.cell? ⟨g1, a1 + k, none⟩ = some (.slice ua x.length uc) ∧ V'.cell? ⟨g2, a2 + k, none⟩ = some (.slice va x.length vc)) (by kernel_rfl) ⟨c1, c2⟩ (fun hHeld => ?_)
      have B0 : Hid (Below bw w wr.drew ∧ Below wr.heap.size wr wr.drew) := ⟨B.out.drew, below_drew⟩
      generalize wr.drew = z0 at hHeld B0 ⊢
      refine wpAnyH_take (i := 0) (v := .slice (some ⟨g1, a1, none⟩) n cap) ov0 (by kernel_rfl) (by kernel_rfl) (by kernel_rfl) (fun _ _ _ h => h) (Or.inl ⟨by rfl, fun V' hS => ?_⟩) hHeld ?_
      · go_simp
      simp only [Act.put, List.setIfInBounds_toArray, List.set_cons_zero, List.set_cons_succ]
      refine wpAnyH_take (i := 1) (v := .int .i64 (k : Int)) ov1 (by kernel_rfl) (by kernel_rfl) (by kernel_rfl) (fun _ _ _ h => h) (Or.inl ⟨by rfl, fun V' hS => ?_⟩) hHeld ?_
      · go_simp
      simp only [Act.put, List.setIfInBounds_toArray, List.set_cons_zero, List.set_cons_succ]
      refine wpAnyH_take (i := 2) (v := .pointer (some ⟨g1, a1 + k, none⟩)) ov2 (by kernel_rfl) (by kernel_rfl) (by kernel_rfl) (fun _ _ _ h => h) (Or.inl ⟨by rfl, fun V' hS => ?_⟩) hHeld ?_
      · go_simp
      simp only [Act.put, List.setIfInBounds_toArray, List.set_cons_zero, List.set_cons_succ]
      refine wpAnyH_take (i := 3) (v := .slice ua x.length uc) ov3 (by kernel_rfl) (by kernel_rfl) (by kernel_rfl) (fun _ _ _ h => h) (Or.inl ⟨by rfl, fun V' hS => ?_⟩) hHeld ?_
      · have c0 := hS.1
        go_simp
      simp only [Act.put, List.setIfInBounds_toArray, List.set_cons_zero, List.set_cons_succ]
      refine wpAnyH_take (i := 4) (v := .slice (some ⟨g2, a2, none⟩) n cbp) ov4 (by kernel_rfl) (by kernel_rfl) (by kernel_rfl) (fun _ _ _ h => h) (Or.inl ⟨by rfl, fun V' hS => ?_⟩) hHeld ?_
      · go_simp
      simp only [Act.put, List.setIfInBounds_toArray, List.set_cons_zero, List.set_cons_succ]
      refine wpAnyH_take (i := 5) (v := .int .i64 (k : Int)) ov5 (by kernel_rfl) (by kernel_rfl) (by kernel_rfl) (fun _ _ _ h => h) (Or.inl ⟨by rfl, fun V' hS => ?_⟩) hHeld ?_
      · go_simp
      simp only [Act.put, List.setIfInBounds_toArray, List.set_cons_zero, List.set_cons_succ]
      refine wpAnyH_take (i := 6) (v := .pointer (some ⟨g2, a2 + k, none⟩)) ov6 (by kernel_rfl) (by kernel_rfl) (by kernel_rfl) (fun _ _ _ h => h) (Or.inl ⟨by rfl, fun V' hS => ?_⟩) hHeld ?_
      · go_simp
      simp only [Act.put, List.setIfInBounds_toArray, List.set_cons_zero, List.set_cons_succ]
      refine wpAnyH_take (i := 7) (v := .slice va x.length vc) ov7 (by kernel_rfl) (by kernel_rfl) (by kernel_rfl) (fun _ _ _ h => h) (Or.inl ⟨by rfl, fun V' hS => ?_⟩) hHeld ?_
      · have c0 := hS.2
        go_simp
      simp only [Act.put, List.setIfInBounds_toArray, List.set_cons_zero, List.set_cons_succ]
      refine wpAnyH_ready (rs := [8]) (by kernel_rfl) (by simp) ?_
      refine AllReadyH.cons ov8 (fun K hK => ?_) AllReadyH.nil
      rw [if_pos (by rfl)]
      go_simp
      refine (SB.out _ B0.out.2).mono ?_
      rintro e z1 ⟨rfl, hB1⟩
      have B1 : Hid (Below bw w z1) := B0.out.1.trans (hB1.mono (Nat.le_trans GE.out B0.out.1.size))
      have H1 := And.intro ((hB1.cell (p := ⟨g1, a1 + k, none⟩) (World.block_lt_of_cell? _ _ hHeld.1)).trans hHeld.1) ((hB1.cell (p := ⟨g2, a2 + k, none⟩) (World.block_lt_of_cell? _ _ hHeld.2)).trans hHeld.2)
      clear hB1
      (try go_wp2_with fail)
      refine hK.out _ _ H1 (fun _ => ?_)
      clear hK K
      (try simp only [Act.put, List.setIfInBounds_toArray, List.set_cons_zero, List.set_cons_succ])
      refine wpAnyH_take (i := 9) (v := .bool false) ov9 (by kernel_rfl) (by kernel_rfl) (by kernel_rfl) (fun _ _ _ h => h) (Or.inl ⟨by rfl, fun V' hS => ?_⟩) H1 ?_
      · go_simp
      simp only [Act.put, List.setIfInBounds_toArray, List.set_cons_zero, List.set_cons_succ]
      refine wpAnyH_done (by kernel_rfl) ?_ _
      clear hHeld H1 B0 B SB
      go_wp2
      go_roundw
      case rel => exact ⟨k + 1, by first | rfl | go_num, by omega, B1.out⟩
      case measure => simp [intOf]; omega
/-- in the midst of same -/
structure SmM (bw bx by' : Nat) (P R : Nat → Prop) (w W : World) (tv cv sv dv tu cu su du : Value) (c : Con) : Prop where
  c1 : CBox W bx 28 [tv, cv, sv, dv, .int .i64 c.n]
  c2 : CBox W by' 28 [tu, cu, su, du, .int .i64 c.n]
  t1 : TL P W tv c.ts
  t2 : TL R W tu c.ts
  p1 : PL P W cv c.cs
  p2 : PL R W cu c.cs
  s1 : PL P W sv c.ss
  s2 : PL R W su c.ss
  d1 : BL P W dv c.d
  d2 : BL R W du c.d
  bel : Below bw w W
  ge : bw ≤ w.heap.size
theorem SmM.past {bw bx by' : Nat} {P R : Nat → Prop} {w W W' : World} {tv cv sv dv tu cu su du : Value} {c : Con} (h : SmM bw bx by' P R w W tv cv sv dv tu cu su du c) (k : Below W.heap.size W W') : SmM bw bx by' P R w W' tv cv sv dv tu cu su du c :=
  ⟨h.c1.past k, h.c2.past k, h.t1.past k, h.t2.past k, h.p1.past k, h.p2.past k, h.s1.past k, h.s2.past k, h.d1.past k, h.d2.past k, h.bel.trans (k.mono (Nat.le_trans h.ge h.bel.size)), h.ge⟩
theorem ty_neq (x y z : Int) (W : World) : Sem.run Try.prog (binOp BinOp.neq 77 (.agg #[.int .i64 x, .int .i64 y, .int .i64 z]) (.agg #[.int .i64 x, .int .i64 y, .int .i64 z])) W = .ok (.bool false) W := by go_simp
theorem sameB_is {P R : Nat → Prop} (w : World) (v u : Value) (x : List Nat) (h : BL P w v x) (k : BL R w u x) : Calls Try.prog 37 #[v, u] w fun e w' => e = .returned (.bool true) ∧ Below w.heap.size w w' := by
  have := sameBytes_is w v u x x h k
  rwa [show decide (x = x) = true from by simp] at this
set_option maxHeartbeats 4000000 in
set_option maxRecDepth 100000 in
theorem same_is {P R : Nat → Prop} (w : World) (v u : Value) (c : Con) (h : CW P w v c) (k : CW R w u c) : Calls Try.prog 22 #[v, u] w fun e w' => e = .returned (.bool true) ∧ Below w.heap.size w w' := by
  obtain ⟨tv, cv, sv, dv, rfl, h1, h2, h3, h4⟩ := h
  obtain ⟨tu, cu, su, du, rfl, k1, k2, k3, k4⟩ := k
  obtain ⟨ta, tc, rfl, _, hl⟩ := h1.len
  obtain ⟨ca, cc, rfl, _⟩ := h2.len
  obtain ⟨sa, sc, rfl, _⟩ := h3.len
  obtain ⟨da, dc, rfl, _⟩ := h4.len
  obtain ⟨ta', tc', rfl, _⟩ := k1.len
  obtain ⟨ca', cc', rfl, _⟩ := k2.len
  obtain ⟨sa', sc', rfl, _⟩ := k3.len
  obtain ⟨da', dc', rfl, _⟩ := k4.len
  have nI : (c.ts.length : Int) ≤ 1152921504606846976 := by omega
  have b1 := below_alloc w (.cells #[.slice ta c.ts.length tc, .slice ca c.cs.length cc, .slice sa c.ss.length sc, .slice da c.d.length dc, .int .i64 c.n] 28)
  have b2 := below_alloc (w.alloc (.cells #[.slice ta c.ts.length tc, .slice ca c.cs.length cc, .slice sa c.ss.length sc, .slice da c.d.length dc, .int .i64 c.n] 28)) (.cells #[.slice ta' c.ts.length tc', .slice ca' c.cs.length cc', .slice sa' c.ss.length sc', .slice da' c.d.length dc', .int .i64 c.n] 28)
  have s1 : (w.alloc (.cells #[.slice ta c.ts.length tc, .slice ca c.cs.length cc, .slice sa c.ss.length sc, .slice da c.d.length dc, .int .i64 c.n] 28)).heap.size = w.heap.size + 1 := by simp
  have bb : Below w.heap.size w ((w.alloc (.cells #[.slice ta c.ts.length tc, .slice ca c.cs.length cc, .slice sa c.ss.length sc, .slice da c.d.length dc, .int .i64 c.n] 28)).alloc (.cells #[.slice ta' c.ts.length tc', .slice ca' c.cs.length cc', .slice sa' c.ss.length sc', .slice da' c.d.length dc', .int .i64 c.n] 28)) := b1.trans (b2.mono (by omega))
  have c2 := CBox.new (w.alloc (.cells #[.slice ta c.ts.length tc, .slice ca c.cs.length cc, .slice sa c.ss.length sc, .slice da c.d.length dc, .int .i64 c.n] 28)) 28 [.slice ta' c.ts.length tc', .slice ca' c.cs.length cc', .slice sa' c.ss.length sc', .slice da' c.d.length dc', .int .i64 c.n]
  rw [s1] at c2
  have M : Hid (SmM w.heap.size w.heap.size (w.heap.size + 1) P R w ((w.alloc (.cells #[.slice ta c.ts.length tc, .slice ca c.cs.length cc, .slice sa c.ss.length sc, .slice da c.d.length dc, .int .i64 c.n] 28)).alloc (.cells #[.slice ta' c.ts.length tc', .slice ca' c.cs.length cc', .slice sa' c.ss.length sc', .slice da' c.d.length dc', .int .i64 c.n] 28)) (.slice ta c.ts.length tc) (.slice ca c.cs.length cc) (.slice sa c.ss.length sc) (.slice da c.d.length dc) (.slice ta' c.ts.length tc') (.slice ca' c.cs.length cc') (.slice sa' c.ss.length sc') (.slice da' c.d.length dc') c) := ⟨(CBox.new w 28 [.slice ta c.ts.length tc, .slice ca c.cs.length cc, .slice sa c.ss.length sc, .slice da c.d.length dc, .int .i64 c.n]).past b2, c2, h1.past bb, k1.past bb, h2.past bb, k2.past bb, h3.past bb, k3.past bb, h4.past bb, k4.past bb, bb, Nat.le_refl _⟩
  clear h1 h2 h3 h4 k1 k2 k3 k4 b1 b2 s1 bb c2
  go_enter Try.func22, Try.ntmps22
  go_upto_region 1 with fail
  generalize w.heap.size + 1 = by' at M ⊢
  generalize hbx : w.heap.size = bx at M ⊢
  have GB : Hid (w.heap.size = bx) := hbx
  clear hbx
  generalize (w.alloc _).alloc _ = W0 at M ⊢
  refine wp_region_lit ?_
  refine lst_val (v := .pointer (some ⟨bx, 0, none⟩)) (by kernel_rfl) ?_ ?_
  · go_simp
  simp only [Act.put, List.setIfInBounds_toArray, List.set_cons_zero, List.set_cons_succ]
  refine lst_val (v := .slice ta c.ts.length tc) (by kernel_rfl) ?_ ?_
  · have c0 := M.out.c1.cell 0
    go_simp
  simp only [Act.put, List.setIfInBounds_toArray, List.set_cons_zero, List.set_cons_succ]
  refine lst_val (v := .int .i64 (c.ts.length : Int)) (by kernel_rfl) ?_ ?_
  · go_simp
  simp only [Act.put, List.setIfInBounds_toArray, List.set_cons_zero, List.set_cons_succ]
  refine lst_val (v := .pointer (some ⟨by', 0, none⟩)) (by kernel_rfl) ?_ ?_
  · go_simp
  simp only [Act.put, List.setIfInBounds_toArray, List.set_cons_zero, List.set_cons_succ]
  refine lst_val (v := .slice ta' c.ts.length tc') (by kernel_rfl) ?_ ?_
  · have c0 := M.out.c2.cell 0
    go_simp
  simp only [Act.put, List.setIfInBounds_toArray, List.set_cons_zero, List.set_cons_succ]
  refine lst_val (v := .int .i64 (c.ts.length : Int)) (by kernel_rfl) ?_ ?_
  · go_simp
  simp only [Act.put, List.setIfInBounds_toArray, List.set_cons_zero, List.set_cons_succ]
  refine lst_val (v := .bool false) (by kernel_rfl) ?_ ?_
  · go_simp
  simp only [Act.put, List.setIfInBounds_toArray, List.set_cons_zero, List.set_cons_succ]
  refine lst_val (v := .bool false) (by kernel_rfl) ?_ ?_
  · go_simp
  simp only [Act.put, List.setIfInBounds_toArray, List.set_cons_zero, List.set_cons_succ]
  refine lst_val (v := .pointer (some ⟨bx, 4, none⟩)) (by kernel_rfl) ?_ ?_
  · go_simp
  simp only [Act.put, List.setIfInBounds_toArray, List.set_cons_zero, List.set_cons_succ]
  refine lst_val (v := .int .i64 c.n) (by kernel_rfl) ?_ ?_
  · have c0 := M.out.c1.cell 4
    go_simp
  simp only [Act.put, List.setIfInBounds_toArray, List.set_cons_zero, List.set_cons_succ]
  refine lst_val (v := .pointer (some ⟨by', 4, none⟩)) (by kernel_rfl) ?_ ?_
  · go_simp
  simp only [Act.put, List.setIfInBounds_toArray, List.set_cons_zero, List.set_cons_succ]
  refine lst_val (v := .int .i64 c.n) (by kernel_rfl) ?_ ?_
  · have c0 := M.out.c2.cell 4
    go_simp
  simp only [Act.put, List.setIfInBounds_toArray, List.set_cons_zero, List.set_cons_succ]
  refine lst_val (v := .bool false) (by kernel_rfl) ?_ ?_
  · go_simp
  simp only [Act.put, List.setIfInBounds_toArray, List.set_cons_zero, List.set_cons_succ]
  refine lst_val (v := .bool false) (by kernel_rfl) ?_ ?_
  · go_simp
  simp only [Act.put, List.setIfInBounds_toArray, List.set_cons_zero, List.set_cons_succ]
  refine lst_val (v := .bool false) (by kernel_rfl) ?_ ?_
  · go_simp
  simp only [Act.put, List.setIfInBounds_toArray, List.set_cons_zero, List.set_cons_succ]
  refine lst_val (v := .pointer (some ⟨bx, 1, none⟩)) (by kernel_rfl) ?_ ?_
  · go_simp
  simp only [Act.put, List.setIfInBounds_toArray, List.set_cons_zero, List.set_cons_succ]
  refine lst_val (v := .slice ca c.cs.length cc) (by kernel_rfl) ?_ ?_
  · have c0 := M.out.c1.cell 1
    go_simp
  simp only [Act.put, List.setIfInBounds_toArray, List.set_cons_zero, List.set_cons_succ]
  refine lst_val (v := .pointer (some ⟨by', 1, none⟩)) (by kernel_rfl) ?_ ?_
  · go_simp
  simp only [Act.put, List.setIfInBounds_toArray, List.set_cons_zero, List.set_cons_succ]
  refine lst_val (v := .slice ca' c.cs.length cc') (by kernel_rfl) ?_ ?_
  · have c0 := M.out.c2.cell 1
    go_simp
  simp only [Act.put, List.setIfInBounds_toArray, List.set_cons_zero, List.set_cons_succ]
  refine lst_call (by kernel_rfl) (by first | (go_simp; done) | (go_simp; first | exact rfl | exact ⟨rfl, rfl⟩ | exact ⟨rfl, rfl, rfl⟩)) (sameParts_is _ _ _ c.cs M.out.p1 M.out.p2) ?_
  rintro e z1 ⟨rfl, hB⟩
  refine ⟨_, rfl, ?_⟩
  have M9 := M.out.past hB
  clear hB M
  have M : Hid _ := M9
  clear M9
  simp only [Act.put, List.setIfInBounds_toArray, List.set_cons_zero, List.set_cons_succ]
  refine lst_val (v := .bool false) (by kernel_rfl) ?_ ?_
  · go_simp
  simp only [Act.put, List.setIfInBounds_toArray, List.set_cons_zero, List.set_cons_succ]
  refine lst_val (v := .bool false) (by kernel_rfl) ?_ ?_
  · go_simp
  simp only [Act.put, List.setIfInBounds_toArray, List.set_cons_zero, List.set_cons_succ]
  refine lst_val (v := .bool false) (by kernel_rfl) ?_ ?_
  · go_simp
  simp only [Act.put, List.setIfInBounds_toArray, List.set_cons_zero, List.set_cons_succ]
  refine lst_val (v := .pointer (some ⟨bx, 2, none⟩)) (by kernel_rfl) ?_ ?_
  · go_simp
  simp only [Act.put, List.setIfInBounds_toArray, List.set_cons_zero, List.set_cons_succ]
  refine lst_val (v := .slice sa c.ss.length sc) (by kernel_rfl) ?_ ?_
  · have c0 := M.out.c1.cell 2
    go_simp
  simp only [Act.put, List.setIfInBounds_toArray, List.set_cons_zero, List.set_cons_succ]
  refine lst_val (v := .pointer (some ⟨by', 2, none⟩)) (by kernel_rfl) ?_ ?_
  · go_simp
  simp only [Act.put, List.setIfInBounds_toArray, List.set_cons_zero, List.set_cons_succ]
  refine lst_val (v := .slice sa' c.ss.length sc') (by kernel_rfl) ?_ ?_
  · have c0 := M.out.c2.cell 2
    go_simp
  simp only [Act.put, List.setIfInBounds_toArray, List.set_cons_zero, List.set_cons_succ]
  refine lst_call (by kernel_rfl) (by first | (go_simp; done) | (go_simp; first | exact rfl | exact ⟨rfl, rfl⟩ | exact ⟨rfl, rfl, rfl⟩)) (sameParts_is _ _ _ c.ss M.out.s1 M.out.s2) ?_
  rintro e z1 ⟨rfl, hB⟩
  refine ⟨_, rfl, ?_⟩
  have M9 := M.out.past hB
  clear hB M
  have M : Hid _ := M9
  clear M9
  simp only [Act.put, List.setIfInBounds_toArray, List.set_cons_zero, List.set_cons_succ]
  refine lst_val (v := .bool false) (by kernel_rfl) ?_ ?_
  · go_simp
  simp only [Act.put, List.setIfInBounds_toArray, List.set_cons_zero, List.set_cons_succ]
  refine lst_val (v := .bool false) (by kernel_rfl) ?_ ?_
  · go_simp
  simp only [Act.put, List.setIfInBounds_toArray, List.set_cons_zero, List.set_cons_succ]
  refine lst_val (v := .bool false) (by kernel_rfl) ?_ ?_
  · go_simp
  simp only [Act.put, List.setIfInBounds_toArray, List.set_cons_zero, List.set_cons_succ]
  refine lst_val (v := .pointer (some ⟨bx, 3, none⟩)) (by kernel_rfl) ?_ ?_
  · go_simp
  simp only [Act.put, List.setIfInBounds_toArray, List.set_cons_zero, List.set_cons_succ]
  refine lst_val (v := .slice da c.d.length dc) (by kernel_rfl) ?_ ?_
  · have c0 := M.out.c1.cell 3
    go_simp
  simp only [Act.put, List.setIfInBounds_toArray, List.set_cons_zero, List.set_cons_succ]
  refine lst_val (v := .pointer (some ⟨by', 3, none⟩)) (by kernel_rfl) ?_ ?_
  · go_simp
  simp only [Act.put, List.setIfInBounds_toArray, List.set_cons_zero, List.set_cons_succ]
  refine lst_val (v := .slice da' c.d.length dc') (by kernel_rfl) ?_ ?_
  · have c0 := M.out.c2.cell 3
    go_simp
  simp only [Act.put, List.setIfInBounds_toArray, List.set_cons_zero, List.set_cons_succ]
  refine lst_call (by kernel_rfl) (by first | (go_simp; done) | (go_simp; first | exact rfl | exact ⟨rfl, rfl⟩ | exact ⟨rfl, rfl, rfl⟩)) (sameB_is _ _ _ c.d M.out.d1 M.out.d2) ?_
  rintro e z1 ⟨rfl, hB⟩
  refine ⟨_, rfl, ?_⟩
  have M9 := M.out.past hB
  clear hB M
  have M : Hid _ := M9
  clear M9
  simp only [Act.put, List.setIfInBounds_toArray, List.set_cons_zero, List.set_cons_succ]
  refine lst_val (v := .bool false) (by kernel_rfl) ?_ ?_
  · go_simp
  simp only [Act.put, List.setIfInBounds_toArray, List.set_cons_zero, List.set_cons_succ]
  refine lst_val (v := .bool false) (by kernel_rfl) ?_ ?_
  · go_simp
  simp only [Act.put, List.setIfInBounds_toArray, List.set_cons_zero, List.set_cons_succ]
  refine wpList_nil ?_
  go_wp2
  go_loopw [5] (fun s5 wr => ∃ k : Nat, s5 = .int .i64 (k : Int) ∧ k ≤ c.ts.length ∧ SmM bx bx by' P R w wr (.slice ta c.ts.length tc) (.slice ca c.cs.length cc) (.slice sa c.ss.length sc) (.slice da c.d.length dc) (.slice ta' c.ts.length tc') (.slice ca' c.cs.length cc') (.slice sa' c.ss.length sc') (.slice da' c.d.length dc') c) (fun s5 _ => c.ts.length - (intOf s5).toNat)
  case atStart => exact ⟨0, rfl, by omega, M.out⟩
  case round =>
    obtain ⟨k, rfl, hk, hM⟩ := hrel
    clear M
    have M : Hid (SmM bx bx by' P R w wr (.slice ta c.ts.length tc) (.slice ca c.cs.length cc) (.slice sa c.ss.length sc) (.slice da c.d.length dc) (.slice ta' c.ts.length tc') (.slice ca' c.cs.length cc') (.slice sa' c.ss.length sc') (.slice da' c.d.length dc') c) := hM
    clear hM
    have c0 : wr.cell? ⟨bx, 0, none⟩ = some (.slice ta c.ts.length tc) := M.out.c1.cell 0
    by_cases e : k = c.ts.length
    · have kn : ¬ (k : Int) < (c.ts.length : Int) := by omega
      clear e
      go_wp2
      go_ret
      exact ⟨rfl, by rw [GB.out]; exact M.out.bel⟩
    · have kn : (k : Int) < (c.ts.length : Int) := by omega
      obtain ⟨t, ht⟩ : ∃ t, c.ts[k]? = some t := ⟨c.ts[k]'(by omega), List.getElem?_eq_getElem _⟩
      obtain ⟨x, y, z⟩ := t
      obtain ⟨g1, a1, e1, q1, q2, q3⟩ := M.out.t1.get ht
      obtain ⟨g2, a2, e2, r1, r2, r3⟩ := M.out.t2.get ht
      subst e1 e2
      clear e ht
      go_upto_region 6 with fail
      clear c0
      refine wp_region_held_drew (S := fun V' => V'.cell? ⟨bx, 0, none⟩ = some (.slice (some ⟨g1, a1, none⟩) c.ts.length tc) ∧ V'.cell? ⟨by', 0, none⟩ = some (.slice (some ⟨g2, a2, none⟩) c.ts.length tc') ∧ V'.cell? ⟨g1, a1 + k * 3, none⟩ = some (.int .i64 x) ∧ V'.cell? ⟨g1, a1 + k * 3 + 1, none⟩ = some (.int .i64 y) ∧ V'.cell? ⟨g1, a1 + k * 3 + 2, none⟩ = some (.int .i64 z) ∧ V'.cell? ⟨g2, a2 + k * 3, none⟩ = some (.int .i64 x) ∧ V'.cell? ⟨g2, a2 + k * 3 + 1, none⟩ = some (.int .i64 y) ∧ V'.cell? ⟨g2, a2 + k * 3 + 2, none⟩ = some (.int .i64 z)) (by kernel_rfl) ⟨M.out.c1.cell 0, M.out.c2.cell 0, q1, q2, q3, r1, r2, r3⟩ (fun hHeld => ?_)
      have M1 : Hid (SmM bx bx by' P R w wr.drew (.slice (some ⟨g1, a1, none⟩) c.ts.length tc) (.slice ca c.cs.length cc) (.slice sa c.ss.length sc) (.slice da c.d.length dc) (.slice (some ⟨g2, a2, none⟩) c.ts.length tc') (.slice ca' c.cs.length cc') (.slice sa' c.ss.length sc') (.slice da' c.d.length dc') c) := M.out.past below_drew
      clear M q1 q2 q3 r1 r2 r3
      generalize wr.drew = z0 at hHeld M1 ⊢
      refine wpAnyH_take (i := 0) (v := .pointer (some ⟨bx, 0, none⟩)) ov0 (by kernel_rfl) (by kernel_rfl) (by kernel_rfl) (fun _ _ _ h => h) (Or.inl ⟨by rfl, fun V' hS => ?_⟩) hHeld ?_
      · go_simp
      simp only [Act.put, List.setIfInBounds_toArray, List.set_cons_zero, List.set_cons_succ]
      refine wpAnyH_take (i := 1) (v := .slice (some ⟨g1, a1, none⟩) c.ts.length tc) ov1 (by kernel_rfl) (by kernel_rfl) (by kernel_rfl) (fun _ _ _ h => h) (Or.inl ⟨by rfl, fun V' hS => ?_⟩) hHeld ?_
      · have c0 := hS.1
        go_simp
      simp only [Act.put, List.setIfInBounds_toArray, List.set_cons_zero, List.set_cons_succ]
      refine wpAnyH_take (i := 2) (v := .int .i64 (k : Int)) ov2 (by kernel_rfl) (by kernel_rfl) (by kernel_rfl) (fun _ _ _ h => h) (Or.inl ⟨by rfl, fun V' hS => ?_⟩) hHeld ?_
      · go_simp
      simp only [Act.put, List.setIfInBounds_toArray, List.set_cons_zero, List.set_cons_succ]
      refine wpAnyH_take (i := 3) (v := .pointer (some ⟨g1, a1 + k * 3, none⟩)) ov3 (by kernel_rfl) (by kernel_rfl) (by kernel_rfl) (fun _ _ _ h => h) (Or.inl ⟨by rfl, fun V' hS => ?_⟩) hHeld ?_
      · go_simp
      simp only [Act.put, List.setIfInBounds_toArray, List.set_cons_zero, List.set_cons_succ]
      refine wpAnyH_take (i := 4) (v := .agg #[.int .i64 x, .int .i64 y, .int .i64 z]) ov4 (by kernel_rfl) (by kernel_rfl) (by kernel_rfl) (fun _ _ _ h => h) (Or.inl ⟨by rfl, fun V' hS => ?_⟩) hHeld ?_
      · obtain ⟨c0, c1, c2, _⟩ := hS.2.2
        go_simp
      simp only [Act.put, List.setIfInBounds_toArray, List.set_cons_zero, List.set_cons_succ]
      refine wpAnyH_take (i := 5) (v := .pointer (some ⟨by', 0, none⟩)) ov5 (by kernel_rfl) (by kernel_rfl) (by kernel_rfl) (fun _ _ _ h => h) (Or.inl ⟨by rfl, fun V' hS => ?_⟩) hHeld ?_
      · go_simp
      simp only [Act.put, List.setIfInBounds_toArray, List.set_cons_zero, List.set_cons_succ]
      refine wpAnyH_take (i := 6) (v := .slice (some ⟨g2, a2, none⟩) c.ts.length tc') ov6 (by kernel_rfl) (by kernel_rfl) (by kernel_rfl) (fun _ _ _ h => h) (Or.inl ⟨by rfl, fun V' hS => ?_⟩) hHeld ?_
      · have c0 := hS.2.1
        go_simp
      simp only [Act.put, List.setIfInBounds_toArray, List.set_cons_zero, List.set_cons_succ]
      refine wpAnyH_take (i := 7) (v := .int .i64 (k : Int)) ov7 (by kernel_rfl) (by kernel_rfl) (by kernel_rfl) (fun _ _ _ h => h) (Or.inl ⟨by rfl, fun V' hS => ?_⟩) hHeld ?_
      · go_simp
      simp only [Act.put, List.setIfInBounds_toArray, List.set_cons_zero, List.set_cons_succ]
      refine wpAnyH_take (i := 8) (v := .pointer (some ⟨g2, a2 + k * 3, none⟩)) ov8 (by kernel_rfl) (by kernel_rfl) (by kernel_rfl) (fun _ _ _ h => h) (Or.inl ⟨by rfl, fun V' hS => ?_⟩) hHeld ?_
      · go_simp
      simp only [Act.put, List.setIfInBounds_toArray, List.set_cons_zero, List.set_cons_succ]
      refine wpAnyH_take (i := 9) (v := .agg #[.int .i64 x, .int .i64 y, .int .i64 z]) ov9 (by kernel_rfl) (by kernel_rfl) (by kernel_rfl) (fun _ _ _ h => h) (Or.inl ⟨by rfl, fun V' hS => ?_⟩) hHeld ?_
      · obtain ⟨_, _, _, c0, c1, c2⟩ := hS.2.2
        go_simp
      simp only [Act.put, List.setIfInBounds_toArray, List.set_cons_zero, List.set_cons_succ]
      refine wpAnyH_take (i := 10) (v := .bool false) ov10 (by kernel_rfl) (by kernel_rfl) (by kernel_rfl) (fun _ _ _ h => h) (Or.inl ⟨by rfl, fun V' hS => ?_⟩) hHeld ?_
      · exact (by have := ty_neq x y z V'; go_simp)
      simp only [Act.put, List.setIfInBounds_toArray, List.set_cons_zero, List.set_cons_succ]
      refine wpAnyH_done (by kernel_rfl) ?_ _
      clear hHeld
      go_wp2
      go_roundw
      case rel => exact ⟨k + 1, by first | rfl | go_num, by omega, M1.out⟩
      case measure => simp [intOf]; omega
end Go.Proofs.Ytndhabhlajldeaa
/- The laws' rejects, least, able. -/
namespace Go.Proofs.Ytndhabhlajldeaa
open Go.RowKit
set_option maxHeartbeats 4000000 in
set_option maxRecDepth 100000 in
theorem rejects_is (w : World) (x y : Int) : Calls Try.prog 34 #[rejV x y, rejV x y] w fun e w' => e = .returned (.bool true) ∧ Below w.heap.size w w' := by
  unfold rejV
  have b1 := below_alloc w (.cells #[.int .i64 x, .slice none 0 0, .int .i64 0, .int .i64 y] 47)
  have b2 := below_alloc (w.alloc (.cells #[.int .i64 x, .slice none 0 0, .int .i64 0, .int .i64 y] 47)) (.cells #[.int .i64 x, .slice none 0 0, .int .i64 0, .int .i64 y] 47)
  have s1 : (w.alloc (.cells #[.int .i64 x, .slice none 0 0, .int .i64 0, .int .i64 y] 47)).heap.size = w.heap.size + 1 := by simp
  have c1 := (CBox.new w 47 [.int .i64 x, .slice none 0 0, .int .i64 0, .int .i64 y]).past b2
  have c2 := CBox.new (w.alloc (.cells #[.int .i64 x, .slice none 0 0, .int .i64 0, .int .i64 y] 47)) 47 [.int .i64 x, .slice none 0 0, .int .i64 0, .int .i64 y]
  rw [s1] at c2
  have M : Hid (CBox ((w.alloc (.cells #[.int .i64 x, .slice none 0 0, .int .i64 0, .int .i64 y] 47)).alloc (.cells #[.int .i64 x, .slice none 0 0, .int .i64 0, .int .i64 y] 47)) w.heap.size 47 [.int .i64 x, .slice none 0 0, .int .i64 0, .int .i64 y] ∧ CBox ((w.alloc (.cells #[.int .i64 x, .slice none 0 0, .int .i64 0, .int .i64 y] 47)).alloc (.cells #[.int .i64 x, .slice none 0 0, .int .i64 0, .int .i64 y] 47)) (w.heap.size + 1) 47 [.int .i64 x, .slice none 0 0, .int .i64 0, .int .i64 y] ∧ Below w.heap.size w ((w.alloc (.cells #[.int .i64 x, .slice none 0 0, .int .i64 0, .int .i64 y] 47)).alloc (.cells #[.int .i64 x, .slice none 0 0, .int .i64 0, .int .i64 y] 47))) := ⟨c1, c2, b1.trans (b2.mono (by omega))⟩
  clear b1 b2 s1 c1 c2
  go_enter Try.func34, Try.ntmps34
  go_upto_region 1 with fail
  generalize w.heap.size + 1 = by' at M ⊢
  generalize hbx : w.heap.size = bx at M ⊢
  have GB : Hid (w.heap.size = bx) := hbx
  clear hbx
  generalize (w.alloc _).alloc _ = W0 at M ⊢
  have a0 : W0.cell? ⟨bx, 0, none⟩ = some (.int .i64 x) := M.out.1.cell 0
  have a1 : W0.cell? ⟨bx, 1, none⟩ = some (.slice none 0 0) := M.out.1.cell 1
  have a2 : W0.cell? ⟨bx, 2, none⟩ = some (.int .i64 0) := M.out.1.cell 2
  have a3 : W0.cell? ⟨bx, 3, none⟩ = some (.int .i64 y) := M.out.1.cell 3
  have d0 : W0.cell? ⟨by', 0, none⟩ = some (.int .i64 x) := M.out.2.1.cell 0
  have d1 : W0.cell? ⟨by', 1, none⟩ = some (.slice none 0 0) := M.out.2.1.cell 1
  have d2 : W0.cell? ⟨by', 2, none⟩ = some (.int .i64 0) := M.out.2.1.cell 2
  have d3 : W0.cell? ⟨by', 3, none⟩ = some (.int .i64 y) := M.out.2.1.cell 3
  have B0 : Hid (Below bx w W0) := M.out.2.2
  go_wp2
  go_loopw [5] (fun s5 wr => s5 = .int .i64 0 ∧ wr = W0) (fun _ _ => 0)
  case atStart => exact ⟨rfl, rfl⟩
  case round =>
    obtain ⟨rfl, rfl⟩ := hrel
    go_wp2
    go_ret
    exact ⟨rfl, by rw [GB.out]; exact B0.out⟩
def leastC : Con := ⟨[(0, 128, 0)], [[0]], [], [], 0⟩
def leastB : List Nat := [239, 0, 1, 1, 0, 4, 2, 0, 1, 0, 1, 255, 0, 0, 0, 0, 128, 0, 0, 0]
theorem least_may : May leastC := ⟨by decide, by decide, by decide, by decide, by decide, by decide, by decide, by decide, by decide⟩
theorem least_ser : ser leastC = leastB := by decide
theorem least_prs : prs leastB false = .ok leastC := by
  rw [← least_ser]
  exact prs_ser least_may false (fun _ => rfl)
theorem least_serR : serR leastC = leastB := by decide
theorem least_chk : chk leastC = 0 := by decide
theorem least_byt : Byt leastB := by unfold Byt; decide
set_option maxHeartbeats 4000000 in
set_option maxRecDepth 100000 in
theorem least_is (w : World) : Calls Try.prog 30 #[] w fun e w' => ∃ v, e = .returned v ∧ CW (fun g => w.heap.size ≤ g) w' v leastC ∧ Below w.heap.size w w' := by
  go_enter Try.func30, Try.ntmps30
  go_wp2
  have b1 := below_alloc w (.cells #[.slice (some ⟨w.heap.size + 1, 0, none⟩) 1 1, .slice (some ⟨w.heap.size + 1 + 1 + 1, 0, none⟩) 1 1, .slice none 0 0, .slice none 0 0, .int .i64 0] 28)
  have c1 := CBox.new w 28 [.slice (some ⟨w.heap.size + 1, 0, none⟩) 1 1, .slice (some ⟨w.heap.size + 1 + 1 + 1, 0, none⟩) 1 1, .slice none 0 0, .slice none 0 0, .int .i64 0]
  have s1 : (w.alloc (.cells #[.slice (some ⟨w.heap.size + 1, 0, none⟩) 1 1, .slice (some ⟨w.heap.size + 1 + 1 + 1, 0, none⟩) 1 1, .slice none 0 0, .slice none 0 0, .int .i64 0] 28)).heap.size = w.heap.size + 1 := by simp
  generalize w.alloc _ = W1 at b1 c1 s1 ⊢
  have b2 := below_alloc W1 (.cells #[.int .i64 0, .int .i64 128, .int .i64 0] 77)
  have c2 := CBox.new W1 77 [.int .i64 0, .int .i64 128, .int .i64 0]
  have s2 : (W1.alloc (.cells #[.int .i64 0, .int .i64 128, .int .i64 0] 77)).heap.size = w.heap.size + 1 + 1 := by simp [s1]
  rw [s1] at c2
  generalize W1.alloc _ = W2 at b2 c2 s2 ⊢
  have b3 := below_alloc W2 (.cells #[.int .u8 0] 5)
  have c3 := CBox.new W2 5 [.int .u8 0]
  have s3 : (W2.alloc (.cells #[.int .u8 0] 5)).heap.size = w.heap.size + 1 + 1 + 1 := by simp [s2]
  rw [s2] at c3
  generalize W2.alloc _ = W3 at b3 c3 s3 ⊢
  have b4 := below_alloc W3 (.cells #[.slice (some ⟨w.heap.size + 1 + 1, 0, none⟩) 1 1] 22)
  have c4 := CBox.new W3 22 [.slice (some ⟨w.heap.size + 1 + 1, 0, none⟩) 1 1]
  rw [s3] at c4
  generalize W3.alloc _ = W4 at b4 c4 ⊢
  have d1 := ((c1.past b2).past b3).past b4
  have d2 := (c2.past b3).past b4
  have d3 := c3.past b4
  refine bodyPost_ret (v := .agg #[.slice (some ⟨w.heap.size + 1, 0, none⟩) 1 1, .slice (some ⟨w.heap.size + 1 + 1 + 1, 0, none⟩) 1 1, .slice none 0 0, .slice none 0 0, .int .i64 0]) (results_c (p := 0) (ty := 28) Try.results30 _ _ _ ⟨w.heap.size, 0, none⟩ rfl (run_loadVar_mid W4 w.heap.size 0 28 [.slice (some ⟨w.heap.size + 1, 0, none⟩) 1 1, .slice (some ⟨w.heap.size + 1 + 1 + 1, 0, none⟩) 1 1, .slice none 0 0, .slice none 0 0, .int .i64 0] _ d1.range Try.underlying28 rfl (by kernel_rfl))) rfl ?_
  refine ⟨_, rfl, ⟨_, _, _, _, rfl, SL.box d2 rfl (by decide) (by omega), ⟨_, SL.box c4 rfl (by decide) (by omega), fun i l hi => ?_⟩, PL.nil _ _, BL.nil _ _⟩, ((b1.trans (b2.mono (by omega))).trans (b3.mono (by omega))).trans (b4.mono (by omega))⟩
  have hlt := (List.getElem?_eq_some_iff.1 hi).1
  have hi0 : i = 0 := by simp [leastC] at hlt; omega
  subst hi0
  have hl0 : l = [0] := by simp [leastC] at hi; exact hi.symm
  subst hl0
  exact ⟨_, rfl, SL.box d3 rfl (by decide) (by omega)⟩
theorem CO.cw {B : Nat} {W : World} {v : Value} {c : Con} (h : CO B W v c) (h1 : c.ts.length ≤ 1152921504606846976) (h2 : c.cs.length ≤ 1152921504606846976) (h3 : c.ss.length ≤ 1152921504606846976) (h4 : c.d.length ≤ 1152921504606846976) (hx : ∀ x ∈ c.cs, x.length ≤ 1152921504606846976) (hy : ∀ x ∈ c.ss, x.length ≤ 1152921504606846976) : CW (fun g => B ≤ g) W v c := by
  obtain ⟨tv, cv, sv, dv, e, k1, k2, k3, k4⟩ := h
  exact ⟨tv, cv, sv, dv, e, k1.tl h1, k2.pl h2 hx, k3.pl h3 hy, SL.own k4 h4 fun g hg => (k4.lt g hg).1⟩
theorem co_least {B : Nat} {W : World} {v : Value} (h : CO B W v leastC) : ∃ gt gc gs da dc, v = .agg #[.slice (some ⟨gt, 0, none⟩) 1 1, .slice (some ⟨gc, 0, none⟩) 1 1, .slice (some ⟨gs, 0, none⟩) 0 0, .slice da 0 dc, .int .i64 0] ∧ CW (fun _ => True) W v leastC := by
  have hw := h.cw (by decide) (by decide) (by decide) (by decide) (by decide) (by decide)
  obtain ⟨tv, cv, sv, dv, e, ⟨gt, rfl, _⟩, ⟨gc, _, rfl, _⟩, ⟨gs, _, rfl, _⟩, k4⟩ := h
  obtain ⟨da, dc, rfl⟩ := owns_sl k4
  exact ⟨gt, gc, gs, da, dc, e, hw.mono fun _ _ _ => trivial⟩
set_option maxHeartbeats 4000000 in
set_option maxRecDepth 100000 in
theorem able_is (w : World) : Calls Try.prog 16 #[] w fun e w' => e = .returned (.bool true) ∧ Below w.heap.size w w' := by
  have M0 : Hid (BL (fun _ => True) (w.alloc (.cells #[.int .u8 239, .int .u8 0, .int .u8 1, .int .u8 1, .int .u8 0, .int .u8 4, .int .u8 2, .int .u8 0, .int .u8 1, .int .u8 0, .int .u8 1, .int .u8 255, .int .u8 0, .int .u8 0, .int .u8 0, .int .u8 0, .int .u8 128, .int .u8 0, .int .u8 0, .int .u8 0] 5)) (.slice (some ⟨w.heap.size, 0, none⟩) 20 20) leastB ∧ Below w.heap.size w (w.alloc (.cells #[.int .u8 239, .int .u8 0, .int .u8 1, .int .u8 1, .int .u8 0, .int .u8 4, .int .u8 2, .int .u8 0, .int .u8 1, .int .u8 0, .int .u8 1, .int .u8 255, .int .u8 0, .int .u8 0, .int .u8 0, .int .u8 0, .int .u8 128, .int .u8 0, .int .u8 0, .int .u8 0] 5))) := ⟨(BL.new w leastB (by decide)).mono fun _ _ _ => trivial, below_alloc _ _⟩
  go_enter Try.func16, Try.ntmps16
  go_upto_region 2 with fail
  generalize hbw : w.heap.size = bw at M0 ⊢
  have GB : Hid (w.heap.size = bw) := hbw
  have GE : Hid (bw ≤ w.heap.size) := by unfold Hid; omega
  clear hbw
  generalize w.alloc _ = W1 at M0 ⊢
  have PA : Hid (∀ (W : World) (R : Nat → Prop) (v : Value), BL R W v leastB → Calls Try.prog 31 #[v, .bool false] W fun e w' => (∃ gt gc gs da dc, e = .returned (.tuple #[.agg #[.slice (some ⟨gt, 0, none⟩) 1 1, .slice (some ⟨gc, 0, none⟩) 1 1, .slice (some ⟨gs, 0, none⟩) 0 0, .slice da 0 dc, .int .i64 0], rejV 0 0]) ∧ CW (fun _ => True) w' (.agg #[.slice (some ⟨gt, 0, none⟩) 1 1, .slice (some ⟨gc, 0, none⟩) 1 1, .slice (some ⟨gs, 0, none⟩) 0 0, .slice da 0 dc, .int .i64 0]) leastC) ∧ Below W.heap.size W w') := fun W R v h => by
    refine (parse_is W v leastB false h least_byt (by decide)).mono ?_
    rintro e w' ⟨h1, h2⟩
    rw [least_prs] at h1
    obtain ⟨v9, e9, hco⟩ := h1
    obtain ⟨gt, gc, gs, da, dc, rfl, h9⟩ := co_least hco
    exact ⟨⟨gt, gc, gs, da, dc, e9, h9⟩, h2⟩
  have SZ : Hid (∀ (W : World) (R : Nat → Prop) (v : Value), CW R W v leastC → Calls Try.prog 35 #[v] W fun e w' => ∃ v', e = .returned (.tuple #[v', .int .i64 0]) ∧ BL (fun _ => True) w' v' leastB ∧ Below W.heap.size W w') := fun W R v h => by
    refine (serialize_is W v leastC h (by unfold Small; decide)).mono ?_
    rintro e w' ⟨v', e9, h1, h2⟩
    rw [least_chk] at e9
    rw [least_serR] at h1
    exact ⟨v', e9, SL.own h1 (by decide) fun _ _ => trivial, h2⟩
  unfold rejV at PA
  go_upto_region 3 with (first | (go_at_call 32; refine (own_is _ _ leastB M0.out.1 (by decide)).mono ?_; rintro e w2 ⟨v2, rfl, hO, hB⟩; (have M1 : Hid (BL (fun _ => True) w2 (.slice (some ⟨bw, 0, none⟩) 20 20) leastB ∧ Below bw w w2 ∧ BL (fun _ => True) w2 v2 leastB) := ⟨M0.out.1.past hB, M0.out.2.trans (hB.mono (Nat.le_trans GE.out M0.out.2.size)), SL.own hO (by decide) fun _ _ => trivial⟩); (clear hO hB)) | (go_at_call 31; refine (PA.out _ _ _ M1.out.2.2).mono ?_; rintro e w3 ⟨⟨gt, gc, gs, da, dc, rfl, hC⟩, hB⟩; (have M2 : Hid (BL (fun _ => True) w3 (.slice (some ⟨bw, 0, none⟩) 20 20) leastB ∧ Below bw w w3 ∧ CW (fun _ => True) w3 (.agg #[.slice (some ⟨gt, 0, none⟩) 1 1, .slice (some ⟨gc, 0, none⟩) 1 1, .slice (some ⟨gs, 0, none⟩) 0 0, .slice da 0 dc, .int .i64 0]) leastC) := ⟨M1.out.1.past hB, M1.out.2.1.trans (hB.mono (Nat.le_trans GE.out M1.out.2.1.size)), hC⟩); (clear hC hB)))
  have N2 : Hid (Below bw w ((w3.alloc (.cells #[.slice (some ⟨gt, 0, none⟩) 1 1, .slice (some ⟨gc, 0, none⟩) 1 1, .slice (some ⟨gs, 0, none⟩) 0 0, .slice da 0 dc, .int .i64 0] 28)).alloc (.cells #[.int .i64 0, .slice none 0 0, .int .i64 0, .int .i64 0] 47)) ∧ BL (fun _ => True) ((w3.alloc (.cells #[.slice (some ⟨gt, 0, none⟩) 1 1, .slice (some ⟨gc, 0, none⟩) 1 1, .slice (some ⟨gs, 0, none⟩) 0 0, .slice da 0 dc, .int .i64 0] 28)).alloc (.cells #[.int .i64 0, .slice none 0 0, .int .i64 0, .int .i64 0] 47)) (.slice (some ⟨bw, 0, none⟩) 20 20) leastB ∧ CBox ((w3.alloc (.cells #[.slice (some ⟨gt, 0, none⟩) 1 1, .slice (some ⟨gc, 0, none⟩) 1 1, .slice (some ⟨gs, 0, none⟩) 0 0, .slice da 0 dc, .int .i64 0] 28)).alloc (.cells #[.int .i64 0, .slice none 0 0, .int .i64 0, .int .i64 0] 47)) w3.heap.size 28 [.slice (some ⟨gt, 0, none⟩) 1 1, .slice (some ⟨gc, 0, none⟩) 1 1, .slice (some ⟨gs, 0, none⟩) 0 0, .slice da 0 dc, .int .i64 0] ∧ CBox ((w3.alloc (.cells #[.slice (some ⟨gt, 0, none⟩) 1 1, .slice (some ⟨gc, 0, none⟩) 1 1, .slice (some ⟨gs, 0, none⟩) 0 0, .slice da 0 dc, .int .i64 0] 28)).alloc (.cells #[.int .i64 0, .slice none 0 0, .int .i64 0, .int .i64 0] 47)) (w3.heap.size + 1) 47 rej0L ∧ CW (fun _ => True) ((w3.alloc (.cells #[.slice (some ⟨gt, 0, none⟩) 1 1, .slice (some ⟨gc, 0, none⟩) 1 1, .slice (some ⟨gs, 0, none⟩) 0 0, .slice da 0 dc, .int .i64 0] 28)).alloc (.cells #[.int .i64 0, .slice none 0 0, .int .i64 0, .int .i64 0] 47)) (.agg #[.slice (some ⟨gt, 0, none⟩) 1 1, .slice (some ⟨gc, 0, none⟩) 1 1, .slice (some ⟨gs, 0, none⟩) 0 0, .slice da 0 dc, .int .i64 0]) leastC) := by
    have b1 := below_alloc w3 (.cells #[.slice (some ⟨gt, 0, none⟩) 1 1, .slice (some ⟨gc, 0, none⟩) 1 1, .slice (some ⟨gs, 0, none⟩) 0 0, .slice da 0 dc, .int .i64 0] 28)
    have b2 := below_alloc (w3.alloc (.cells #[.slice (some ⟨gt, 0, none⟩) 1 1, .slice (some ⟨gc, 0, none⟩) 1 1, .slice (some ⟨gs, 0, none⟩) 0 0, .slice da 0 dc, .int .i64 0] 28)) (.cells #[.int .i64 0, .slice none 0 0, .int .i64 0, .int .i64 0] 47)
    have s1 : (w3.alloc (.cells #[.slice (some ⟨gt, 0, none⟩) 1 1, .slice (some ⟨gc, 0, none⟩) 1 1, .slice (some ⟨gs, 0, none⟩) 0 0, .slice da 0 dc, .int .i64 0] 28)).heap.size = w3.heap.size + 1 := by simp
    have c1 := CBox.new w3 28 [.slice (some ⟨gt, 0, none⟩) 1 1, .slice (some ⟨gc, 0, none⟩) 1 1, .slice (some ⟨gs, 0, none⟩) 0 0, .slice da 0 dc, .int .i64 0]
    have c2 := CBox.new (w3.alloc (.cells #[.slice (some ⟨gt, 0, none⟩) 1 1, .slice (some ⟨gc, 0, none⟩) 1 1, .slice (some ⟨gs, 0, none⟩) 0 0, .slice da 0 dc, .int .i64 0] 28)) 47 rej0L
    rw [s1] at c2
    have bb := b1.trans (b2.mono (by omega))
    exact ⟨M2.out.2.1.trans (bb.mono (Nat.le_trans GE.out M2.out.2.1.size)), M2.out.1.past bb, c1.past b2, c2, M2.out.2.2.past bb⟩
  clear M0 M1 M2 PA
  generalize w3.heap.size + 1 = b3 at N2 ⊢
  generalize w3.heap.size = b2 at N2 ⊢
  generalize (w3.alloc _).alloc _ = W2 at N2 ⊢
  refine wp_region_held_drew (S := fun V' => CBox V' b2 28 [.slice (some ⟨gt, 0, none⟩) 1 1, .slice (some ⟨gc, 0, none⟩) 1 1, .slice (some ⟨gs, 0, none⟩) 0 0, .slice da 0 dc, .int .i64 0] ∧ CBox V' b3 47 rej0L) (by kernel_rfl) ⟨N2.out.2.2.1.past below_drew, N2.out.2.2.2.1.past below_drew⟩ (fun hHeld => ?_)
  have B0 : Hid (Below bw w W2.drew ∧ BL (fun _ => True) W2.drew (.slice (some ⟨bw, 0, none⟩) 20 20) leastB ∧ CW (fun _ => True) W2.drew (.agg #[.slice (some ⟨gt, 0, none⟩) 1 1, .slice (some ⟨gc, 0, none⟩) 1 1, .slice (some ⟨gs, 0, none⟩) 0 0, .slice da 0 dc, .int .i64 0]) leastC) := ⟨N2.out.1.drew, N2.out.2.1.past below_drew, N2.out.2.2.2.2.past below_drew⟩
  clear N2
  generalize W2.drew = z0 at hHeld B0 ⊢
  refine wpAnyH_take (i := 0) (v := .pointer (some ⟨b3, 0, none⟩)) ov0 (by kernel_rfl) (by kernel_rfl) (by kernel_rfl) (fun _ _ _ h => h) (Or.inl ⟨by rfl, fun V' hS => ?_⟩) hHeld ?_
  · go_simp
  simp only [Act.put, List.setIfInBounds_toArray, List.set_cons_zero, List.set_cons_succ]
  refine wpAnyH_take (i := 1) (v := .int .i64 0) ov1 (by kernel_rfl) (by kernel_rfl) (by kernel_rfl) (fun _ _ _ h => h) (Or.inl ⟨by rfl, fun V' hS => ?_⟩) hHeld ?_
  · have c0 : V'.cell? ⟨b3, 0, none⟩ = some (.int .i64 0) := hS.2.cell 0
    go_simp
  simp only [Act.put, List.setIfInBounds_toArray, List.set_cons_zero, List.set_cons_succ]
  refine wpAnyH_take (i := 2) (v := .bool false) ov2 (by kernel_rfl) (by kernel_rfl) (by kernel_rfl) (fun _ _ _ h => h) (Or.inl ⟨by rfl, fun V' hS => ?_⟩) hHeld ?_
  · go_simp
  simp only [Act.put, List.setIfInBounds_toArray, List.set_cons_zero, List.set_cons_succ]
  refine wpAnyH_take (i := 3) (v := .bool false) ov3 (by kernel_rfl) (by kernel_rfl) (by kernel_rfl) (fun _ _ _ h => h) (Or.inl ⟨by rfl, fun V' hS => ?_⟩) hHeld ?_
  · go_simp
  simp only [Act.put, List.setIfInBounds_toArray, List.set_cons_zero, List.set_cons_succ]
  refine wpAnyH_take (i := 4) (v := .agg #[.slice (some ⟨gt, 0, none⟩) 1 1, .slice (some ⟨gc, 0, none⟩) 1 1, .slice (some ⟨gs, 0, none⟩) 0 0, .slice da 0 dc, .int .i64 0]) ov4 (by kernel_rfl) (by kernel_rfl) (by kernel_rfl) (fun _ _ _ h => h) (Or.inl ⟨by rfl, fun V' hS => ?_⟩) hHeld ?_
  · obtain ⟨hS1, _⟩ := hS; have c0 : V'.cell? ⟨b2, 0, none⟩ = some (.slice (some ⟨gt, 0, none⟩) 1 1) := hS1.cell 0; have c1 : V'.cell? ⟨b2, 1, none⟩ = some (.slice (some ⟨gc, 0, none⟩) 1 1) := hS1.cell 1; have c2 : V'.cell? ⟨b2, 2, none⟩ = some (.slice (some ⟨gs, 0, none⟩) 0 0) := hS1.cell 2; have c3 : V'.cell? ⟨b2, 3, none⟩ = some (.slice da 0 dc) := hS1.cell 3; have c4 : V'.cell? ⟨b2, 4, none⟩ = some (.int .i64 0) := hS1.cell 4
    go_simp
  simp only [Act.put, List.setIfInBounds_toArray, List.set_cons_zero, List.set_cons_succ]
  refine wpAnyH_ready (rs := [5]) (by kernel_rfl) (by simp) ?_
  refine AllReadyH.cons ov5 (fun K hK => ?_) AllReadyH.nil
  rw [if_pos (by rfl)]
  go_simp
  refine (least_is z0).mono ?_
  rintro e z1 ⟨vl, rfl, hL, hB1⟩
  have H1 := And.intro (hHeld.1.past hB1) (hHeld.2.past hB1)
  have B1 : Hid (Below bw w z1 ∧ BL (fun _ => True) z1 (.slice (some ⟨bw, 0, none⟩) 20 20) leastB ∧ CW (fun _ => True) z1 (.agg #[.slice (some ⟨gt, 0, none⟩) 1 1, .slice (some ⟨gc, 0, none⟩) 1 1, .slice (some ⟨gs, 0, none⟩) 0 0, .slice da 0 dc, .int .i64 0]) leastC ∧ CW (fun g => z0.heap.size ≤ g) z1 vl leastC) := ⟨B0.out.1.trans (hB1.mono (Nat.le_trans GE.out B0.out.1.size)), B0.out.2.1.past hB1, B0.out.2.2.past hB1, hL⟩
  clear hL hB1
  (try go_wp2_with fail)
  refine hK.out _ _ H1 (fun _ => ?_)
  clear hK K
  (try simp only [Act.put, List.setIfInBounds_toArray, List.set_cons_zero, List.set_cons_succ])
  refine wpAnyH_ready (rs := [6]) (by kernel_rfl) (by simp) ?_
  refine AllReadyH.cons ov6 (fun K hK => ?_) AllReadyH.nil
  rw [if_pos (by rfl)]
  go_simp
  refine (same_is z1 _ _ leastC B1.out.2.2.1 B1.out.2.2.2).mono ?_
  rintro e z2 ⟨rfl, hB2⟩
  have H2 := And.intro (H1.1.past hB2) (H1.2.past hB2)
  have B2 : Hid (Below bw w z2 ∧ BL (fun _ => True) z2 (.slice (some ⟨bw, 0, none⟩) 20 20) leastB) := ⟨B1.out.1.trans (hB2.mono (Nat.le_trans GE.out B1.out.1.size)), B1.out.2.1.past hB2⟩
  clear hB2
  (try go_wp2_with fail)
  refine hK.out _ _ H2 (fun _ => ?_)
  clear hK K
  (try simp only [Act.put, List.setIfInBounds_toArray, List.set_cons_zero, List.set_cons_succ])
  refine wpAnyH_take (i := 7) (v := .bool false) ov7 (by kernel_rfl) (by kernel_rfl) (by kernel_rfl) (fun _ _ _ h => h) (Or.inl ⟨by rfl, fun V' hS => ?_⟩) H2 ?_
  · go_simp
  simp only [Act.put, List.setIfInBounds_toArray, List.set_cons_zero, List.set_cons_succ]
  refine wpAnyH_take (i := 8) (v := .bool false) ov8 (by kernel_rfl) (by kernel_rfl) (by kernel_rfl) (fun _ _ _ h => h) (Or.inl ⟨by rfl, fun V' hS => ?_⟩) H2 ?_
  · go_simp
  simp only [Act.put, List.setIfInBounds_toArray, List.set_cons_zero, List.set_cons_succ]
  refine wpAnyH_done (by kernel_rfl) ?_ _
  clear hHeld H1 H2 B0 B1
  go_upto_region 6 with (first | (go_at_call 30; refine (least_is _).mono ?_; rintro e w6 ⟨v6, rfl, hL, hB⟩; (have M6 : Hid (Below bw w w6 ∧ BL (fun _ => True) w6 (.slice (some ⟨bw, 0, none⟩) 20 20) leastB ∧ CW _ w6 v6 leastC) := ⟨B2.out.1.trans (hB.mono (Nat.le_trans GE.out B2.out.1.size)), B2.out.2.past hB, hL⟩); (clear hL hB)) | (go_at_call 35; refine (SZ.out _ _ _ M6.out.2.2).mono ?_; rintro e w7 ⟨v7, rfl, hS, hB⟩; (have M7 : Hid (Below bw w w7 ∧ BL (fun _ => True) w7 (.slice (some ⟨bw, 0, none⟩) 20 20) leastB ∧ BL (fun _ => True) w7 v7 leastB) := ⟨M6.out.1.trans (hB.mono (Nat.le_trans GE.out M6.out.1.size)), M6.out.2.1.past hB, hS⟩); (clear hS hB)))
  go_wp2_with (go_at_call 37; refine (sameB_is _ _ _ leastB M7.out.2.2 M7.out.2.1).mono ?_; rintro e w8 ⟨rfl, hB⟩)
  go_ret
  exact ⟨rfl, by rw [GB.out]; exact M7.out.1.trans (hB.mono (Nat.le_trans GE.out M7.out.1.size))⟩
end Go.Proofs.Ytndhabhlajldeaa
