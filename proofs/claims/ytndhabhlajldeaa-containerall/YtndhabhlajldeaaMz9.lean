/- The laws' sameParts, same, rejects, of what is the same. -/
import Derived.Test.YtndhabhlajldeaaMz8
import Derived.Laws.CopyOwn
import Derived.Laws.IdiomCopy
import Derived.Laws.CopyRow
import Derived.Lib.AppendZerosOnto
namespace Go.Proofs.Ytndhabhlajldeaa
open Go.RowKit
set_option maxHeartbeats 4000000 in
set_option maxRecDepth 100000 in
theorem sameParts_is {P R : Nat → Prop} (w : World) (v u : Value) (ll : List (List Nat)) (h : PL P w v ll) (k : PL R w u ll) : Calls Try.prog 59 #[v, u] w fun e w' => e = .returned (.bool true) ∧ Below w.heap.size w w' := by
  obtain ⟨ad, cap, rfl, _, hl⟩ := h.len
  obtain ⟨bd, cbp, rfl, _, _⟩ := k.len
  have HX : Hid (∀ W, Below w.heap.size w W → PL P W (.slice ad ll.length cap) ll) := fun W hW => h.past hW
  have HY : Hid (∀ W, Below w.heap.size w W → PL R W (.slice bd ll.length cbp) ll) := fun W hW => k.past hW
  have nI : (ll.length : Int) ≤ 1152921504606846976 := by omega
  generalize hn : ll.length = n at *
  have HN : Hid (ll.length = n) := hn
  clear h k hl hn
  generalize hbw : w.heap.size = bw at *
  have GE : Hid (bw ≤ w.heap.size) := by unfold Hid; omega
  clear hbw
  have B00 : Hid (Below bw w w) := Below.refl _ _
  go_enter Try.func59, Try.ntmps59
  go_wp2
  go_loopw [5] (fun s5 wr => ∃ k : Nat, s5 = .int .i64 (k : Int) ∧ k ≤ n ∧ Below bw w wr) (fun s5 _ => n - (intOf s5).toNat)
  case atStart => exact ⟨0, rfl, by omega, B00.out⟩
  case round =>
    obtain ⟨k, rfl, hk, hB⟩ := hrel
    have B : Hid (Below bw w wr) := hB
    clear hB B00
    by_cases e : k = n
    · subst e
      go_wp2
      go_ret
      exact ⟨rfl, B.out⟩
    · have kn : (k : Int) < (n : Int) := by omega
      obtain ⟨x, hx⟩ : ∃ x, ll[k]? = some x := ⟨ll[k]'(by have := HN.out; omega), List.getElem?_eq_getElem _⟩
      obtain ⟨g1, a1, y1, rfl, c1, b1⟩ := (HX.out wr B.out).get hx
      obtain ⟨g2, a2, y2, rfl, c2, b2⟩ := (HY.out wr B.out).get hx
      obtain ⟨ua, uc, rfl, _, _⟩ := b1.len
      obtain ⟨va, vc, rfl, _, _⟩ := b2.len
      have SB : Hid (∀ W, Below wr.heap.size wr W → Calls Try.prog 37 #[.slice ua x.length uc, .slice va x.length vc] W fun e w' => e = .returned (.bool true) ∧ Below W.heap.size W w') := fun W hW => by
        have := sameBytes_is W _ _ x x (b1.past hW) (b2.past hW)
        rwa [show decide (x = x) = true from by simp] at this
      clear e b1 b2 hx
      go_upto_region 6 with fail
      refine wp_region_held_drew (S := fun V' => V'.cell? ⟨g1, a1 + k, none⟩ = some (.slice ua x.length uc) ∧ V'.cell? ⟨g2, a2 + k, none⟩ = some (.slice va x.length vc)) (by kernel_rfl) ⟨c1, c2⟩ (fun hHeld => ?_)
      have B0 : Hid (Below bw w wr.drew ∧ Below wr.heap.size wr wr.drew) := ⟨B.out.drew, below_drew⟩
      generalize wr.drew = z0 at hHeld B0 ⊢
      refine wpAnyH_take (i := 0) (v := .slice (some ⟨g1, a1, none⟩) n cap) ov0 (by kernel_rfl) (by kernel_rfl) (by kernel_rfl) (fun _ _ _ h => h) (Or.inl ⟨by rfl, fun V' hS => ?_⟩) hHeld ?_
      · go_simp
      simp only [Act.put, List.setIfInBounds_toArray, List.set_cons_zero, List.set_cons_succ]
      refine wpAnyH_take (i := 1) (v := .int .i64 (k : Int)) ov1 (by kernel_rfl) (by kernel_rfl) (by kernel_rfl) (fun _ _ _ h => h) (Or.inl ⟨by rfl, fun V' hS => ?_⟩) hHeld ?_
      · go_simp
      simp only [Act.put, List.setIfInBounds_toArray, List.set_cons_zero, List.set_cons_succ]
      refine wpAnyH_take (i := 2) (v := .pointer (some ⟨g1, a1 + k, none⟩)) ov2 (by kernel_rfl) (by kernel_rfl) (by kernel_rfl) (fun _ _ _ h => h) (Or.inl ⟨by rfl, fun V' hS => ?_⟩) hHeld ?_
      · go_simp
      simp only [Act.put, List.setIfInBounds_toArray, List.set_cons_zero, List.set_cons_succ]
      refine wpAnyH_take (i := 3) (v := .slice ua x.length uc) ov3 (by kernel_rfl) (by kernel_rfl) (by kernel_rfl) (fun _ _ _ h => h) (Or.inl ⟨by rfl, fun V' hS => ?_⟩) hHeld ?_
      · have c0 := hS.1
        go_simp
      simp only [Act.put, List.setIfInBounds_toArray, List.set_cons_zero, List.set_cons_succ]
      refine wpAnyH_take (i := 4) (v := .slice (some ⟨g2, a2, none⟩) n cbp) ov4 (by kernel_rfl) (by kernel_rfl) (by kernel_rfl) (fun _ _ _ h => h) (Or.inl ⟨by rfl, fun V' hS => ?_⟩) hHeld ?_
      · go_simp
      simp only [Act.put, List.setIfInBounds_toArray, List.set_cons_zero, List.set_cons_succ]
      refine wpAnyH_take (i := 5) (v := .int .i64 (k : Int)) ov5 (by kernel_rfl) (by kernel_rfl) (by kernel_rfl) (fun _ _ _ h => h) (Or.inl ⟨by rfl, fun V' hS => ?_⟩) hHeld ?_
      · go_simp
      simp only [Act.put, List.setIfInBounds_toArray, List.set_cons_zero, List.set_cons_succ]
      refine wpAnyH_take (i := 6) (v := .pointer (some ⟨g2, a2 + k, none⟩)) ov6 (by kernel_rfl) (by kernel_rfl) (by kernel_rfl) (fun _ _ _ h => h) (Or.inl ⟨by rfl, fun V' hS => ?_⟩) hHeld ?_
      · go_simp
      simp only [Act.put, List.setIfInBounds_toArray, List.set_cons_zero, List.set_cons_succ]
      refine wpAnyH_take (i := 7) (v := .slice va x.length vc) ov7 (by kernel_rfl) (by kernel_rfl) (by kernel_rfl) (fun _ _ _ h => h) (Or.inl ⟨by rfl, fun V' hS => ?_⟩) hHeld ?_
      · have c0 := hS.2
        go_simp
      simp only [Act.put, List.setIfInBounds_toArray, List.set_cons_zero, List.set_cons_succ]
      refine wpAnyH_ready (rs := [8]) (by kernel_rfl) (by simp) ?_
      refine AllReadyH.cons ov8 (fun K hK => ?_) AllReadyH.nil
      rw [if_pos (by rfl)]
      go_simp
      refine (SB.out _ B0.out.2).mono ?_
      rintro e z1 ⟨rfl, hB1⟩
      have B1 : Hid (Below bw w z1) := B0.out.1.trans (hB1.mono (Nat.le_trans GE.out B0.out.1.size))
      have H1 := And.intro ((hB1.cell (p := ⟨g1, a1 + k, none⟩) (World.block_lt_of_cell? _ _ hHeld.1)).trans hHeld.1) ((hB1.cell (p := ⟨g2, a2 + k, none⟩) (World.block_lt_of_cell? _ _ hHeld.2)).trans hHeld.2)
      clear hB1
      (try go_wp2_with fail)
      refine hK.out _ _ H1 (fun _ => ?_)
      clear hK K
      (try simp only [Act.put, List.setIfInBounds_toArray, List.set_cons_zero, List.set_cons_succ])
      refine wpAnyH_take (i := 9) (v := .bool false) ov9 (by kernel_rfl) (by kernel_rfl) (by kernel_rfl) (fun _ _ _ h => h) (Or.inl ⟨by rfl, fun V' hS => ?_⟩) H1 ?_
      · go_simp
      simp only [Act.put, List.setIfInBounds_toArray, List.set_cons_zero, List.set_cons_succ]
      refine wpAnyH_done (by kernel_rfl) ?_ _
      clear hHeld H1 B0 B SB
      go_wp2
      go_roundw
      case rel => exact ⟨k + 1, by first | rfl | go_num, by omega, B1.out⟩
      case measure => simp [intOf]; omega
/-- in the midst of same -/
structure SmM (bw bx by' : Nat) (P R : Nat → Prop) (w W : World) (tv cv sv dv tu cu su du : Value) (c : Con) : Prop where
  c1 : CBox W bx 28 [tv, cv, sv, dv, .int .i64 c.n]
  c2 : CBox W by' 28 [tu, cu, su, du, .int .i64 c.n]
  t1 : TL P W tv c.ts
  t2 : TL R W tu c.ts
  p1 : PL P W cv c.cs
  p2 : PL R W cu c.cs
  s1 : PL P W sv c.ss
  s2 : PL R W su c.ss
  d1 : BL P W dv c.d
  d2 : BL R W du c.d
  bel : Below bw w W
  ge : bw ≤ w.heap.size
theorem SmM.past {bw bx by' : Nat} {P R : Nat → Prop} {w W W' : World} {tv cv sv dv tu cu su du : Value} {c : Con} (h : SmM bw bx by' P R w W tv cv sv dv tu cu su du c) (k : Below W.heap.size W W') : SmM bw bx by' P R w W' tv cv sv dv tu cu su du c :=
  ⟨h.c1.past k, h.c2.past k, h.t1.past k, h.t2.past k, h.p1.past k, h.p2.past k, h.s1.past k, h.s2.past k, h.d1.past k, h.d2.past k, h.bel.trans (k.mono (Nat.le_trans h.ge h.bel.size)), h.ge⟩
theorem ty_neq (x y z : Int) (W : World) : Sem.run Try.prog (binOp BinOp.neq 77 (.agg #[.int .i64 x, .int .i64 y, .int .i64 z]) (.agg #[.int .i64 x, .int .i64 y, .int .i64 z])) W = .ok (.bool false) W := by go_simp
theorem sameB_is {P R : Nat → Prop} (w : World) (v u : Value) (x : List Nat) (h : BL P w v x) (k : BL R w u x) : Calls Try.prog 37 #[v, u] w fun e w' => e = .returned (.bool true) ∧ Below w.heap.size w w' := by
  have := sameBytes_is w v u x x h k
  rwa [show decide (x = x) = true from by simp] at this
set_option maxHeartbeats 4000000 in
set_option maxRecDepth 100000 in
theorem same_is {P R : Nat → Prop} (w : World) (v u : Value) (c : Con) (h : CW P w v c) (k : CW R w u c) : Calls Try.prog 22 #[v, u] w fun e w' => e = .returned (.bool true) ∧ Below w.heap.size w w' := by
  obtain ⟨tv, cv, sv, dv, rfl, h1, h2, h3, h4⟩ := h
  obtain ⟨tu, cu, su, du, rfl, k1, k2, k3, k4⟩ := k
  obtain ⟨ta, tc, rfl, _, hl⟩ := h1.len
  obtain ⟨ca, cc, rfl, _⟩ := h2.len
  obtain ⟨sa, sc, rfl, _⟩ := h3.len
  obtain ⟨da, dc, rfl, _⟩ := h4.len
  obtain ⟨ta', tc', rfl, _⟩ := k1.len
  obtain ⟨ca', cc', rfl, _⟩ := k2.len
  obtain ⟨sa', sc', rfl, _⟩ := k3.len
  obtain ⟨da', dc', rfl, _⟩ := k4.len
  have nI : (c.ts.length : Int) ≤ 1152921504606846976 := by omega
  have b1 := below_alloc w (.cells #[.slice ta c.ts.length tc, .slice ca c.cs.length cc, .slice sa c.ss.length sc, .slice da c.d.length dc, .int .i64 c.n] 28)
  have b2 := below_alloc (w.alloc (.cells #[.slice ta c.ts.length tc, .slice ca c.cs.length cc, .slice sa c.ss.length sc, .slice da c.d.length dc, .int .i64 c.n] 28)) (.cells #[.slice ta' c.ts.length tc', .slice ca' c.cs.length cc', .slice sa' c.ss.length sc', .slice da' c.d.length dc', .int .i64 c.n] 28)
  have s1 : (w.alloc (.cells #[.slice ta c.ts.length tc, .slice ca c.cs.length cc, .slice sa c.ss.length sc, .slice da c.d.length dc, .int .i64 c.n] 28)).heap.size = w.heap.size + 1 := by simp
  have bb : Below w.heap.size w ((w.alloc (.cells #[.slice ta c.ts.length tc, .slice ca c.cs.length cc, .slice sa c.ss.length sc, .slice da c.d.length dc, .int .i64 c.n] 28)).alloc (.cells #[.slice ta' c.ts.length tc', .slice ca' c.cs.length cc', .slice sa' c.ss.length sc', .slice da' c.d.length dc', .int .i64 c.n] 28)) := b1.trans (b2.mono (by omega))
  have c2 := CBox.new (w.alloc (.cells #[.slice ta c.ts.length tc, .slice ca c.cs.length cc, .slice sa c.ss.length sc, .slice da c.d.length dc, .int .i64 c.n] 28)) 28 [.slice ta' c.ts.length tc', .slice ca' c.cs.length cc', .slice sa' c.ss.length sc', .slice da' c.d.length dc', .int .i64 c.n]
  rw [s1] at c2
  have M : Hid (SmM w.heap.size w.heap.size (w.heap.size + 1) P R w ((w.alloc (.cells #[.slice ta c.ts.length tc, .slice ca c.cs.length cc, .slice sa c.ss.length sc, .slice da c.d.length dc, .int .i64 c.n] 28)).alloc (.cells #[.slice ta' c.ts.length tc', .slice ca' c.cs.length cc', .slice sa' c.ss.length sc', .slice da' c.d.length dc', .int .i64 c.n] 28)) (.slice ta c.ts.length tc) (.slice ca c.cs.length cc) (.slice sa c.ss.length sc) (.slice da c.d.length dc) (.slice ta' c.ts.length tc') (.slice ca' c.cs.length cc') (.slice sa' c.ss.length sc') (.slice da' c.d.length dc') c) := ⟨(CBox.new w 28 [.slice ta c.ts.length tc, .slice ca c.cs.length cc, .slice sa c.ss.length sc, .slice da c.d.length dc, .int .i64 c.n]).past b2, c2, h1.past bb, k1.past bb, h2.past bb, k2.past bb, h3.past bb, k3.past bb, h4.past bb, k4.past bb, bb, Nat.le_refl _⟩
  clear h1 h2 h3 h4 k1 k2 k3 k4 b1 b2 s1 bb c2
  go_enter Try.func22, Try.ntmps22
  go_upto_region 1 with fail
  generalize w.heap.size + 1 = by' at M ⊢
  generalize hbx : w.heap.size = bx at M ⊢
  have GB : Hid (w.heap.size = bx) := hbx
  clear hbx
  generalize (w.alloc _).alloc _ = W0 at M ⊢
  refine wp_region_lit ?_
  refine lst_val (v := .pointer (some ⟨bx, 0, none⟩)) (by kernel_rfl) ?_ ?_
  · go_simp
  simp only [Act.put, List.setIfInBounds_toArray, List.set_cons_zero, List.set_cons_succ]
  refine lst_val (v := .slice ta c.ts.length tc) (by kernel_rfl) ?_ ?_
  · have c0 := M.out.c1.cell 0
    go_simp
  simp only [Act.put, List.setIfInBounds_toArray, List.set_cons_zero, List.set_cons_succ]
  refine lst_val (v := .int .i64 (c.ts.length : Int)) (by kernel_rfl) ?_ ?_
  · go_simp
  simp only [Act.put, List.setIfInBounds_toArray, List.set_cons_zero, List.set_cons_succ]
  refine lst_val (v := .pointer (some ⟨by', 0, none⟩)) (by kernel_rfl) ?_ ?_
  · go_simp
  simp only [Act.put, List.setIfInBounds_toArray, List.set_cons_zero, List.set_cons_succ]
  refine lst_val (v := .slice ta' c.ts.length tc') (by kernel_rfl) ?_ ?_
  · have c0 := M.out.c2.cell 0
    go_simp
  simp only [Act.put, List.setIfInBounds_toArray, List.set_cons_zero, List.set_cons_succ]
  refine lst_val (v := .int .i64 (c.ts.length : Int)) (by kernel_rfl) ?_ ?_
  · go_simp
  simp only [Act.put, List.setIfInBounds_toArray, List.set_cons_zero, List.set_cons_succ]
  refine lst_val (v := .bool false) (by kernel_rfl) ?_ ?_
  · go_simp
  simp only [Act.put, List.setIfInBounds_toArray, List.set_cons_zero, List.set_cons_succ]
  refine lst_val (v := .bool false) (by kernel_rfl) ?_ ?_
  · go_simp
  simp only [Act.put, List.setIfInBounds_toArray, List.set_cons_zero, List.set_cons_succ]
  refine lst_val (v := .pointer (some ⟨bx, 4, none⟩)) (by kernel_rfl) ?_ ?_
  · go_simp
  simp only [Act.put, List.setIfInBounds_toArray, List.set_cons_zero, List.set_cons_succ]
  refine lst_val (v := .int .i64 c.n) (by kernel_rfl) ?_ ?_
  · have c0 := M.out.c1.cell 4
    go_simp
  simp only [Act.put, List.setIfInBounds_toArray, List.set_cons_zero, List.set_cons_succ]
  refine lst_val (v := .pointer (some ⟨by', 4, none⟩)) (by kernel_rfl) ?_ ?_
  · go_simp
  simp only [Act.put, List.setIfInBounds_toArray, List.set_cons_zero, List.set_cons_succ]
  refine lst_val (v := .int .i64 c.n) (by kernel_rfl) ?_ ?_
  · have c0 := M.out.c2.cell 4
    go_simp
  simp only [Act.put, List.setIfInBounds_toArray, List.set_cons_zero, List.set_cons_succ]
  refine lst_val (v := .bool false) (by kernel_rfl) ?_ ?_
  · go_simp
  simp only [Act.put, List.setIfInBounds_toArray, List.set_cons_zero, List.set_cons_succ]
  refine lst_val (v := .bool false) (by kernel_rfl) ?_ ?_
  · go_simp
  simp only [Act.put, List.setIfInBounds_toArray, List.set_cons_zero, List.set_cons_succ]
  refine lst_val (v := .bool false) (by kernel_rfl) ?_ ?_
  · go_simp
  simp only [Act.put, List.setIfInBounds_toArray, List.set_cons_zero, List.set_cons_succ]
  refine lst_val (v := .pointer (some ⟨bx, 1, none⟩)) (by kernel_rfl) ?_ ?_
  · go_simp
  simp only [Act.put, List.setIfInBounds_toArray, List.set_cons_zero, List.set_cons_succ]
  refine lst_val (v := .slice ca c.cs.length cc) (by kernel_rfl) ?_ ?_
  · have c0 := M.out.c1.cell 1
    go_simp
  simp only [Act.put, List.setIfInBounds_toArray, List.set_cons_zero, List.set_cons_succ]
  refine lst_val (v := .pointer (some ⟨by', 1, none⟩)) (by kernel_rfl) ?_ ?_
  · go_simp
  simp only [Act.put, List.setIfInBounds_toArray, List.set_cons_zero, List.set_cons_succ]
  refine lst_val (v := .slice ca' c.cs.length cc') (by kernel_rfl) ?_ ?_
  · have c0 := M.out.c2.cell 1
    go_simp
  simp only [Act.put, List.setIfInBounds_toArray, List.set_cons_zero, List.set_cons_succ]
  refine lst_call (by kernel_rfl) (by first | (go_simp; done) | (go_simp; first | exact rfl | exact ⟨rfl, rfl⟩ | exact ⟨rfl, rfl, rfl⟩)) (sameParts_is _ _ _ c.cs M.out.p1 M.out.p2) ?_
  rintro e z1 ⟨rfl, hB⟩
  refine ⟨_, rfl, ?_⟩
  have M9 := M.out.past hB
  clear hB M
  have M : Hid _ := M9
  clear M9
  simp only [Act.put, List.setIfInBounds_toArray, List.set_cons_zero, List.set_cons_succ]
  refine lst_val (v := .bool false) (by kernel_rfl) ?_ ?_
  · go_simp
  simp only [Act.put, List.setIfInBounds_toArray, List.set_cons_zero, List.set_cons_succ]
  refine lst_val (v := .bool false) (by kernel_rfl) ?_ ?_
  · go_simp
  simp only [Act.put, List.setIfInBounds_toArray, List.set_cons_zero, List.set_cons_succ]
  refine lst_val (v := .bool false) (by kernel_rfl) ?_ ?_
  · go_simp
  simp only [Act.put, List.setIfInBounds_toArray, List.set_cons_zero, List.set_cons_succ]
  refine lst_val (v := .pointer (some ⟨bx, 2, none⟩)) (by kernel_rfl) ?_ ?_
  · go_simp
  simp only [Act.put, List.setIfInBounds_toArray, List.set_cons_zero, List.set_cons_succ]
  refine lst_val (v := .slice sa c.ss.length sc) (by kernel_rfl) ?_ ?_
  · have c0 := M.out.c1.cell 2
    go_simp
  simp only [Act.put, List.setIfInBounds_toArray, List.set_cons_zero, List.set_cons_succ]
  refine lst_val (v := .pointer (some ⟨by', 2, none⟩)) (by kernel_rfl) ?_ ?_
  · go_simp
  simp only [Act.put, List.setIfInBounds_toArray, List.set_cons_zero, List.set_cons_succ]
  refine lst_val (v := .slice sa' c.ss.length sc') (by kernel_rfl) ?_ ?_
  · have c0 := M.out.c2.cell 2
    go_simp
  simp only [Act.put, List.setIfInBounds_toArray, List.set_cons_zero, List.set_cons_succ]
  refine lst_call (by kernel_rfl) (by first | (go_simp; done) | (go_simp; first | exact rfl | exact ⟨rfl, rfl⟩ | exact ⟨rfl, rfl, rfl⟩)) (sameParts_is _ _ _ c.ss M.out.s1 M.out.s2) ?_
  rintro e z1 ⟨rfl, hB⟩
  refine ⟨_, rfl, ?_⟩
  have M9 := M.out.past hB
  clear hB M
  have M : Hid _ := M9
  clear M9
  simp only [Act.put, List.setIfInBounds_toArray, List.set_cons_zero, List.set_cons_succ]
  refine lst_val (v := .bool false) (by kernel_rfl) ?_ ?_
  · go_simp
  simp only [Act.put, List.setIfInBounds_toArray, List.set_cons_zero, List.set_cons_succ]
  refine lst_val (v := .bool false) (by kernel_rfl) ?_ ?_
  · go_simp
  simp only [Act.put, List.setIfInBounds_toArray, List.set_cons_zero, List.set_cons_succ]
  refine lst_val (v := .bool false) (by kernel_rfl) ?_ ?_
  · go_simp
  simp only [Act.put, List.setIfInBounds_toArray, List.set_cons_zero, List.set_cons_succ]
  refine lst_val (v := .pointer (some ⟨bx, 3, none⟩)) (by kernel_rfl) ?_ ?_
  · go_simp
  simp only [Act.put, List.setIfInBounds_toArray, List.set_cons_zero, List.set_cons_succ]
  refine lst_val (v := .slice da c.d.length dc) (by kernel_rfl) ?_ ?_
  · have c0 := M.out.c1.cell 3
    go_simp
  simp only [Act.put, List.setIfInBounds_toArray, List.set_cons_zero, List.set_cons_succ]
  refine lst_val (v := .pointer (some ⟨by', 3, none⟩)) (by kernel_rfl) ?_ ?_
  · go_simp
  simp only [Act.put, List.setIfInBounds_toArray, List.set_cons_zero, List.set_cons_succ]
  refine lst_val (v := .slice da' c.d.length dc') (by kernel_rfl) ?_ ?_
  · have c0 := M.out.c2.cell 3
    go_simp
  simp only [Act.put, List.setIfInBounds_toArray, List.set_cons_zero, List.set_cons_succ]
  refine lst_call (by kernel_rfl) (by first | (go_simp; done) | (go_simp; first | exact rfl | exact ⟨rfl, rfl⟩ | exact ⟨rfl, rfl, rfl⟩)) (sameB_is _ _ _ c.d M.out.d1 M.out.d2) ?_
  rintro e z1 ⟨rfl, hB⟩
  refine ⟨_, rfl, ?_⟩
  have M9 := M.out.past hB
  clear hB M
  have M : Hid _ := M9
  clear M9
  simp only [Act.put, List.setIfInBounds_toArray, List.set_cons_zero, List.set_cons_succ]
  refine lst_val (v := .bool false) (by kernel_rfl) ?_ ?_
  · go_simp
  simp only [Act.put, List.setIfInBounds_toArray, List.set_cons_zero, List.set_cons_succ]
  refine lst_val (v := .bool false) (by kernel_rfl) ?_ ?_
  · go_simp
  simp only [Act.put, List.setIfInBounds_toArray, List.set_cons_zero, List.set_cons_succ]
  refine wpList_nil ?_
  go_wp2
  go_loopw [5] (fun s5 wr => ∃ k : Nat, s5 = .int .i64 (k : Int) ∧ k ≤ c.ts.length ∧ SmM bx bx by' P R w wr (.slice ta c.ts.length tc) (.slice ca c.cs.length cc) (.slice sa c.ss.length sc) (.slice da c.d.length dc) (.slice ta' c.ts.length tc') (.slice ca' c.cs.length cc') (.slice sa' c.ss.length sc') (.slice da' c.d.length dc') c) (fun s5 _ => c.ts.length - (intOf s5).toNat)
  case atStart => exact ⟨0, rfl, by omega, M.out⟩
  case round =>
    obtain ⟨k, rfl, hk, hM⟩ := hrel
    clear M
    have M : Hid (SmM bx bx by' P R w wr (.slice ta c.ts.length tc) (.slice ca c.cs.length cc) (.slice sa c.ss.length sc) (.slice da c.d.length dc) (.slice ta' c.ts.length tc') (.slice ca' c.cs.length cc') (.slice sa' c.ss.length sc') (.slice da' c.d.length dc') c) := hM
    clear hM
    have c0 : wr.cell? ⟨bx, 0, none⟩ = some (.slice ta c.ts.length tc) := M.out.c1.cell 0
    by_cases e : k = c.ts.length
    · have kn : ¬ (k : Int) < (c.ts.length : Int) := by omega
      clear e
      go_wp2
      go_ret
      exact ⟨rfl, by rw [GB.out]; exact M.out.bel⟩
    · have kn : (k : Int) < (c.ts.length : Int) := by omega
      obtain ⟨t, ht⟩ : ∃ t, c.ts[k]? = some t := ⟨c.ts[k]'(by omega), List.getElem?_eq_getElem _⟩
      obtain ⟨x, y, z⟩ := t
      obtain ⟨g1, a1, e1, q1, q2, q3⟩ := M.out.t1.get ht
      obtain ⟨g2, a2, e2, r1, r2, r3⟩ := M.out.t2.get ht
      subst e1 e2
      clear e ht
      go_upto_region 6 with fail
      clear c0
      refine wp_region_held_drew (S := fun V' => V'.cell? ⟨bx, 0, none⟩ = some (.slice (some ⟨g1, a1, none⟩) c.ts.length tc) ∧ V'.cell? ⟨by', 0, none⟩ = some (.slice (some ⟨g2, a2, none⟩) c.ts.length tc') ∧ V'.cell? ⟨g1, a1 + k * 3, none⟩ = some (.int .i64 x) ∧ V'.cell? ⟨g1, a1 + k * 3 + 1, none⟩ = some (.int .i64 y) ∧ V'.cell? ⟨g1, a1 + k * 3 + 2, none⟩ = some (.int .i64 z) ∧ V'.cell? ⟨g2, a2 + k * 3, none⟩ = some (.int .i64 x) ∧ V'.cell? ⟨g2, a2 + k * 3 + 1, none⟩ = some (.int .i64 y) ∧ V'.cell? ⟨g2, a2 + k * 3 + 2, none⟩ = some (.int .i64 z)) (by kernel_rfl) ⟨M.out.c1.cell 0, M.out.c2.cell 0, q1, q2, q3, r1, r2, r3⟩ (fun hHeld => ?_)
      have M1 : Hid (SmM bx bx by' P R w wr.drew (.slice (some ⟨g1, a1, none⟩) c.ts.length tc) (.slice ca c.cs.length cc) (.slice sa c.ss.length sc) (.slice da c.d.length dc) (.slice (some ⟨g2, a2, none⟩) c.ts.length tc') (.slice ca' c.cs.length cc') (.slice sa' c.ss.length sc') (.slice da' c.d.length dc') c) := M.out.past below_drew
      clear M q1 q2 q3 r1 r2 r3
      generalize wr.drew = z0 at hHeld M1 ⊢
      refine wpAnyH_take (i := 0) (v := .pointer (some ⟨bx, 0, none⟩)) ov0 (by kernel_rfl) (by kernel_rfl) (by kernel_rfl) (fun _ _ _ h => h) (Or.inl ⟨by rfl, fun V' hS => ?_⟩) hHeld ?_
      · go_simp
      simp only [Act.put, List.setIfInBounds_toArray, List.set_cons_zero, List.set_cons_succ]
      refine wpAnyH_take (i := 1) (v := .slice (some ⟨g1, a1, none⟩) c.ts.length tc) ov1 (by kernel_rfl) (by kernel_rfl) (by kernel_rfl) (fun _ _ _ h => h) (Or.inl ⟨by rfl, fun V' hS => ?_⟩) hHeld ?_
      · have c0 := hS.1
        go_simp
      simp only [Act.put, List.setIfInBounds_toArray, List.set_cons_zero, List.set_cons_succ]
      refine wpAnyH_take (i := 2) (v := .int .i64 (k : Int)) ov2 (by kernel_rfl) (by kernel_rfl) (by kernel_rfl) (fun _ _ _ h => h) (Or.inl ⟨by rfl, fun V' hS => ?_⟩) hHeld ?_
      · go_simp
      simp only [Act.put, List.setIfInBounds_toArray, List.set_cons_zero, List.set_cons_succ]
      refine wpAnyH_take (i := 3) (v := .pointer (some ⟨g1, a1 + k * 3, none⟩)) ov3 (by kernel_rfl) (by kernel_rfl) (by kernel_rfl) (fun _ _ _ h => h) (Or.inl ⟨by rfl, fun V' hS => ?_⟩) hHeld ?_
      · go_simp
      simp only [Act.put, List.setIfInBounds_toArray, List.set_cons_zero, List.set_cons_succ]
      refine wpAnyH_take (i := 4) (v := .agg #[.int .i64 x, .int .i64 y, .int .i64 z]) ov4 (by kernel_rfl) (by kernel_rfl) (by kernel_rfl) (fun _ _ _ h => h) (Or.inl ⟨by rfl, fun V' hS => ?_⟩) hHeld ?_
      · obtain ⟨c0, c1, c2, _⟩ := hS.2.2
        go_simp
      simp only [Act.put, List.setIfInBounds_toArray, List.set_cons_zero, List.set_cons_succ]
      refine wpAnyH_take (i := 5) (v := .pointer (some ⟨by', 0, none⟩)) ov5 (by kernel_rfl) (by kernel_rfl) (by kernel_rfl) (fun _ _ _ h => h) (Or.inl ⟨by rfl, fun V' hS => ?_⟩) hHeld ?_
      · go_simp
      simp only [Act.put, List.setIfInBounds_toArray, List.set_cons_zero, List.set_cons_succ]
      refine wpAnyH_take (i := 6) (v := .slice (some ⟨g2, a2, none⟩) c.ts.length tc') ov6 (by kernel_rfl) (by kernel_rfl) (by kernel_rfl) (fun _ _ _ h => h) (Or.inl ⟨by rfl, fun V' hS => ?_⟩) hHeld ?_
      · have c0 := hS.2.1
        go_simp
      simp only [Act.put, List.setIfInBounds_toArray, List.set_cons_zero, List.set_cons_succ]
      refine wpAnyH_take (i := 7) (v := .int .i64 (k : Int)) ov7 (by kernel_rfl) (by kernel_rfl) (by kernel_rfl) (fun _ _ _ h => h) (Or.inl ⟨by rfl, fun V' hS => ?_⟩) hHeld ?_
      · go_simp
      simp only [Act.put, List.setIfInBounds_toArray, List.set_cons_zero, List.set_cons_succ]
      refine wpAnyH_take (i := 8) (v := .pointer (some ⟨g2, a2 + k * 3, none⟩)) ov8 (by kernel_rfl) (by kernel_rfl) (by kernel_rfl) (fun _ _ _ h => h) (Or.inl ⟨by rfl, fun V' hS => ?_⟩) hHeld ?_
      · go_simp
      simp only [Act.put, List.setIfInBounds_toArray, List.set_cons_zero, List.set_cons_succ]
      refine wpAnyH_take (i := 9) (v := .agg #[.int .i64 x, .int .i64 y, .int .i64 z]) ov9 (by kernel_rfl) (by kernel_rfl) (by kernel_rfl) (fun _ _ _ h => h) (Or.inl ⟨by rfl, fun V' hS => ?_⟩) hHeld ?_
      · obtain ⟨_, _, _, c0, c1, c2⟩ := hS.2.2
        go_simp
      simp only [Act.put, List.setIfInBounds_toArray, List.set_cons_zero, List.set_cons_succ]
      refine wpAnyH_take (i := 10) (v := .bool false) ov10 (by kernel_rfl) (by kernel_rfl) (by kernel_rfl) (fun _ _ _ h => h) (Or.inl ⟨by rfl, fun V' hS => ?_⟩) hHeld ?_
      · exact (by have := ty_neq x y z V'; go_simp)
      simp only [Act.put, List.setIfInBounds_toArray, List.set_cons_zero, List.set_cons_succ]
      refine wpAnyH_done (by kernel_rfl) ?_ _
      clear hHeld
      go_wp2
      go_roundw
      case rel => exact ⟨k + 1, by first | rfl | go_num, by omega, M1.out⟩
      case measure => simp [intOf]; omega
end Go.Proofs.Ytndhabhlajldeaa
/- The laws' rejects, least, able. -/
namespace Go.Proofs.Ytndhabhlajldeaa
open Go.RowKit
set_option maxHeartbeats 4000000 in
set_option maxRecDepth 100000 in
theorem rejects_is (w : World) (x y : Int) : Calls Try.prog 34 #[rejV x y, rejV x y] w fun e w' => e = .returned (.bool true) ∧ Below w.heap.size w w' := by
  unfold rejV
  have b1 := below_alloc w (.cells #[.int .i64 x, .slice none 0 0, .int .i64 0, .int .i64 y] 47)
  have b2 := below_alloc (w.alloc (.cells #[.int .i64 x, .slice none 0 0, .int .i64 0, .int .i64 y] 47)) (.cells #[.int .i64 x, .slice none 0 0, .int .i64 0, .int .i64 y] 47)
  have s1 : (w.alloc (.cells #[.int .i64 x, .slice none 0 0, .int .i64 0, .int .i64 y] 47)).heap.size = w.heap.size + 1 := by simp
  have c1 := (CBox.new w 47 [.int .i64 x, .slice none 0 0, .int .i64 0, .int .i64 y]).past b2
  have c2 := CBox.new (w.alloc (.cells #[.int .i64 x, .slice none 0 0, .int .i64 0, .int .i64 y] 47)) 47 [.int .i64 x, .slice none 0 0, .int .i64 0, .int .i64 y]
  rw [s1] at c2
  have M : Hid (CBox ((w.alloc (.cells #[.int .i64 x, .slice none 0 0, .int .i64 0, .int .i64 y] 47)).alloc (.cells #[.int .i64 x, .slice none 0 0, .int .i64 0, .int .i64 y] 47)) w.heap.size 47 [.int .i64 x, .slice none 0 0, .int .i64 0, .int .i64 y] ∧ CBox ((w.alloc (.cells #[.int .i64 x, .slice none 0 0, .int .i64 0, .int .i64 y] 47)).alloc (.cells #[.int .i64 x, .slice none 0 0, .int .i64 0, .int .i64 y] 47)) (w.heap.size + 1) 47 [.int .i64 x, .slice none 0 0, .int .i64 0, .int .i64 y] ∧ Below w.heap.size w ((w.alloc (.cells #[.int .i64 x, .slice none 0 0, .int .i64 0, .int .i64 y] 47)).alloc (.cells #[.int .i64 x, .slice none 0 0, .int .i64 0, .int .i64 y] 47))) := ⟨c1, c2, b1.trans (b2.mono (by omega))⟩
  clear b1 b2 s1 c1 c2
  go_enter Try.func34, Try.ntmps34
  go_upto_region 1 with fail
  generalize w.heap.size + 1 = by' at M ⊢
  generalize hbx : w.heap.size = bx at M ⊢
  have GB : Hid (w.heap.size = bx) := hbx
  clear hbx
  generalize (w.alloc _).alloc _ = W0 at M ⊢
  have a0 : W0.cell? ⟨bx, 0, none⟩ = some (.int .i64 x) := M.out.1.cell 0
  have a1 : W0.cell? ⟨bx, 1, none⟩ = some (.slice none 0 0) := M.out.1.cell 1
  have a2 : W0.cell? ⟨bx, 2, none⟩ = some (.int .i64 0) := M.out.1.cell 2
  have a3 : W0.cell? ⟨bx, 3, none⟩ = some (.int .i64 y) := M.out.1.cell 3
  have d0 : W0.cell? ⟨by', 0, none⟩ = some (.int .i64 x) := M.out.2.1.cell 0
  have d1 : W0.cell? ⟨by', 1, none⟩ = some (.slice none 0 0) := M.out.2.1.cell 1
  have d2 : W0.cell? ⟨by', 2, none⟩ = some (.int .i64 0) := M.out.2.1.cell 2
  have d3 : W0.cell? ⟨by', 3, none⟩ = some (.int .i64 y) := M.out.2.1.cell 3
  have B0 : Hid (Below bx w W0) := M.out.2.2
  go_wp2
  go_loopw [5] (fun s5 wr => s5 = .int .i64 0 ∧ wr = W0) (fun _ _ => 0)
  case atStart => exact ⟨rfl, rfl⟩
  case round =>
    obtain ⟨rfl, rfl⟩ := hrel
    go_wp2
    go_ret
    exact ⟨rfl, by rw [GB.out]; exact B0.out⟩
def leastC : Con := ⟨[(0, 128, 0)], [[0]], [], [], 0⟩
def leastB : List Nat := [239, 0, 1, 1, 0, 4, 2, 0, 1, 0, 1, 255, 0, 0, 0, 0, 128, 0, 0, 0]
theorem least_may : May leastC := ⟨by decide, by decide, by decide, by decide, by decide, by decide, by decide, by decide, by decide⟩
theorem least_ser : ser leastC = leastB := by decide
theorem least_prs : prs leastB false = .ok leastC := by
  rw [← least_ser]
  exact prs_ser least_may false (fun _ => rfl)
theorem least_serR : serR leastC = leastB := by decide
theorem least_chk : chk leastC = 0 := by decide
theorem least_byt : Byt leastB := by unfold Byt; decide
set_option maxHeartbeats 4000000 in
set_option maxRecDepth 100000 in
theorem least_is (w : World) : Calls Try.prog 30 #[] w fun e w' => ∃ v, e = .returned v ∧ CW (fun g => w.heap.size ≤ g) w' v leastC ∧ Below w.heap.size w w' := by
  go_enter Try.func30, Try.ntmps30
  go_wp2
  have b1 := below_alloc w (.cells #[.slice (some ⟨w.heap.size + 1, 0, none⟩) 1 1, .slice (some ⟨w.heap.size + 1 + 1 + 1, 0, none⟩) 1 1, .slice none 0 0, .slice none 0 0, .int .i64 0] 28)
  have c1 := CBox.new w 28 [.slice (some ⟨w.heap.size + 1, 0, none⟩) 1 1, .slice (some ⟨w.heap.size + 1 + 1 + 1, 0, none⟩) 1 1, .slice none 0 0, .slice none 0 0, .int .i64 0]
  have s1 : (w.alloc (.cells #[.slice (some ⟨w.heap.size + 1, 0, none⟩) 1 1, .slice (some ⟨w.heap.size + 1 + 1 + 1, 0, none⟩) 1 1, .slice none 0 0, .slice none 0 0, .int .i64 0] 28)).heap.size = w.heap.size + 1 := by simp
  generalize w.alloc _ = W1 at b1 c1 s1 ⊢
  have b2 := below_alloc W1 (.cells #[.int .i64 0, .int .i64 128, .int .i64 0] 77)
  have c2 := CBox.new W1 77 [.int .i64 0, .int .i64 128, .int .i64 0]
  have s2 : (W1.alloc (.cells #[.int .i64 0, .int .i64 128, .int .i64 0] 77)).heap.size = w.heap.size + 1 + 1 := by simp [s1]
  rw [s1] at c2
  generalize W1.alloc _ = W2 at b2 c2 s2 ⊢
  have b3 := below_alloc W2 (.cells #[.int .u8 0] 5)
  have c3 := CBox.new W2 5 [.int .u8 0]
  have s3 : (W2.alloc (.cells #[.int .u8 0] 5)).heap.size = w.heap.size + 1 + 1 + 1 := by simp [s2]
  rw [s2] at c3
  generalize W2.alloc _ = W3 at b3 c3 s3 ⊢
  have b4 := below_alloc W3 (.cells #[.slice (some ⟨w.heap.size + 1 + 1, 0, none⟩) 1 1] 22)
  have c4 := CBox.new W3 22 [.slice (some ⟨w.heap.size + 1 + 1, 0, none⟩) 1 1]
  rw [s3] at c4
  generalize W3.alloc _ = W4 at b4 c4 ⊢
  have d1 := ((c1.past b2).past b3).past b4
  have d2 := (c2.past b3).past b4
  have d3 := c3.past b4
  refine bodyPost_ret (v := .agg #[.slice (some ⟨w.heap.size + 1, 0, none⟩) 1 1, .slice (some ⟨w.heap.size + 1 + 1 + 1, 0, none⟩) 1 1, .slice none 0 0, .slice none 0 0, .int .i64 0]) (results_c (p := 0) (ty := 28) Try.results30 _ _ _ ⟨w.heap.size, 0, none⟩ rfl (run_loadVar_mid W4 w.heap.size 0 28 [.slice (some ⟨w.heap.size + 1, 0, none⟩) 1 1, .slice (some ⟨w.heap.size + 1 + 1 + 1, 0, none⟩) 1 1, .slice none 0 0, .slice none 0 0, .int .i64 0] _ d1.range Try.underlying28 rfl (by kernel_rfl))) rfl ?_
  refine ⟨_, rfl, ⟨_, _, _, _, rfl, SL.box d2 rfl (by decide) (by omega), ⟨_, SL.box c4 rfl (by decide) (by omega), fun i l hi => ?_⟩, PL.nil _ _, BL.nil _ _⟩, ((b1.trans (b2.mono (by omega))).trans (b3.mono (by omega))).trans (b4.mono (by omega))⟩
  have hlt := (List.getElem?_eq_some_iff.1 hi).1
  have hi0 : i = 0 := by simp [leastC] at hlt; omega
  subst hi0
  have hl0 : l = [0] := by simp [leastC] at hi; exact hi.symm
  subst hl0
  exact ⟨_, rfl, SL.box d3 rfl (by decide) (by omega)⟩
theorem CO.cw {B : Nat} {W : World} {v : Value} {c : Con} (h : CO B W v c) (h1 : c.ts.length ≤ 1152921504606846976) (h2 : c.cs.length ≤ 1152921504606846976) (h3 : c.ss.length ≤ 1152921504606846976) (h4 : c.d.length ≤ 1152921504606846976) (hx : ∀ x ∈ c.cs, x.length ≤ 1152921504606846976) (hy : ∀ x ∈ c.ss, x.length ≤ 1152921504606846976) : CW (fun g => B ≤ g) W v c := by
  obtain ⟨tv, cv, sv, dv, e, k1, k2, k3, k4⟩ := h
  exact ⟨tv, cv, sv, dv, e, k1.tl h1, k2.pl h2 hx, k3.pl h3 hy, SL.own k4 h4 fun g hg => (k4.lt g hg).1⟩
theorem co_least {B : Nat} {W : World} {v : Value} (h : CO B W v leastC) : ∃ gt gc gs da dc, v = .agg #[.slice (some ⟨gt, 0, none⟩) 1 1, .slice (some ⟨gc, 0, none⟩) 1 1, .slice (some ⟨gs, 0, none⟩) 0 0, .slice da 0 dc, .int .i64 0] ∧ CW (fun _ => True) W v leastC := by
  have hw := h.cw (by decide) (by decide) (by decide) (by decide) (by decide) (by decide)
  obtain ⟨tv, cv, sv, dv, e, ⟨gt, rfl, _⟩, ⟨gc, _, rfl, _⟩, ⟨gs, _, rfl, _⟩, k4⟩ := h
  obtain ⟨da, dc, rfl⟩ := owns_sl k4
  exact ⟨gt, gc, gs, da, dc, e, hw.mono fun _ _ _ => trivial⟩
set_option maxHeartbeats 4000000 in
set_option maxRecDepth 100000 in
theorem able_is (w : World) : Calls Try.prog 16 #[] w fun e w' => e = .returned (.bool true) ∧ Below w.heap.size w w' := by
  have M0 : Hid (BL (fun _ => True) (w.alloc (.cells #[.int .u8 239, .int .u8 0, .int .u8 1, .int .u8 1, .int .u8 0, .int .u8 4, .int .u8 2, .int .u8 0, .int .u8 1, .int .u8 0, .int .u8 1, .int .u8 255, .int .u8 0, .int .u8 0, .int .u8 0, .int .u8 0, .int .u8 128, .int .u8 0, .int .u8 0, .int .u8 0] 5)) (.slice (some ⟨w.heap.size, 0, none⟩) 20 20) leastB ∧ Below w.heap.size w (w.alloc (.cells #[.int .u8 239, .int .u8 0, .int .u8 1, .int .u8 1, .int .u8 0, .int .u8 4, .int .u8 2, .int .u8 0, .int .u8 1, .int .u8 0, .int .u8 1, .int .u8 255, .int .u8 0, .int .u8 0, .int .u8 0, .int .u8 0, .int .u8 128, .int .u8 0, .int .u8 0, .int .u8 0] 5))) := ⟨(BL.new w leastB (by decide)).mono fun _ _ _ => trivial, below_alloc _ _⟩
  go_enter Try.func16, Try.ntmps16
  go_upto_region 2 with fail
  generalize hbw : w.heap.size = bw at M0 ⊢
  have GB : Hid (w.heap.size = bw) := hbw
  have GE : Hid (bw ≤ w.heap.size) := by unfold Hid; omega
  clear hbw
  generalize w.alloc _ = W1 at M0 ⊢
  have PA : Hid (∀ (W : World) (R : Nat → Prop) (v : Value), BL R W v leastB → Calls Try.prog 31 #[v, .bool false] W fun e w' => (∃ gt gc gs da dc, e = .returned (.tuple #[.agg #[.slice (some ⟨gt, 0, none⟩) 1 1, .slice (some ⟨gc, 0, none⟩) 1 1, .slice (some ⟨gs, 0, none⟩) 0 0, .slice da 0 dc, .int .i64 0], rejV 0 0]) ∧ CW (fun _ => True) w' (.agg #[.slice (some ⟨gt, 0, none⟩) 1 1, .slice (some ⟨gc, 0, none⟩) 1 1, .slice (some ⟨gs, 0, none⟩) 0 0, .slice da 0 dc, .int .i64 0]) leastC) ∧ Below W.heap.size W w') := fun W R v h => by
    refine (parse_is W v leastB false h least_byt (by decide)).mono ?_
    rintro e w' ⟨h1, h2⟩
    rw [least_prs] at h1
    obtain ⟨v9, e9, hco⟩ := h1
    obtain ⟨gt, gc, gs, da, dc, rfl, h9⟩ := co_least hco
    exact ⟨⟨gt, gc, gs, da, dc, e9, h9⟩, h2⟩
  have SZ : Hid (∀ (W : World) (R : Nat → Prop) (v : Value), CW R W v leastC → Calls Try.prog 35 #[v] W fun e w' => ∃ v', e = .returned (.tuple #[v', .int .i64 0]) ∧ BL (fun _ => True) w' v' leastB ∧ Below W.heap.size W w') := fun W R v h => by
    refine (serialize_is W v leastC h (by unfold Small; decide)).mono ?_
    rintro e w' ⟨v', e9, h1, h2⟩
    rw [least_chk] at e9
    rw [least_serR] at h1
    exact ⟨v', e9, SL.own h1 (by decide) fun _ _ => trivial, h2⟩
  unfold rejV at PA
  go_upto_region 3 with (first | (go_at_call 32; refine (own_is _ _ leastB M0.out.1 (by decide)).mono ?_; rintro e w2 ⟨v2, rfl, hO, hB⟩; (have M1 : Hid (BL (fun _ => True) w2 (.slice (some ⟨bw, 0, none⟩) 20 20) leastB ∧ Below bw w w2 ∧ BL (fun _ => True) w2 v2 leastB) := ⟨M0.out.1.past hB, M0.out.2.trans (hB.mono (Nat.le_trans GE.out M0.out.2.size)), SL.own hO (by decide) fun _ _ => trivial⟩); (clear hO hB)) | (go_at_call 31; refine (PA.out _ _ _ M1.out.2.2).mono ?_; rintro e w3 ⟨⟨gt, gc, gs, da, dc, rfl, hC⟩, hB⟩; (have M2 : Hid (BL (fun _ => True) w3 (.slice (some ⟨bw, 0, none⟩) 20 20) leastB ∧ Below bw w w3 ∧ CW (fun _ => True) w3 (.agg #[.slice (some ⟨gt, 0, none⟩) 1 1, .slice (some ⟨gc, 0, none⟩) 1 1, .slice (some ⟨gs, 0, none⟩) 0 0, .slice da 0 dc, .int .i64 0]) leastC) := ⟨M1.out.1.past hB, M1.out.2.1.trans (hB.mono (Nat.le_trans GE.out M1.out.2.1.size)), hC⟩); (clear hC hB)))
  have N2 : Hid (Below bw w ((w3.alloc (.cells #[.slice (some ⟨gt, 0, none⟩) 1 1, .slice (some ⟨gc, 0, none⟩) 1 1, .slice (some ⟨gs, 0, none⟩) 0 0, .slice da 0 dc, .int .i64 0] 28)).alloc (.cells #[.int .i64 0, .slice none 0 0, .int .i64 0, .int .i64 0] 47)) ∧ BL (fun _ => True) ((w3.alloc (.cells #[.slice (some ⟨gt, 0, none⟩) 1 1, .slice (some ⟨gc, 0, none⟩) 1 1, .slice (some ⟨gs, 0, none⟩) 0 0, .slice da 0 dc, .int .i64 0] 28)).alloc (.cells #[.int .i64 0, .slice none 0 0, .int .i64 0, .int .i64 0] 47)) (.slice (some ⟨bw, 0, none⟩) 20 20) leastB ∧ CBox ((w3.alloc (.cells #[.slice (some ⟨gt, 0, none⟩) 1 1, .slice (some ⟨gc, 0, none⟩) 1 1, .slice (some ⟨gs, 0, none⟩) 0 0, .slice da 0 dc, .int .i64 0] 28)).alloc (.cells #[.int .i64 0, .slice none 0 0, .int .i64 0, .int .i64 0] 47)) w3.heap.size 28 [.slice (some ⟨gt, 0, none⟩) 1 1, .slice (some ⟨gc, 0, none⟩) 1 1, .slice (some ⟨gs, 0, none⟩) 0 0, .slice da 0 dc, .int .i64 0] ∧ CBox ((w3.alloc (.cells #[.slice (some ⟨gt, 0, none⟩) 1 1, .slice (some ⟨gc, 0, none⟩) 1 1, .slice (some ⟨gs, 0, none⟩) 0 0, .slice da 0 dc, .int .i64 0] 28)).alloc (.cells #[.int .i64 0, .slice none 0 0, .int .i64 0, .int .i64 0] 47)) (w3.heap.size + 1) 47 rej0L ∧ CW (fun _ => True) ((w3.alloc (.cells #[.slice (some ⟨gt, 0, none⟩) 1 1, .slice (some ⟨gc, 0, none⟩) 1 1, .slice (some ⟨gs, 0, none⟩) 0 0, .slice da 0 dc, .int .i64 0] 28)).alloc (.cells #[.int .i64 0, .slice none 0 0, .int .i64 0, .int .i64 0] 47)) (.agg #[.slice (some ⟨gt, 0, none⟩) 1 1, .slice (some ⟨gc, 0, none⟩) 1 1, .slice (some ⟨gs, 0, none⟩) 0 0, .slice da 0 dc, .int .i64 0]) leastC) := by
    have b1 := below_alloc w3 (.cells #[.slice (some ⟨gt, 0, none⟩) 1 1, .slice (some ⟨gc, 0, none⟩) 1 1, .slice (some ⟨gs, 0, none⟩) 0 0, .slice da 0 dc, .int .i64 0] 28)
    have b2 := below_alloc (w3.alloc (.cells #[.slice (some ⟨gt, 0, none⟩) 1 1, .slice (some ⟨gc, 0, none⟩) 1 1, .slice (some ⟨gs, 0, none⟩) 0 0, .slice da 0 dc, .int .i64 0] 28)) (.cells #[.int .i64 0, .slice none 0 0, .int .i64 0, .int .i64 0] 47)
    have s1 : (w3.alloc (.cells #[.slice (some ⟨gt, 0, none⟩) 1 1, .slice (some ⟨gc, 0, none⟩) 1 1, .slice (some ⟨gs, 0, none⟩) 0 0, .slice da 0 dc, .int .i64 0] 28)).heap.size = w3.heap.size + 1 := by simp
    have c1 := CBox.new w3 28 [.slice (some ⟨gt, 0, none⟩) 1 1, .slice (some ⟨gc, 0, none⟩) 1 1, .slice (some ⟨gs, 0, none⟩) 0 0, .slice da 0 dc, .int .i64 0]
    have c2 := CBox.new (w3.alloc (.cells #[.slice (some ⟨gt, 0, none⟩) 1 1, .slice (some ⟨gc, 0, none⟩) 1 1, .slice (some ⟨gs, 0, none⟩) 0 0, .slice da 0 dc, .int .i64 0] 28)) 47 rej0L
    rw [s1] at c2
    have bb := b1.trans (b2.mono (by omega))
    exact ⟨M2.out.2.1.trans (bb.mono (Nat.le_trans GE.out M2.out.2.1.size)), M2.out.1.past bb, c1.past b2, c2, M2.out.2.2.past bb⟩
  clear M0 M1 M2 PA
  generalize w3.heap.size + 1 = b3 at N2 ⊢
  generalize w3.heap.size = b2 at N2 ⊢
  generalize (w3.alloc _).alloc _ = W2 at N2 ⊢
  refine wp_region_held_drew (S := fun V' => CBox V' b2 28 [.slice (some ⟨gt, 0, none⟩) 1 1, .slice (some ⟨gc, 0, none⟩) 1 1, .slice (some ⟨gs, 0, none⟩) 0 0, .slice da 0 dc, .int .i64 0] ∧ CBox V' b3 47 rej0L) (by kernel_rfl) ⟨N2.out.2.2.1.past below_drew, N2.out.2.2.2.1.past below_drew⟩ (fun hHeld => ?_)
  have B0 : Hid (Below bw w W2.drew ∧ BL (fun _ => True) W2.drew (.slice (some ⟨bw, 0, none⟩) 20 20) leastB ∧ CW (fun _ => True) W2.drew (.agg #[.slice (some ⟨gt, 0, none⟩) 1 1, .slice (some ⟨gc, 0, none⟩) 1 1, .slice (some ⟨gs, 0, none⟩) 0 0, .slice da 0 dc, .int .i64 0]) leastC) := ⟨N2.out.1.drew, N2.out.2.1.past below_drew, N2.out.2.2.2.2.past below_drew⟩
  clear N2
  generalize W2.drew = z0 at hHeld B0 ⊢
  refine wpAnyH_take (i := 0) (v := .pointer (some ⟨b3, 0, none⟩)) ov0 (by kernel_rfl) (by kernel_rfl) (by kernel_rfl) (fun _ _ _ h => h) (Or.inl ⟨by rfl, fun V' hS => ?_⟩) hHeld ?_
  · go_simp
  simp only [Act.put, List.setIfInBounds_toArray, List.set_cons_zero, List.set_cons_succ]
  refine wpAnyH_take (i := 1) (v := .int .i64 0) ov1 (by kernel_rfl) (by kernel_rfl) (by kernel_rfl) (fun _ _ _ h => h) (Or.inl ⟨by rfl, fun V' hS => ?_⟩) hHeld ?_
  · have c0 : V'.cell? ⟨b3, 0, none⟩ = some (.int .i64 0) := hS.2.cell 0
    go_simp
  simp only [Act.put, List.setIfInBounds_toArray, List.set_cons_zero, List.set_cons_succ]
  refine wpAnyH_take (i := 2) (v := .bool false) ov2 (by kernel_rfl) (by kernel_rfl) (by kernel_rfl) (fun _ _ _ h => h) (Or.inl ⟨by rfl, fun V' hS => ?_⟩) hHeld ?_
  · go_simp
  simp only [Act.put, List.setIfInBounds_toArray, List.set_cons_zero, List.set_cons_succ]
  refine wpAnyH_take (i := 3) (v := .bool false) ov3 (by kernel_rfl) (by kernel_rfl) (by kernel_rfl) (fun _ _ _ h => h) (Or.inl ⟨by rfl, fun V' hS => ?_⟩) hHeld ?_
  · go_simp
  simp only [Act.put, List.setIfInBounds_toArray, List.set_cons_zero, List.set_cons_succ]
  refine wpAnyH_take (i := 4) (v := .agg #[.slice (some ⟨gt, 0, none⟩) 1 1, .slice (some ⟨gc, 0, none⟩) 1 1, .slice (some ⟨gs, 0, none⟩) 0 0, .slice da 0 dc, .int .i64 0]) ov4 (by kernel_rfl) (by kernel_rfl) (by kernel_rfl) (fun _ _ _ h => h) (Or.inl ⟨by rfl, fun V' hS => ?_⟩) hHeld ?_
  · obtain ⟨hS1, _⟩ := hS; have c0 : V'.cell? ⟨b2, 0, none⟩ = some (.slice (some ⟨gt, 0, none⟩) 1 1) := hS1.cell 0; have c1 : V'.cell? ⟨b2, 1, none⟩ = some (.slice (some ⟨gc, 0, none⟩) 1 1) := hS1.cell 1; have c2 : V'.cell? ⟨b2, 2, none⟩ = some (.slice (some ⟨gs, 0, none⟩) 0 0) := hS1.cell 2; have c3 : V'.cell? ⟨b2, 3, none⟩ = some (.slice da 0 dc) := hS1.cell 3; have c4 : V'.cell? ⟨b2, 4, none⟩ = some (.int .i64 0) := hS1.cell 4
    go_simp
  simp only [Act.put, List.setIfInBounds_toArray, List.set_cons_zero, List.set_cons_succ]
  refine wpAnyH_ready (rs := [5]) (by kernel_rfl) (by simp) ?_
  refine AllReadyH.cons ov5 (fun K hK => ?_) AllReadyH.nil
  rw [if_pos (by rfl)]
  go_simp
  refine (least_is z0).mono ?_
  rintro e z1 ⟨vl, rfl, hL, hB1⟩
  have H1 := And.intro (hHeld.1.past hB1) (hHeld.2.past hB1)
  have B1 : Hid (Below bw w z1 ∧ BL (fun _ => True) z1 (.slice (some ⟨bw, 0, none⟩) 20 20) leastB ∧ CW (fun _ => True) z1 (.agg #[.slice (some ⟨gt, 0, none⟩) 1 1, .slice (some ⟨gc, 0, none⟩) 1 1, .slice (some ⟨gs, 0, none⟩) 0 0, .slice da 0 dc, .int .i64 0]) leastC ∧ CW (fun g => z0.heap.size ≤ g) z1 vl leastC) := ⟨B0.out.1.trans (hB1.mono (Nat.le_trans GE.out B0.out.1.size)), B0.out.2.1.past hB1, B0.out.2.2.past hB1, hL⟩
  clear hL hB1
  (try go_wp2_with fail)
  refine hK.out _ _ H1 (fun _ => ?_)
  clear hK K
  (try simp only [Act.put, List.setIfInBounds_toArray, List.set_cons_zero, List.set_cons_succ])
  refine wpAnyH_ready (rs := [6]) (by kernel_rfl) (by simp) ?_
  refine AllReadyH.cons ov6 (fun K hK => ?_) AllReadyH.nil
  rw [if_pos (by rfl)]
  go_simp
  refine (same_is z1 _ _ leastC B1.out.2.2.1 B1.out.2.2.2).mono ?_
  rintro e z2 ⟨rfl, hB2⟩
  have H2 := And.intro (H1.1.past hB2) (H1.2.past hB2)
  have B2 : Hid (Below bw w z2 ∧ BL (fun _ => True) z2 (.slice (some ⟨bw, 0, none⟩) 20 20) leastB) := ⟨B1.out.1.trans (hB2.mono (Nat.le_trans GE.out B1.out.1.size)), B1.out.2.1.past hB2⟩
  clear hB2
  (try go_wp2_with fail)
  refine hK.out _ _ H2 (fun _ => ?_)
  clear hK K
  (try simp only [Act.put, List.setIfInBounds_toArray, List.set_cons_zero, List.set_cons_succ])
  refine wpAnyH_take (i := 7) (v := .bool false) ov7 (by kernel_rfl) (by kernel_rfl) (by kernel_rfl) (fun _ _ _ h => h) (Or.inl ⟨by rfl, fun V' hS => ?_⟩) H2 ?_
  · go_simp
  simp only [Act.put, List.setIfInBounds_toArray, List.set_cons_zero, List.set_cons_succ]
  refine wpAnyH_take (i := 8) (v := .bool false) ov8 (by kernel_rfl) (by kernel_rfl) (by kernel_rfl) (fun _ _ _ h => h) (Or.inl ⟨by rfl, fun V' hS => ?_⟩) H2 ?_
  · go_simp
  simp only [Act.put, List.setIfInBounds_toArray, List.set_cons_zero, List.set_cons_succ]
  refine wpAnyH_done (by kernel_rfl) ?_ _
  clear hHeld H1 H2 B0 B1
  go_upto_region 6 with (first | (go_at_call 30; refine (least_is _).mono ?_; rintro e w6 ⟨v6, rfl, hL, hB⟩; (have M6 : Hid (Below bw w w6 ∧ BL (fun _ => True) w6 (.slice (some ⟨bw, 0, none⟩) 20 20) leastB ∧ CW _ w6 v6 leastC) := ⟨B2.out.1.trans (hB.mono (Nat.le_trans GE.out B2.out.1.size)), B2.out.2.past hB, hL⟩); (clear hL hB)) | (go_at_call 35; refine (SZ.out _ _ _ M6.out.2.2).mono ?_; rintro e w7 ⟨v7, rfl, hS, hB⟩; (have M7 : Hid (Below bw w w7 ∧ BL (fun _ => True) w7 (.slice (some ⟨bw, 0, none⟩) 20 20) leastB ∧ BL (fun _ => True) w7 v7 leastB) := ⟨M6.out.1.trans (hB.mono (Nat.le_trans GE.out M6.out.1.size)), M6.out.2.1.past hB, hS⟩); (clear hS hB)))
  go_wp2_with (go_at_call 37; refine (sameB_is _ _ _ leastB M7.out.2.2 M7.out.2.1).mono ?_; rintro e w8 ⟨rfl, hB⟩)
  go_ret
  exact ⟨rfl, by rw [GB.out]; exact M7.out.1.trans (hB.mono (Nat.le_trans GE.out M7.out.1.size))⟩
end Go.Proofs.Ytndhabhlajldeaa
/- The laws' lent: bytes with marks in the room behind them. -/
namespace Go.Proofs.Ytndhabhlajldeaa
open Go.RowKit
end Go.Proofs.Ytndhabhlajldeaa
/- The laws' kept: are the marks there? -/
namespace Go.Proofs.Ytndhabhlajldeaa
open Go.RowKit
end Go.Proofs.Ytndhabhlajldeaa
/- What both Parses answer, in one form; bytes of one's own that are written over. -/
namespace Go.Proofs.Ytndhabhlajldeaa
open Go.RowKit
/-- the container that is told, the refusal that is told -/
def conOf : Except Er Con → Con
  | .ok c => c
  | .error _ => con0
def rjOf : Except Er Con → Int × Int
  | .ok _ => (0, 0)
  | .error (c, a) => (c, a)
theorem prs_fits {b : List Nat} (hb : Byt b) {opn : Bool} {c : Con} (g : prs b opn = .ok c) : c.ts.length ≤ 1024 ∧ c.cs.length ≤ 1024 ∧ c.ss.length ≤ 256 ∧ c.d.length ≤ 65535 ∧ (∀ x ∈ c.cs, x.length ≤ 65535) ∧ ∀ x ∈ c.ss, x.length ≤ 4294967295 := by
  have M := (prs_ok hb g).1
  have h1 := M.z1
  have h2 := M.z2
  exact ⟨by rw [M.nt]; exact M.n2, M.n2, M.ns, by omega, fun x hx => (chkP_ok _ _ M.pc x hx).2, fun x hx => (chkP_ok _ _ M.ps x hx).2⟩
theorem cw_form {P : Nat → Prop} {W : World} {v : Value} {c : Con} (h : CW P W v c) : ∃ ta tc ca cc sa sc da dc, v = .agg #[.slice ta c.ts.length tc, .slice ca c.cs.length cc, .slice sa c.ss.length sc, .slice da c.d.length dc, .int .i64 c.n] := by
  obtain ⟨tv, cv, sv, dv, rfl, h1, h2, h3, h4⟩ := h
  obtain ⟨ta, tc, rfl, _⟩ := h1.len
  obtain ⟨ca, cc, rfl, _⟩ := h2.len
  obtain ⟨sa, sc, rfl, _⟩ := h3.len
  obtain ⟨da, dc, rfl, _⟩ := h4.len
  exact ⟨ta, tc, ca, cc, sa, sc, da, dc, rfl⟩
/-- an answer, in one form -/
def Ans (B : Nat) (c : Con) (x y : Int) (e : Ending) (w' : World) : Prop := ∃ ta tc ca cc sa sc da dc, e = .returned (.tuple #[.agg #[.slice ta c.ts.length tc, .slice ca c.cs.length cc, .slice sa c.ss.length sc, .slice da c.d.length dc, .int .i64 c.n], .agg #[.int .i64 x, .slice none 0 0, .int .i64 0, .int .i64 y]]) ∧ CW (fun g => B ≤ g) w' (.agg #[.slice ta c.ts.length tc, .slice ca c.cs.length cc, .slice sa c.ss.length sc, .slice da c.d.length dc, .int .i64 c.n]) c
theorem PrD.ans {B : Nat} {r : Except Er Con} {e : Ending} {w' : World} (h : PrD B r e w') : Ans B (conOf r) (rjOf r).1 (rjOf r).2 e w' := by
  cases r with
  | ok c =>
    obtain ⟨v, e9, hw⟩ := h
    obtain ⟨ta, tc, ca, cc, sa, sc, da, dc, rfl⟩ := cw_form hw
    exact ⟨ta, tc, ca, cc, sa, sc, da, dc, e9, hw⟩
  | error er =>
    obtain ⟨ec, ea⟩ := er
    exact ⟨none, 0, none, 0, none, 0, none, 0, h, CW.zero _ _⟩
theorem PrA.ans {B : Nat} {b : List Nat} (hb : Byt b) {opn : Bool} {e : Ending} {w' : World} (h : PrA B (prs b opn) e w') : Ans B (conOf (prs b opn)) (rjOf (prs b opn)).1 (rjOf (prs b opn)).2 e w' := by
  refine PrD.ans ?_
  cases hr : prs b opn with
  | ok c =>
    rw [hr] at h
    obtain ⟨v, e9, hco⟩ := h
    obtain ⟨f1, f2, f3, f4, f5, f6⟩ := prs_fits hb hr
    exact ⟨v, e9, hco.cw (by omega) (by omega) (by omega) (by omega) (fun x hx => Nat.le_trans (f5 x hx) (by omega)) (fun x hx => Nat.le_trans (f6 x hx) (by omega))⟩
  | error er =>
    rw [hr] at h
    obtain ⟨ec, ea⟩ := er
    exact h
theorem rparse_ans {P : Nat → Prop} (w : World) (v : Value) (b : List Nat) (opn : Bool) (h : BL P w v b) (hb : Byt b) (hl : b.length ≤ 16777216) :
    Calls Try.prog 33 #[v, .bool opn] w fun e w' => Ans w.heap.size (conOf (prs b opn)) (rjOf (prs b opn)).1 (rjOf (prs b opn)).2 e w' ∧ Below w.heap.size w w' :=
  (rparse_is w v b opn h hb hl).mono fun _ _ q => ⟨q.1.ans, q.2⟩
theorem slice_j (g n cap j : Nat) (hj : j ≤ cap) (W : World) : Sem.run Try.prog (Instr.slice 22 (.slice (some ⟨g, 0, none⟩) n cap) none (some (.int .i64 (j : Int))) none) W = .ok (.slice (some ⟨g, 0, none⟩) j cap) W := by
  simp [Instr.slice, Instr.sliceBounds, run_underlying Try.underlying22, run_sliceBound W .i64 (j : Int) cap _ (by omega) (by omega), Addr.add_mid]
end Go.Proofs.Ytndhabhlajldeaa
/- The laws' twin: a container with lists of its own. -/
namespace Go.Proofs.Ytndhabhlajldeaa
open Go.RowKit
theorem tV_one (l : List Ty) : ∀ u ∈ tV l, u.oneCell' = true := fun u hu => by
  obtain ⟨p, _, hp⟩ := List.mem_flatMap.1 hu
  simp at hp
  rcases hp with rfl | rfl | rfl <;> rfl
/-- append(v, u...) of types -/
theorem wp_appTs {P : Nat → Prop} {w : World} {o : Oper} {a : Act} {K : Act → World → Prop} {Q : Exit → Act → World → Prop} (s x : Operand)
    (ho : o.op = .call { callee := .builtin .append, args := #[s, x], argTypes := #[25, 25] }) (B : Nat) (hB : B ≤ w.heap.size) (v : Value) (l : List Ty) (hs : a.eval s = v) (hown : w.ownsRow B 77 3 v l.length (tV l))
    (u : Value) (m : List Ty) (hx : a.eval x = u) (hu : TL P w u m) (hn : l.length + m.length ≤ 2199023255552)
    (h : ∀ v' w', App B 77 3 w w' v v' (l ++ m).length (tV (l ++ m)) → K (a.put o.dst v') w') : o.wp Try.prog a w K Q := by
  obtain ⟨ad, cap, rfl⟩ := owns_sl hown
  obtain ⟨_, ad2, cap2, rfl, h0, h1, hz, h2⟩ := hu
  cases ad2 with
  | none =>
    have e0 : cap2 = 0 := hz rfl
    have e1 : m.length = 0 := by omega
    obtain rfl := List.eq_nil_of_length_eq_zero e1
    subst e0
    have hrun := run_append_owned_none (P := Try.prog) (w := w) B 25 o.type 77 (info_parts Try.infoT).choose 3 Try.underlying25 (info_parts Try.infoT).choose_spec.1 _ _ _ hown
    unfold Oper.wp
    simp [execOp, ho, resolve, invoke, builtin, hs, hx, hrun, Result.andThen]
    refine h _ _ ?_
    rw [List.append_nil]
    exact App.refl hown
  | some a2 =>
    refine wp_apps s x 25 77 ho (.agg #[.int .i64 0, .int .i64 0, .int .i64 0]) 3 24 Try.underlying25 Try.infoT rfl (by omega) (by omega) B hB ad l.length cap (tV l) hs hown a2 m.length cap2 (tV m) hx (tV_len m) (fun j c hj => ?_) (tV_one m) hn (fun ad' cap' w' q1 q2 q3 => h _ _ ⟨?_, ?_, fun k hk => ?_⟩)
    · have hm : 0 < m.length := by have := (List.getElem?_eq_some_iff.1 hj).1; rw [tV_len] at this; omega
      obtain ⟨g, b, e, _, _, h3⟩ := h2 hm
      injection e with e
      subst e
      rw [Addr.add_mid]
      exact h3 j c hj
    · rw [List.length_append, tV_app]; exact q1
    · exact q2.mono fun k hk => own_iff.1 hk
    · rcases q3.own (own_iff.2 hk) with e | e
      · exact Or.inl (own_iff.1 e)
      · exact Or.inr e
/-- a container in lists of its own, those of sections and of nested containers in unlike blocks -/
def DO (B : Nat) (W : World) (v : Value) (c : Con) : Prop := ∃ ta tc ca cc sa sc da dc, v = .agg #[.slice ta c.ts.length tc, .slice ca c.cs.length cc, .slice sa c.ss.length sc, .slice da c.d.length dc, .int .i64 c.n] ∧ W.ownsRow B 77 3 (.slice ta c.ts.length tc) c.ts.length (tV c.ts) ∧ PO B W (.slice ca c.cs.length cc) c.cs ∧ PO B W (.slice sa c.ss.length sc) c.ss ∧ W.ownsRow B 5 1 (.slice da c.d.length dc) c.d.length (bV c.d) ∧ ∀ g, OwnV (.slice sa c.ss.length sc) g → ¬ OwnV (.slice ca c.cs.length cc) g
theorem flat_each {ll : List (List Nat)} {n : Nat} (h : ll.flatten.length ≤ n) : ∀ x ∈ ll, x.length ≤ n := fun _ hx => Nat.le_trans (List.sublist_flatten_of_mem hx).length_le h
theorem DO.cw {B : Nat} {W : World} {v : Value} {c : Con} (h : DO B W v c) (hs : Small c) : CW (fun g => B ≤ g) W v c := by
  obtain ⟨ta, tc, ca, cc, sa, sc, da, dc, rfl, k1, k2, k3, k4, _⟩ := h
  unfold Small at hs
  exact ⟨_, _, _, _, rfl, SL.own k1 (by omega) fun g hg => (k1.lt g hg).1, k2.pl (by omega) (flat_each (by omega)), k3.pl (by omega) (flat_each (by omega)), SL.own k4 (by omega) fun g hg => (k4.lt g hg).1⟩
theorem DO.past {B : Nat} {W W' : World} {v : Value} {c : Con} (h : DO B W v c) (k : Below W.heap.size W W') : DO B W' v c := by
  obtain ⟨ta, tc, ca, cc, sa, sc, da, dc, e, k1, k2, k3, k4, k5⟩ := h
  exact ⟨ta, tc, ca, cc, sa, sc, da, dc, e, owns_past k1 k, k2.past k, k3.past k, owns_past k4 k, k5⟩
theorem PO.lt {B : Nat} {W : World} {v : Value} {ll : List (List Nat)} (h : PO B W v ll) : ∀ g, OwnV v g → B ≤ g ∧ g < W.heap.size := by
  obtain ⟨us, _, h2, _⟩ := h
  exact fun g hg => h2.lt g hg
theorem row_alienT {B q n : Nat} {W W' : World} {v : Value} {cs : List Value} (h : W.ownsRow B 77 3 v n cs) (k : But (fun y => y = q) W W') (a : Alien W q) : W'.ownsRow B 77 3 v n cs := owns_row_blockB h fun g hg => k.block g (h.lt g hg).2 fun e => by
  obtain ⟨t, m, c, n1, _, _⟩ := a
  exact own_box h c (Ne.symm n1) hg e
theorem PO.alien {B q : Nat} {W W' : World} {v : Value} {ll : List (List Nat)} (h : PO B W v ll) (k : But (fun y => y = q) W W') (a : Alien W q) : PO B W' v ll := by
  obtain ⟨us, h1, h2, h3⟩ := h
  obtain ⟨t, m, c, _, n2, n3⟩ := a
  exact ⟨us, h1, owns_row_blockB h2 fun g hg => k.block g (h2.lt g hg).2 fun e => own_box h2 c (Ne.symm n2) hg e, h3.butT k c n3⟩
/-- the lists of a container -/
structure SrC (P : Nat → Prop) (W : World) (tv cv sv dv : Value) (c : Con) : Prop where
  t : TL P W tv c.ts
  p : PL P W cv c.cs
  s : PL P W sv c.ss
  d : BL P W dv c.d
theorem SrC.past {P : Nat → Prop} {W W' : World} {tv cv sv dv : Value} {c : Con} (h : SrC P W tv cv sv dv c) (k : Below W.heap.size W W') : SrC P W' tv cv sv dv c := ⟨h.t.past k, h.p.past k, h.s.past k, h.d.past k⟩
end Go.Proofs.Ytndhabhlajldeaa
/- slices.Clone of types, package container's copies, slices.Grow and slices.Concat of bytes. -/
namespace Go.Proofs.Ytndhabhlajldeaa
open Go.RowKit
theorem nilT (W : World) : Sem.run Try.prog (binOp BinOp.eql 25 (.slice none 0 0) (.slice none 0 0)) W = .ok (.bool true) W := by kernel_rfl
theorem notNilT (W : World) (a : Addr) (n c : Nat) : Sem.run Try.prog (binOp BinOp.eql 25 (.slice (some a) n c) (.slice none 0 0)) W = .ok (.bool false) W := by kernel_rfl
theorem owns_emptyT (w : World) : (w.alloc (.cells #[] 77)).ownsRow w.heap.size 77 3 (.slice (some ⟨w.heap.size, 0, none⟩) 0 0) ([] : List Ty).length (tV []) :=
  ⟨rfl, Or.inr ⟨w.heap.size, 0, #[], rfl, Nat.le_refl _, heap_alloc_new w _, by simp, by simp, by simp, by simp [tV]⟩⟩
theorem wpList_appTs {P : Nat → Prop} {w : World} {ops : Array Oper} {rest : List Oper} {o : Oper} {a : Act} {Q : Exit → Act → World → Prop} (hgd : o.guard = none) (s x : Operand)
    (ho : o.op = .call { callee := .builtin .append, args := #[s, x], argTypes := #[25, 25] }) (B : Nat) (hB : B ≤ w.heap.size) (v : Value) (l : List Ty) (hs : a.eval s = v) (hown : w.ownsRow B 77 3 v l.length (tV l))
    (u : Value) (m : List Ty) (hx : a.eval x = u) (hu : TL P w u m) (hn : l.length + m.length ≤ 2199023255552)
    (h : ∀ v' w', App B 77 3 w w' v v' (l ++ m).length (tV (l ++ m)) → wpList Try.prog ops Q rest (a.put o.dst v') w') : wpList Try.prog ops Q (o :: rest) a w :=
  wpList_plain hgd fun _ hK => wp_appTs s x ho B hB v l hs hown u m hx hu hn fun v' w' q => hK _ _ (h v' w' q)
set_option maxHeartbeats 8000000 in
set_option maxRecDepth 100000 in
theorem cloneT_is {P : Nat → Prop} (w : World) (v : Value) (l : List Ty) (h : TL P w v l) (hl : l.length ≤ 16777216) : Calls Try.prog 60 #[v] w fun e w' => ∃ v', e = .returned v' ∧ w'.ownsRow w.heap.size 77 3 v' l.length (tV l) ∧ Below w.heap.size w w' := by
  obtain ⟨_, ad, cap, rfl, h0, h1, hz, h2⟩ := id h
  cases ad with
  | none =>
    have e0 : cap = 0 := hz rfl
    have e1 : l.length = 0 := by omega
    obtain rfl := List.eq_nil_of_length_eq_zero e1
    subst e0
    clear h h0 h1 h2 hz e1 hl
    have hnil := nilT w
    go_enter Try.func60, Try.ntmps60
    go_wp2
    go_ret
    exact ⟨_, rfl, World.ownsRow_nil _ _ _ _, Below.refl _ _⟩
  | some a =>
    have HB : Hid (TL P (w.alloc (.cells #[] 77)) (.slice (some a) l.length cap) l) := h.past (below_alloc _ _)
    have HO : Hid ((w.alloc (.cells #[] 77)).ownsRow w.heap.size 77 3 (.slice (some ⟨w.heap.size, 0, none⟩) 0 0) ([] : List Ty).length (tV [])) := owns_emptyT w
    have HP : Hid (Below w.heap.size w (w.alloc (.cells #[] 77))) := below_alloc _ _
    generalize hn : l.length = n at *
    have HN : Hid (l.length = n) := hn
    have HL2 : Hid (([] : List Ty).length + l.length ≤ 2199023255552) := by unfold Hid; rw [hn]; simp only [List.length_nil]; omega
    clear h h0 h1 h2 hz hn hl
    have hnil := notNilT w a n cap
    go_enter Try.func60, Try.ntmps60
    go_wp2_with (at_builtin; refine wpList_appTs rfl _ _ rfl w.heap.size HP.out.size (.slice (some ⟨w.heap.size, 0, none⟩) 0 0) [] rfl HO.out (.slice (some a) n cap) l rfl HB.out HL2.out ?_; intro v' w' hA)
    go_ret
    exact ⟨_, rfl, by have := hA.row; rw [List.nil_append, HN.out] at this; exact this, HP.out.trans (hA.below HO.out HP.out.size)⟩
theorem append_new (W : World) (k : Nat) (hk : 0 < k) (hkk : k ≤ 67108864) (ty : TypeId) : ∃ C W1, (Builtin.append_ #[22, 3] ty #[.slice none 0 0, .int .i64 (k : Int)]).run Try.prog W = .ok (.slice (some ⟨W.heap.size, 0, none⟩) k C) W1 ∧ W1.ownsRow W.heap.size 5 1 (.slice (some ⟨W.heap.size, 0, none⟩) 0 C) 0 [] ∧ Below W.heap.size W W1 := by
  obtain ⟨i0, hi, hz0, hz1, hz2⟩ := info_parts Try.info8
  have hle := Go.nextslicecap_le (need := 0 + k) (old := 0) (by omega)
  have hfc : (Builtin.firstCells i0.size 0 (.slice none 0 0)).run Try.prog W.drew = .ok ([] : List Value).toArray W.drew := by simp [Builtin.firstCells]
  have hr := Lib.run_append_grow_zeros (P := Try.prog) W 22 3 ty 5 i0 (.int .u8 0) .i64 .i64 Try.underlying22 Try.underlying3 hi hz0 none 0 0 [] hfc k hk (by omega) (by omega) (by omega) (by rw [hz2]; omega) (by rw [hz2]; omega)
  rw [Nat.zero_add] at hr
  refine ⟨_, _, hr, ⟨by simp, Or.inr ⟨W.heap.size, _, _, rfl, Nat.le_refl _, heap_alloc_new W.drew _, Nat.zero_le _, grownCap_le_maxLen _ _ _ _ (by unfold maxLen; omega), ?_, by simp⟩⟩, (Below.refl _ _).drew.alloc (Nat.le_refl _) _⟩
  have hge := grownCap_ge W k 0 5
  simp [Builtin.zeroCells, Value.cells]
  omega
theorem wpList_appN {w W1 : World} {ops : Array Oper} {rest : List Oper} {o : Oper} {a : Act} {Q : Exit → Act → World → Prop} {v : Value} (hgd : o.guard = none) (s x : Operand)
    (ho : o.op = .call { callee := .builtin .append, args := #[s, x], argTypes := #[22, 3] }) (hs : a.eval s = .slice none 0 0) (n : Nat) (hx : a.eval x = .int .i64 (n : Int))
    (hrun : ∀ ty, (Builtin.append_ #[22, 3] ty #[.slice none 0 0, .int .i64 (n : Int)]).run Try.prog w = .ok v W1) (h : wpList Try.prog ops Q rest (a.put o.dst v) W1) : wpList Try.prog ops Q (o :: rest) a w :=
  wpList_plain hgd fun _ hK => by
    unfold Oper.wp
    simp [execOp, ho, resolve, invoke, builtin, hs, hx, hrun, Result.andThen]
    exact hK _ _ h
set_option maxHeartbeats 8000000 in
set_option maxRecDepth 100000 in
theorem grow_is (w : World) (n : Nat) (hn : n ≤ 67108864) : Calls Try.prog 89 #[.slice none 0 0, .int .i64 (n : Int)] w fun e w' => ∃ v', e = .returned v' ∧ w'.ownsRow w.heap.size 5 1 v' ([] : List Nat).length (bV []) ∧ Below w.heap.size w w' := by
  have q1 : ¬ (n : Int) < 0 := by omega
  have w1 : IntKind.i64.wrap (n : Int) = (n : Int) := by rw [IntKind.wrap_i64]; omega
  by_cases e : n = 0
  · subst e
    clear q1 w1 hn
    go_enter Try.func89, Try.ntmps89
    go_wp2
    go_ret
    exact ⟨_, rfl, World.ownsRow_nil _ _ _ _, Below.refl _ _⟩
  · have q2 : (0 : Int) < (n : Int) := by omega
    have hap0 := append_new w n (by omega) hn
    have hs0 : ∀ W, Sem.run Try.prog (Instr.slice 22 (.slice none 0 0) none (some (.int .i64 0)) none) W = .ok (.slice none 0 0) W := fun W => by kernel_rfl
    obtain ⟨C, W1, hap, hO, hB⟩ : ∃ C W1, (∀ ty, (Builtin.append_ #[22, 3] ty #[.slice none 0 0, .int .i64 (n : Int)]).run Try.prog w = .ok (.slice (some ⟨w.heap.size, 0, none⟩) n C) W1) ∧ W1.ownsRow w.heap.size 5 1 (.slice (some ⟨w.heap.size, 0, none⟩) 0 C) 0 [] ∧ Below w.heap.size w W1 := by
      obtain ⟨C, W1, h1, h2, h3⟩ := hap0 22
      refine ⟨C, W1, fun ty => ?_, h2, h3⟩
      exact h1
    have HO : Hid (W1.ownsRow w.heap.size 5 1 (.slice (some ⟨w.heap.size, 0, none⟩) 0 C) 0 [] ∧ Below w.heap.size w W1) := ⟨hO, hB⟩
    clear hap0 hO hB e hn
    generalize hg : w.heap.size = g at hap HO
    have GB : Hid (w.heap.size = g) := hg
    have hs1 : Sem.run Try.prog (Instr.slice 22 (.slice (some ⟨g, 0, none⟩) n C) none (some (.int .i64 0)) none) W1 = .ok (.slice (some ⟨g, 0, none⟩) 0 C) W1 := slice_j g n C 0 (Nat.zero_le _) W1
    clear hg
    go_enter Try.func89, Try.ntmps89
    go_wp2_with (at_builtin; refine wpList_appN rfl _ _ rfl rfl n rfl hap ?_)
    go_ret
    exact ⟨_, rfl, by first | exact HO.out.1 | (rw [GB.out]; exact HO.out.1), by first | exact HO.out.2 | (rw [GB.out]; exact HO.out.2)⟩
set_option maxHeartbeats 8000000 in
set_option maxRecDepth 100000 in
theorem concat_is {P : Nat → Prop} (w : World) (v : Value) (ll : List (List Nat)) (h : PL P w v ll) (hl : ll.length ≤ 1000) (hs : ll.flatten.length ≤ 67108864) : Calls Try.prog 62 #[v] w fun e w' => ∃ v', e = .returned v' ∧ w'.ownsRow w.heap.size 5 1 v' ll.flatten.length (bV ll.flatten) ∧ Below w.heap.size w w' := by
  obtain ⟨ad, cap, rfl, _, _⟩ := h.len
  have HPL : Hid (∀ W, Below w.heap.size w W → PL P W (.slice ad ll.length cap) ll) := fun W hW => h.past hW
  have nI : (ll.length : Int) ≤ 1000 := by omega
  have HS : Hid (ll.flatten.length ≤ 67108864) := hs
  generalize hN : ll.length = n at *
  have HN : Hid (ll.length = n) := hN
  clear h hl hs hN
  generalize hbw : w.heap.size = bw at *
  have GB : Hid (w.heap.size = bw) := hbw
  have GE : Hid (bw ≤ w.heap.size) := by unfold Hid; omega
  clear hbw
  obtain ⟨fl, hfl⟩ : ∃ fl, fl = ll.flatten := ⟨_, rfl⟩
  rw [← hfl]
  have HFL : Hid (fl = ll.flatten) := hfl
  clear hfl
  go_enter Try.func62, Try.ntmps62
  go_wp2
  go_loopw [3, 11] (fun s3 s11 wr => ∃ k : Nat, s11 = .int .i64 (k : Int) ∧ k ≤ n ∧ s3 = .int .i64 ((ll.take k).flatten.length : Int) ∧ wr = w) (fun _ s11 _ => n - (intOf s11).toNat)
  case atStart => exact ⟨0, rfl, by omega, by simp, rfl⟩
  case round =>
    obtain ⟨k, rfl, hk, rfl, hw⟩ := hrel
    have hw2 := hw.symm
    clear hw
    subst hw2
    by_cases e : k = n
    rotate_left
    · have kn : (k : Int) < (n : Int) := by omega
      obtain ⟨x, hx⟩ : ∃ x, ll[k]? = some x := ⟨ll[k]'(by have := HN.out; omega), List.getElem?_eq_getElem _⟩
      obtain ⟨g, a, u, eg, hcell, hb⟩ := (HPL.out w (by rw [← GB.out]; exact Below.refl _ _)).get hx
      subst eg
      obtain ⟨xa, xc, rfl, _, _⟩ := hb.len
      have h1 := flatten_snoc hx
      have h2 := flatten_le ll (k + 1)
      have h3 := HS.out
      obtain ⟨s1, hs1⟩ : ∃ s1, s1 = (ll.take (k + 1)).flatten.length := ⟨_, rfl⟩
      obtain ⟨s0, hs0⟩ : ∃ s0, s0 = (ll.take k).flatten.length := ⟨_, rfl⟩
      have HR : Hid (s1 = (ll.take (k + 1)).flatten.length) := hs1
      have h4 : s1 = s0 + x.length := by rw [hs1, h1, List.length_append, hs0]
      rw [← hs0]
      have r1 : (s0 : Int) + (x.length : Int) = (s1 : Int) := by omega
      have r2 : IntKind.i64.wrap (s1 : Int) = (s1 : Int) := by rw [IntKind.wrap_i64]; omega
      have r3 : ¬ (s1 : Int) < 0 := by omega
      have HK : Hid (k < n) := by unfold Hid; omega
      clear hb h1 h2 h3 hs1 hs0 h4 hx e hk
      go_wp2
      go_roundw
      case rel => exact ⟨k + 1, by first | rfl | go_num, by have := HK.out; omega, by rw [← HR.out], by first | rfl | trivial⟩
      case measure => simp [intOf]; omega
    · have q1 : ¬ (k : Int) < (n : Int) := by omega
      obtain ⟨sz, hsz⟩ : ∃ sz, sz = (ll.take k).flatten.length := ⟨_, rfl⟩
      rw [← hsz]
      have hb : sz ≤ 67108864 := by have := flatten_le ll k; have := HS.out; omega
      have GR : Hid (Calls Try.prog 89 #[.slice none 0 0, .int .i64 (sz : Int)] w fun e w' => ∃ v', e = .returned v' ∧ w'.ownsRow w.heap.size 5 1 v' ([] : List Nat).length (bV []) ∧ Below w.heap.size w w') := grow_is w sz hb
      clear hsz hb e hk
      go_upto_region 10 with (go_at_call 89; refine GR.out.mono ?_; rintro e w1 ⟨v1, rfl, hO, hB⟩; (have M : Hid (w1.ownsRow bw 5 1 v1 ([] : List Nat).length (bV []) ∧ Below bw w w1) := ⟨by rw [← GB.out]; exact hO, by rw [← GB.out]; exact hB⟩); (clear hO hB))
      clear GR q1
      go_wp2
      go_loopw [6, 27] (fun s6 s27 wr => ∃ k : Nat, s27 = .int .i64 (k : Int) ∧ k ≤ n ∧ wr.ownsRow bw 5 1 s6 (ll.take k).flatten.length (bV (ll.take k).flatten) ∧ Below bw w wr) (fun _ s27 _ => n - (intOf s27).toNat)
      case atStart => exact ⟨0, rfl, by omega, by simpa using M.out.1, M.out.2⟩
      case round =>
        obtain ⟨j, rfl, hj, hO, hB⟩ := hrel
        clear M
        have M : Hid (wr.ownsRow bw 5 1 u6 (ll.take j).flatten.length (bV (ll.take j).flatten) ∧ Below bw w wr) := ⟨hO, hB⟩
        clear hO hB
        by_cases e : j = n
        rotate_left
        · have kn : (j : Int) < (n : Int) := by omega
          obtain ⟨x, hx⟩ : ∃ x, ll[j]? = some x := ⟨ll[j]'(by have := HN.out; omega), List.getElem?_eq_getElem _⟩
          obtain ⟨g, a, u, eg, hcell, hb⟩ := (HPL.out wr M.out.2).get hx
          subst eg
          obtain ⟨xa, xc, rfl, _, _⟩ := hb.len
          have HB : Hid (BL P wr (.slice xa x.length xc) x) := hb
          have HX : Hid (ll[j]? = some x) := hx
          have HK : Hid (j < n) := by unfold Hid; omega
          have HL2 : Hid ((ll.take j).flatten.length + x.length ≤ 2199023255552) := by
            have h1 := flatten_snoc hx
            have h2 := flatten_le ll (j + 1)
            have h3 := HS.out
            rw [h1, List.length_append] at h2
            unfold Hid
            omega
          have HBW : Hid (bw ≤ wr.heap.size) := Nat.le_trans GE.out M.out.2.size
          clear hb hx e hj
          go_upto_region 14 with (at_builtin; refine wpList_appB rfl _ _ rfl bw HBW.out u6 (ll.take j).flatten rfl M.out.1 (.slice xa x.length xc) x rfl HB.out HL2.out ?_; intro v7 w7 hA)
          have HR : Hid (w7.ownsRow bw 5 1 v7 (ll.take (j + 1)).flatten.length (bV (ll.take (j + 1)).flatten) ∧ Below bw w w7) := by rw [flatten_snoc HX.out]; exact ⟨hA.row, M.out.2.trans (hA.below M.out.1 HBW.out)⟩
          clear hA M HB HX HL2 HBW hcell
          go_wp2
          go_roundw
          case rel => exact ⟨j + 1, by first | rfl | go_num, by have := HK.out; omega, HR.out.1, HR.out.2⟩
          case measure => simp [intOf]; omega
        · have q1 : ¬ (j : Int) < (n : Int) := by omega
          have HF : Hid (wr.ownsRow bw 5 1 u6 fl.length (bV fl)) := by have h9 := M.out.1; rw [List.take_of_length_le (by have := HN.out; omega), ← HFL.out] at h9; exact h9
          clear e hj
          go_wp2
          go_ret
          exact ⟨_, rfl, by first | exact HF.out | (rw [GB.out]; exact HF.out), by first | exact M.out.2 | (rw [GB.out]; exact M.out.2)⟩
set_option maxHeartbeats 8000000 in
set_option maxRecDepth 100000 in
theorem copies_is {P : Nat → Prop} (w : World) (v : Value) (ll : List (List Nat)) (h : PL P w v ll) (hl : ll.length ≤ 16777216) (hf : ll.flatten.length ≤ 67108864) : Calls Try.prog 61 #[v] w fun e w' => ∃ v', e = .returned v' ∧ PO w.heap.size w' v' ll ∧ Below w.heap.size w w' := by
  obtain ⟨ad, cap, rfl, _, _⟩ := h.len
  obtain ⟨W1, hmk, hcb, hB1, hsz⟩ := make_n 26 22 (.slice none 0 0) (.slice none 0 0) 1 24 Try.underlying26 Try.infoB (one_cell rfl) (by simp [Value.cells]) .i64 w ll.length (by omega) (by omega)
  have HPL : Hid (∀ W, Below w.heap.size w W → PL P W (.slice ad ll.length cap) ll) := fun W hW => h.past hW
  have C0 : Hid (CBox W1 w.heap.size 22 (([] : List Value) ++ List.replicate (ll.length - 0) nilV) ∧ Below w.heap.size w W1) := ⟨by rw [Nat.mul_one] at hcb; simpa [nilV] using hcb, hB1⟩
  have nI : (ll.length : Int) ≤ 16777216 := by omega
  have HF : Hid (ll.flatten.length ≤ 67108864) := hf
  generalize hN : ll.length = n at *
  have HN : Hid (ll.length = n) := hN
  have HNB : Hid (n ≤ 16777216) := hl
  clear h hl hf hcb hB1 hsz hN
  generalize hbw : w.heap.size = bw at *
  have GB : Hid (w.heap.size = bw) := hbw
  have GE : Hid (bw ≤ w.heap.size) := by unfold Hid; omega
  go_enter Try.func61, Try.ntmps61
  go_upto_region 2 with fail
  clear hmk hbw
  generalize hg : bw = g at C0 ⊢
  have HGB : Hid (bw = g) := hg
  clear hg
  go_wp2
  go_loopw [11] (fun s11 wr => ∃ (k : Nat) (us : List Value), s11 = .int .i64 (k : Int) ∧ k ≤ n ∧ us.length = k ∧ CBox wr g 22 (us ++ List.replicate (n - k) nilV) ∧ Below bw w wr ∧ Own1 bw wr us ll) (fun s11 _ => n - (intOf s11).toNat)
  case atStart => exact ⟨0, [], rfl, by omega, rfl, C0.out.1, by rw [HGB.out]; exact C0.out.2, fun i u l h1 _ => by cases h1⟩
  case round =>
    obtain ⟨k, us, rfl, hk, hU, hC, hB, hO⟩ := hrel
    have HU : Hid (us.length = k) := hU
    have M : Hid (CBox wr g 22 (us ++ List.replicate (n - k) nilV) ∧ Below bw w wr ∧ Own1 bw wr us ll) := ⟨hC, hB, hO⟩
    clear hC hB hO hU C0
    by_cases e : k = n
    · have q1 : ¬ (k : Int) < (n : Int) := by omega
      have HF9 : Hid (PO bw wr (.slice (some ⟨g, 0, none⟩) n n) ll) := by
        have h1 := M.out.1
        have h2 := HU.out
        have h3 := HNB.out
        have h4 : us.length = n := by rw [h2]; exact e
        rw [e, Nat.sub_self, List.replicate_zero, List.append_nil] at h1
        refine ⟨us, by rw [h2, HN.out, e], ?_, M.out.2.2⟩
        rw [HN.out]
        exact ⟨by omega, Or.inr ⟨g, n, us.toArray, rfl, Nat.le_of_eq HGB.out, h1, Nat.le_refl _, by unfold maxLen; omega, by rw [List.size_toArray, h4, Nat.mul_one], by rw [Nat.mul_one]; show us.take n = us; exact List.take_of_length_le (by omega)⟩⟩
      clear e hk
      go_wp2
      go_ret
      exact ⟨_, rfl, by first | exact HF9.out | (rw [GB.out]; exact HF9.out), by first | exact M.out.2.1 | (rw [GB.out]; exact M.out.2.1)⟩
    · have kn : (k : Int) < (n : Int) := by omega
      obtain ⟨x, hx⟩ : ∃ x, ll[k]? = some x := ⟨ll[k]'(by have := HN.out; omega), List.getElem?_eq_getElem _⟩
      obtain ⟨r, hr⟩ : ∃ r, n - k = r + 1 := ⟨n - k - 1, by omega⟩
      have HR1 : Hid (n - k = r + 1) := hr
      obtain ⟨g2, a2, u2, eg, hcell, hb⟩ := (HPL.out wr M.out.2.1).get hx
      subst eg
      obtain ⟨xa, xc, rfl, _, _⟩ := hb.len
      have HB : Hid (BL P wr (.slice xa x.length xc) x) := hb
      have HX : Hid (ll[k]? = some x) := hx
      have HK : Hid (k < n) := by unfold Hid; omega
      have HXL : Hid (x.length ≤ 67108864) := by have h1 := (List.sublist_flatten_of_mem (List.mem_of_getElem? hx)).length_le; have h2 := HF.out; unfold Hid; omega
      clear hb hx e hk hr
      go_upto_region 5 with fail
      clear hcell
      refine wp_region_lit ?_
      refine lst_val (v := .slice (some ⟨g, 0, none⟩) n n) (by kernel_rfl) ?_ ?_
      · go_simp
      simp only [Act.put, List.setIfInBounds_toArray, List.set_cons_zero, List.set_cons_succ]
      refine lst_val (v := .int .i64 (k : Int)) (by kernel_rfl) ?_ ?_
      · go_simp
      simp only [Act.put, List.setIfInBounds_toArray, List.set_cons_zero, List.set_cons_succ]
      refine lst_val (v := .slice xa x.length xc) (by kernel_rfl) ?_ ?_
      · go_simp
      simp only [Act.put, List.setIfInBounds_toArray, List.set_cons_zero, List.set_cons_succ]
      refine lst_call (by kernel_rfl) (by first | (go_simp; done) | (go_simp; first | exact rfl | exact ⟨rfl, rfl⟩ | exact ⟨rfl, rfl, rfl⟩)) (clone_is _ _ x HB.out (by have := HXL.out; omega)) ?_
      rintro e z1 ⟨v5, rfl, hO, hB⟩
      refine ⟨_, rfl, ?_⟩
      obtain ⟨oa, oc, e9⟩ := owns_sl hO
      subst e9
      have M1 : Hid (CBox z1 g 22 (us ++ List.replicate (n - k) nilV) ∧ Below bw w z1 ∧ Own1 bw z1 us ll ∧ z1.ownsRow bw 5 1 (.slice oa x.length oc) x.length (bV x)) := ⟨M.out.1.past hB, M.out.2.1.trans (hB.mono (Nat.le_trans GE.out M.out.2.1.size)), M.out.2.2.but (below_but (S := fun _ => False) hB) (fun _ _ => id), owns_base hO (Nat.le_trans GE.out M.out.2.1.size)⟩
      clear hO hB M HB
      have kI : (k : Int) < (n : Int) := kn
      simp only [Act.put, List.setIfInBounds_toArray, List.set_cons_zero, List.set_cons_succ]
      refine lst_val (v := .pointer (some ⟨g, k, none⟩)) (by kernel_rfl) ?_ ?_
      · go_simp
      simp only [Act.put, List.setIfInBounds_toArray, List.set_cons_zero, List.set_cons_succ]
      have k0 : z1.cell? ⟨g, k, none⟩ = some nilV := by have := M1.out.1.cell k; rw [this, HR1.out, List.getElem?_append_right (by have := HU.out; omega)]; simp [HU.out]
      have f0 := CBox.frozen M1.out.1 k
      unfold nilV at k0
      go_wp2
      clear k0 f0 kI
      have hs : But (fun y => y = g) z1 (z1.setCell ⟨g, k, none⟩ (.slice oa x.length oc)) := (But.refl (fun y => y = g) z1).setCell ⟨g, k, none⟩ _ (Or.inl rfl)
      have HN2 : Hid (CBox (z1.setCell ⟨g, k, none⟩ (.slice oa x.length oc)) g 22 ((us ++ [.slice oa x.length oc]) ++ List.replicate (n - (k + 1)) nilV) ∧ Below bw w (z1.setCell ⟨g, k, none⟩ (.slice oa x.length oc)) ∧ Own1 bw (z1.setCell ⟨g, k, none⟩ (.slice oa x.length oc)) (us ++ [.slice oa x.length oc]) ll) := by
        refine ⟨?_, M1.out.2.1.trans (hs.below (fun q e => by have := HGB.out; omega) (Nat.le_trans GE.out M1.out.2.1.size)), (M1.out.2.2.1.butT hs M1.out.1 (by decide)).snoc (by rw [HU.out]; exact HX.out) (owns_row_blockB M1.out.2.2.2 fun q hq => hs.block q (World.ownsRow.lt M1.out.2.2.2 q hq).2 fun e => own_box M1.out.2.2.2 M1.out.1 (by decide) hq e)⟩
        have h9 := M1.out.1.set k (.slice oa x.length oc)
        rw [HR1.out] at h9
        have h8 := vs_set us r nilV (.slice oa x.length oc)
        rw [HU.out] at h8
        rw [h8] at h9
        rw [show n - (k + 1) = r by have := HR1.out; omega]
        exact h9
      clear hs M1
      generalize z1.setCell ⟨g, k, none⟩ (.slice oa x.length oc) = Z9 at HN2 ⊢
      (try go_wp2)
      go_roundw
      case rel => exact ⟨k + 1, us ++ [.slice oa x.length oc], by first | rfl | go_num, by have := HK.out; omega, by rw [List.length_append, HU.out]; rfl, HN2.out.1, HN2.out.2.1, HN2.out.2.2⟩
      case measure => simp [intOf]; omega
end Go.Proofs.Ytndhabhlajldeaa
