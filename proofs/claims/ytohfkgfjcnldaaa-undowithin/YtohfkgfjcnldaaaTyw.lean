/- UndoWithin. -/
import Derived.Test.YtohfkgfjcnldaaaRgmM
namespace Go.Proofs.Ytohfkgfjcnldaaa
open Go.RowKit Go.Shelf
attribute [local go_sem] Oper.semAt_some
theorem run_store_fn {P : Program} {w : World} {a : Addr} {m : Mode} (f : Fn) (x y : Array Value) : (store a (.func f x y) m).run P w = stored P w a (.func f x y) m := run_store P w a _ m rfl
attribute [local go_sem] run_store_fn
/-- a table, whatever it tells -/
def UX (w : World) (b : Nat) (R : (Nat → Nat) → World → Prop) (V : World) : Prop := ∃ N A H, UY w V b N A H R
theorem UX.of {w V : World} {b N : Nat} {A : List (Int × Int)} {H : List (List (Int × Int))} {R : (Nat → Nat) → World → Prop} (h : UY w V b N A H R) : UX w b R V := ⟨_, _, _, h⟩
theorem alk_own {rb : Nat} {ad : Option Addr} {x : Int × Int} {W X Y : World} {row : Option Nat} (h : AlK rb ad x W X) (hg : X.grownBy Y row) (hr : ∀ r, row = some r → ∃ o : Obj, X.heap[r]? = some o ∧ isLD o = true) : AlK rb ad x W Y := by
  have hr' : ∀ r, row = some r → ∃ o : Obj, X.heap[r]? = some o ∧ o.isCells = false := fun r e => by obtain ⟨o, h1, h2⟩ := hr r e; exact ⟨o, h1, isLD_not h2⟩
  exact ⟨fun v hv => cell_own (h.1 v hv) hg hr', fun g j v e hv => cell_own (h.2 g j v e hv) hg hr'⟩
/-- nothing but the plain way -/
def calm (Q : Exit → Act → World → Prop) : Exit → Act → World → Prop
  | .normal, a, w => Q .normal a w
  | _, _, _ => False
theorem wp_calm {c : Code} {P : Program} {Q : Exit → Act → World → Prop} {a : Act} {w : World} (h : c.wp P (calm Q) a w) : c.wp P Q a w := Code.wp_mono (fun e a w q => by cases e <;> first | exact q | exact q.elim) h
theorem win_start (w : World) (a2 : Option Addr) (n2 p2 : Nat) (stop : Int) : (CBox (((w.alloc (.cells #[.slice a2 n2 p2] 22)).alloc (.cells #[.int .i64 stop] 3)).alloc (.cells #[.bool false] 4)) w.heap.size 22 [.slice a2 n2 p2] ∧ CBox (((w.alloc (.cells #[.slice a2 n2 p2] 22)).alloc (.cells #[.int .i64 stop] 3)).alloc (.cells #[.bool false] 4)) (w.heap.size + 1) 3 [.int .i64 stop] ∧ CBox (((w.alloc (.cells #[.slice a2 n2 p2] 22)).alloc (.cells #[.int .i64 stop] 3)).alloc (.cells #[.bool false] 4)) (w.heap.size + 1 + 1) 4 [.bool false]) ∧ Below w.heap.size w (((w.alloc (.cells #[.slice a2 n2 p2] 22)).alloc (.cells #[.int .i64 stop] 3)).alloc (.cells #[.bool false] 4)) := by
  have s1 : (w.alloc (.cells #[.slice a2 n2 p2] 22)).heap.size = w.heap.size + 1 := by simp
  have s2 : ((w.alloc (.cells #[.slice a2 n2 p2] 22)).alloc (.cells #[.int .i64 stop] 3)).heap.size = w.heap.size + 1 + 1 := by simp
  refine ⟨⟨((CBox.new w _ [_]).but (S := fun _ => False) ((But.refl _ _).alloc _) id).but (S := fun _ => False) ((But.refl _ _).alloc _) id, ?_, ?_⟩, (((Below.refl _ w).alloc (Nat.le_refl _) _).alloc (by simp) _).alloc (by simp; omega) _⟩
  · rw [← s1]
    exact (CBox.new (w.alloc (.cells #[.slice a2 n2 p2] 22)) _ [_]).but (S := fun _ => False) ((But.refl _ _).alloc _) id
  · rw [← s2]
    exact CBox.new ((w.alloc (.cells #[.slice a2 n2 p2] 22)).alloc (.cells #[.int .i64 stop] 3)) _ [_]
theorem setRL_pos (A : List (Int × Int)) (k v : Int) : 0 < (setRL A k v).length := by
  unfold setRL setAt
  simp only [List.length_append, List.length_singleton]
  omega
set_option maxHeartbeats 16000000 in
set_option maxRecDepth 100000 in
theorem undoWithin_in (w : World) (v1 : Value) (n1 : Nat) (x1 : Nat → OpR) (v2 : Value) (n2 : Nat) (x2 : Nat → OpR) (stop : Int) (hv1 : OpsAt w v1 n1 x1) (hn1 : n1 ≤ 4398046511104) (hv2 : OpsAt w v2 n2 x2) (hn2 : n2 ≤ 4398046511104) : CallsIn Fence.wide 10 Try.prog 10 #[v1, v2, .int .i64 stop] w fun e w' => e = .returned (.bool true) ∧ Below w.heap.size w w' := by
  obtain ⟨a1, p1, rfl, hx1⟩ := hv1
  obtain ⟨a2, p2, rfl, hx2⟩ := hv2
  have X1 : Hid (0 < n1 → ∃ g a, a1 = some ⟨g, a, none⟩ ∧ ∀ i, i < n1 → OpAt w g (a + i * 4) (x1 i) ∧ OpOk (x1 i)) := hx1
  have X2 : Hid (0 < n2 → ∃ g a, a2 = some ⟨g, a, none⟩ ∧ ∀ i, i < n2 → OpAt w g (a + i * 4) (x2 i) ∧ OpOk (x2 i)) := hx2
  clear hx1 hx2
  obtain ⟨f0, fB⟩ := win_start w a2 n2 p2 stop
  have F3 : Hid ((CBox (((w.alloc (.cells #[.slice a2 n2 p2] 22)).alloc (.cells #[.int .i64 stop] 3)).alloc (.cells #[.bool false] 4)) w.heap.size 22 [.slice a2 n2 p2] ∧ CBox (((w.alloc (.cells #[.slice a2 n2 p2] 22)).alloc (.cells #[.int .i64 stop] 3)).alloc (.cells #[.bool false] 4)) (w.heap.size + 1) 3 [.int .i64 stop] ∧ CBox (((w.alloc (.cells #[.slice a2 n2 p2] 22)).alloc (.cells #[.int .i64 stop] 3)).alloc (.cells #[.bool false] 4)) (w.heap.size + 1 + 1) 4 [.bool false] ∧ w.heap.size ≤ w.heap.size + 1 + 1) ∧ Below w.heap.size w (((w.alloc (.cells #[.slice a2 n2 p2] 22)).alloc (.cells #[.int .i64 stop] 3)).alloc (.cells #[.bool false] 4))) := ⟨⟨f0.1, f0.2.1, f0.2.2, by omega⟩, fB⟩
  clear f0 fB
  refine callsIn_of_wp_marks Try.func10 rfl trivial ?_ rfl
  simp only [Try.ntmps10, List.size_toArray, List.length_cons, List.length_nil, Nat.reduceAdd, Nat.reduceSub, Array.replicate_succ, Array.replicate_zero, List.push_toArray, List.append_toArray, List.nil_append, List.cons_append]
  refine wpIn_wide.2 ?_
  go_upto_region 1 with fail
  change Code.wp _ _ _ _ (((w.alloc (.cells #[.slice a2 n2 p2] 22)).alloc (.cells #[.int .i64 stop] 3)).alloc (.cells #[.bool false] 4))
  generalize (((w.alloc (.cells #[.slice a2 n2 p2] 22)).alloc (.cells #[.int .i64 stop] 3)).alloc (.cells #[.bool false] 4)) = w3 at F3 ⊢
  generalize w.heap.size + 1 + 1 = ob at F3 ⊢
  generalize w.heap.size + 1 = sb at F3 ⊢
  have p3 : w3.cell? ⟨w.heap.size, 0, none⟩ = some (.slice a2 n2 p2) := F3.out.1.1.cell 0
  have f3 : w3.frozen? ⟨ob, 0, none⟩ = false := F3.out.1.2.2.1.frozen 0
  have o3 : w3.cell? ⟨ob, 0, none⟩ = some (.bool false) := F3.out.1.2.2.1.cell 0
  have FAST : Hid (CBox (w3.setCell ⟨ob, 0, none⟩ (.bool true)) ob 4 [.bool true] ∧ Below w.heap.size w (w3.setCell ⟨ob, 0, none⟩ (.bool true))) := ⟨F3.out.1.2.2.1.set 0 _, F3.out.2.setCell (show w.heap.size ≤ (⟨ob, 0, none⟩ : Addr).block from F3.out.1.2.2.2) _⟩
  by_cases hb1 : (1048576 : Int) < (n1 : Int)
  · go_wp2
    have cF := FAST.out.1.cell 0
    exact ⟨_, results_cellr rfl _ _ _ ⟨ob, 0, none⟩ rfl (by go_simp), rfl, FAST.out.2⟩
  by_cases hb2 : (1048576 : Int) < (n2 : Int)
  · go_wp2
    have cF := FAST.out.1.cell 0
    exact ⟨_, results_cellr rfl _ _ _ ⟨ob, 0, none⟩ rfl (by go_simp), rfl, FAST.out.2⟩
  clear FAST f3 o3
  obtain ⟨RA, eRA⟩ : ∃ R : (Nat → Nat) → World → Prop, R = fun ow V => ((CBox V w.heap.size 22 [.slice a2 n2 p2] ∧ ow w.heap.size = 0) ∧ (CBox V sb 3 [.int .i64 stop] ∧ ow sb = 0)) ∧ (CBox V ob 4 [.bool false] ∧ ow ob = 0) := ⟨_, rfl⟩
  have OA : Hid (Ok0 RA) := by rw [eRA]; exact ((Ok0.box _ _ _).and (Ok0.box _ _ _)).and (Ok0.box _ _ _)
  have N3 : Hid (Below w.heap.size w w3 ∧ RA (fun _ => 0) w3) := ⟨F3.out.2, by rw [eRA]; exact ⟨⟨⟨F3.out.1.1, rfl⟩, F3.out.1.2.1, rfl⟩, F3.out.1.2.2.1, rfl⟩⟩
  have OLE : Hid (w.heap.size ≤ ob) := F3.out.1.2.2.2
  go_upto_region 3 with fail
  clear p3 F3
  go_upto_region 4 with (go_at_call 37; refine (UY.newq N3.out.1 N3.out.2 OA.out.okr 0).mono ?_; rintro e w4 ⟨b, rfl, h1⟩; (have T4 : Hid (UY w w4 b 0 [] [] RA) := h1); clear h1)
  change Code.wp _ _ _ _ (w4.alloc (.cells #[.pointer (some ⟨b, 0, none⟩)] 24))
  obtain ⟨RB, eRB⟩ : ∃ R : (Nat → Nat) → World → Prop, R = fun ow V => RA ow V ∧ (CBox V w4.heap.size 24 [.pointer (some ⟨b, 0, none⟩)] ∧ ow w4.heap.size = 0) := ⟨_, rfl⟩
  have T5 : Hid (UY w (w4.alloc (.cells #[.pointer (some ⟨b, 0, none⟩)] 24)) b 0 [] [] RB) := by rw [eRB]; exact T4.out.boxq (OA.out.stq id) _ [_] 0
  clear T4 N3
  generalize w4.alloc (.cells #[.pointer (some ⟨b, 0, none⟩)] 24) = w5 at T5 ⊢
  generalize w4.heap.size = tb at eRB ⊢
  have OB : Hid (Ok0 RB) := by rw [eRB]; exact OA.out.and (Ok0.box _ _ _)
  have CB : Hid (∀ N A H V, UY w V b N A H RB → V.cell? ⟨tb, 0, none⟩ = some (.pointer (some ⟨b, 0, none⟩))) := fun N A H V h => by obtain ⟨ow, h⟩ := h.have; rw [eRB] at h; exact h.2.1.cell 0
  have t5 := CB.out _ _ _ _ T5.out
  go_upto_region 6 with fail
  clear t5
  go_wp2
  have B1 : Hid (n1 ≤ 1048576 ∧ n2 ≤ 1048576) := ⟨by omega, by omega⟩
  clear hb1 hb2 hn1 hn2
  go_loopw [8] (fun si wr => ∃ (i : Nat) (A : List (Int × Int)) (H : List (List (Int × Int))), i ≤ n1 ∧ si = .int .i64 (i : Int) ∧ UY w wr b i A H RB) (fun si _ => n1 - (intOf si).toNat)
  case atStart => exact ⟨0, _, _, by omega, rfl, T5.out⟩
  case round =>
    obtain ⟨i, A, H, hi, rfl, hA⟩ := hrel
    have A0 : Hid (UY w wr b i A H RB) := hA
    clear hA T5
    by_cases hin : i < n1
    · have iI : (i : Int) < (n1 : Int) := by omega
      obtain ⟨g, a, rfl, ok0, dc⟩ := ops_at X1.out hin
      generalize (x1 i) = op at ok0 dc
      obtain ⟨kd, tw, ok, ov⟩ := op
      have OK : Hid (I64 ok) := ok0
      have CX : Hid (∀ V, UX w b RB V → V.cell? ⟨tb, 0, none⟩ = some (.pointer (some ⟨b, 0, none⟩)) ∧ V.cell? ⟨g, a + i * 4, none⟩ = some (.int .i64 kd) ∧ V.cell? ⟨g, a + i * 4 + 1, none⟩ = some (.bool tw) ∧ V.cell? ⟨g, a + i * 4 + 2, none⟩ = some (.int .i64 ok) ∧ V.cell? ⟨g, a + i * 4 + 3, none⟩ = some (.int .i64 ov)) := fun V ⟨N, A, H, h⟩ => ⟨CB.out _ _ _ _ h, dc V h.bel⟩
      clear ok0 dc
      have Z0 : Hid (UY w wr.drew b i A H RB) := A0.out.pastq OB.out.okr (Below.refl _ _).drew
      go_upto_region 9 with fail
      refine wp_calm ?_
      refine wp_region_held_drew (S := UX w b RB) (by kernel_rfl) (UX.of Z0.out) (fun hHeld => ?_)
      generalize wr.drew = z0 at hHeld Z0 ⊢
      refine wpAnyH_take (i := 0) (v := .pointer (some ⟨b, 0, none⟩)) ov0 (by kernel_rfl) (by kernel_rfl) (by kernel_rfl) (fun _ _ _ h => h) (Or.inl ⟨by rfl, fun V' hS => ?_⟩) hHeld ?_
      · obtain ⟨c0, c1, c2, c3, c4⟩ := CX.out V' hS
        go_simp
      simp only [Act.put, List.setIfInBounds_toArray, List.set_cons_zero, List.set_cons_succ]
      refine wpAnyH_take (i := 1) (v := .slice (some ⟨g, a, none⟩) n1 p1) ov1 (by kernel_rfl) (by kernel_rfl) (by kernel_rfl) (fun _ _ _ h => h) (Or.inl ⟨by rfl, fun V' hS => ?_⟩) hHeld ?_
      · go_simp
      simp only [Act.put, List.setIfInBounds_toArray, List.set_cons_zero, List.set_cons_succ]
      refine wpAnyH_take (i := 2) (v := .int .i64 (i : Int)) ov2 (by kernel_rfl) (by kernel_rfl) (by kernel_rfl) (fun _ _ _ h => h) (Or.inl ⟨by rfl, fun V' hS => ?_⟩) hHeld ?_
      · go_simp
      simp only [Act.put, List.setIfInBounds_toArray, List.set_cons_zero, List.set_cons_succ]
      refine wpAnyH_take (i := 3) (v := .pointer (some ⟨g, a + i * 4, none⟩)) ov3 (by kernel_rfl) (by kernel_rfl) (by kernel_rfl) (fun _ _ _ h => h) (Or.inl ⟨by rfl, fun V' hS => ?_⟩) hHeld ?_
      · go_simp
      simp only [Act.put, List.setIfInBounds_toArray, List.set_cons_zero, List.set_cons_succ]
      refine wpAnyH_take (i := 4) (v := .agg #[.int .i64 kd, .bool tw, .int .i64 ok, .int .i64 ov]) ov4 (by kernel_rfl) (by kernel_rfl) (by kernel_rfl) (fun _ _ _ h => h) (Or.inl ⟨by rfl, fun V' hS => ?_⟩) hHeld ?_
      · obtain ⟨c0, c1, c2, c3, c4⟩ := CX.out V' hS
        go_simp
      simp only [Act.put, List.setIfInBounds_toArray, List.set_cons_zero, List.set_cons_succ]
      refine wpAnyH_ready (rs := [5]) (by kernel_rfl) (by simp) ?_
      refine AllReadyH.cons ov5 (fun K hK => ?_) AllReadyH.nil
      rw [if_pos (by rfl)]
      go_simp
      refine (Z0.out.doL OB.out.okr (by have := B1.out; omega) kd tw ok ov OK.out).mono ?_
      rintro e w4 ⟨rfl, h4, _⟩
      have L4 : Hid (UY w w4 b (i + 1) (nxA kd ok ov A H) (nxH kd ok A H) RB) := h4
      clear h4
      (try go_wp2_with fail)
      refine hK.out _ _ (UX.of L4.out) (fun _ => ?_)
      clear hK K
      (try simp only [Act.put, List.setIfInBounds_toArray, List.set_cons_zero, List.set_cons_succ])
      refine wpAnyH_done (by kernel_rfl) ?_ _
      simp only [calm]
      have nX : (n1 : Int) ≤ 1048576 := by have := B1.out; omega
      go_wp2
      go_roundw
      case rel => exact ⟨i + 1, _, _, by omega, by go_num, L4.out⟩
      case measure => simp [intOf]; omega
    · have iI : ¬ (i : Int) < (n1 : Int) := by omega
      have B2 : Hid (i ≤ 1048576) := by have := B1.out; show _ ≤ _; omega
      go_upto_region 10 with fail
      have t0 := CB.out _ _ _ _ A0.out
      go_upto_region 11 with (go_at_call 39; refine (A0.out.tL OB.out.okr fun ow ht => mv_mo (set1 wr ow 1 b i A H ht 1 1 (by unfold I64; omega) (by have := B2.out; omega))).mono ?_; rintro e w3 ⟨rfl, h1, _⟩; (have T3 : Hid (UY w w3 b (i + 1) (setRL A 1 1) H RB ∧ 0 < (setRL A 1 1).length) := ⟨h1, setRL_pos _ _ _⟩); clear h1)
      clear t0 A0 iI hi hin
      generalize setRL A 1 1 = AS at T3
      generalize hN0 : i + 1 = N0 at T3
      have BN : Hid (N0 ≤ 1048577 ∧ n2 ≤ 1048576) := ⟨by have := B2.out; omega, B1.out.2⟩
      clear hN0 B2 B1
      obtain ⟨mm, em⟩ : ∃ mm, AS.length = mm := ⟨_, rfl⟩
      have EM : Hid (AS.length = mm ∧ 0 < mm ∧ mm ≤ N0) := ⟨em, by rw [← em]; exact T3.out.2, by rw [← em]; exact T3.out.1.ris.2.1⟩
      clear em
      have t0 := CB.out _ _ _ _ T3.out.1
      have SEE := T3.out.1.seenq OB.out.okr (by have := BN.out; omega)
      rw [EM.out.1] at SEE
      go_upto_region 12 with (go_at_call 40; refine SEE.mono ?_; rintro e v1 ⟨ka, kc, va, vc, rfl, h1⟩)
      clear t0 SEE T3
      change Code.wp _ _ _ _ (v1.alloc (.cells #[.slice ka mm kc, .slice va mm vc] 67))
      have V2 : Hid (UY w (v1.alloc (.cells #[.slice ka mm kc, .slice va mm vc] 67)) b N0 AS H fun ow V => RB ow V ∧ RV v1.heap.size (.slice ka mm kc) (.slice va mm vc) AS ow V) := h1
      clear h1
      generalize v1.alloc (.cells #[.slice ka mm kc, .slice va mm vc] 67) = v2 at V2 ⊢
      generalize v1.heap.size = xb at V2 ⊢
      have t0 := CB.out _ _ _ _ (V2.out.imp (R' := RB) fun _ _ h => h.1)
      go_upto_region 13 with (go_at_call 53; refine (V2.out.allq (OB.out.and (Ok0.rv _ _ _ _)).okr (by have := BN.out; omega)).mono ?_; rintro e v3 ⟨rb, ad, cap, rfl, h1⟩)
      clear t0 V2
      change Code.wp _ _ _ _ (v3.alloc (.cells #[.func (.func 82) #[] #[.pointer (some ⟨rb, 0, none⟩)]] 77))
      obtain ⟨RC, eRC⟩ : ∃ R : (Nat → Nat) → World → Prop, R = fun ow V => ((RB ow V ∧ RV xb (.slice ka mm kc) (.slice va mm vc) AS ow V) ∧ AllI V ow rb ad cap AS) ∧ (CBox V v3.heap.size 77 [.func (.func 82) #[] #[.pointer (some ⟨rb, 0, none⟩)]] ∧ ow v3.heap.size = 0) := ⟨_, rfl⟩
      have V4 : Hid (UY w (v3.alloc (.cells #[.func (.func 82) #[] #[.pointer (some ⟨rb, 0, none⟩)]] 77)) b N0 AS H RC) := by rw [eRC]; exact h1.boxq (((OB.out.and (Ok0.rv _ _ _ _)).and (Ok0.all _ _ _ _)).stq id) _ [_] 0
      clear h1
      generalize v3.alloc (.cells #[.func (.func 82) #[] #[.pointer (some ⟨rb, 0, none⟩)]] 77) = v4 at V4 ⊢
      generalize v3.heap.size = jb at eRC ⊢
      have OC : Hid (Ok0 RC) := by rw [eRC]; exact ((OB.out.and (Ok0.rv _ _ _ _)).and (Ok0.all _ _ _ _)).and (Ok0.box _ _ _)
      have AL : Hid (∀ ow V, RC ow V → AllI V ow rb ad cap AS) := by rw [eRC]; exact fun ow V h => h.1.2
      have CC : Hid (∀ ow V, RC ow V → (V.cell? ⟨w.heap.size, 0, none⟩ = some (.slice a2 n2 p2) ∧ V.cell? ⟨sb, 0, none⟩ = some (.int .i64 stop) ∧ CBox V ob 4 [.bool false]) ∧ V.cell? ⟨tb, 0, none⟩ = some (.pointer (some ⟨b, 0, none⟩)) ∧ (V.cell? ⟨xb, 0, none⟩ = some (.slice ka mm kc) ∧ V.cell? ⟨xb, 1, none⟩ = some (.slice va mm vc)) ∧ V.cell? ⟨jb, 0, none⟩ = some (.func (.func 82) #[] #[.pointer (some ⟨rb, 0, none⟩)])) := by
        rw [eRC, eRB, eRA]
        exact fun ow V h => ⟨⟨h.1.1.1.1.1.1.1.cell 0, h.1.1.1.1.1.2.1.cell 0, h.1.1.1.1.2.1⟩, h.1.1.1.2.1.cell 0, ⟨h.1.1.2.2.1.cell 0, h.1.1.2.2.1.cell 1⟩, h.2.1.cell 0⟩
      have KV : Hid (∀ ow V, RC ow V → ∀ i kx vx, AS[i]? = some (kx, vx) → ∃ g g', ka = some ⟨g, 0, none⟩ ∧ va = some ⟨g', 0, none⟩ ∧ V.cell? ⟨g, i, none⟩ = some (.int .i64 kx) ∧ V.cell? ⟨g', i, none⟩ = some (.int .i64 vx)) := by
        rw [eRC]
        intro ow V h i kx vx hi
        obtain ⟨⟨⟨_, ⟨⟨k1, k2, k3, h2⟩, ⟨l1, l2, l3, h3⟩⟩, _⟩, _⟩, _⟩ := h
        obtain ⟨g, e1, _, c1⟩ := h2 i kx (by rw [List.getElem?_map, hi]; rfl)
        obtain ⟨g', e2, _, c2⟩ := h3 i vx (by rw [List.getElem?_map, hi]; rfl)
        injection k3 with k3
        injection l3 with l3
        subst k3 l3
        exact ⟨g, g', e1, e2, c1, c2⟩
      clear eRA eRB eRC OA OB CB
      have hq := eq_fn2 rb v4
      have j4 : v4.cell? ⟨jb, 0, none⟩ = some (.func (.func 82) #[] #[.pointer (some ⟨rb, 0, none⟩)]) := by obtain ⟨ow, h⟩ := V4.out.have; exact (CC.out ow _ h).2.2.2
      go_upto_region 15 with fail
      clear hq j4
      go_wp2
      have V5 : Hid (UY w (v4.alloc (.cells #[.int .i64 0] 3)) b N0 AS H fun ow V => RC ow V ∧ (CBox V v4.heap.size 3 [.int .i64 ((0 : Nat) : Int)] ∧ ow v4.heap.size = 4)) := V4.out.boxq (OC.out.stq id) _ [_] 4
      clear V4
      change Code.wp _ _ _ _ (v4.alloc (.cells #[.int .i64 0] 3))
      generalize v4.alloc (.cells #[.int .i64 0] 3) = v5 at V5 ⊢
      generalize v4.heap.size = rq0 at V5 ⊢
      have ZW : Hid (w.heap.size ≤ v5.heap.size) := V5.out.bel.size
      refine wp_loop (fun a' wr => ∃ (rr rq : Nat) (ds : List Deferred) (A : List (Int × Int)) (HH : List (List (Int × Int))) (u12 u49 u50 u51 u52 u53 u139 u140 u141 u142 u143 u144 u145 u146 u147 u148 u149 u150 u151 u152 u153 : Value), a' = { tmps := #[.slice a1 n1 p1, .slice a2 n2 p2, .int .i64 stop, undef, .pointer (some ⟨w.heap.size, 0, none⟩), .pointer (some ⟨sb, 0, none⟩), .pointer (some ⟨ob, 0, none⟩), .pointer (some ⟨tb, 0, none⟩), .int .i64 (i : Int), .pointer (some ⟨xb, 0, none⟩), .pointer (some ⟨jb, 0, none⟩), .pointer (some ⟨rq, 0, none⟩), u12, undef, undef, undef, undef, undef, .slice a1 n1 p1, .int .i64 (n1 : Int), .bool false, .bool false, .slice a2 n2 p2, .int .i64 (n2 : Int), .bool false, .bool false, .pointer (some ⟨b, 0, none⟩), .pointer (some ⟨b, 0, none⟩), .bool false, .int .i64 (i : Int), .slice a1 n1 p1, .int .i64 (n1 : Int), .bool false, u33, u34, u35, u36, u37, u38, u39, u40, .pointer (some ⟨b, 0, none⟩), .tuple #[], .pointer (some ⟨b, 0, none⟩), .agg #[.slice ka mm kc, .slice va mm vc], .pointer (some ⟨b, 0, none⟩), .func (.func 82) #[] #[.pointer (some ⟨rb, 0, none⟩)], .func (.func 82) #[] #[.pointer (some ⟨rb, 0, none⟩)], .bool false, u49, u50, u51, u52, u53, undef, undef, undef, undef, undef, undef, undef, undef, undef, undef, undef, undef, undef, undef, undef, undef, undef, undef, undef, undef, undef, undef, undef, undef, undef, undef, undef, undef, undef, undef, undef, undef, undef, undef, undef, undef, undef, undef, undef, undef, undef, undef, undef, undef, undef, undef, undef, undef, undef, undef, undef, undef, undef, undef, undef, undef, undef, undef, undef, undef, undef, undef, undef, undef, undef, undef, undef, undef, undef, undef, undef, undef, undef, undef, undef, undef, undef, undef, undef, undef, undef, undef, undef, undef, undef, u139, u140, u141, u142, u143, u144, u145, u146, u147, u148, u149, u150, u151, u152, u153, undef], defers := ds } ∧ rr ≤ 3 ∧ UY w wr b (N0 + rr * mm) A HH (fun ow V => RC ow V ∧ (CBox V rq 3 [.int .i64 (rr : Int)] ∧ ow rq = 4)) ∧ Mrk w.heap.size rr ds wr) (fun a' _ => 3 - a'.defers.length) ?_ ?_
      · exact ⟨0, rq0, [], AS, H, _, _, _, _, _, _, _, _, _, _, _, _, _, _, _, _, _, _, _, _, _, rfl, by omega, by rw [Nat.zero_mul]; exact V5.out, Mrk.nil _ _⟩
      clear V5
      rintro a' wr ⟨rr, rq, ds, A, HH, u12, u49, u50, u51, u52, u53, u139, u140, u141, u142, u143, u144, u145, u146, u147, u148, u149, u150, u151, u152, u153, rfl, hr, hA, hM⟩
      generalize hNB : N0 + rr * mm = NB at hA
      obtain ⟨R1, eR1⟩ : ∃ R : (Nat → Nat) → World → Prop, R = fun ow V => RC ow V ∧ (CBox V rq 3 [.int .i64 (rr : Int)] ∧ ow rq = 4) := ⟨_, rfl⟩
      have A0 : Hid (UY w wr b NB A HH R1) := by rw [eR1]; exact hA
      have MK : Hid (Mrk w.heap.size rr ds wr) := hM
      have DL : Hid (ds.length = rr) := by obtain ⟨Ds, rfl, h2, _⟩ := hM; show _ = _; rw [List.length_map]; exact h2
      have HNB : Hid (N0 + rr * mm = NB ∧ rr ≤ 3) := ⟨hNB, hr⟩
      have O1 : Hid (Okr R1 ∧ Stq (fun x => x = 2) R1 ∧ Stq (fun x => x = 3) R1) := by rw [eR1]; exact ⟨OC.out.okr.and (Okr.box _ _ _ 4 (by omega)), (OC.out.stq (by omega)).and (Stq.box _ _ _ 4 (by omega)), (OC.out.stq (by omega)).and (Stq.box _ _ _ 4 (by omega))⟩
      have C1 : Hid (∀ ow V, R1 ow V → RC ow V ∧ V.cell? ⟨rq, 0, none⟩ = some (.int .i64 (rr : Int))) := by rw [eR1]; exact fun ow V h => ⟨h.1, h.2.1.cell 0⟩
      have R1E : Hid (R1 = fun ow V => RC ow V ∧ (CBox V rq 3 [.int .i64 (rr : Int)] ∧ ow rq = 4)) := eR1
      clear hA hM hNB hr eR1
      have r0 : wr.cell? ⟨rq, 0, none⟩ = some (.int .i64 (rr : Int)) := by obtain ⟨ow, h⟩ := A0.out.have; exact (C1.out ow _ h).2
      by_cases hr3 : rr < 3
      · have rI : (rr : Int) < 3 := by omega
        go_upto_region 18 with fail
        clear r0
        obtain ⟨nb, enb⟩ : ∃ nb, nb = wr.heap.size := ⟨_, rfl⟩
        obtain ⟨RN, eRN⟩ : ∃ R : Int → (Nat → Nat) → World → Prop, R = fun n ow V => R1 ow V ∧ (CBox V nb 3 [.int .i64 n] ∧ ow nb = 2) := ⟨_, rfl⟩
        have Y0 : Hid (UY w (wr.alloc (.cells #[.int .i64 0] 3)) b NB A HH (RN 0)) := by rw [eRN, enb]; exact A0.out.boxq O1.out.1.st.none _ [_] 2
        have BY : Hid (Below wr.heap.size wr (wr.alloc (.cells #[.int .i64 0] 3))) := (Below.refl _ _).alloc (Nat.le_refl _) _
        have ON : Hid (∀ n, Okr (RN n)) := fun n => by rw [eRN]; exact O1.out.1.and (Okr.box _ _ _ 2 (by omega))
        have CN : Hid (∀ n ow V, RN n ow V → R1 ow V ∧ V.cell? ⟨nb, 0, none⟩ = some (.int .i64 n) ∧ V.frozen? ⟨nb, 0, none⟩ = false) := by rw [eRN]; exact fun n ow V h => ⟨h.1, h.2.1.cell 0, h.2.1.frozen 0⟩
        have SN : Hid (∀ n m N A H V, UY w V b N A H (RN n) → UY w (V.setCell ⟨nb, 0, none⟩ (.int .i64 m)) b N A H (RN m) ∧ (∀ B, KeepsLD B V (V.setCell ⟨nb, 0, none⟩ (.int .i64 m))) ∧ Kept R1 V (V.setCell ⟨nb, 0, none⟩ (.int .i64 m))) := by rw [eRN]; exact fun n m N A H V h => h.setq O1.out.2.1 (by omega) (by omega) _
        have SN3 : Hid (∀ n, Stq (fun x => x = 3) (RN n)) := fun n => by rw [eRN]; exact O1.out.2.2.and (Stq.box _ _ _ 2 (by omega))
        have MY : Hid (Mrk w.heap.size rr ds (wr.alloc (.cells #[.int .i64 0] 3))) := MK.out.keep (KeepsLD.below BY.out)
        clear A0 MK BY eRN
        have j0 : (wr.alloc (.cells #[.int .i64 0] 3)).cell? ⟨jb, 0, none⟩ = some (.func (.func 82) #[] #[.pointer (some ⟨rb, 0, none⟩)]) := by obtain ⟨ow, h⟩ := Y0.out.have; exact (CC.out ow _ (C1.out ow _ (CN.out _ ow _ h).1).1).2.2.2
        go_upto_region 19 with fail
        change Code.wp _ _ _ _ (wr.alloc (.cells #[.int .i64 0] 3))
        rw [← enb]
        generalize wr.alloc (.cells #[.int .i64 0] 3) = y0 at Y0 MY j0 ⊢
        go_wp2
        clear j0 enb
        have NBX : Hid (NB + 2 * mm + 2 < 274877906944 ∧ mm < 549755813888) := by have h1 := HNB.out; have h2 := EM.out; have h3 := BN.out; have : rr * mm ≤ 3 * 1048577 := Nat.mul_le_mul h1.2 (by omega); exact ⟨by omega, by omega⟩
        have YZ : Hid (w.heap.size ≤ y0.heap.size) := Y0.out.bel.size
        have ALE : Hid (∀ n N A H V, UY w V b N A H (RN n) → AlE rb ad cap AS V) := fun n N A H V h => by obtain ⟨ow, h⟩ := h.have; exact (AL.out ow _ (C1.out ow _ (CN.out _ ow _ h).1).1).ale
        have KAL : Hid (∀ (R : (Nat → Nat) → World → Prop) V V', (∀ ow U, R ow U → R1 ow U) → Kept R V V' → ∀ y, AlK rb ad y V V') := fun R V V' h k y => k.alk (fun ow U hU => AL.out ow U (C1.out ow U (h ow U hU)).1) (by rw [EM.out.1]; exact EM.out.2.1) y
        refine wpIn_wide.1 (wpIn_rangeFunc_y (F := Fence.wide) (n := 10) (α := Int × Int) rfl (by omega) (gf := 82) (lb := #[.pointer (some ⟨rb, 0, none⟩)]) rfl trivial (enters_of Try.func82 (by kernel_rfl) rfl)
          (all2_seq 9 (by omega) rb ad cap AS (by have := NBX.out; have := EM.out; omega) y0 (ALE.out _ _ _ _ _ Y0.out))
          (fun _ _ _ _ h k => ⟨fun v hv => k.1 v (h.1 v hv), fun g j v e hv => k.2 g j v e (h.2 g j v e hv)⟩) (fun _ W r ob ob' _ hr hc => ⟨fun v hv => put_cell hr (isLD_not hc) hv, fun g j v _ hv => put_cell hr (isLD_not hc) hv⟩)
          (Below.refl _ _) (fun _ => rfl) (fun pre x V0 V1 hc => by rw [hc.1]; exact KeepsLD.below ((Below.refl _ _).alloc (Nat.le_refl _) _))
          (fun pre W => (∃ A H, UY w W b (NB + pre.length) A H (RN (pre.length : Int))) ∧ KeepsLD 0 y0 W ∧ pre = AS.take pre.length)
          (fun c pre W => (c = .exit 4 ∧ rr = 0 ∧ (pre.length : Int) = stop ∧ pre.length ≤ mm) ∧ (∃ A H, UY w W b (NB + pre.length) A H (RN (pre.length : Int))) ∧ KeepsLD 0 y0 W)
          (fun pre x W => (∃ A H, UY w W b (NB + pre.length) A H (RN (pre.length : Int))) ∧ KeepsLD 0 y0 W ∧ pre = AS.take pre.length ∧ AS[pre.length]? = some x)
          ?hI ?hIx ?hIc ?hcome ⟨⟨A, HH, Y0.out⟩, KeepsLD.refl _ _, by simp⟩ (fun x a' W => a' = { tmps := #[.slice a1 n1 p1, .slice a2 n2 p2, .int .i64 stop, undef, .pointer (some ⟨w.heap.size, 0, none⟩), .pointer (some ⟨sb, 0, none⟩), .pointer (some ⟨ob, 0, none⟩), .pointer (some ⟨tb, 0, none⟩), .int .i64 (i : Int), .pointer (some ⟨xb, 0, none⟩), .pointer (some ⟨jb, 0, none⟩), .pointer (some ⟨rq, 0, none⟩), .pointer (some ⟨nb, 0, none⟩), .int .i64 x.1, .int .i64 x.2, undef, undef, undef, .slice a1 n1 p1, .int .i64 (n1 : Int), .bool false, .bool false, .slice a2 n2 p2, .int .i64 (n2 : Int), .bool false, .bool false, .pointer (some ⟨b, 0, none⟩), .pointer (some ⟨b, 0, none⟩), .bool false, .int .i64 (i : Int), .slice a1 n1 p1, .int .i64 (n1 : Int), .bool false, u33, u34, u35, u36, u37, u38, u39, u40, .pointer (some ⟨b, 0, none⟩), .tuple #[], .pointer (some ⟨b, 0, none⟩), .agg #[.slice ka mm kc, .slice va mm vc], .pointer (some ⟨b, 0, none⟩), .func (.func 82) #[] #[.pointer (some ⟨rb, 0, none⟩)], .func (.func 82) #[] #[.pointer (some ⟨rb, 0, none⟩)], .bool false, .int .i64 (rr : Int), .bool true, u51, u52, .func (.func 82) #[] #[.pointer (some ⟨rb, 0, none⟩)], .int .i64 x.1, .int .i64 x.2, undef, undef, undef, undef, undef, undef, undef, undef, undef, undef, undef, undef, undef, undef, undef, undef, undef, undef, undef, undef, undef, undef, undef, undef, undef, undef, undef, undef, undef, undef, undef, undef, undef, undef, undef, undef, undef, undef, undef, undef, undef, undef, undef, undef, undef, undef, undef, undef, undef, undef, undef, undef, undef, undef, undef, undef, undef, undef, undef, undef, undef, undef, undef, undef, undef, undef, undef, undef, undef, undef, undef, undef, undef, undef, undef, undef, undef, undef, undef, undef, undef, undef, undef, u139, u140, u141, u142, u143, u144, u145, u146, u147, u148, u149, u150, u151, u152, u153, undef], defers := [] }) ?hAx ?assign ?body ?done ?st)
        case hI => exact fun s X Y row hs hg hr => ⟨by obtain ⟨A, H, h⟩ := hs.1; exact ⟨A, H, h.own (ON.out _) hg (fun r e => ⟨Nat.le_trans YZ.out (hr r e).1, (hr r e).2⟩)⟩, ownLD_keeps (β := Unit) (Nat.le_refl _) () X Y row hs.2.1 hg hr, hs.2.2⟩
        case hIx => exact fun c s X Y row hs hg hr => ⟨hs.1, by obtain ⟨A, H, h⟩ := hs.2.1; exact ⟨A, H, h.own (ON.out _) hg (fun r e => ⟨Nat.le_trans YZ.out (hr r e).1, (hr r e).2⟩)⟩, ownLD_keeps (β := Unit) (Nat.le_refl _) () X Y row hs.2.2 hg hr⟩
        case hIc => exact fun pre x _ X Y row hs hg hr => ⟨by obtain ⟨A, H, h⟩ := hs.1; exact ⟨A, H, h.own (ON.out _) hg (fun r e => ⟨Nat.le_trans YZ.out (hr r e).1, (hr r e).2⟩)⟩, ownLD_keeps (β := Unit) (Nat.le_refl _) () X Y row hs.2.1 hg hr, hs.2.2⟩
        case hcome =>
          rintro pre x V0 V1 ⟨⟨A, H, h1⟩, h2, h3⟩ ⟨rfl, hx⟩
          have hB : Below V0.heap.size V0 (V0.alloc (.cells #[.int .i64 x.1, .int .i64 x.2] 112)) := (Below.refl _ _).alloc (Nat.le_refl _) _
          exact ⟨⟨A, H, h1.pastq (ON.out _) hB⟩, h2.trans (KeepsLD.below hB), h3, hx⟩
        case hAx => exact fun x a' _ X Y row hs _ _ => hs
        case assign =>
          rintro l pre x W K hi hK
          have HI : Hid ((∃ A H, UY w W b (NB + pre.length) A H (RN (pre.length : Int))) ∧ KeepsLD 0 y0 W ∧ pre = AS.take pre.length ∧ AS[pre.length]? = some x) := hi
          clear hi Y0 MY
          gi_wp2
          exact hK _ _ (KeepsLD.refl _ _) ⟨fun _ h => h, fun _ _ _ _ h => h⟩ HI.out rfl
        case body =>
          rintro l pre x a' W hl ⟨r, hlr⟩ ⟨⟨A, H, hU⟩, hK, hpre, hx⟩ rfl
          obtain ⟨kx, vx⟩ := x
          clear Y0 MY DL HH
          have hlt : pre.length < mm := by rw [← EM.out.1]; exact (List.getElem?_eq_some_iff.1 hx).1
          have HP : Hid (pre ++ [(kx, vx)] = AS.take (pre ++ [(kx, vx)]).length ∧ (pre ++ [(kx, vx)]).length = pre.length + 1) := by
            refine ⟨?_, by simp⟩
            rw [List.length_append, List.length_singleton, List.take_add_one, hx, ← hpre]
            rfl
          generalize hpq : pre ++ [(kx, vx)] = pq at HP ⊢
          clear hpq hpre
          generalize pre.length = q at hU hx hlt HP
          have U0 : Hid (UY w W b (NB + q) A H (RN (q : Int))) := hU
          have K0 : Hid (KeepsLD 0 y0 W) := hK
          have L0 : Hid (W.heap[l]? = some (.loop r)) := hlr
          have HX : Hid (AS[q]? = some (kx, vx) ∧ q < mm) := ⟨hx, hlt⟩
          clear hU hK hlr hx
          have CL : Hid (∀ n N A H V, UY w V b N A H (RN n) → (V.cell? ⟨nb, 0, none⟩ = some (.int .i64 n) ∧ V.cell? ⟨rq, 0, none⟩ = some (.int .i64 (rr : Int))) ∧ (V.cell? ⟨w.heap.size, 0, none⟩ = some (.slice a2 n2 p2) ∧ V.cell? ⟨sb, 0, none⟩ = some (.int .i64 stop)) ∧ V.cell? ⟨tb, 0, none⟩ = some (.pointer (some ⟨b, 0, none⟩)) ∧ (V.cell? ⟨xb, 0, none⟩ = some (.slice ka mm kc) ∧ V.cell? ⟨xb, 1, none⟩ = some (.slice va mm vc)) ∧ V.cell? ⟨jb, 0, none⟩ = some (.func (.func 82) #[] #[.pointer (some ⟨rb, 0, none⟩)])) := fun n N A H V h => by
            obtain ⟨ow, h⟩ := h.have
            obtain ⟨h1, h2, _⟩ := CN.out n ow V h
            obtain ⟨h3, h4⟩ := C1.out ow V h1
            obtain ⟨⟨h5, h6, _⟩, h7, h8, h9⟩ := CC.out ow V h3
            exact ⟨⟨h2, h4⟩, ⟨h5, h6⟩, h7, h8, h9⟩
          have KC : Hid (∀ n N A H V, UY w V b N A H (RN n) → ∀ i kx vx, AS[i]? = some (kx, vx) → ∃ g g', ka = some ⟨g, 0, none⟩ ∧ va = some ⟨g', 0, none⟩ ∧ V.cell? ⟨g, i, none⟩ = some (.int .i64 kx) ∧ V.cell? ⟨g', i, none⟩ = some (.int .i64 vx)) := fun n N A H V h => by
            obtain ⟨ow, h⟩ := h.have
            exact KV.out ow V (C1.out ow V (CN.out n ow V h).1).1
          obtain ⟨gk, gv, eka, eva, k0, v0⟩ := KC.out _ _ _ _ _ U0.out q kx vx HX.out.1
          subst eka eva
          obtain ⟨⟨n0, _⟩, ⟨p0, _⟩, t0, ⟨x0, x1⟩, _⟩ := CL.out _ _ _ _ _ U0.out
          have qI : ¬ (mm : Int) ≤ (q : Int) := by omega
          have qJ : (q : Int) < (mm : Int) := by omega
          have mX : (mm : Int) < 549755813888 := by have := NBX.out; omega
          by_cases hq : q < n2
          · have qn : (q : Int) < (n2 : Int) := by omega
            obtain ⟨g, a, rfl, ok0, dc⟩ := ops_at X2.out hq
            generalize (x2 q) = op at ok0 dc
            obtain ⟨kd, tw, ok, ov⟩ := op
            have OK : Hid (I64 ok) := ok0
            have CX : Hid (∀ V, UX w b (RN (q : Int)) V → (V.cell? ⟨tb, 0, none⟩ = some (.pointer (some ⟨b, 0, none⟩)) ∧ V.cell? ⟨w.heap.size, 0, none⟩ = some (.slice (some ⟨g, a, none⟩) n2 p2) ∧ V.cell? ⟨nb, 0, none⟩ = some (.int .i64 (q : Int))) ∧ V.cell? ⟨g, a + q * 4, none⟩ = some (.int .i64 kd) ∧ V.cell? ⟨g, a + q * 4 + 1, none⟩ = some (.bool tw) ∧ V.cell? ⟨g, a + q * 4 + 2, none⟩ = some (.int .i64 ok) ∧ V.cell? ⟨g, a + q * 4 + 3, none⟩ = some (.int .i64 ov)) := fun V ⟨N, A, H, h⟩ => by
              obtain ⟨⟨n0, _⟩, ⟨p0, _⟩, t0, _⟩ := CL.out _ _ _ _ _ h
              exact ⟨⟨t0, p0, n0⟩, dc V h.bel⟩
            clear ok0 dc
            gi_wp2
            clear n0 p0 t0 x0 x1 k0 v0
            have Z0 : Hid (UY w W.drew b (NB + q) A H (RN (q : Int))) := U0.out.pastq (ON.out _) (Below.refl _ _).drew
            have BD : Hid (KeepsLD 0 W W.drew ∧ AlK rb ad (kx, vx) W W.drew) := by
              have hB : Below W.heap.size W W.drew := (Below.refl _ _).drew
              exact ⟨KeepsLD.below hB, alk_own (W := W) ⟨fun _ h => h, fun _ _ _ _ h => h⟩ (grown_below hB) (fun r e => by cases e)⟩
            refine wpIn_region_heldR (S := UX w b (RN (q : Int))) (by kernel_rfl) (by simp) (fun ⟨_, _, h⟩ => h) (UX.of Z0.out) (fun hHeld => ?_)
            generalize W.drew = z0 at hHeld Z0 BD ⊢
            refine wpAnyH_take (i := 0) (v := .pointer (some ⟨b, 0, none⟩)) ov0 (by kernel_rfl) (by kernel_rfl) (by kernel_rfl) (fun _ _ _ h => h) (Or.inl ⟨by rfl, fun V' hS => ?_⟩) hHeld ?_
            · obtain ⟨⟨c0, c1, c2⟩, d0, d1, d2, d3⟩ := CX.out V' hS
              go_simp
            simp only [Act.put, List.setIfInBounds_toArray, List.set_cons_zero, List.set_cons_succ]
            refine wpAnyH_take (i := 1) (v := .slice (some ⟨g, a, none⟩) n2 p2) ov1 (by kernel_rfl) (by kernel_rfl) (by kernel_rfl) (fun _ _ _ h => h) (Or.inl ⟨by rfl, fun V' hS => ?_⟩) hHeld ?_
            · obtain ⟨⟨c0, c1, c2⟩, d0, d1, d2, d3⟩ := CX.out V' hS
              go_simp
            simp only [Act.put, List.setIfInBounds_toArray, List.set_cons_zero, List.set_cons_succ]
            refine wpAnyH_take (i := 2) (v := .int .i64 (q : Int)) ov2 (by kernel_rfl) (by kernel_rfl) (by kernel_rfl) (fun _ _ _ h => h) (Or.inl ⟨by rfl, fun V' hS => ?_⟩) hHeld ?_
            · obtain ⟨⟨c0, c1, c2⟩, d0, d1, d2, d3⟩ := CX.out V' hS
              go_simp
            simp only [Act.put, List.setIfInBounds_toArray, List.set_cons_zero, List.set_cons_succ]
            refine wpAnyH_take (i := 3) (v := .pointer (some ⟨g, a + q * 4, none⟩)) ov3 (by kernel_rfl) (by kernel_rfl) (by kernel_rfl) (fun _ _ _ h => h) (Or.inl ⟨by rfl, fun V' hS => ?_⟩) hHeld ?_
            · go_simp
            simp only [Act.put, List.setIfInBounds_toArray, List.set_cons_zero, List.set_cons_succ]
            refine wpAnyH_take (i := 4) (v := .agg #[.int .i64 kd, .bool tw, .int .i64 ok, .int .i64 ov]) ov4 (by kernel_rfl) (by kernel_rfl) (by kernel_rfl) (fun _ _ _ h => h) (Or.inl ⟨by rfl, fun V' hS => ?_⟩) hHeld ?_
            · obtain ⟨⟨c0, c1, c2⟩, d0, d1, d2, d3⟩ := CX.out V' hS
              go_simp
            simp only [Act.put, List.setIfInBounds_toArray, List.set_cons_zero, List.set_cons_succ]
            refine wpAnyH_ready (rs := [5]) (by kernel_rfl) (by simp) ?_
            refine AllReadyH.cons ov5 (fun K hK => ?_) AllReadyH.nil
            rw [if_pos (by rfl)]
            go_simp
            refine (Z0.out.doL (ON.out _) (by have := NBX.out; have := HX.out; omega) kd tw ok ov OK.out).mono ?_
            rintro e W1 ⟨rfl, h4, h5, h6⟩
            obtain ⟨A1, H1, u1⟩ : ∃ A1 H1, UY w W1 b (NB + q + 1) A1 H1 (RN (q : Int)) := ⟨_, _, h4⟩
            have U1 : Hid (UY w W1 b (NB + q + 1) A1 H1 (RN (q : Int))) := u1
            have KB : Hid (KeepsLD 0 W W1) := BD.out.1.trans (h5 0)
            have hal := KAL.out _ _ _ (fun ow V h => (CN.out _ ow V h).1) h6 (kx, vx)
            have AK : Hid (AlK rb ad (kx, vx) W W1) := ⟨fun v hv => hal.1 v (BD.out.2.1 v hv), fun g j v e hv => hal.2 g j v e (BD.out.2.2 g j v e hv)⟩
            clear h4 h5 h6 hal u1
            (try go_wp2_with fail)
            refine hK.out _ _ (UX.of U1.out) (fun _ => ?_)
            clear hK K
            (try simp only [Act.put, List.setIfInBounds_toArray, List.set_cons_zero, List.set_cons_succ])
            refine wpAnyH_done (by kernel_rfl) ?_ _
            clear hHeld Z0 CX BD
            obtain ⟨mb, emb⟩ : ∃ mb, mb = W1.heap.size := ⟨_, rfl⟩
            obtain ⟨RM, eRM⟩ : ∃ R : Int → (Nat → Nat) → World → Prop, R = fun m ow V => RN (q : Int) ow V ∧ (CBox V mb 3 [.int .i64 m] ∧ ow mb = 3) := ⟨_, rfl⟩
            have M0 : Hid (UY w (W1.alloc (.cells #[.int .i64 0] 3)) b (NB + q + 1) A1 H1 (RM 0)) := by rw [eRM, emb]; exact U1.out.boxq (ON.out _).st.none _ [_] 3
            have BM : Below W1.heap.size W1 (W1.alloc (.cells #[.int .i64 0] 3)) := (Below.refl _ _).alloc (Nat.le_refl _) _
            have OM : Hid (∀ m, Okr (RM m)) := fun m => by rw [eRM]; exact (ON.out _).and (Okr.box _ _ _ 3 (by omega))
            have CM : Hid (∀ m ow V, RM m ow V → RN (q : Int) ow V ∧ V.cell? ⟨mb, 0, none⟩ = some (.int .i64 m) ∧ V.frozen? ⟨mb, 0, none⟩ = false) := by rw [eRM]; exact fun m ow V h => ⟨h.1, h.2.1.cell 0, h.2.1.frozen 0⟩
            have SM : Hid (∀ m m' N A H V, UY w V b N A H (RM m) → UY w (V.setCell ⟨mb, 0, none⟩ (.int .i64 m')) b N A H (RM m') ∧ (∀ B, KeepsLD B V (V.setCell ⟨mb, 0, none⟩ (.int .i64 m'))) ∧ Kept (RN (q : Int)) V (V.setCell ⟨mb, 0, none⟩ (.int .i64 m'))) := by rw [eRM]; exact fun m m' N A H V h => h.setq (SN3.out _) (by omega) (by omega) _
            have CLM : Hid (∀ m N A H V, UY w V b N A H (RM m) → UY w V b N A H (RN (q : Int)) ∧ V.cell? ⟨mb, 0, none⟩ = some (.int .i64 m) ∧ V.frozen? ⟨mb, 0, none⟩ = false) := fun m N A H V h => by obtain ⟨ow, h2⟩ := h.have; exact ⟨h.imp fun ow V h => (CM.out m ow V h).1, (CM.out m ow V h2).2⟩
            have KR : Hid (∀ m ow V, RM m ow V → R1 ow V) := fun m ow V h => (CN.out _ ow V (CM.out m ow V h).1).1
            have L2 : Hid ((W1.alloc (.cells #[.int .i64 0] 3)).heap[l]? = some (.loop r)) := (KeepsLD.below (B := 0) BM).same l _ (Nat.zero_le _) (KB.out.same l _ (Nat.zero_le _) L0.out rfl) rfl
            have KB2 : Hid (KeepsLD 0 W (W1.alloc (.cells #[.int .i64 0] 3))) := KB.out.trans (KeepsLD.below BM)
            have AK2 : Hid (AlK rb ad (kx, vx) W (W1.alloc (.cells #[.int .i64 0] 3))) := ⟨fun v hv => (BM.cell (p := ⟨rb, 0, none⟩) (World.block_lt_of_cell? W1 _ (AK.out.1 v hv))).trans (AK.out.1 v hv), fun g j v e hv => (BM.cell (p := ⟨g, j, none⟩) (World.block_lt_of_cell? W1 _ (AK.out.2 g j v e hv))).trans (AK.out.2 g j v e hv)⟩
            have j1 : (W1.alloc (.cells #[.int .i64 0] 3)).cell? ⟨jb, 0, none⟩ = some (.func (.func 82) #[] #[.pointer (some ⟨rb, 0, none⟩)]) := (CL.out _ _ _ _ _ (CLM.out _ _ _ _ _ M0.out).1).2.2.2.2
            clear eRM BM U1 KB AK U0 L0
            gi_wp2
            rw [← emb]
            clear emb
            generalize W1.alloc (.cells #[.int .i64 0] 3) = y1 at M0 L2 KB2 AK2 j1 ⊢
            clear j1
            have Y1Z : Hid (w.heap.size ≤ y1.heap.size) := M0.out.bel.size
            refine wpIn_rangeFunc_yN (F := Fence.wide.inRound l) (n := 8) (α := Int × Int) rfl L2.out (by omega) (gf := 82) (lb := #[.pointer (some ⟨rb, 0, none⟩)]) rfl trivial (enters_of Try.func82 (by kernel_rfl) rfl)
              ((all2_seq 7 (by omega) rb ad cap AS (by have := NBX.out; have := EM.out; omega) y1 (ALE.out _ _ _ _ _ (CLM.out _ _ _ _ _ M0.out).1)).inRound l)
              (fun _ _ _ _ h k => ⟨fun v hv => k.1 v (h.1 v hv), fun g j v e hv => k.2 g j v e (h.2 g j v e hv)⟩) (fun _ W r ob ob' _ hr hc => ⟨fun v hv => put_cell hr (isLD_not hc) hv, fun g j v _ hv => put_cell hr (isLD_not hc) hv⟩)
              (Below.refl _ _) (fun _ => rfl) (fun pre x V0 V1 hc => by rw [hc.1]; exact KeepsLD.below ((Below.refl _ _).alloc (Nat.le_refl _) _))
              (fun p V => (∃ A H, UY w V b (NB + q + 1) A H (RM (p.length : Int))) ∧ (KeepsLD 0 y1 V ∧ AlK rb ad (kx, vx) y1 V) ∧ p = AS.take p.length)
              (fun c p V => (c = .exit 6 ∧ 2 < q) ∧ (∃ A H m, UY w V b (NB + q + 1) A H (RM m)) ∧ (KeepsLD 0 y1 V ∧ AlK rb ad (kx, vx) y1 V))
              (fun p y V => (∃ A H, UY w V b (NB + q + 1) A H (RM (p.length : Int))) ∧ (KeepsLD 0 y1 V ∧ AlK rb ad (kx, vx) y1 V) ∧ p = AS.take p.length ∧ AS[p.length]? = some y)
              ?hI2 ?hIx2 ?hIc2 ?hcome2 ⟨⟨A1, H1, M0.out⟩, ⟨KeepsLD.refl _ _, fun _ h => h, fun _ _ _ _ h => h⟩, by simp⟩ (fun y a' V => a' = { tmps := #[.slice a1 n1 p1, .slice (some ⟨g, a, none⟩) n2 p2, .int .i64 stop, undef, .pointer (some ⟨w.heap.size, 0, none⟩), .pointer (some ⟨sb, 0, none⟩), .pointer (some ⟨ob, 0, none⟩), .pointer (some ⟨tb, 0, none⟩), .int .i64 (i : Int), .pointer (some ⟨xb, 0, none⟩), .pointer (some ⟨jb, 0, none⟩), .pointer (some ⟨rq, 0, none⟩), .pointer (some ⟨nb, 0, none⟩), .int .i64 kx, .int .i64 vx, .pointer (some ⟨mb, 0, none⟩), .int .i64 y.1, .int .i64 y.2, .slice a1 n1 p1, .int .i64 (n1 : Int), .bool false, .bool false, .slice (some ⟨g, a, none⟩) n2 p2, .int .i64 (n2 : Int), .bool false, .bool false, .pointer (some ⟨b, 0, none⟩), .pointer (some ⟨b, 0, none⟩), .bool false, .int .i64 (i : Int), .slice a1 n1 p1, .int .i64 (n1 : Int), .bool false, u33, u34, u35, u36, u37, u38, u39, u40, .pointer (some ⟨b, 0, none⟩), .tuple #[], .pointer (some ⟨b, 0, none⟩), .agg #[.slice (some ⟨gk, 0, none⟩) mm kc, .slice (some ⟨gv, 0, none⟩) mm vc], .pointer (some ⟨b, 0, none⟩), .func (.func 82) #[] #[.pointer (some ⟨rb, 0, none⟩)], .func (.func 82) #[] #[.pointer (some ⟨rb, 0, none⟩)], .bool false, .int .i64 (rr : Int), .bool true, u51, u52, .func (.func 82) #[] #[.pointer (some ⟨rb, 0, none⟩)], .int .i64 kx, .int .i64 vx, .int .i64 (q : Int), .pointer (some ⟨xb, 0, none⟩), .slice (some ⟨gk, 0, none⟩) mm kc, .int .i64 (mm : Int), .bool false, .bool false, .int .i64 kx, .pointer (some ⟨xb, 0, none⟩), .slice (some ⟨gk, 0, none⟩) mm kc, .int .i64 (q : Int), .pointer (some ⟨gk, q, none⟩), .int .i64 kx, .bool false, .bool false, .bool false, .int .i64 vx, .pointer (some ⟨xb, 1, none⟩), .slice (some ⟨gv, 0, none⟩) mm vc, .int .i64 (q : Int), .pointer (some ⟨gv, q, none⟩), .int .i64 vx, .bool false, .bool false, .int .i64 (q : Int), .slice (some ⟨g, a, none⟩) n2 p2, .int .i64 (n2 : Int), .bool true, .pointer (some ⟨b, 0, none⟩), .slice (some ⟨g, a, none⟩) n2 p2, .int .i64 (q : Int), .pointer (some ⟨g, a + q * 4, none⟩), .agg #[.int .i64 kd, .bool tw, .int .i64 ok, .int .i64 ov], .tuple #[], .func (.func 82) #[] #[.pointer (some ⟨rb, 0, none⟩)], .int .i64 y.1, .int .i64 y.2, undef, undef, undef, undef, undef, undef, undef, undef, undef, undef, undef, undef, undef, undef, undef, undef, undef, undef, undef, undef, undef, undef, undef, undef, undef, undef, undef, undef, undef, undef, undef, undef, undef, undef, undef, undef, undef, undef, undef, undef, undef, undef, undef, undef, undef, undef, undef, u139, u140, u141, u142, u143, u144, u145, u146, u147, u148, u149, u150, u151, u152, u153, undef], defers := [] }) ?hAx2 ?assign2 ?body2 ?done2 ?st2
            case hI2 => exact fun s X Y row hs hg hr => ⟨by obtain ⟨A, H, h⟩ := hs.1; exact ⟨A, H, h.own (OM.out _) hg (fun r e => ⟨Nat.le_trans Y1Z.out (hr r e).1, (hr r e).2⟩)⟩, ⟨ownLD_keeps (β := Unit) (Nat.le_refl _) () X Y row hs.2.1.1 hg hr, alk_own hs.2.1.2 hg (fun r e => (hr r e).2)⟩, hs.2.2⟩
            case hIx2 => exact fun c s X Y row hs hg hr => ⟨hs.1, by obtain ⟨A, H, m, h⟩ := hs.2.1; exact ⟨A, H, m, h.own (OM.out _) hg (fun r e => ⟨Nat.le_trans Y1Z.out (hr r e).1, (hr r e).2⟩)⟩, ownLD_keeps (β := Unit) (Nat.le_refl _) () X Y row hs.2.2.1 hg hr, alk_own hs.2.2.2 hg (fun r e => (hr r e).2)⟩
            case hIc2 => exact fun pre x _ X Y row hs hg hr => ⟨by obtain ⟨A, H, h⟩ := hs.1; exact ⟨A, H, h.own (OM.out _) hg (fun r e => ⟨Nat.le_trans Y1Z.out (hr r e).1, (hr r e).2⟩)⟩, ⟨ownLD_keeps (β := Unit) (Nat.le_refl _) () X Y row hs.2.1.1 hg hr, alk_own hs.2.1.2 hg (fun r e => (hr r e).2)⟩, hs.2.2⟩
            case hcome2 =>
              rintro p y V0 V1 ⟨⟨A, H, h1⟩, ⟨h2, h4⟩, h3⟩ ⟨rfl, hx⟩
              have hB : Below V0.heap.size V0 (V0.alloc (.cells #[.int .i64 y.1, .int .i64 y.2] 112)) := (Below.refl _ _).alloc (Nat.le_refl _) _
              exact ⟨⟨A, H, h1.pastq (OM.out _) hB⟩, ⟨h2.trans (KeepsLD.below hB), alk_own h4 (grown_below hB) (fun r e => by cases e)⟩, h3, hx⟩
            case hAx2 => exact fun x a' _ X Y row hs _ _ => hs
            case assign2 =>
              rintro l2 p y V K hi hK
              have HI : Hid ((∃ A H, UY w V b (NB + q + 1) A H (RM (p.length : Int))) ∧ (KeepsLD 0 y1 V ∧ AlK rb ad (kx, vx) y1 V) ∧ p = AS.take p.length ∧ AS[p.length]? = some y) := hi
              clear hi M0 L2 KB2 AK2
              gi_wp2
              exact hK _ _ (KeepsLD.refl _ _) ⟨fun _ h => h, fun _ _ _ _ h => h⟩ HI.out rfl
            case body2 =>
              rintro l2 p y a' V hl2 ⟨r2, hlr2⟩ ⟨⟨A, H, hU⟩, ⟨hK, hA⟩, hpre, hx⟩ rfl
              obtain ⟨ky, vy⟩ := y
              clear M0 L2 KB2 AK2 hlr2 hl2
              have hltm : p.length < mm := by rw [← EM.out.1]; exact (List.getElem?_eq_some_iff.1 hx).1
              have HP2 : Hid (p ++ [(ky, vy)] = AS.take (p ++ [(ky, vy)]).length ∧ (p ++ [(ky, vy)]).length = p.length + 1) := by
                refine ⟨?_, by simp⟩
                rw [List.length_append, List.length_singleton, List.take_add_one, hx, ← hpre]
                rfl
              generalize hpq : p ++ [(ky, vy)] = pp at HP2 ⊢
              clear hpq hpre
              generalize p.length = m at hU hx hltm HP2
              obtain ⟨hN, m0, mf⟩ := CLM.out _ _ _ _ _ hU
              obtain ⟨⟨n0, _⟩, _, _, ⟨x0, x1⟩, _⟩ := CL.out _ _ _ _ _ hN
              obtain ⟨gk2, gv2, eka, eva, k0, v0⟩ := KC.out _ _ _ _ _ hN m ky vy hx
              injection eka with eka
              injection eka with eka
              injection eva with eva
              injection eva with eva
              subst eka eva
              obtain ⟨s1, s2, s3⟩ := SM.out (m : Int) ((m : Int) + 1) _ _ _ _ hU
              have S1 : Hid (UY w (V.setCell ⟨mb, 0, none⟩ (.int .i64 ((m : Int) + 1))) b (NB + q + 1) A H (RM ((m : Int) + 1)) ∧ (∀ B, KeepsLD B V (V.setCell ⟨mb, 0, none⟩ (.int .i64 ((m : Int) + 1)))) ∧ Kept (RN (q : Int)) V (V.setCell ⟨mb, 0, none⟩ (.int .i64 ((m : Int) + 1)))) := ⟨s1, s2, s3⟩
              have UV0 : Hid (UY w V b (NB + q + 1) A H (RM (m : Int)) ∧ KeepsLD 0 y1 V ∧ AlK rb ad (kx, vx) y1 V) := ⟨hU, hK, hA⟩
              clear hU hK hA hN hx s1 s2 s3
              have mI : ¬ (mm : Int) ≤ (m : Int) := by omega
              have mJ : (m : Int) < (mm : Int) := by omega
              by_cases hq2 : 2 < q
              · have q2 : (2 : Int) < (q : Int) := by omega
                gi_wp2
                exact ⟨KeepsLD.refl _ _, (by first | exact ⟨rfl, hq2⟩ | exact rfl | exact hq2), ⟨A, H, _, UV0.out.1⟩, UV0.out.2⟩
              · have q2 : ¬ (2 : Int) < (q : Int) := by omega
                gi_wp2
                have hal := KAL.out _ _ _ (fun ow V h => (CN.out _ ow V h).1) S1.out.2.2 (kx, vx)
                exact ⟨S1.out.2.1 _, hal, ⟨A, H, by rw [HP2.out.2, show ((m + 1 : Nat) : Int) = (m : Int) + 1 by omega]; exact S1.out.1⟩, ⟨UV0.out.2.1.trans (S1.out.2.1 0), fun v hv => hal.1 v (UV0.out.2.2.1 v hv), fun g j v e hv => hal.2 g j v e (UV0.out.2.2.2 g j v e hv)⟩, HP2.out.1⟩
            case done2 =>
              rintro xs V hS ⟨⟨A, H, hU⟩, ⟨hK, hA⟩, _⟩
              have hxl : xs.length = mm := by rw [hS]; exact EM.out.1
              rw [hxl] at hU
              clear hS hxl M0 L2
              obtain ⟨mv, hmm, hU⟩ : ∃ mv : Int, (¬ 2 < q → mv = (mm : Int)) ∧ UY w V b (NB + q + 1) A H (RM mv) := ⟨_, fun _ => rfl, hU⟩
              obtain ⟨hN, m0, _⟩ := CLM.out _ _ _ _ _ hU
              obtain ⟨⟨n0, _⟩, _, _, ⟨x0, _⟩, _⟩ := CL.out _ _ _ _ _ hN
              have nf : V.frozen? ⟨nb, 0, none⟩ = false := by obtain ⟨ow, h⟩ := hN.have; exact (CN.out _ ow V h).2.2
              obtain ⟨s1, s2, s3⟩ := SN.out (q : Int) ((q : Int) + 1) _ _ _ _ hN
              have hal := KAL.out _ _ _ (fun _ _ h => h) s3 (kx, vx)
              have E1 : Hid ((KeepsLD 0 W (V.setCell ⟨nb, 0, none⟩ (.int .i64 ((q : Int) + 1))) ∧ AlK rb ad (kx, vx) W (V.setCell ⟨nb, 0, none⟩ (.int .i64 ((q : Int) + 1)))) ∧ UY w (V.setCell ⟨nb, 0, none⟩ (.int .i64 ((q : Int) + 1))) b (NB + pq.length) A H (RN (pq.length : Int)) ∧ KeepsLD 0 y0 (V.setCell ⟨nb, 0, none⟩ (.int .i64 ((q : Int) + 1)))) := by
                have k1 : KeepsLD 0 W (V.setCell ⟨nb, 0, none⟩ (.int .i64 ((q : Int) + 1))) := (KB2.out.trans hK).trans (s2 0)
                refine ⟨⟨k1, fun v hv => hal.1 v (hA.1 v (AK2.out.1 v hv)), fun g j v e hv => hal.2 g j v e (hA.2 g j v e (AK2.out.2 g j v e hv))⟩, ?_, K0.out.trans k1⟩
                rw [HP.out.2, show ((q + 1 : Nat) : Int) = (q : Int) + 1 by omega]
                exact s1
              obtain ⟨⟨n1, r1⟩, ⟨_, sp1⟩, _⟩ := CL.out _ _ _ _ _ s1
              clear hN hU hK hA s1 s2 s3 hal
              by_cases hst : (q : Int) + 1 = stop
              · subst hst
                by_cases hr0 : rr = 0
                · have rI0 : (rr : Int) = 0 := by omega
                  rw [rI0] at r1
                  by_cases hq2 : 2 < q
                  · have q2 : ¬ (q : Int) ≤ 2 := by omega
                    gi_wp2
                    exact ⟨E1.out.1.1.mono (Nat.zero_le _), (by first | exact ⟨rfl, hr0, by rw [HP.out.2]; omega, by rw [HP.out.2]; exact HX.out.2⟩ | exact ⟨rfl, by rw [HP.out.2]; omega, by rw [HP.out.2]; exact HX.out.2⟩ | exact ⟨by rw [HP.out.2]; omega, by rw [HP.out.2]; exact HX.out.2⟩), ⟨A, H, E1.out.2.1⟩, E1.out.2.2⟩
                  · have q2 : (q : Int) ≤ 2 := by omega
                    have hm2 := hmm hq2
                    rw [hm2] at m0
                    gi_wp2
                    exact ⟨E1.out.1.1.mono (Nat.zero_le _), (by first | exact ⟨rfl, hr0, by rw [HP.out.2]; omega, by rw [HP.out.2]; exact HX.out.2⟩ | exact ⟨rfl, by rw [HP.out.2]; omega, by rw [HP.out.2]; exact HX.out.2⟩ | exact ⟨by rw [HP.out.2]; omega, by rw [HP.out.2]; exact HX.out.2⟩), ⟨A, H, E1.out.2.1⟩, E1.out.2.2⟩
                · have rI0 : ¬ (rr : Int) = 0 := by omega
                  have rB : ((rr : Int) == 0) = false := by simpa using hr0
                  have rD : decide ((rr : Int) = 0) = false := decide_eq_false rI0
                  by_cases hq2 : 2 < q
                  · have q2 : ¬ (q : Int) ≤ 2 := by omega
                    gi_wp2
                    exact ⟨E1.out.1.1.mono (Nat.zero_le _), E1.out.1.2, ⟨A, H, E1.out.2.1⟩, E1.out.2.2, HP.out.1⟩
                  · have q2 : (q : Int) ≤ 2 := by omega
                    have hm2 := hmm hq2
                    rw [hm2] at m0
                    gi_wp2
                    exact ⟨E1.out.1.1.mono (Nat.zero_le _), E1.out.1.2, ⟨A, H, E1.out.2.1⟩, E1.out.2.2, HP.out.1⟩
              · have he2 : (((q : Int) + 1) == stop) = false := by simpa using hst
                have he3 : decide ((q : Int) + 1 = stop) = false := decide_eq_false hst
                by_cases hq2 : 2 < q
                · have q2 : ¬ (q : Int) ≤ 2 := by omega
                  gi_wp2
                  exact ⟨E1.out.1.1.mono (Nat.zero_le _), E1.out.1.2, ⟨A, H, E1.out.2.1⟩, E1.out.2.2, HP.out.1⟩
                · have q2 : (q : Int) ≤ 2 := by omega
                  have hm2 := hmm hq2
                  rw [hm2] at m0
                  gi_wp2
                  exact ⟨E1.out.1.1.mono (Nat.zero_le _), E1.out.1.2, ⟨A, H, E1.out.2.1⟩, E1.out.2.2, HP.out.1⟩
            case st2 =>
              rintro cd p V _ ⟨⟨rfl, h2q⟩, ⟨A, H, mv, hU⟩, hK, hA⟩
              clear M0 L2
              have hmm : ¬ 2 < q → mv = (mm : Int) := fun h => absurd h2q h
              obtain ⟨hN, m0, _⟩ := CLM.out _ _ _ _ _ hU
              obtain ⟨⟨n0, _⟩, _, _, ⟨x0, _⟩, _⟩ := CL.out _ _ _ _ _ hN
              have nf : V.frozen? ⟨nb, 0, none⟩ = false := by obtain ⟨ow, h⟩ := hN.have; exact (CN.out _ ow V h).2.2
              obtain ⟨s1, s2, s3⟩ := SN.out (q : Int) ((q : Int) + 1) _ _ _ _ hN
              have hal := KAL.out _ _ _ (fun _ _ h => h) s3 (kx, vx)
              have E1 : Hid ((KeepsLD 0 W (V.setCell ⟨nb, 0, none⟩ (.int .i64 ((q : Int) + 1))) ∧ AlK rb ad (kx, vx) W (V.setCell ⟨nb, 0, none⟩ (.int .i64 ((q : Int) + 1)))) ∧ UY w (V.setCell ⟨nb, 0, none⟩ (.int .i64 ((q : Int) + 1))) b (NB + pq.length) A H (RN (pq.length : Int)) ∧ KeepsLD 0 y0 (V.setCell ⟨nb, 0, none⟩ (.int .i64 ((q : Int) + 1)))) := by
                have k1 : KeepsLD 0 W (V.setCell ⟨nb, 0, none⟩ (.int .i64 ((q : Int) + 1))) := (KB2.out.trans hK).trans (s2 0)
                refine ⟨⟨k1, fun v hv => hal.1 v (hA.1 v (AK2.out.1 v hv)), fun g j v e hv => hal.2 g j v e (hA.2 g j v e (AK2.out.2 g j v e hv))⟩, ?_, K0.out.trans k1⟩
                rw [HP.out.2, show ((q + 1 : Nat) : Int) = (q : Int) + 1 by omega]
                exact s1
              obtain ⟨⟨n1, r1⟩, ⟨_, sp1⟩, _⟩ := CL.out _ _ _ _ _ s1
              clear hN hU hK hA s1 s2 s3 hal
              by_cases hst : (q : Int) + 1 = stop
              · subst hst
                by_cases hr0 : rr = 0
                · have rI0 : (rr : Int) = 0 := by omega
                  rw [rI0] at r1
                  have q2 : ¬ (q : Int) ≤ 2 := by omega
                  gi_wp2
                  exact ⟨E1.out.1.1.mono (Nat.zero_le _), (by first | exact ⟨rfl, hr0, by rw [HP.out.2]; omega, by rw [HP.out.2]; exact HX.out.2⟩ | exact ⟨rfl, by rw [HP.out.2]; omega, by rw [HP.out.2]; exact HX.out.2⟩ | exact ⟨by rw [HP.out.2]; omega, by rw [HP.out.2]; exact HX.out.2⟩), ⟨A, H, E1.out.2.1⟩, E1.out.2.2⟩
                · have rI0 : ¬ (rr : Int) = 0 := by omega
                  have rB : ((rr : Int) == 0) = false := by simpa using hr0
                  have rD : decide ((rr : Int) = 0) = false := decide_eq_false rI0
                  have q2 : ¬ (q : Int) ≤ 2 := by omega
                  gi_wp2
                  exact ⟨E1.out.1.1.mono (Nat.zero_le _), E1.out.1.2, ⟨A, H, E1.out.2.1⟩, E1.out.2.2, HP.out.1⟩
              · have he2 : (((q : Int) + 1) == stop) = false := by simpa using hst
                have he3 : decide ((q : Int) + 1 = stop) = false := decide_eq_false hst
                have q2 : ¬ (q : Int) ≤ 2 := by omega
                gi_wp2
                exact ⟨E1.out.1.1.mono (Nat.zero_le _), E1.out.1.2, ⟨A, H, E1.out.2.1⟩, E1.out.2.2, HP.out.1⟩
          · have qn : ¬ (q : Int) < (n2 : Int) := by omega
            have U1 : Hid (UY w W b (NB + q + 1) A H (RN (q : Int))) := U0.out.mono (by omega)
            have KB : Hid (KeepsLD 0 W W) := KeepsLD.refl _ _
            have AK : Hid (AlK rb ad (kx, vx) W W) := ⟨fun _ h => h, fun _ _ _ _ h => h⟩
            obtain ⟨W1, eW⟩ : ∃ W1, W1 = W := ⟨_, rfl⟩
            have A1 := A
            obtain ⟨mb, emb⟩ : ∃ mb, mb = W.heap.size := ⟨_, rfl⟩
            obtain ⟨RM, eRM⟩ : ∃ R : Int → (Nat → Nat) → World → Prop, R = fun m ow V => RN (q : Int) ow V ∧ (CBox V mb 3 [.int .i64 m] ∧ ow mb = 3) := ⟨_, rfl⟩
            have M0 : Hid (UY w (W.alloc (.cells #[.int .i64 0] 3)) b (NB + q + 1) A H (RM 0)) := by rw [eRM, emb]; exact U1.out.boxq (ON.out _).st.none _ [_] 3
            have BM : Below W.heap.size W (W.alloc (.cells #[.int .i64 0] 3)) := (Below.refl _ _).alloc (Nat.le_refl _) _
            have OM : Hid (∀ m, Okr (RM m)) := fun m => by rw [eRM]; exact (ON.out _).and (Okr.box _ _ _ 3 (by omega))
            have CM : Hid (∀ m ow V, RM m ow V → RN (q : Int) ow V ∧ V.cell? ⟨mb, 0, none⟩ = some (.int .i64 m) ∧ V.frozen? ⟨mb, 0, none⟩ = false) := by rw [eRM]; exact fun m ow V h => ⟨h.1, h.2.1.cell 0, h.2.1.frozen 0⟩
            have SM : Hid (∀ m m' N A H V, UY w V b N A H (RM m) → UY w (V.setCell ⟨mb, 0, none⟩ (.int .i64 m')) b N A H (RM m') ∧ (∀ B, KeepsLD B V (V.setCell ⟨mb, 0, none⟩ (.int .i64 m'))) ∧ Kept (RN (q : Int)) V (V.setCell ⟨mb, 0, none⟩ (.int .i64 m'))) := by rw [eRM]; exact fun m m' N A H V h => h.setq (SN3.out _) (by omega) (by omega) _
            have CLM : Hid (∀ m N A H V, UY w V b N A H (RM m) → UY w V b N A H (RN (q : Int)) ∧ V.cell? ⟨mb, 0, none⟩ = some (.int .i64 m) ∧ V.frozen? ⟨mb, 0, none⟩ = false) := fun m N A H V h => by obtain ⟨ow, h2⟩ := h.have; exact ⟨h.imp fun ow V h => (CM.out m ow V h).1, (CM.out m ow V h2).2⟩
            have KR : Hid (∀ m ow V, RM m ow V → R1 ow V) := fun m ow V h => (CN.out _ ow V (CM.out m ow V h).1).1
            have L2 : Hid ((W.alloc (.cells #[.int .i64 0] 3)).heap[l]? = some (.loop r)) := (KeepsLD.below (B := 0) BM).same l _ (Nat.zero_le _) (KB.out.same l _ (Nat.zero_le _) L0.out rfl) rfl
            have KB2 : Hid (KeepsLD 0 W (W.alloc (.cells #[.int .i64 0] 3))) := KB.out.trans (KeepsLD.below BM)
            have AK2 : Hid (AlK rb ad (kx, vx) W (W.alloc (.cells #[.int .i64 0] 3))) := ⟨fun v hv => (BM.cell (p := ⟨rb, 0, none⟩) (World.block_lt_of_cell? W _ (AK.out.1 v hv))).trans (AK.out.1 v hv), fun g j v e hv => (BM.cell (p := ⟨g, j, none⟩) (World.block_lt_of_cell? W _ (AK.out.2 g j v e hv))).trans (AK.out.2 g j v e hv)⟩
            have j1 : (W.alloc (.cells #[.int .i64 0] 3)).cell? ⟨jb, 0, none⟩ = some (.func (.func 82) #[] #[.pointer (some ⟨rb, 0, none⟩)]) := (CL.out _ _ _ _ _ (CLM.out _ _ _ _ _ M0.out).1).2.2.2.2
            clear eRM BM U1 KB AK U0 L0
            gi_wp2
            rw [← emb]
            clear emb
            generalize W.alloc (.cells #[.int .i64 0] 3) = y1 at M0 L2 KB2 AK2 j1 ⊢
            clear j1
            have Y1Z : Hid (w.heap.size ≤ y1.heap.size) := M0.out.bel.size
            refine wpIn_rangeFunc_yN (F := Fence.wide.inRound l) (n := 8) (α := Int × Int) rfl L2.out (by omega) (gf := 82) (lb := #[.pointer (some ⟨rb, 0, none⟩)]) rfl trivial (enters_of Try.func82 (by kernel_rfl) rfl)
              ((all2_seq 7 (by omega) rb ad cap AS (by have := NBX.out; have := EM.out; omega) y1 (ALE.out _ _ _ _ _ (CLM.out _ _ _ _ _ M0.out).1)).inRound l)
              (fun _ _ _ _ h k => ⟨fun v hv => k.1 v (h.1 v hv), fun g j v e hv => k.2 g j v e (h.2 g j v e hv)⟩) (fun _ W r ob ob' _ hr hc => ⟨fun v hv => put_cell hr (isLD_not hc) hv, fun g j v _ hv => put_cell hr (isLD_not hc) hv⟩)
              (Below.refl _ _) (fun _ => rfl) (fun pre x V0 V1 hc => by rw [hc.1]; exact KeepsLD.below ((Below.refl _ _).alloc (Nat.le_refl _) _))
              (fun p V => (∃ A H, UY w V b (NB + q + 1) A H (RM (p.length : Int))) ∧ (KeepsLD 0 y1 V ∧ AlK rb ad (kx, vx) y1 V) ∧ p = AS.take p.length)
              (fun c p V => (c = .exit 6 ∧ 2 < q) ∧ (∃ A H m, UY w V b (NB + q + 1) A H (RM m)) ∧ (KeepsLD 0 y1 V ∧ AlK rb ad (kx, vx) y1 V))
              (fun p y V => (∃ A H, UY w V b (NB + q + 1) A H (RM (p.length : Int))) ∧ (KeepsLD 0 y1 V ∧ AlK rb ad (kx, vx) y1 V) ∧ p = AS.take p.length ∧ AS[p.length]? = some y)
              ?hI2 ?hIx2 ?hIc2 ?hcome2 ⟨⟨A, H, M0.out⟩, ⟨KeepsLD.refl _ _, fun _ h => h, fun _ _ _ _ h => h⟩, by simp⟩ (fun y a' V => a' = { tmps := #[.slice a1 n1 p1, .slice a2 n2 p2, .int .i64 stop, undef, .pointer (some ⟨w.heap.size, 0, none⟩), .pointer (some ⟨sb, 0, none⟩), .pointer (some ⟨ob, 0, none⟩), .pointer (some ⟨tb, 0, none⟩), .int .i64 (i : Int), .pointer (some ⟨xb, 0, none⟩), .pointer (some ⟨jb, 0, none⟩), .pointer (some ⟨rq, 0, none⟩), .pointer (some ⟨nb, 0, none⟩), .int .i64 kx, .int .i64 vx, .pointer (some ⟨mb, 0, none⟩), .int .i64 y.1, .int .i64 y.2, .slice a1 n1 p1, .int .i64 (n1 : Int), .bool false, .bool false, .slice a2 n2 p2, .int .i64 (n2 : Int), .bool false, .bool false, .pointer (some ⟨b, 0, none⟩), .pointer (some ⟨b, 0, none⟩), .bool false, .int .i64 (i : Int), .slice a1 n1 p1, .int .i64 (n1 : Int), .bool false, u33, u34, u35, u36, u37, u38, u39, u40, .pointer (some ⟨b, 0, none⟩), .tuple #[], .pointer (some ⟨b, 0, none⟩), .agg #[.slice (some ⟨gk, 0, none⟩) mm kc, .slice (some ⟨gv, 0, none⟩) mm vc], .pointer (some ⟨b, 0, none⟩), .func (.func 82) #[] #[.pointer (some ⟨rb, 0, none⟩)], .func (.func 82) #[] #[.pointer (some ⟨rb, 0, none⟩)], .bool false, .int .i64 (rr : Int), .bool true, u51, u52, .func (.func 82) #[] #[.pointer (some ⟨rb, 0, none⟩)], .int .i64 kx, .int .i64 vx, .int .i64 (q : Int), .pointer (some ⟨xb, 0, none⟩), .slice (some ⟨gk, 0, none⟩) mm kc, .int .i64 (mm : Int), .bool false, .bool false, .int .i64 kx, .pointer (some ⟨xb, 0, none⟩), .slice (some ⟨gk, 0, none⟩) mm kc, .int .i64 (q : Int), .pointer (some ⟨gk, q, none⟩), .int .i64 kx, .bool false, .bool false, .bool false, .int .i64 vx, .pointer (some ⟨xb, 1, none⟩), .slice (some ⟨gv, 0, none⟩) mm vc, .int .i64 (q : Int), .pointer (some ⟨gv, q, none⟩), .int .i64 vx, .bool false, .bool false, .int .i64 (q : Int), .slice a2 n2 p2, .int .i64 (n2 : Int), .bool false, undef, undef, undef, undef, undef, undef, .func (.func 82) #[] #[.pointer (some ⟨rb, 0, none⟩)], .int .i64 y.1, .int .i64 y.2, undef, undef, undef, undef, undef, undef, undef, undef, undef, undef, undef, undef, undef, undef, undef, undef, undef, undef, undef, undef, undef, undef, undef, undef, undef, undef, undef, undef, undef, undef, undef, undef, undef, undef, undef, undef, undef, undef, undef, undef, undef, undef, undef, undef, undef, undef, undef, u139, u140, u141, u142, u143, u144, u145, u146, u147, u148, u149, u150, u151, u152, u153, undef], defers := [] }) ?hAx2 ?assign2 ?body2 ?done2 ?st2
            case hI2 => exact fun s X Y row hs hg hr => ⟨by obtain ⟨A, H, h⟩ := hs.1; exact ⟨A, H, h.own (OM.out _) hg (fun r e => ⟨Nat.le_trans Y1Z.out (hr r e).1, (hr r e).2⟩)⟩, ⟨ownLD_keeps (β := Unit) (Nat.le_refl _) () X Y row hs.2.1.1 hg hr, alk_own hs.2.1.2 hg (fun r e => (hr r e).2)⟩, hs.2.2⟩
            case hIx2 => exact fun c s X Y row hs hg hr => ⟨hs.1, by obtain ⟨A, H, m, h⟩ := hs.2.1; exact ⟨A, H, m, h.own (OM.out _) hg (fun r e => ⟨Nat.le_trans Y1Z.out (hr r e).1, (hr r e).2⟩)⟩, ownLD_keeps (β := Unit) (Nat.le_refl _) () X Y row hs.2.2.1 hg hr, alk_own hs.2.2.2 hg (fun r e => (hr r e).2)⟩
            case hIc2 => exact fun pre x _ X Y row hs hg hr => ⟨by obtain ⟨A, H, h⟩ := hs.1; exact ⟨A, H, h.own (OM.out _) hg (fun r e => ⟨Nat.le_trans Y1Z.out (hr r e).1, (hr r e).2⟩)⟩, ⟨ownLD_keeps (β := Unit) (Nat.le_refl _) () X Y row hs.2.1.1 hg hr, alk_own hs.2.1.2 hg (fun r e => (hr r e).2)⟩, hs.2.2⟩
            case hcome2 =>
              rintro p y V0 V1 ⟨⟨A, H, h1⟩, ⟨h2, h4⟩, h3⟩ ⟨rfl, hx⟩
              have hB : Below V0.heap.size V0 (V0.alloc (.cells #[.int .i64 y.1, .int .i64 y.2] 112)) := (Below.refl _ _).alloc (Nat.le_refl _) _
              exact ⟨⟨A, H, h1.pastq (OM.out _) hB⟩, ⟨h2.trans (KeepsLD.below hB), alk_own h4 (grown_below hB) (fun r e => by cases e)⟩, h3, hx⟩
            case hAx2 => exact fun x a' _ X Y row hs _ _ => hs
            case assign2 =>
              rintro l2 p y V K hi hK
              have HI : Hid ((∃ A H, UY w V b (NB + q + 1) A H (RM (p.length : Int))) ∧ (KeepsLD 0 y1 V ∧ AlK rb ad (kx, vx) y1 V) ∧ p = AS.take p.length ∧ AS[p.length]? = some y) := hi
              clear hi M0 L2 KB2 AK2
              gi_wp2
              exact hK _ _ (KeepsLD.refl _ _) ⟨fun _ h => h, fun _ _ _ _ h => h⟩ HI.out rfl
            case body2 =>
              rintro l2 p y a' V hl2 ⟨r2, hlr2⟩ ⟨⟨A, H, hU⟩, ⟨hK, hA⟩, hpre, hx⟩ rfl
              obtain ⟨ky, vy⟩ := y
              clear M0 L2 KB2 AK2 hlr2 hl2
              have hltm : p.length < mm := by rw [← EM.out.1]; exact (List.getElem?_eq_some_iff.1 hx).1
              have HP2 : Hid (p ++ [(ky, vy)] = AS.take (p ++ [(ky, vy)]).length ∧ (p ++ [(ky, vy)]).length = p.length + 1) := by
                refine ⟨?_, by simp⟩
                rw [List.length_append, List.length_singleton, List.take_add_one, hx, ← hpre]
                rfl
              generalize hpq : p ++ [(ky, vy)] = pp at HP2 ⊢
              clear hpq hpre
              generalize p.length = m at hU hx hltm HP2
              obtain ⟨hN, m0, mf⟩ := CLM.out _ _ _ _ _ hU
              obtain ⟨⟨n0, _⟩, _, _, ⟨x0, x1⟩, _⟩ := CL.out _ _ _ _ _ hN
              obtain ⟨gk2, gv2, eka, eva, k0, v0⟩ := KC.out _ _ _ _ _ hN m ky vy hx
              injection eka with eka
              injection eka with eka
              injection eva with eva
              injection eva with eva
              subst eka eva
              obtain ⟨s1, s2, s3⟩ := SM.out (m : Int) ((m : Int) + 1) _ _ _ _ hU
              have S1 : Hid (UY w (V.setCell ⟨mb, 0, none⟩ (.int .i64 ((m : Int) + 1))) b (NB + q + 1) A H (RM ((m : Int) + 1)) ∧ (∀ B, KeepsLD B V (V.setCell ⟨mb, 0, none⟩ (.int .i64 ((m : Int) + 1)))) ∧ Kept (RN (q : Int)) V (V.setCell ⟨mb, 0, none⟩ (.int .i64 ((m : Int) + 1)))) := ⟨s1, s2, s3⟩
              have UV0 : Hid (UY w V b (NB + q + 1) A H (RM (m : Int)) ∧ KeepsLD 0 y1 V ∧ AlK rb ad (kx, vx) y1 V) := ⟨hU, hK, hA⟩
              clear hU hK hA hN hx s1 s2 s3
              have mI : ¬ (mm : Int) ≤ (m : Int) := by omega
              have mJ : (m : Int) < (mm : Int) := by omega
              by_cases hq2 : 2 < q
              · have q2 : (2 : Int) < (q : Int) := by omega
                gi_wp2
                exact ⟨KeepsLD.refl _ _, (by first | exact ⟨rfl, hq2⟩ | exact rfl | exact hq2), ⟨A, H, _, UV0.out.1⟩, UV0.out.2⟩
              · have q2 : ¬ (2 : Int) < (q : Int) := by omega
                gi_wp2
                have hal := KAL.out _ _ _ (fun ow V h => (CN.out _ ow V h).1) S1.out.2.2 (kx, vx)
                exact ⟨S1.out.2.1 _, hal, ⟨A, H, by rw [HP2.out.2, show ((m + 1 : Nat) : Int) = (m : Int) + 1 by omega]; exact S1.out.1⟩, ⟨UV0.out.2.1.trans (S1.out.2.1 0), fun v hv => hal.1 v (UV0.out.2.2.1 v hv), fun g j v e hv => hal.2 g j v e (UV0.out.2.2.2 g j v e hv)⟩, HP2.out.1⟩
            case done2 =>
              rintro xs V hS ⟨⟨A, H, hU⟩, ⟨hK, hA⟩, _⟩
              have hxl : xs.length = mm := by rw [hS]; exact EM.out.1
              rw [hxl] at hU
              clear hS hxl M0 L2
              obtain ⟨mv, hmm, hU⟩ : ∃ mv : Int, (¬ 2 < q → mv = (mm : Int)) ∧ UY w V b (NB + q + 1) A H (RM mv) := ⟨_, fun _ => rfl, hU⟩
              obtain ⟨hN, m0, _⟩ := CLM.out _ _ _ _ _ hU
              obtain ⟨⟨n0, _⟩, _, _, ⟨x0, _⟩, _⟩ := CL.out _ _ _ _ _ hN
              have nf : V.frozen? ⟨nb, 0, none⟩ = false := by obtain ⟨ow, h⟩ := hN.have; exact (CN.out _ ow V h).2.2
              obtain ⟨s1, s2, s3⟩ := SN.out (q : Int) ((q : Int) + 1) _ _ _ _ hN
              have hal := KAL.out _ _ _ (fun _ _ h => h) s3 (kx, vx)
              have E1 : Hid ((KeepsLD 0 W (V.setCell ⟨nb, 0, none⟩ (.int .i64 ((q : Int) + 1))) ∧ AlK rb ad (kx, vx) W (V.setCell ⟨nb, 0, none⟩ (.int .i64 ((q : Int) + 1)))) ∧ UY w (V.setCell ⟨nb, 0, none⟩ (.int .i64 ((q : Int) + 1))) b (NB + pq.length) A H (RN (pq.length : Int)) ∧ KeepsLD 0 y0 (V.setCell ⟨nb, 0, none⟩ (.int .i64 ((q : Int) + 1)))) := by
                have k1 : KeepsLD 0 W (V.setCell ⟨nb, 0, none⟩ (.int .i64 ((q : Int) + 1))) := (KB2.out.trans hK).trans (s2 0)
                refine ⟨⟨k1, fun v hv => hal.1 v (hA.1 v (AK2.out.1 v hv)), fun g j v e hv => hal.2 g j v e (hA.2 g j v e (AK2.out.2 g j v e hv))⟩, ?_, K0.out.trans k1⟩
                rw [HP.out.2, show ((q + 1 : Nat) : Int) = (q : Int) + 1 by omega]
                exact s1
              obtain ⟨⟨n1, r1⟩, ⟨_, sp1⟩, _⟩ := CL.out _ _ _ _ _ s1
              clear hN hU hK hA s1 s2 s3 hal
              by_cases hst : (q : Int) + 1 = stop
              · subst hst
                by_cases hr0 : rr = 0
                · have rI0 : (rr : Int) = 0 := by omega
                  rw [rI0] at r1
                  by_cases hq2 : 2 < q
                  · have q2 : ¬ (q : Int) ≤ 2 := by omega
                    gi_wp2
                    exact ⟨E1.out.1.1.mono (Nat.zero_le _), (by first | exact ⟨rfl, hr0, by rw [HP.out.2]; omega, by rw [HP.out.2]; exact HX.out.2⟩ | exact ⟨rfl, by rw [HP.out.2]; omega, by rw [HP.out.2]; exact HX.out.2⟩ | exact ⟨by rw [HP.out.2]; omega, by rw [HP.out.2]; exact HX.out.2⟩), ⟨A, H, E1.out.2.1⟩, E1.out.2.2⟩
                  · have q2 : (q : Int) ≤ 2 := by omega
                    have hm2 := hmm hq2
                    rw [hm2] at m0
                    gi_wp2
                    exact ⟨E1.out.1.1.mono (Nat.zero_le _), (by first | exact ⟨rfl, hr0, by rw [HP.out.2]; omega, by rw [HP.out.2]; exact HX.out.2⟩ | exact ⟨rfl, by rw [HP.out.2]; omega, by rw [HP.out.2]; exact HX.out.2⟩ | exact ⟨by rw [HP.out.2]; omega, by rw [HP.out.2]; exact HX.out.2⟩), ⟨A, H, E1.out.2.1⟩, E1.out.2.2⟩
                · have rI0 : ¬ (rr : Int) = 0 := by omega
                  have rB : ((rr : Int) == 0) = false := by simpa using hr0
                  have rD : decide ((rr : Int) = 0) = false := decide_eq_false rI0
                  by_cases hq2 : 2 < q
                  · have q2 : ¬ (q : Int) ≤ 2 := by omega
                    gi_wp2
                    exact ⟨E1.out.1.1.mono (Nat.zero_le _), E1.out.1.2, ⟨A, H, E1.out.2.1⟩, E1.out.2.2, HP.out.1⟩
                  · have q2 : (q : Int) ≤ 2 := by omega
                    have hm2 := hmm hq2
                    rw [hm2] at m0
                    gi_wp2
                    exact ⟨E1.out.1.1.mono (Nat.zero_le _), E1.out.1.2, ⟨A, H, E1.out.2.1⟩, E1.out.2.2, HP.out.1⟩
              · have he2 : (((q : Int) + 1) == stop) = false := by simpa using hst
                have he3 : decide ((q : Int) + 1 = stop) = false := decide_eq_false hst
                by_cases hq2 : 2 < q
                · have q2 : ¬ (q : Int) ≤ 2 := by omega
                  gi_wp2
                  exact ⟨E1.out.1.1.mono (Nat.zero_le _), E1.out.1.2, ⟨A, H, E1.out.2.1⟩, E1.out.2.2, HP.out.1⟩
                · have q2 : (q : Int) ≤ 2 := by omega
                  have hm2 := hmm hq2
                  rw [hm2] at m0
                  gi_wp2
                  exact ⟨E1.out.1.1.mono (Nat.zero_le _), E1.out.1.2, ⟨A, H, E1.out.2.1⟩, E1.out.2.2, HP.out.1⟩
            case st2 =>
              rintro cd p V _ ⟨⟨rfl, h2q⟩, ⟨A, H, mv, hU⟩, hK, hA⟩
              clear M0 L2
              have hmm : ¬ 2 < q → mv = (mm : Int) := fun h => absurd h2q h
              obtain ⟨hN, m0, _⟩ := CLM.out _ _ _ _ _ hU
              obtain ⟨⟨n0, _⟩, _, _, ⟨x0, _⟩, _⟩ := CL.out _ _ _ _ _ hN
              have nf : V.frozen? ⟨nb, 0, none⟩ = false := by obtain ⟨ow, h⟩ := hN.have; exact (CN.out _ ow V h).2.2
              obtain ⟨s1, s2, s3⟩ := SN.out (q : Int) ((q : Int) + 1) _ _ _ _ hN
              have hal := KAL.out _ _ _ (fun _ _ h => h) s3 (kx, vx)
              have E1 : Hid ((KeepsLD 0 W (V.setCell ⟨nb, 0, none⟩ (.int .i64 ((q : Int) + 1))) ∧ AlK rb ad (kx, vx) W (V.setCell ⟨nb, 0, none⟩ (.int .i64 ((q : Int) + 1)))) ∧ UY w (V.setCell ⟨nb, 0, none⟩ (.int .i64 ((q : Int) + 1))) b (NB + pq.length) A H (RN (pq.length : Int)) ∧ KeepsLD 0 y0 (V.setCell ⟨nb, 0, none⟩ (.int .i64 ((q : Int) + 1)))) := by
                have k1 : KeepsLD 0 W (V.setCell ⟨nb, 0, none⟩ (.int .i64 ((q : Int) + 1))) := (KB2.out.trans hK).trans (s2 0)
                refine ⟨⟨k1, fun v hv => hal.1 v (hA.1 v (AK2.out.1 v hv)), fun g j v e hv => hal.2 g j v e (hA.2 g j v e (AK2.out.2 g j v e hv))⟩, ?_, K0.out.trans k1⟩
                rw [HP.out.2, show ((q + 1 : Nat) : Int) = (q : Int) + 1 by omega]
                exact s1
              obtain ⟨⟨n1, r1⟩, ⟨_, sp1⟩, _⟩ := CL.out _ _ _ _ _ s1
              clear hN hU hK hA s1 s2 s3 hal
              by_cases hst : (q : Int) + 1 = stop
              · subst hst
                by_cases hr0 : rr = 0
                · have rI0 : (rr : Int) = 0 := by omega
                  rw [rI0] at r1
                  have q2 : ¬ (q : Int) ≤ 2 := by omega
                  gi_wp2
                  exact ⟨E1.out.1.1.mono (Nat.zero_le _), (by first | exact ⟨rfl, hr0, by rw [HP.out.2]; omega, by rw [HP.out.2]; exact HX.out.2⟩ | exact ⟨rfl, by rw [HP.out.2]; omega, by rw [HP.out.2]; exact HX.out.2⟩ | exact ⟨by rw [HP.out.2]; omega, by rw [HP.out.2]; exact HX.out.2⟩), ⟨A, H, E1.out.2.1⟩, E1.out.2.2⟩
                · have rI0 : ¬ (rr : Int) = 0 := by omega
                  have rB : ((rr : Int) == 0) = false := by simpa using hr0
                  have rD : decide ((rr : Int) = 0) = false := decide_eq_false rI0
                  have q2 : ¬ (q : Int) ≤ 2 := by omega
                  gi_wp2
                  exact ⟨E1.out.1.1.mono (Nat.zero_le _), E1.out.1.2, ⟨A, H, E1.out.2.1⟩, E1.out.2.2, HP.out.1⟩
              · have he2 : (((q : Int) + 1) == stop) = false := by simpa using hst
                have he3 : decide ((q : Int) + 1 = stop) = false := decide_eq_false hst
                have q2 : ¬ (q : Int) ≤ 2 := by omega
                gi_wp2
                exact ⟨E1.out.1.1.mono (Nat.zero_le _), E1.out.1.2, ⟨A, H, E1.out.2.1⟩, E1.out.2.2, HP.out.1⟩
        case done =>
          rintro D xs W hD hS ⟨⟨A2, H2, hU⟩, hK, _⟩ hd
          have hxl : xs.length = mm := by rw [hS]; exact EM.out.1
          rw [hxl] at hU
          clear hS hxl
          obtain ⟨nn, hnn, hle, hU⟩ : ∃ nn : Nat, nn = mm ∧ nn ≤ mm ∧ UY w W b (NB + nn) A2 H2 (RN (nn : Int)) := ⟨mm, rfl, Nat.le_refl _, hU⟩
          obtain ⟨ow, h⟩ := hU.have
          obtain ⟨h1, n0, _⟩ := CN.out _ ow W h
          obtain ⟨h3, r0⟩ := C1.out ow W h1
          obtain ⟨⟨_, s0, _⟩, _, ⟨x0, _⟩, _⟩ := CC.out ow W h3
          clear h h1 h3
          have URC : UY w W b (NB + nn) A2 H2 RC := hU.imp fun ow V h => (C1.out ow V (CN.out _ ow V h).1).1
          have e1 := URC.boxq (OC.out.stq id) 3 [.int .i64 ((rr : Int) + 1 : Int)] 4
          have c5 : (W.alloc (.cells #[.int .i64 (rr : Int)] 3)).cell? ⟨W.heap.size, 0, none⟩ = some (.int .i64 (rr : Int)) := (CBox.new W 3 [.int .i64 (rr : Int)]).cell 0
          have f5 : (W.alloc (.cells #[.int .i64 (rr : Int)] 3)).frozen? ⟨W.heap.size, 0, none⟩ = false := (CBox.new W 3 [.int .i64 (rr : Int)]).frozen 0
          have FN5 : Hid (UY w (W.alloc (.cells #[.int .i64 ((rr : Int) + 1 : Int)] 3)) b (N0 + (rr + 1) * mm) A2 H2 (fun ow V => RC ow V ∧ (CBox V W.heap.size 3 [.int .i64 ((rr + 1 : Nat) : Int)] ∧ ow W.heap.size = 4)) ∧ Mrk w.heap.size (rr + 1) ({ target := .collected D, args := #[] } :: ds) (W.alloc (.cells #[.int .i64 ((rr : Int) + 1 : Int)] 3))) := by
            have k5 : KeepsLD 0 W (W.alloc (.cells #[.int .i64 ((rr : Int) + 1 : Int)] 3)) := KeepsLD.below ((Below.refl _ _).alloc (Nat.le_refl _) _)
            refine ⟨?_, MY.out.cons (hK.trans k5) YZ.out hD (k5.same D _ (Nat.zero_le _) hd rfl)⟩
            rw [show ((rr + 1 : Nat) : Int) = (rr : Int) + 1 by omega]
            refine e1.mono ?_
            have h9 := HNB.out.1
            rw [Nat.succ_mul]
            omega
          clear hU hK hd hD URC e1
          subst hnn
          dsimp only
          go_wp2
          refine ⟨⟨rr + 1, W.heap.size, _, A2, H2, _, _, _, _, _, _, _, _, _, _, _, _, _, _, _, _, _, _, _, _, _, rfl, by omega, FN5.out.1, FN5.out.2⟩, ?_⟩
          have hd9 := DL.out
          simp only [List.length_cons]
          omega
        case st =>
          rintro D cd pre W hD _ ⟨⟨rfl, hr0, hst, hle⟩, ⟨A2, H2, hU⟩, hK⟩ hd
          generalize pre.length = nn at hst hle hU
          have rI0 : (rr : Int) = 0 := by omega
          obtain ⟨ow, h⟩ := hU.have
          obtain ⟨h1, n0, _⟩ := CN.out _ ow W h
          obtain ⟨h3, r0⟩ := C1.out ow W h1
          obtain ⟨⟨_, s0, _⟩, _, ⟨x0, _⟩, _⟩ := CC.out ow W h3
          clear h h1 h3
          have URC : UY w W b (NB + nn) A2 H2 RC := hU.imp fun ow V h => (C1.out ow V (CN.out _ ow V h).1).1
          have e1 := URC.boxq (OC.out.stq id) 3 [.int .i64 (1 : Int)] 4
          have c5 : (W.alloc (.cells #[.int .i64 (0 : Int)] 3)).cell? ⟨W.heap.size, 0, none⟩ = some (.int .i64 (0 : Int)) := (CBox.new W 3 [.int .i64 (0 : Int)]).cell 0
          have f5 : (W.alloc (.cells #[.int .i64 (0 : Int)] 3)).frozen? ⟨W.heap.size, 0, none⟩ = false := (CBox.new W 3 [.int .i64 (0 : Int)]).frozen 0
          have FN5 : Hid (UY w (W.alloc (.cells #[.int .i64 (1 : Int)] 3)) b (N0 + (rr + 1) * mm) A2 H2 (fun ow V => RC ow V ∧ (CBox V W.heap.size 3 [.int .i64 ((rr + 1 : Nat) : Int)] ∧ ow W.heap.size = 4)) ∧ Mrk w.heap.size (rr + 1) ({ target := .collected D, args := #[] } :: ds) (W.alloc (.cells #[.int .i64 (1 : Int)] 3))) := by
            have k5 : KeepsLD 0 W (W.alloc (.cells #[.int .i64 (1 : Int)] 3)) := KeepsLD.below ((Below.refl _ _).alloc (Nat.le_refl _) _)
            refine ⟨?_, MY.out.cons (hK.trans k5) YZ.out hD (k5.same D _ (Nat.zero_le _) hd rfl)⟩
            rw [show ((rr + 1 : Nat) : Int) = 1 by omega]
            refine e1.mono ?_
            have h9 := HNB.out.1
            rw [Nat.succ_mul]
            omega
          clear hU hK hd hD URC e1
          rw [rI0] at r0
          refine wpIn_wide.2 ?_
          subst hst
          by_cases hnm : nn = mm
          · have nI : (nn : Int) = (mm : Int) := by omega
            go_wp2
            refine ⟨⟨rr + 1, W.heap.size, _, A2, H2, _, _, _, _, _, _, _, _, _, _, _, _, _, _, _, _, _, _, _, _, _, rfl, by omega, FN5.out.1, FN5.out.2⟩, ?_⟩
            have hd9 := DL.out
            simp only [List.length_cons]
            omega
          · have nI : ¬ (nn : Int) = (mm : Int) := by omega
            have nB : ((nn : Int) == (mm : Int)) = false := by simpa using nI
            go_wp2
            refine ⟨⟨rr + 1, W.heap.size, _, A2, H2, _, _, _, _, _, _, _, _, _, _, _, _, _, _, _, _, _, _, _, _, _, rfl, by omega, FN5.out.1, FN5.out.2⟩, ?_⟩
            have hd9 := DL.out
            simp only [List.length_cons]
            omega
      · have rI : ¬ (rr : Int) < 3 := by omega
        have rE : rr = 3 := by have := HNB.out; omega
        have AW := awake_is wr
        obtain ⟨oC, hb⟩ : CBox wr ob 4 [.bool false] ∧ Below w.heap.size w wr := by obtain ⟨ow, h⟩ := A0.out.have; exact ⟨(CC.out ow _ (C1.out ow _ h).1).1.2.2, A0.out.bel⟩
        have OF : Hid (∀ V, Below wr.heap.size wr V → V.frozen? ⟨ob, 0, none⟩ = false ∧ V.cell? ⟨ob, 0, none⟩ = some (.bool false)) := fun V hV => ⟨(oC.but (below_but (S := fun _ => False) hV) id).frozen 0, (oC.but (below_but (S := fun _ => False) hV) id).cell 0⟩
        have FIN : Hid (∀ V, Below wr.heap.size wr V → Mrk w.heap.size rr ds (V.setCell ⟨ob, 0, none⟩ (.bool true)) ∧ CBox (V.setCell ⟨ob, 0, none⟩ (.bool true)) ob 4 [.bool true] ∧ Below w.heap.size w (V.setCell ⟨ob, 0, none⟩ (.bool true))) := fun V hV => by
          have o2 := oC.but (below_but (S := fun _ => False) hV) id
          have hB : But (fun q => q = ob) V (V.setCell ⟨ob, 0, none⟩ (.bool true)) := (But.refl (fun q => q = ob) V).setCell ⟨ob, 0, none⟩ _ (Or.inl rfl)
          exact ⟨(MK.out.keep (KeepsLD.below hV)).keep (KeepsLD.of (keeps_box o2 hB)), o2.set 0 _, (hb.trans (hV.mono hb.size)).setCell (show w.heap.size ≤ (⟨ob, 0, none⟩ : Addr).block from OLE.out) _⟩
        clear oC hb A0 MK
        go_upto_region 40 with fail
        clear r0
        go_wp2_with (go_at_call 13; refine AW.mono ?_; rintro e z9 ⟨rfl, hz⟩; (have ZB : Hid (Below wr.heap.size wr z9) := hz); obtain ⟨fz, cz⟩ := OF.out z9 hz; clear hz)
        refine leaves_mrk (B := w.heap.size) (J := fun W => CBox W ob 4 [.bool true] ∧ Below w.heap.size w W) ?_ ?_ rr ds _ (FIN.out z9 ZB.out).1 (FIN.out z9 ZB.out).2
        · exact fun _ X Y row hs hg hr => ⟨hs.1.own hg (fun r e => by obtain ⟨_, o, h1, h2⟩ := hr r e; exact ⟨o, h1, isLD_not h2⟩), below_own hs.2 hg (fun r e => (hr r e).1)⟩
        · intro W hj
          have cF := hj.1.cell 0
          exact ⟨_, results_cellr rfl _ _ _ ⟨ob, 0, none⟩ rfl (by go_simp), rfl, hj.2⟩
theorem undoWithin_walk (w : World) (v1 : Value) (n1 : Nat) (x1 : Nat → OpR) (v2 : Value) (n2 : Nat) (x2 : Nat → OpR) (stop : Int) (hv1 : OpsAt w v1 n1 x1) (hn1 : n1 ≤ 4398046511104) (hv2 : OpsAt w v2 n2 x2) (hn2 : n2 ≤ 4398046511104) (_ : I64 stop) : Calls Try.prog 10 #[v1, v2, .int .i64 stop] w fun e w' => e = .returned (.bool true) ∧ Below w.heap.size w w' := callsIn_wide.1 (undoWithin_in w v1 n1 x1 v2 n2 x2 stop hv1 hn1 hv2 hn2)
end Go.Proofs.Ytohfkgfjcnldaaa
