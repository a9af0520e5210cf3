/- The laws' twin: a container with lists of its own. -/
import Derived.Test.YtndhabhlajldeaaBseM
namespace Go.Proofs.Ytndhabhlajldeaa
open Go.RowKit
theorem tV_one (l : List Ty) : ∀ u ∈ tV l, u.oneCell' = true := fun u hu => by
  obtain ⟨p, _, hp⟩ := List.mem_flatMap.1 hu
  simp at hp
  rcases hp with rfl | rfl | rfl <;> rfl
/-- append(v, u...) of types -/
theorem wp_appTs {P : Nat → Prop} {w : World} {o : Oper} {a : Act} {K : Act → World → Prop} {Q : Exit → Act → World → Prop} (s x : Operand)
    (ho : o.op = .call { callee := .builtin .append, args := #[s, x], argTypes := #[25, 25] }) (B : Nat) (hB : B ≤ w.heap.size) (v : Value) (l : List Ty) (hs : a.eval s = v) (hown : w.ownsRow B 77 3 v l.length (tV l))
    (u : Value) (m : List Ty) (hx : a.eval x = u) (hu : TL P w u m) (hn : l.length + m.length ≤ 2199023255552)
    (h : ∀ v' w', App B 77 3 w w' v v' (l ++ m).length (tV (l ++ m)) → K (a.put o.dst v') w') : o.wp Try.prog a w K Q := by
  obtain ⟨ad, cap, rfl⟩ := owns_sl hown
  obtain ⟨_, ad2, cap2, rfl, h0, h1, hz, h2⟩ := hu
  cases ad2 with
  | none =>
    have e0 : cap2 = 0 := hz rfl
    have e1 : m.length = 0 := by omega
    obtain rfl := List.eq_nil_of_length_eq_zero e1
    subst e0
    have hrun := run_append_owned_none (P := Try.prog) (w := w) B 25 o.type 77 (info_parts Try.infoT).choose 3 Try.underlying25 (info_parts Try.infoT).choose_spec.1 _ _ _ hown
    unfold Oper.wp
    simp [execOp, ho, resolve, invoke, builtin, hs, hx, hrun, Result.andThen]
    refine h _ _ ?_
    rw [List.append_nil]
    exact App.refl hown
  | some a2 =>
    refine wp_apps s x 25 77 ho (.agg #[.int .i64 0, .int .i64 0, .int .i64 0]) 3 24 Try.underlying25 Try.infoT rfl (by omega) (by omega) B hB ad l.length cap (tV l) hs hown a2 m.length cap2 (tV m) hx (tV_len m) (fun j c hj => ?_) (tV_one m) hn (fun ad' cap' w' q1 q2 q3 => h _ _ ⟨?_, ?_, fun k hk => ?_⟩)
    · have hm : 0 < m.length := by have := (List.getElem?_eq_some_iff.1 hj).1; rw [tV_len] at this; omega
      obtain ⟨g, b, e, _, _, h3⟩ := h2 hm
      injection e with e
      subst e
      rw [Addr.add_mid]
      exact h3 j c hj
    · rw [List.length_append, tV_app]; exact q1
    · exact q2.mono fun k hk => own_iff.1 hk
    · rcases q3.own (own_iff.2 hk) with e | e
      · exact Or.inl (own_iff.1 e)
      · exact Or.inr e
/-- a container in lists of its own, those of sections and of nested containers in unlike blocks -/
def DO (B : Nat) (W : World) (v : Value) (c : Con) : Prop := ∃ ta tc ca cc sa sc da dc, v = .agg #[.slice ta c.ts.length tc, .slice ca c.cs.length cc, .slice sa c.ss.length sc, .slice da c.d.length dc, .int .i64 c.n] ∧ W.ownsRow B 77 3 (.slice ta c.ts.length tc) c.ts.length (tV c.ts) ∧ PO B W (.slice ca c.cs.length cc) c.cs ∧ PO B W (.slice sa c.ss.length sc) c.ss ∧ W.ownsRow B 5 1 (.slice da c.d.length dc) c.d.length (bV c.d) ∧ ∀ g, OwnV (.slice sa c.ss.length sc) g → ¬ OwnV (.slice ca c.cs.length cc) g
theorem flat_each {ll : List (List Nat)} {n : Nat} (h : ll.flatten.length ≤ n) : ∀ x ∈ ll, x.length ≤ n := fun _ hx => Nat.le_trans (List.sublist_flatten_of_mem hx).length_le h
theorem DO.cw {B : Nat} {W : World} {v : Value} {c : Con} (h : DO B W v c) (hs : Small c) : CW (fun g => B ≤ g) W v c := by
  obtain ⟨ta, tc, ca, cc, sa, sc, da, dc, rfl, k1, k2, k3, k4, _⟩ := h
  unfold Small at hs
  exact ⟨_, _, _, _, rfl, SL.own k1 (by omega) fun g hg => (k1.lt g hg).1, k2.pl (by omega) (flat_each (by omega)), k3.pl (by omega) (flat_each (by omega)), SL.own k4 (by omega) fun g hg => (k4.lt g hg).1⟩
theorem DO.past {B : Nat} {W W' : World} {v : Value} {c : Con} (h : DO B W v c) (k : Below W.heap.size W W') : DO B W' v c := by
  obtain ⟨ta, tc, ca, cc, sa, sc, da, dc, e, k1, k2, k3, k4, k5⟩ := h
  exact ⟨ta, tc, ca, cc, sa, sc, da, dc, e, owns_past k1 k, k2.past k, k3.past k, owns_past k4 k, k5⟩
theorem PO.lt {B : Nat} {W : World} {v : Value} {ll : List (List Nat)} (h : PO B W v ll) : ∀ g, OwnV v g → B ≤ g ∧ g < W.heap.size := by
  obtain ⟨us, _, h2, _⟩ := h
  exact fun g hg => h2.lt g hg
theorem row_alienT {B q n : Nat} {W W' : World} {v : Value} {cs : List Value} (h : W.ownsRow B 77 3 v n cs) (k : But (fun y => y = q) W W') (a : Alien W q) : W'.ownsRow B 77 3 v n cs := owns_row_blockB h fun g hg => k.block g (h.lt g hg).2 fun e => by
  obtain ⟨t, m, c, n1, _, _⟩ := a
  exact own_box h c (Ne.symm n1) hg e
theorem PO.alien {B q : Nat} {W W' : World} {v : Value} {ll : List (List Nat)} (h : PO B W v ll) (k : But (fun y => y = q) W W') (a : Alien W q) : PO B W' v ll := by
  obtain ⟨us, h1, h2, h3⟩ := h
  obtain ⟨t, m, c, _, n2, n3⟩ := a
  exact ⟨us, h1, owns_row_blockB h2 fun g hg => k.block g (h2.lt g hg).2 fun e => own_box h2 c (Ne.symm n2) hg e, h3.butT k c n3⟩
/-- the lists of a container -/
structure SrC (P : Nat → Prop) (W : World) (tv cv sv dv : Value) (c : Con) : Prop where
  t : TL P W tv c.ts
  p : PL P W cv c.cs
  s : PL P W sv c.ss
  d : BL P W dv c.d
theorem SrC.past {P : Nat → Prop} {W W' : World} {tv cv sv dv : Value} {c : Con} (h : SrC P W tv cv sv dv c) (k : Below W.heap.size W W') : SrC P W' tv cv sv dv c := ⟨h.t.past k, h.p.past k, h.s.past k, h.d.past k⟩
set_option maxHeartbeats 8000000 in
set_option maxRecDepth 100000 in
theorem twin_is {P : Nat → Prop} (w : World) (v : Value) (c : Con) (h : CW P w v c) (hs : Small c) : Calls Try.prog 19 #[v] w fun e w' => ∃ v', e = .returned v' ∧ DO w.heap.size w' v' c ∧ Below w.heap.size w w' := by
  obtain ⟨tv, cv, sv, dv, rfl, h1, h2, h3, h4⟩ := h
  obtain ⟨ta, tc, rfl, _⟩ := h1.len
  obtain ⟨ca, cc, rfl, _⟩ := h2.len
  obtain ⟨sa, sc, rfl, _⟩ := h3.len
  obtain ⟨da, dc, rfl, _⟩ := h4.len
  have HSM : Hid (Small c) := hs
  have b1 := below_alloc w (.cells #[.slice ta c.ts.length tc, .slice ca c.cs.length cc, .slice sa c.ss.length sc, .slice da c.d.length dc, .int .i64 c.n] 28)
  have b2 := below_alloc (w.alloc (.cells #[.slice ta c.ts.length tc, .slice ca c.cs.length cc, .slice sa c.ss.length sc, .slice da c.d.length dc, .int .i64 c.n] 28)) (.cells #[.slice none 0 0, .slice none 0 0, .slice none 0 0, .slice none 0 0, .int .i64 0] 28)
  have s1 : (w.alloc (.cells #[.slice ta c.ts.length tc, .slice ca c.cs.length cc, .slice sa c.ss.length sc, .slice da c.d.length dc, .int .i64 c.n] 28)).heap.size = w.heap.size + 1 := by simp
  have bb : Below w.heap.size w ((w.alloc (.cells #[.slice ta c.ts.length tc, .slice ca c.cs.length cc, .slice sa c.ss.length sc, .slice da c.d.length dc, .int .i64 c.n] 28)).alloc (.cells #[.slice none 0 0, .slice none 0 0, .slice none 0 0, .slice none 0 0, .int .i64 0] 28)) := b1.trans (b2.mono (by omega))
  have c2 := CBox.new (w.alloc (.cells #[.slice ta c.ts.length tc, .slice ca c.cs.length cc, .slice sa c.ss.length sc, .slice da c.d.length dc, .int .i64 c.n] 28)) 28 [.slice none 0 0, .slice none 0 0, .slice none 0 0, .slice none 0 0, .int .i64 0]
  rw [s1] at c2
  have N0 : Hid (CBox ((w.alloc (.cells #[.slice ta c.ts.length tc, .slice ca c.cs.length cc, .slice sa c.ss.length sc, .slice da c.d.length dc, .int .i64 c.n] 28)).alloc (.cells #[.slice none 0 0, .slice none 0 0, .slice none 0 0, .slice none 0 0, .int .i64 0] 28)) w.heap.size 28 [.slice ta c.ts.length tc, .slice ca c.cs.length cc, .slice sa c.ss.length sc, .slice da c.d.length dc, .int .i64 c.n] ∧ CBox ((w.alloc (.cells #[.slice ta c.ts.length tc, .slice ca c.cs.length cc, .slice sa c.ss.length sc, .slice da c.d.length dc, .int .i64 c.n] 28)).alloc (.cells #[.slice none 0 0, .slice none 0 0, .slice none 0 0, .slice none 0 0, .int .i64 0] 28)) (w.heap.size + 1) 28 [.slice none 0 0, .slice none 0 0, .slice none 0 0, .slice none 0 0, .int .i64 0] ∧ Below w.heap.size w ((w.alloc (.cells #[.slice ta c.ts.length tc, .slice ca c.cs.length cc, .slice sa c.ss.length sc, .slice da c.d.length dc, .int .i64 c.n] 28)).alloc (.cells #[.slice none 0 0, .slice none 0 0, .slice none 0 0, .slice none 0 0, .int .i64 0] 28))) := ⟨(CBox.new w 28 [.slice ta c.ts.length tc, .slice ca c.cs.length cc, .slice sa c.ss.length sc, .slice da c.d.length dc, .int .i64 c.n]).past b2, c2, bb⟩
  have SR0 : Hid (SrC P ((w.alloc (.cells #[.slice ta c.ts.length tc, .slice ca c.cs.length cc, .slice sa c.ss.length sc, .slice da c.d.length dc, .int .i64 c.n] 28)).alloc (.cells #[.slice none 0 0, .slice none 0 0, .slice none 0 0, .slice none 0 0, .int .i64 0] 28)) (.slice ta c.ts.length tc) (.slice ca c.cs.length cc) (.slice sa c.ss.length sc) (.slice da c.d.length dc) c) := ⟨h1.past bb, h2.past bb, h3.past bb, h4.past bb⟩
  clear h1 h2 h3 h4 b1 b2 s1 bb c2 hs
  have GL0 : Hid (w.heap.size < w.heap.size + 1) := by unfold Hid; omega
  go_enter Try.func19, Try.ntmps19
  go_upto_region 1 with fail
  generalize w.heap.size + 1 = b2 at N0 GL0 ⊢
  generalize hbw : w.heap.size = b1 at N0 GL0 ⊢
  have GB : Hid (w.heap.size = b1) := hbw
  have GE : Hid (b1 ≤ w.heap.size) := by unfold Hid; omega
  have GL : Hid (b1 < b2) := GL0.out
  clear hbw GL0
  generalize (w.alloc _).alloc _ = W0 at N0 SR0 ⊢
  refine wp_region_held_drew (S := fun V' => CBox V' b1 28 [.slice ta c.ts.length tc, .slice ca c.cs.length cc, .slice sa c.ss.length sc, .slice da c.d.length dc, .int .i64 c.n]) (by kernel_rfl) (N0.out.1.past below_drew) (fun HH => ?_)
  have BX : Hid (CBox W0.drew b2 28 [.slice none 0 0, .slice none 0 0, .slice none 0 0, .slice none 0 0, .int .i64 0]) := N0.out.2.1.past below_drew
  have B : Hid (Below b1 w W0.drew) := N0.out.2.2.drew
  have SRC : Hid (SrC P W0.drew (.slice ta c.ts.length tc) (.slice ca c.cs.length cc) (.slice sa c.ss.length sc) (.slice da c.d.length dc) c) := SR0.out.past below_drew
  clear N0 SR0
  generalize W0.drew = z0 at HH BX B SRC ⊢
  refine wpAnyH_take (i := 0) (v := .pointer (some ⟨b1, 0, none⟩)) ov0 (by kernel_rfl) (by kernel_rfl) (by kernel_rfl) (fun _ _ _ h => h) (Or.inl ⟨by rfl, fun V' hS => ?_⟩) HH ?_
  · go_simp
  simp only [Act.put, List.setIfInBounds_toArray, List.set_cons_zero, List.set_cons_succ]
  refine wpAnyH_take (i := 1) (v := .slice ta c.ts.length tc) ov1 (by kernel_rfl) (by kernel_rfl) (by kernel_rfl) (fun _ _ _ h => h) (Or.inl ⟨by rfl, fun V' hS => ?_⟩) HH ?_
  · have c0 := hS.cell 0
    go_simp
  simp only [Act.put, List.setIfInBounds_toArray, List.set_cons_zero, List.set_cons_succ]
  refine wpAnyH_take (i := 3) (v := .pointer (some ⟨b1, 1, none⟩)) ov3 (by kernel_rfl) (by kernel_rfl) (by kernel_rfl) (fun _ _ _ h => h) (Or.inl ⟨by rfl, fun V' hS => ?_⟩) HH ?_
  · go_simp
  simp only [Act.put, List.setIfInBounds_toArray, List.set_cons_zero, List.set_cons_succ]
  refine wpAnyH_take (i := 4) (v := .slice ca c.cs.length cc) ov4 (by kernel_rfl) (by kernel_rfl) (by kernel_rfl) (fun _ _ _ h => h) (Or.inl ⟨by rfl, fun V' hS => ?_⟩) HH ?_
  · have c0 := hS.cell 1
    go_simp
  simp only [Act.put, List.setIfInBounds_toArray, List.set_cons_zero, List.set_cons_succ]
  refine wpAnyH_take (i := 6) (v := .pointer (some ⟨b1, 2, none⟩)) ov6 (by kernel_rfl) (by kernel_rfl) (by kernel_rfl) (fun _ _ _ h => h) (Or.inl ⟨by rfl, fun V' hS => ?_⟩) HH ?_
  · go_simp
  simp only [Act.put, List.setIfInBounds_toArray, List.set_cons_zero, List.set_cons_succ]
  refine wpAnyH_take (i := 7) (v := .slice sa c.ss.length sc) ov7 (by kernel_rfl) (by kernel_rfl) (by kernel_rfl) (fun _ _ _ h => h) (Or.inl ⟨by rfl, fun V' hS => ?_⟩) HH ?_
  · have c0 := hS.cell 2
    go_simp
  simp only [Act.put, List.setIfInBounds_toArray, List.set_cons_zero, List.set_cons_succ]
  refine wpAnyH_take (i := 9) (v := .pointer (some ⟨b1, 3, none⟩)) ov9 (by kernel_rfl) (by kernel_rfl) (by kernel_rfl) (fun _ _ _ h => h) (Or.inl ⟨by rfl, fun V' hS => ?_⟩) HH ?_
  · go_simp
  simp only [Act.put, List.setIfInBounds_toArray, List.set_cons_zero, List.set_cons_succ]
  refine wpAnyH_take (i := 10) (v := .slice da c.d.length dc) ov10 (by kernel_rfl) (by kernel_rfl) (by kernel_rfl) (fun _ _ _ h => h) (Or.inl ⟨by rfl, fun V' hS => ?_⟩) HH ?_
  · have c0 := hS.cell 3
    go_simp
  simp only [Act.put, List.setIfInBounds_toArray, List.set_cons_zero, List.set_cons_succ]
  refine wpAnyH_take (i := 12) (v := .pointer (some ⟨b1, 4, none⟩)) ov12 (by kernel_rfl) (by kernel_rfl) (by kernel_rfl) (fun _ _ _ h => h) (Or.inl ⟨by rfl, fun V' hS => ?_⟩) HH ?_
  · go_simp
  simp only [Act.put, List.setIfInBounds_toArray, List.set_cons_zero, List.set_cons_succ]
  refine wpAnyH_take (i := 13) (v := .int .i64 c.n) ov13 (by kernel_rfl) (by kernel_rfl) (by kernel_rfl) (fun _ _ _ h => h) (Or.inl ⟨by rfl, fun V' hS => ?_⟩) HH ?_
  · have c0 := hS.cell 4
    go_simp
  simp only [Act.put, List.setIfInBounds_toArray, List.set_cons_zero, List.set_cons_succ]
  refine wpAnyH_ready (rs := [2]) (by kernel_rfl) (by simp) ?_
  refine AllReadyH.cons ov2 (fun K hK => ?_) AllReadyH.nil
  rw [if_pos (by rfl)]
  refine wp_appTs _ _ rfl b1 (Nat.le_trans GE.out B.out.size) (.slice none 0 0) [] rfl (World.ownsRow_nil _ _ _ _) (.slice ta c.ts.length tc) c.ts rfl SRC.out.t (by have := HSM.out; unfold Small at this; simp only [List.length_nil]; omega) ?_
  intro v9 z1 hA
  obtain ⟨qa, qc, e9⟩ := owns_sl hA.row
  rw [List.nil_append] at e9
  subst e9
  have hB := hA.nil_below
  have FT9 : Hid (z1.ownsRow b1 77 3 (.slice qa c.ts.length qc) c.ts.length (tV c.ts)) := hA.row
  clear hA
  have B9 := B.out.trans (hB.mono (Nat.le_trans GE.out B.out.size))
  clear B
  have B : Hid (Below b1 w z1) := B9
  clear B9
  have S9 := SRC.out.past hB
  clear SRC
  have SRC : Hid _ := S9
  clear S9
  have T9 := BX.out.past hB
  clear BX
  have BX : Hid (CBox z1 b2 28 [.slice none 0 0, .slice none 0 0, .slice none 0 0, .slice none 0 0, .int .i64 0]) := T9
  clear T9
  have H9 := HH.past hB
  clear HH
  have HH := H9
  clear H9
  (try (have q9 := FT.out; clear FT; have FT : Hid _ := owns_past q9 hB; clear q9))
  (try (have q9 := FC.out; clear FC; have FC : Hid _ := PO.past q9 hB; clear q9))
  (try (have q9 := FZ.out; clear FZ; have FZ : Hid _ := PO.past q9 hB; clear q9))
  (try (have q9 := FD.out; clear FD; have FD : Hid _ := owns_past q9 hB; clear q9))
  have FT := FT9
  clear FT9 hB
  refine hK.out _ z1 HH (fun _ => ?_)
  clear hK K
  (try simp only [Act.put, List.setIfInBounds_toArray, List.set_cons_zero, List.set_cons_succ])
  refine wpAnyH_ready (rs := [5]) (by kernel_rfl) (by simp) ?_
  refine AllReadyH.cons ov5 (fun K hK => ?_) AllReadyH.nil
  rw [if_pos (by rfl)]
  go_simp
  refine (ownParts_is _ _ c.cs SRC.out.p (by have := HSM.out; unfold Small at this; omega)).mono ?_
  rintro e z1 ⟨v9, rfl, hP, hB⟩
  obtain ⟨xa, xc, rfl⟩ := PO.sl hP
  have FC9 : Hid (PO b1 z1 (.slice xa c.cs.length xc) c.cs) := hP.base (Nat.le_trans GE.out B.out.size)
  clear hP
  have B9 := B.out.trans (hB.mono (Nat.le_trans GE.out B.out.size))
  clear B
  have B : Hid (Below b1 w z1) := B9
  clear B9
  have S9 := SRC.out.past hB
  clear SRC
  have SRC : Hid _ := S9
  clear S9
  have T9 := BX.out.past hB
  clear BX
  have BX : Hid (CBox z1 b2 28 [.slice none 0 0, .slice none 0 0, .slice none 0 0, .slice none 0 0, .int .i64 0]) := T9
  clear T9
  have H9 := HH.past hB
  clear HH
  have HH := H9
  clear H9
  (try (have q9 := FT.out; clear FT; have FT : Hid _ := owns_past q9 hB; clear q9))
  (try (have q9 := FC.out; clear FC; have FC : Hid _ := PO.past q9 hB; clear q9))
  (try (have q9 := FZ.out; clear FZ; have FZ : Hid _ := PO.past q9 hB; clear q9))
  (try (have q9 := FD.out; clear FD; have FD : Hid _ := owns_past q9 hB; clear q9))
  have FC := FC9
  clear FC9 hB
  (try go_wp2_with fail)
  refine hK.out _ _ HH (fun _ => ?_)
  clear hK K
  (try simp only [Act.put, List.setIfInBounds_toArray, List.set_cons_zero, List.set_cons_succ])
  refine wpAnyH_ready (rs := [8]) (by kernel_rfl) (by simp) ?_
  refine AllReadyH.cons ov8 (fun K hK => ?_) AllReadyH.nil
  rw [if_pos (by rfl)]
  go_simp
  refine (ownParts_is _ _ c.ss SRC.out.s (by have := HSM.out; unfold Small at this; omega)).mono ?_
  rintro e z1 ⟨v9, rfl, hP, hB⟩
  obtain ⟨ya, yc, rfl⟩ := PO.sl hP
  have FAP : Hid (∀ g, OwnV (.slice ya c.ss.length yc) g → ¬ OwnV (.slice xa c.cs.length xc) g) := fun g h1 h2 => by have q1 := (PO.lt hP g h1).1; have q2 := (PO.lt FC.out g h2).2; omega
  have FZ9 : Hid (PO b1 z1 (.slice ya c.ss.length yc) c.ss) := hP.base (Nat.le_trans GE.out B.out.size)
  clear hP
  have B9 := B.out.trans (hB.mono (Nat.le_trans GE.out B.out.size))
  clear B
  have B : Hid (Below b1 w z1) := B9
  clear B9
  have S9 := SRC.out.past hB
  clear SRC
  have SRC : Hid _ := S9
  clear S9
  have T9 := BX.out.past hB
  clear BX
  have BX : Hid (CBox z1 b2 28 [.slice none 0 0, .slice none 0 0, .slice none 0 0, .slice none 0 0, .int .i64 0]) := T9
  clear T9
  have H9 := HH.past hB
  clear HH
  have HH := H9
  clear H9
  (try (have q9 := FT.out; clear FT; have FT : Hid _ := owns_past q9 hB; clear q9))
  (try (have q9 := FC.out; clear FC; have FC : Hid _ := PO.past q9 hB; clear q9))
  (try (have q9 := FZ.out; clear FZ; have FZ : Hid _ := PO.past q9 hB; clear q9))
  (try (have q9 := FD.out; clear FD; have FD : Hid _ := owns_past q9 hB; clear q9))
  have FZ := FZ9
  clear FZ9 hB
  (try go_wp2_with fail)
  refine hK.out _ _ HH (fun _ => ?_)
  clear hK K
  (try simp only [Act.put, List.setIfInBounds_toArray, List.set_cons_zero, List.set_cons_succ])
  refine wpAnyH_ready (rs := [11]) (by kernel_rfl) (by simp) ?_
  refine AllReadyH.cons ov11 (fun K hK => ?_) AllReadyH.nil
  rw [if_pos (by rfl)]
  go_simp
  refine (own_is _ _ c.d SRC.out.d (by have := HSM.out; unfold Small at this; omega)).mono ?_
  rintro e z1 ⟨v9, rfl, hP, hB⟩
  obtain ⟨ea, ec, rfl⟩ := owns_sl hP
  have FD9 : Hid (z1.ownsRow b1 5 1 (.slice ea c.d.length ec) c.d.length (bV c.d)) := owns_base hP (Nat.le_trans GE.out B.out.size)
  clear hP
  have B9 := B.out.trans (hB.mono (Nat.le_trans GE.out B.out.size))
  clear B
  have B : Hid (Below b1 w z1) := B9
  clear B9
  have S9 := SRC.out.past hB
  clear SRC
  have SRC : Hid _ := S9
  clear S9
  have T9 := BX.out.past hB
  clear BX
  have BX : Hid (CBox z1 b2 28 [.slice none 0 0, .slice none 0 0, .slice none 0 0, .slice none 0 0, .int .i64 0]) := T9
  clear T9
  have H9 := HH.past hB
  clear HH
  have HH := H9
  clear H9
  (try (have q9 := FT.out; clear FT; have FT : Hid _ := owns_past q9 hB; clear q9))
  (try (have q9 := FC.out; clear FC; have FC : Hid _ := PO.past q9 hB; clear q9))
  (try (have q9 := FZ.out; clear FZ; have FZ : Hid _ := PO.past q9 hB; clear q9))
  (try (have q9 := FD.out; clear FD; have FD : Hid _ := owns_past q9 hB; clear q9))
  have FD := FD9
  clear FD9 hB
  (try go_wp2_with fail)
  refine hK.out _ _ HH (fun _ => ?_)
  clear hK K
  (try simp only [Act.put, List.setIfInBounds_toArray, List.set_cons_zero, List.set_cons_succ])
  refine wpAnyH_take (i := 14) (v := .agg #[.slice qa c.ts.length qc, .slice xa c.cs.length xc, .slice ya c.ss.length yc, .slice ea c.d.length ec, .int .i64 c.n]) ov14 (by kernel_rfl) (by kernel_rfl) (by kernel_rfl) (fun _ _ _ h => h) (Or.inl ⟨by rfl, fun V' hS => ?_⟩) HH ?_
  · go_simp
  simp only [Act.put, List.setIfInBounds_toArray, List.set_cons_zero, List.set_cons_succ]
  refine wpAnyH_ready (rs := [15]) (by kernel_rfl) (by simp) ?_
  refine AllReadyH.cons ov15 (fun K hK => ?_) AllReadyH.nil
  rw [if_pos (by rfl)]
  have k0 : z1.cell? ⟨b2, 0, none⟩ = some (.slice none 0 0) := BX.out.cell 0
  have k1 : z1.cell? ⟨b2, 1, none⟩ = some (.slice none 0 0) := BX.out.cell 1
  have k2 : z1.cell? ⟨b2, 2, none⟩ = some (.slice none 0 0) := BX.out.cell 2
  have k3 : z1.cell? ⟨b2, 3, none⟩ = some (.slice none 0 0) := BX.out.cell 3
  have k4 : z1.cell? ⟨b2, 4, none⟩ = some (.int .i64 0) := BX.out.cell 4
  have f0 := CBox.frozen BX.out 0
  have f1 := CBox.frozen BX.out 1
  have f2 := CBox.frozen BX.out 2
  have f3 := CBox.frozen BX.out 3
  have f4 := CBox.frozen BX.out 4
  go_simp
  clear k0 k1 k2 k3 k4 f0 f1 f2 f3 f4
  have hs : But (fun y => y = b2) z1 (((((z1.setCell ⟨b2, 0, none⟩ (.slice qa c.ts.length qc)).setCell ⟨b2, 1, none⟩ (.slice xa c.cs.length xc)).setCell ⟨b2, 2, none⟩ (.slice ya c.ss.length yc)).setCell ⟨b2, 3, none⟩ (.slice ea c.d.length ec)).setCell ⟨b2, 4, none⟩ (.int .i64 c.n)) := ((((((But.refl (fun y => y = b2) z1).setCell ⟨b2, 0, none⟩ _ (Or.inl rfl)).setCell ⟨b2, 1, none⟩ _ (Or.inl rfl)).setCell ⟨b2, 2, none⟩ _ (Or.inl rfl)).setCell ⟨b2, 3, none⟩ _ (Or.inl rfl)).setCell ⟨b2, 4, none⟩ _ (Or.inl rfl))
  have ra : Alien z1 b2 := ⟨_, _, BX.out, by decide, by decide, by decide⟩
  have cb : CBox (((((z1.setCell ⟨b2, 0, none⟩ (.slice qa c.ts.length qc)).setCell ⟨b2, 1, none⟩ (.slice xa c.cs.length xc)).setCell ⟨b2, 2, none⟩ (.slice ya c.ss.length yc)).setCell ⟨b2, 3, none⟩ (.slice ea c.d.length ec)).setCell ⟨b2, 4, none⟩ (.int .i64 c.n)) b2 28 [.slice qa c.ts.length qc, .slice xa c.cs.length xc, .slice ya c.ss.length yc, .slice ea c.d.length ec, .int .i64 c.n] := (((((BX.out.set 0 _).set 1 _).set 2 _).set 3 _).set 4 _)
  have HF : Hid (CBox (((((z1.setCell ⟨b2, 0, none⟩ (.slice qa c.ts.length qc)).setCell ⟨b2, 1, none⟩ (.slice xa c.cs.length xc)).setCell ⟨b2, 2, none⟩ (.slice ya c.ss.length yc)).setCell ⟨b2, 3, none⟩ (.slice ea c.d.length ec)).setCell ⟨b2, 4, none⟩ (.int .i64 c.n)) b2 28 [.slice qa c.ts.length qc, .slice xa c.cs.length xc, .slice ya c.ss.length yc, .slice ea c.d.length ec, .int .i64 c.n] ∧ DO b1 (((((z1.setCell ⟨b2, 0, none⟩ (.slice qa c.ts.length qc)).setCell ⟨b2, 1, none⟩ (.slice xa c.cs.length xc)).setCell ⟨b2, 2, none⟩ (.slice ya c.ss.length yc)).setCell ⟨b2, 3, none⟩ (.slice ea c.d.length ec)).setCell ⟨b2, 4, none⟩ (.int .i64 c.n)) (.agg #[.slice qa c.ts.length qc, .slice xa c.cs.length xc, .slice ya c.ss.length yc, .slice ea c.d.length ec, .int .i64 c.n]) c ∧ Below b1 w (((((z1.setCell ⟨b2, 0, none⟩ (.slice qa c.ts.length qc)).setCell ⟨b2, 1, none⟩ (.slice xa c.cs.length xc)).setCell ⟨b2, 2, none⟩ (.slice ya c.ss.length yc)).setCell ⟨b2, 3, none⟩ (.slice ea c.d.length ec)).setCell ⟨b2, 4, none⟩ (.int .i64 c.n))) := ⟨cb, ⟨_, _, _, _, _, _, _, _, rfl, row_alienT FT.out hs ra, PO.alien FC.out hs ra, PO.alien FZ.out hs ra, row_alien FD.out hs ra, FAP.out⟩, B.out.trans (hs.below (fun g e => by have := GL.out; omega) (Nat.le_trans GE.out B.out.size))⟩
  have HHN := HH.but hs (by have := GL.out; omega)
  clear hs ra cb HH
  refine hK.out _ (((((z1.setCell ⟨b2, 0, none⟩ (.slice qa c.ts.length qc)).setCell ⟨b2, 1, none⟩ (.slice xa c.cs.length xc)).setCell ⟨b2, 2, none⟩ (.slice ya c.ss.length yc)).setCell ⟨b2, 3, none⟩ (.slice ea c.d.length ec)).setCell ⟨b2, 4, none⟩ (.int .i64 c.n)) HHN (fun _ => ?_)
  clear hK K
  (try simp only [Act.put, List.setIfInBounds_toArray, List.set_cons_zero, List.set_cons_succ])
  generalize (((((z1.setCell ⟨b2, 0, none⟩ (.slice qa c.ts.length qc)).setCell ⟨b2, 1, none⟩ (.slice xa c.cs.length xc)).setCell ⟨b2, 2, none⟩ (.slice ya c.ss.length yc)).setCell ⟨b2, 3, none⟩ (.slice ea c.d.length ec)).setCell ⟨b2, 4, none⟩ (.int .i64 c.n)) = Z9 at HF HHN ⊢
  refine wpAnyH_done (by kernel_rfl) ?_ _
  clear HHN
  go_wp2
  refine bodyPost_ret (v := .agg #[.slice qa c.ts.length qc, .slice xa c.cs.length xc, .slice ya c.ss.length yc, .slice ea c.d.length ec, .int .i64 c.n]) (results_c (p := 2) (ty := 28) Try.results19 _ _ _ ⟨b2, 0, none⟩ rfl (run_loadVar_mid Z9 b2 0 28 [.slice qa c.ts.length qc, .slice xa c.cs.length xc, .slice ya c.ss.length yc, .slice ea c.d.length ec, .int .i64 c.n] _ HF.out.1.range Try.underlying28 rfl (by kernel_rfl))) rfl ?_
  exact ⟨_, rfl, by rw [GB.out]; exact HF.out.2.1, by rw [GB.out]; exact HF.out.2.2⟩
end Go.Proofs.Ytndhabhlajldeaa
/- The laws' weight: how many bytes, types and lists a container has. -/
namespace Go.Proofs.Ytndhabhlajldeaa
open Go.RowKit
def fourOf (c : Con) : Nat := c.ts.length + c.cs.length + c.ss.length + c.d.length
def total (c : Con) : Nat := fourOf c + c.cs.flatten.length + c.ss.flatten.length
theorem total_small {c : Con} (h : total c ≤ 2097152) : Small c := by
  unfold total fourOf at h
  unfold Small
  omega
set_option maxHeartbeats 8000000 in
set_option maxRecDepth 100000 in
theorem weight_is {P : Nat → Prop} (w : World) (v : Value) (c : Con) (h : CW P w v c) : Calls Try.prog 18 #[v] w fun e w' => (∃ n : Nat, e = .returned (.int .i64 (n : Int)) ∧ (n ≤ 2097152 → total c = n)) ∧ Below w.heap.size w w' := by
  obtain ⟨tv, cv, sv, dv, rfl, h1, h2, h3, h4⟩ := h
  obtain ⟨ta, tc, rfl, _, l1⟩ := h1.len
  obtain ⟨ca, cc, rfl, _, l2⟩ := h2.len
  obtain ⟨sa, sc, rfl, _, l3⟩ := h3.len
  obtain ⟨da, dc, rfl, _, l4⟩ := h4.len
  have b1 := below_alloc w (.cells #[.slice ta c.ts.length tc, .slice ca c.cs.length cc, .slice sa c.ss.length sc, .slice da c.d.length dc, .int .i64 c.n] 28)
  have HX : Hid (CBox (w.alloc (.cells #[.slice ta c.ts.length tc, .slice ca c.cs.length cc, .slice sa c.ss.length sc, .slice da c.d.length dc, .int .i64 c.n] 28)) w.heap.size 28 [.slice ta c.ts.length tc, .slice ca c.cs.length cc, .slice sa c.ss.length sc, .slice da c.d.length dc, .int .i64 c.n] ∧ Below w.heap.size w (w.alloc (.cells #[.slice ta c.ts.length tc, .slice ca c.cs.length cc, .slice sa c.ss.length sc, .slice da c.d.length dc, .int .i64 c.n] 28))) := ⟨CBox.new w _ [_, _, _, _, _], b1⟩
  have HS : Hid (PL P (w.alloc (.cells #[.slice ta c.ts.length tc, .slice ca c.cs.length cc, .slice sa c.ss.length sc, .slice da c.d.length dc, .int .i64 c.n] 28)) (.slice ca c.cs.length cc) c.cs ∧ PL P (w.alloc (.cells #[.slice ta c.ts.length tc, .slice ca c.cs.length cc, .slice sa c.ss.length sc, .slice da c.d.length dc, .int .i64 c.n] 28)) (.slice sa c.ss.length sc) c.ss) := ⟨h2.past b1, h3.past b1⟩
  obtain ⟨x1, hx1⟩ : ∃ x, x = c.ts.length + c.cs.length := ⟨_, rfl⟩
  obtain ⟨x2, hx2⟩ : ∃ x, x = x1 + c.ss.length := ⟨_, rfl⟩
  obtain ⟨x3, hx3⟩ : ∃ x, x = x2 + c.d.length := ⟨_, rfl⟩
  have r1 : (c.ts.length : Int) + (c.cs.length : Int) = (x1 : Int) := by omega
  have r2 : (x1 : Int) + (c.ss.length : Int) = (x2 : Int) := by omega
  have r3 : (x2 : Int) + (c.d.length : Int) = (x3 : Int) := by omega
  have w1 : IntKind.i64.wrap (x1 : Int) = (x1 : Int) := by rw [IntKind.wrap_i64]; omega
  have w2 : IntKind.i64.wrap (x2 : Int) = (x2 : Int) := by rw [IntKind.wrap_i64]; omega
  have w3 : IntKind.i64.wrap (x3 : Int) = (x3 : Int) := by rw [IntKind.wrap_i64]; omega
  have H4 : Hid (x3 = fourOf c) := by unfold Hid fourOf; omega
  have HLL : Hid (c.cs.length ≤ 1152921504606846976 ∧ c.ss.length ≤ 1152921504606846976) := ⟨l2, l3⟩
  clear h1 h2 h3 h4 b1 hx1 hx2 hx3 l1 l2 l3 l4
  go_enter Try.func18, Try.ntmps18
  go_upto_region 1 with fail
  generalize hbx : w.heap.size = bx at HX ⊢
  have GB : Hid (w.heap.size = bx) := hbx
  clear hbx
  generalize w.alloc _ = W0 at HX HS ⊢
  have a0 : W0.cell? ⟨bx, 0, none⟩ = some (.slice ta c.ts.length tc) := HX.out.1.cell 0
  have a1 : W0.cell? ⟨bx, 1, none⟩ = some (.slice ca c.cs.length cc) := HX.out.1.cell 1
  have a2 : W0.cell? ⟨bx, 2, none⟩ = some (.slice sa c.ss.length sc) := HX.out.1.cell 2
  have a3 : W0.cell? ⟨bx, 3, none⟩ = some (.slice da c.d.length dc) := HX.out.1.cell 3
  have a4 : W0.cell? ⟨bx, 4, none⟩ = some (.int .i64 c.n) := HX.out.1.cell 4
  go_upto_region 2 with fail
  clear r1 r2 r3 w1 w2 w3 a0 a3 a4
  go_wp2
  go_loopw [3, 4] (fun s3 s4 wr => ∃ (k m : Nat), s4 = .int .i64 (k : Int) ∧ s3 = .int .i64 (m : Int) ∧ k ≤ c.cs.length ∧ m = x3 + (c.cs.take k).flatten.length ∧ wr = W0) (fun _ s4 _ => c.cs.length - (intOf s4).toNat)
  case atStart => exact ⟨0, x3, rfl, rfl, by omega, by simp, rfl⟩
  case round =>
    obtain ⟨k, m, rfl, rfl, hk, hn, hw⟩ := hrel
    have hw2 := hw.symm
    clear hw
    subst hw2
    have HN : Hid (m = x3 + (c.cs.take k).flatten.length) := hn
    clear hn
    by_cases e : k = c.cs.length
    · have q1 : ¬ (k : Int) < (c.cs.length : Int) := by omega
      have HT : Hid (m = fourOf c + c.cs.flatten.length ∨ 2097152 < m) := Or.inl (by have h9 := HN.out; rw [List.take_of_length_le (by omega)] at h9; rw [← H4.out]; exact h9)
      go_wp2
      go_loopw [3, 5] (fun s3 s5 wr => ∃ (k n : Nat), s5 = .int .i64 (k : Int) ∧ s3 = .int .i64 (n : Int) ∧ k ≤ c.ss.length ∧ (n = m + (c.ss.take k).flatten.length ∨ 2097152 < n) ∧ wr = W0) (fun _ s5 _ => c.ss.length - (intOf s5).toNat)
      case atStart => exact ⟨0, m, rfl, rfl, by omega, Or.inl (by simp), rfl⟩
      case round =>
        obtain ⟨k, n, rfl, rfl, hk, hn, hw⟩ := hrel
        have hw2 := hw.symm
        clear hw
        subst hw2
        have HN : Hid ((n = m + (c.ss.take k).flatten.length ∨ 2097152 < n)) := hn
        clear hn
        by_cases e : k = c.ss.length
        · have q1 : ¬ (k : Int) < (c.ss.length : Int) := by omega
          have HF : Hid (total c = n ∨ (2097152 < n)) := by
            have h9 := HN.out
            have h8 := HT.out
            unfold Hid total
            rw [List.take_of_length_le (by omega)] at h9; omega
          clear e
          go_wp2
          go_ret
          exact ⟨⟨n, rfl, by have := HF.out; omega⟩, by rw [GB.out]; exact HX.out.2⟩
        · have q1 : (k : Int) < (c.ss.length : Int) := by omega
          by_cases en : n ≤ 2097152
          · have q2 : (n : Int) ≤ 2097152 := by omega
            obtain ⟨x, hx⟩ : ∃ x, c.ss[k]? = some x := ⟨c.ss[k]'(by omega), List.getElem?_eq_getElem _⟩
            obtain ⟨g, a, u, eg, hcell, hb⟩ := (HS.out.2).get hx
            subst eg
            obtain ⟨ad2, cap2, rfl, _, hl2⟩ := hb.len
            obtain ⟨n2, hn2⟩ : ∃ n2, n2 = n + x.length := ⟨_, rfl⟩
            have r1 : (n : Int) + (x.length : Int) = (n2 : Int) := by omega
            have w1 : IntKind.i64.wrap (n2 : Int) = (n2 : Int) := by rw [IntKind.wrap_i64]; omega
            have HN2 : Hid ((n2 = m + (c.ss.take (k + 1)).flatten.length ∨ 2097152 < n2)) := by
              have h9 := HN.out
              unfold Hid
              rw [flatten_snoc hx, List.length_append]
              omega
            have HK : Hid (k + 1 ≤ c.ss.length) := by unfold Hid; omega
            have kB : (k : Int) < 1152921504606846976 := by have := HLL.out; omega
            clear hx hb e en hn2 hl2 hk
            go_wp2
            go_roundw
            case rel => exact ⟨k + 1, n2, by first | rfl | go_num, rfl, HK.out, HN2.out, by first | rfl | trivial⟩
            case measure => simp [intOf]; omega
          · have q2 : ¬ (n : Int) ≤ 2097152 := by omega
            have HF : Hid (total c = n ∨ (2097152 < n)) := by
              have h9 := HN.out
              have h8 := HT.out
              unfold Hid total
              omega
            clear e en
            go_wp2
            go_ret
            exact ⟨⟨n, rfl, by have := HF.out; omega⟩, by rw [GB.out]; exact HX.out.2⟩
    · have q1 : (k : Int) < (c.cs.length : Int) := by omega
      by_cases en : m ≤ 2097152
      · have q2 : (m : Int) ≤ 2097152 := by omega
        obtain ⟨x, hx⟩ : ∃ x, c.cs[k]? = some x := ⟨c.cs[k]'(by omega), List.getElem?_eq_getElem _⟩
        obtain ⟨g, a, u, eg, hcell, hb⟩ := (HS.out.1).get hx
        subst eg
        obtain ⟨ad2, cap2, rfl, _, hl2⟩ := hb.len
        obtain ⟨m2, hn2⟩ : ∃ m2, m2 = m + x.length := ⟨_, rfl⟩
        have r1 : (m : Int) + (x.length : Int) = (m2 : Int) := by omega
        have w1 : IntKind.i64.wrap (m2 : Int) = (m2 : Int) := by rw [IntKind.wrap_i64]; omega
        have HN2 : Hid (m2 = x3 + (c.cs.take (k + 1)).flatten.length) := by
          have h9 := HN.out
          unfold Hid
          rw [flatten_snoc hx, List.length_append]
          omega
        have HK : Hid (k + 1 ≤ c.cs.length) := by unfold Hid; omega
        have kB : (k : Int) < 1152921504606846976 := by have := HLL.out; omega
        clear hx hb e en hn2 hl2 hk
        go_wp2
        go_roundw
        case rel => exact ⟨k + 1, m2, by first | rfl | go_num, rfl, HK.out, HN2.out, by first | rfl | trivial⟩
        case measure => simp [intOf]; omega
      · have q2 : ¬ (m : Int) ≤ 2097152 := by omega
        have HT : Hid (m = fourOf c + c.cs.flatten.length ∨ 2097152 < m) := Or.inr (by omega)
        go_wp2
        go_loopw [3, 5] (fun s3 s5 wr => ∃ (k n : Nat), s5 = .int .i64 (k : Int) ∧ s3 = .int .i64 (n : Int) ∧ k ≤ c.ss.length ∧ (n = m + (c.ss.take k).flatten.length ∨ 2097152 < n) ∧ wr = W0) (fun _ s5 _ => c.ss.length - (intOf s5).toNat)
        case atStart => exact ⟨0, m, rfl, rfl, by omega, Or.inl (by simp), rfl⟩
        case round =>
          obtain ⟨k, n, rfl, rfl, hk, hn, hw⟩ := hrel
          have hw2 := hw.symm
          clear hw
          subst hw2
          have HN : Hid ((n = m + (c.ss.take k).flatten.length ∨ 2097152 < n)) := hn
          clear hn
          by_cases e : k = c.ss.length
          · have q1 : ¬ (k : Int) < (c.ss.length : Int) := by omega
            have HF : Hid (total c = n ∨ (2097152 < n)) := by
              have h9 := HN.out
              have h8 := HT.out
              unfold Hid total
              rw [List.take_of_length_le (by omega)] at h9; omega
            clear e
            go_wp2
            go_ret
            exact ⟨⟨n, rfl, by have := HF.out; omega⟩, by rw [GB.out]; exact HX.out.2⟩
          · have q1 : (k : Int) < (c.ss.length : Int) := by omega
            by_cases en : n ≤ 2097152
            · have q2 : (n : Int) ≤ 2097152 := by omega
              obtain ⟨x, hx⟩ : ∃ x, c.ss[k]? = some x := ⟨c.ss[k]'(by omega), List.getElem?_eq_getElem _⟩
              obtain ⟨g, a, u, eg, hcell, hb⟩ := (HS.out.2).get hx
              subst eg
              obtain ⟨ad2, cap2, rfl, _, hl2⟩ := hb.len
              obtain ⟨n2, hn2⟩ : ∃ n2, n2 = n + x.length := ⟨_, rfl⟩
              have r1 : (n : Int) + (x.length : Int) = (n2 : Int) := by omega
              have w1 : IntKind.i64.wrap (n2 : Int) = (n2 : Int) := by rw [IntKind.wrap_i64]; omega
              have HN2 : Hid ((n2 = m + (c.ss.take (k + 1)).flatten.length ∨ 2097152 < n2)) := by
                have h9 := HN.out
                unfold Hid
                rw [flatten_snoc hx, List.length_append]
                omega
              have HK : Hid (k + 1 ≤ c.ss.length) := by unfold Hid; omega
              have kB : (k : Int) < 1152921504606846976 := by have := HLL.out; omega
              clear hx hb e en hn2 hl2 hk
              go_wp2
              go_roundw
              case rel => exact ⟨k + 1, n2, by first | rfl | go_num, rfl, HK.out, HN2.out, by first | rfl | trivial⟩
              case measure => simp [intOf]; omega
            · have q2 : ¬ (n : Int) ≤ 2097152 := by omega
              have HF : Hid (total c = n ∨ (2097152 < n)) := by
                have h9 := HN.out
                have h8 := HT.out
                unfold Hid total
                omega
              clear e en
              go_wp2
              go_ret
              exact ⟨⟨n, rfl, by have := HF.out; omega⟩, by rw [GB.out]; exact HX.out.2⟩
end Go.Proofs.Ytndhabhlajldeaa
/- What is refused: why and where; whole and open. -/
namespace Go.Proofs.Ytndhabhlajldeaa
/-- an error that tells something, at a place within the bytes -/
def Gd {α : Type} (b : List Nat) (r : Except Er α) : Prop := ∀ c a, r = .error (c, a) → 0 < c ∧ a ≤ b.length
theorem gd_ok {α : Type} (b : List Nat) (x : α) : Gd b (.ok x : Except Er α) := fun _ _ h => by cases h
theorem gd_bind {α β : Type} {b : List Nat} {x : Except Er α} {f : α → Except Er β} (h : Gd b x) (k : ∀ v, x = .ok v → Gd b (f v)) : Gd b (x.bind f) := by
  cases x with
  | error er =>
    intro c a e
    exact h c a (by
      have : (Except.error er : Except Er β) = .error (c, a) := e
      cases this
      rfl)
  | ok v => exact k v rfl
theorem gd_fld {b : List Nat} {k w why : Nat} {p : Nat → Bool} (hw : 0 < why ∨ ∀ n, p n = true) : Gd b (fld b k w why p) := by
  intro c a e
  unfold fld at e
  split at e
  · cases e
    exact ⟨by omega, by omega⟩
  · split at e
    · cases e
    · rename_i h1 h2
      cases e
      refine ⟨?_, by omega⟩
      rcases hw with h | h
      · exact h
      · exact absurd (h _) h2
theorem gd_lens {b : List Nat} {w : Nat} : ∀ (m k : Nat), Gd b (lens b w k m)
  | 0, k => gd_ok b _
  | m + 1, k => by
    rw [lens]
    exact gd_bind (gd_fld (Or.inl (by omega))) fun n _ => gd_bind (gd_lens m _) fun r _ => gd_ok b _
theorem gd_tys {b : List Nat} : ∀ (m k i : Nat), Gd b (tys b k i m)
  | 0, k, i => gd_ok b _
  | m + 1, k, i => by
    rw [tys]
    refine gd_bind ?_ fun t _ => gd_bind (gd_tys m _ _) fun r _ => gd_ok b _
    unfold tyAt
    exact gd_bind (gd_fld (Or.inl (by omega))) fun x _ => gd_bind (gd_fld (Or.inl (by omega))) fun y _ => gd_bind (gd_fld (Or.inl (by omega))) fun z _ => gd_ok b _
theorem gd_end {b : List Nat} (k : Nat) (cs ss : List Nat) : Gd b (hdEnd b k cs ss) := by
  unfold hdEnd
  exact gd_bind (gd_fld (Or.inr fun _ => rfl)) fun d _ => gd_bind (gd_fld (Or.inl (by omega))) fun _ _ => gd_ok b _
theorem gd_hdr (b : List Nat) : Gd b (hdr b) := by
  unfold hdr
  refine gd_bind (gd_fld (Or.inl (by omega))) fun _ _ => gd_bind (gd_fld (Or.inl (by omega))) fun _ _ => gd_bind (gd_fld (Or.inl (by omega))) fun _ _ => gd_bind (gd_fld (Or.inl (by omega))) fun _ _ => gd_bind (gd_fld (Or.inl (by omega))) fun t _ => gd_bind (gd_fld (Or.inl (by omega))) fun _ _ => gd_bind (gd_fld (Or.inl (by omega))) fun m _ => gd_bind (gd_lens _ _) fun cs _ => ?_
  unfold hdKind
  refine gd_bind (gd_fld (Or.inl (by omega))) fun q _ => ?_
  split
  · unfold hdSubs
    exact gd_bind (gd_fld (Or.inl (by omega))) fun s _ => gd_bind (gd_lens _ _) fun ss _ => gd_bind (gd_fld (Or.inl (by omega))) fun _ _ => gd_end _ _ _
  · exact gd_end _ _ _
theorem gd_msr {b : List Nat} {k n d : Nat} {opn : Bool} : Gd b (msr b k n d opn) := by
  by_cases q1 : b.length < (if opn then k + n else k + n + d)
  · rw [msr_cut q1]
    intro c a e
    cases e
    exact ⟨by omega, Nat.le_refl _⟩
  · by_cases q2 : k + n + d < b.length
    · rw [msr_tail q1 q2]
      intro c a e
      cases e
      exact ⟨by omega, by omega⟩
    · rw [msr_ok q1 q2]
      exact gd_ok b _
theorem gd_prs (b : List Nat) (opn : Bool) : Gd b (prs b opn) := by
  rw [prs_is]
  refine gd_bind (gd_hdr b) fun h _ => gd_bind gd_msr fun _ _ => ?_
  unfold bdy
  exact gd_bind (gd_tys _ _ _) fun ts _ => gd_ok b _
/-- what is taken open, with less data than declared, is cut as a whole one -/
theorem prs_short {b : List Nat} {c : Con} (g : prs b true = .ok c) (hn : (c.d.length : Int) ≠ c.n) : prs b false = .error (50, b.length) := by
  unfold prs at g ⊢
  cases hh : hdr b with
  | error er => rw [hh] at g; cases g
  | ok h =>
    rw [hh] at g
    simp only [Except.bind, if_true, if_false, Bool.false_eq_true] at g ⊢
    split at g
    · cases g
    · split at g
      · cases g
      · rename_i q1 q2
        cases ht : tys b h.e 0 h.cs.length with
        | error er => rw [ht] at g; cases g
        | ok ts =>
          rw [ht] at g
          cases g
          simp at hn
          rw [if_pos (by omega)]
theorem prs_whole {b : List Nat} (hb : Byt b) {c : Con} (g : prs b true = .ok c) (hn : (c.d.length : Int) = c.n) : prs b false = .ok c := by
  obtain ⟨hm, hs, _⟩ := prs_ok hb g
  rw [← hs]
  exact prs_ser hm false fun _ => hn
theorem prs_opens {b : List Nat} (hb : Byt b) {c : Con} (g : prs b false = .ok c) : prs b true = .ok c := by
  obtain ⟨hm, hs, _⟩ := prs_ok hb g
  rw [← hs]
  exact prs_ser hm true fun e => by cases e
theorem prs_total {b : List Nat} (hb : Byt b) {opn : Bool} {c : Con} (g : prs b opn = .ok c) (hl : b.length ≤ 2097152) : Small c := by
  obtain ⟨hm, hs, _⟩ := prs_ok hb g
  have h1 := congrArg List.length hs
  unfold ser at h1
  simp only [List.length_append] at h1
  have h2 := hm.nt
  have h3 := hm.n2
  have h4 := hm.ns
  unfold Small
  omega
end Go.Proofs.Ytndhabhlajldeaa
/- A beginning of a container's bytes is cut at its end; with bytes behind there is a tail. -/
namespace Go.Proofs.Ytndhabhlajldeaa
/-- other bytes: where both have a field it is the same -/
def Agr (b b' : List Nat) : Prop := ∀ k w, k + w ≤ b.length → k + w ≤ b'.length → rd b' k w = rd b k w
/-- what is read of the one is read of the other, or that is cut -/
def Tw {α : Type} (b b' : List Nat) (r r' : Except Er α) : Prop := ∀ v, r = .ok v → r' = .ok v ∨ (b'.length < b.length ∧ r' = .error (50, b'.length))
theorem tw_ok {α : Type} (b b' : List Nat) (x : α) : Tw b b' (.ok x : Except Er α) (.ok x) := fun _ h => Or.inl h
theorem tw_bind {α β : Type} {b b' : List Nat} {r r' : Except Er α} {f f' : α → Except Er β} (h : Tw b b' r r') (k : ∀ v, Tw b b' (f v) (f' v)) : Tw b b' (r.bind f) (r'.bind f') := by
  intro v hv
  obtain ⟨x, hx, hf⟩ := bind_ok hv
  rcases h x hx with e | ⟨l, e⟩
  · rw [e]
    exact k x v hf
  · rw [e]
    exact Or.inr ⟨l, rfl⟩
theorem tw_fld {b b' : List Nat} (ha : Agr b b') (k w why : Nat) (p : Nat → Bool) : Tw b b' (fld b k w why p) (fld b' k w why p) := by
  intro v hv
  unfold fld at hv ⊢
  by_cases q1 : b.length < k + w
  · rw [if_pos q1] at hv
    cases hv
  · rw [if_neg q1] at hv
    by_cases q2 : b'.length < k + w
    · rw [if_pos q2]
      exact Or.inr ⟨by omega, rfl⟩
    · rw [if_neg q2, ha k w (by omega) (by omega)]
      exact Or.inl hv
theorem tw_lens {b b' : List Nat} (ha : Agr b b') (w : Nat) : ∀ (m k : Nat), Tw b b' (lens b w k m) (lens b' w k m)
  | 0, k => tw_ok b b' _
  | m + 1, k => by
    rw [lens, lens]
    exact tw_bind (tw_fld ha _ _ _ _) fun n => tw_bind (tw_lens ha w m _) fun r => tw_ok b b' _
theorem tw_end {b b' : List Nat} (ha : Agr b b') (k : Nat) (cs ss : List Nat) : Tw b b' (hdEnd b k cs ss) (hdEnd b' k cs ss) := by
  unfold hdEnd
  exact tw_bind (tw_fld ha _ _ _ _) fun d => tw_bind (tw_fld ha _ _ _ _) fun _ => tw_ok b b' _
theorem tw_hdr {b b' : List Nat} (ha : Agr b b') : Tw b b' (hdr b) (hdr b') := by
  unfold hdr
  refine tw_bind (tw_fld ha _ _ _ _) fun _ => tw_bind (tw_fld ha _ _ _ _) fun _ => tw_bind (tw_fld ha _ _ _ _) fun _ => tw_bind (tw_fld ha _ _ _ _) fun _ => tw_bind (tw_fld ha _ _ _ _) fun t => tw_bind (tw_fld ha _ _ _ _) fun _ => tw_bind (tw_fld ha _ _ _ _) fun m => tw_bind (tw_lens ha _ _ _) fun cs => ?_
  unfold hdKind
  refine tw_bind (tw_fld ha _ _ _ _) fun q => ?_
  by_cases e : q = 3
  · rw [if_pos e, if_pos e]
    unfold hdSubs
    exact tw_bind (tw_fld ha _ _ _ _) fun s => tw_bind (tw_lens ha _ _ _) fun ss => tw_bind (tw_fld ha _ _ _ _) fun _ => tw_end ha _ _ _
  · rw [if_neg e, if_neg e]
    exact tw_end ha _ _ _
theorem agr_take (b : List Nat) (n : Nat) : Agr b (b.take n) := fun k w _ h2 => by
  rw [List.length_take] at h2
  unfold rd
  rw [List.drop_take, List.take_take, Nat.min_eq_left (by omega)]
theorem agr_app (b t : List Nat) : Agr b (b ++ t) := fun k w h1 _ => by
  unfold rd
  rw [List.drop_append_of_le_length (by omega), List.take_append_of_le_length (by rw [List.length_drop]; omega)]
/-- of whole bytes: where the header ends, and all that lies behind -/
theorem prs_size {b : List Nat} {c : Con} (g : prs b false = .ok c) : ∃ h, hdr b = .ok h ∧ h.e + 4 * h.cs.length + sumL h.cs + sumL h.ss + h.d = b.length := by
  unfold prs at g
  obtain ⟨h, g1, g⟩ := bind_ok g
  refine ⟨h, g1, ?_⟩
  have g2 : (if b.length < h.e + 4 * h.cs.length + sumL h.cs + sumL h.ss + h.d then (.error (50, b.length) : Except Er Con) else if h.e + 4 * h.cs.length + sumL h.cs + sumL h.ss + h.d < b.length then .error (58, h.e + 4 * h.cs.length + sumL h.cs + sumL h.ss + h.d) else (tys b h.e 0 h.cs.length).bind fun ts => .ok ⟨ts, cuts b (h.e + 4 * h.cs.length) h.cs, cuts b (h.e + 4 * h.cs.length + sumL h.cs) h.ss, b.drop (h.e + 4 * h.cs.length + sumL h.cs + sumL h.ss), (h.d : Int)⟩) = .ok c := g
  by_cases q1 : b.length < h.e + 4 * h.cs.length + sumL h.cs + sumL h.ss + h.d
  · rw [if_pos q1] at g2
    cases g2
  · rw [if_neg q1] at g2
    by_cases q2 : h.e + 4 * h.cs.length + sumL h.cs + sumL h.ss + h.d < b.length
    · rw [if_pos q2] at g2
      cases g2
    · omega
theorem prs_take {b : List Nat} {c : Con} (g : prs b false = .ok c) {n : Nat} (hn : n < b.length) : prs (b.take n) false = .error (50, n) := by
  obtain ⟨h, g1, g2⟩ := prs_size g
  have hl : (b.take n).length = n := by rw [List.length_take]; omega
  rw [prs_is]
  rcases tw_hdr (agr_take b n) h g1 with e | ⟨_, e⟩
  · rw [e]
    show (msr (b.take n) h.e (4 * h.cs.length + sumL h.cs + sumL h.ss) h.d false).bind _ = _
    rw [msr_cut (by rw [hl]; show n < h.e + (4 * h.cs.length + sumL h.cs + sumL h.ss) + h.d; omega), hl]
    rfl
  · rw [e, hl]
    rfl
theorem prs_more {b : List Nat} {c : Con} (g : prs b false = .ok c) {t : List Nat} (ht : t.length ≠ 0) (opn : Bool) : prs (b ++ t) opn = .error (58, b.length) := by
  obtain ⟨h, g1, g2⟩ := prs_size g
  have hl : (b ++ t).length = b.length + t.length := List.length_append
  rw [prs_is]
  rcases tw_hdr (agr_app b t) h g1 with e | ⟨l, _⟩
  · rw [e]
    show (msr (b ++ t) h.e (4 * h.cs.length + sumL h.cs + sumL h.ss) h.d opn).bind _ = _
    have q1 : ¬ (b ++ t).length < (if opn then h.e + (4 * h.cs.length + sumL h.cs + sumL h.ss) else h.e + (4 * h.cs.length + sumL h.cs + sumL h.ss) + h.d) := by
      cases opn
      · show ¬ (b ++ t).length < h.e + (4 * h.cs.length + sumL h.cs + sumL h.ss) + h.d
        omega
      · show ¬ (b ++ t).length < h.e + (4 * h.cs.length + sumL h.cs + sumL h.ss)
        omega
    rw [msr_tail q1 (by omega), show h.e + (4 * h.cs.length + sumL h.cs + sumL h.ss) + h.d = b.length from by omega]
    rfl
  · omega
end Go.Proofs.Ytndhabhlajldeaa
/- A fixed byte of a container's bytes turned: what was taken is refused. -/
namespace Go.Proofs.Ytndhabhlajldeaa
theorem byt_app {l m : List Nat} (h : Byt l) (k : Byt m) : Byt (l ++ m) := fun x hx => (List.mem_append.1 hx).elim (h x) (k x)
theorem byt_flat {ll : List (List Nat)} (h : ∀ l ∈ ll, Byt l) : Byt ll.flatten := fun x hx => by
  obtain ⟨l, hl, hx⟩ := List.mem_flatten.1 hx
  exact h l hl x hx
theorem byt_map {α : Type} {l : List α} {f : α → List Nat} (h : ∀ a, Byt (f a)) : Byt (l.flatMap f) := fun x hx => by
  obtain ⟨a, _, hx⟩ := List.mem_flatMap.1 hx
  exact h a x hx
theorem byt_one {n : Nat} (h : n < 256) : Byt [n] := fun x hx => by rw [List.mem_singleton.1 hx]; exact h
theorem ser_byt {c : Con} (h1 : ∀ l ∈ c.cs, Byt l) (h2 : ∀ l ∈ c.ss, Byt l) (h3 : Byt c.d) : Byt (ser c) := by
  have t : Byt (c.ts.flatMap tyb) := byt_map fun a => byt_app (byt_app (dig_byt _ _) (dig_byt _ _)) (dig_byt _ _)
  have q : Byt (hd (lns c.cs) (lns c.ss) c.n.toNat) := by
    unfold hd
    refine byt_app (byt_app (byt_app (byt_app (byt_app ?_ (byt_app (byt_one (by decide)) (dig_byt _ _))) (byt_app (byt_app (byt_one (by decide)) (dig_byt _ _)) (byt_map fun _ => dig_byt _ _))) ?_) (byt_app (byt_one (by decide)) (dig_byt _ _))) (byt_one (by decide))
    · unfold Byt; decide
    · split
      · exact fun x hx => by cases hx
      · exact byt_app (byt_app (byt_one (by decide)) (dig_byt _ _)) (byt_map fun _ => dig_byt _ _)
  unfold ser
  exact byt_app (byt_app (byt_app (byt_app q t) (byt_flat h1)) (byt_flat h2)) h3
theorem sum_pos {c : Con} (h : May c) : 1 ≤ sumL (lns c.cs) := by
  have h1 := h.n1
  cases e : lns c.cs with
  | nil => have := lns_len c.cs; rw [e] at this; simp at this; omega
  | cons x l =>
    have := (lns_pos h.pc x (by rw [e]; exact List.mem_cons_self ..)).1
    rw [sumL_cons]
    omega
/-- the bytes up to the lengths of the sections -/
def preH (cs : List Nat) : List Nat := 239 :: 0 :: 1 :: 1 :: (4 * cs.length / 256 % 256) :: (4 * cs.length % 256) :: 2 :: (cs.length / 256 % 256) :: (cs.length % 256) :: cs.flatMap (dig 2)
/-- those behind -/
def tlH (ss : List Nat) (n : Nat) (r : List Nat) : List Nat := (if ss.length = 0 then [] else 3 :: (ss.length / 256 % 256) :: (ss.length % 256) :: ss.flatMap (dig 4)) ++ 255 :: (n / 256 % 256) :: (n % 256) :: 0 :: r
theorem hd_cut (cs ss : List Nat) (n : Nat) (r : List Nat) : hd cs ss n ++ r = preH cs ++ tlH ss n r := by
  unfold hd preH tlH
  by_cases e : ss.length = 0
  · rw [if_pos e, if_pos e]
    simp [dig, List.append_assoc]
  · rw [if_neg e, if_neg e]
    simp [dig, List.append_assoc]
theorem preH_len (cs : List Nat) : (preH cs).length = 9 + 2 * cs.length := by
  unfold preH
  simp only [List.length_cons, flat_len]
  omega
theorem dig2_inj {x y : Nat} {w : Nat} (hx : x < 256 ^ w) (hy : y < 256 ^ w) (h : dig w x = dig w y) : x = y := by
  have := congrArg num h
  rw [num_dig, num_dig, Nat.mod_eq_of_lt hx, Nat.mod_eq_of_lt hy] at this
  exact this
theorem flat_inj {w : Nat} : ∀ {l m : List Nat}, l.length = m.length → (∀ x ∈ l, x < 256 ^ w) → (∀ x ∈ m, x < 256 ^ w) → l.flatMap (dig w) = m.flatMap (dig w) → l = m
  | [], [], _, _, _, _ => rfl
  | [], _ :: _, h, _, _, _ => by simp at h
  | _ :: _, [], h, _, _, _ => by simp at h
  | x :: l, y :: m, h, hl, hm, he => by
    rw [List.flatMap_cons, List.flatMap_cons] at he
    obtain ⟨e1, e2⟩ := List.append_inj he (by rw [dig_len, dig_len])
    rw [dig2_inj (hl x (List.mem_cons_self ..)) (hm y (List.mem_cons_self ..)) e1, flat_inj (by simpa using h) (fun z hz => hl z (List.mem_cons_of_mem _ hz)) (fun z hz => hm z (List.mem_cons_of_mem _ hz)) e2]
/-- where the bytes begin that close the header -/
def endOf (c : Con) : Nat := 9 + 2 * c.cs.length + (if c.ss.length = 0 then 0 else 3 + 4 * c.ss.length)
/-- the places of the bytes that are fixed -/
def Place (c : Con) (p : Nat) : Prop := p = 0 ∨ p = 1 ∨ p = 2 ∨ p = 3 ∨ p = 6 ∨ p = 9 + 2 * c.cs.length ∨ p = endOf c ∨ p = endOf c + 3
theorem ser_cut (c : Con) : ser c = preH (lns c.cs) ++ tlH (lns c.ss) c.n.toNat (c.ts.flatMap tyb ++ c.cs.flatten ++ c.ss.flatten ++ c.d) := by
  rw [← hd_cut]
  unfold ser
  simp only [List.append_assoc]
theorem ser_total {c : Con} (h : May c) : (ser c).length = endOf c + 4 + 4 * c.cs.length + sumL (lns c.cs) + sumL (lns c.ss) + c.d.length := by
  rw [ser_len h, hd_len, lns_len, lns_len]
  unfold endOf
  omega
theorem place_lt {c : Con} (h : May c) {p : Nat} (hp : Place c p) : p < (ser c).length := by
  rw [ser_total h]
  unfold Place endOf at hp
  unfold endOf
  split at hp <;> rename_i e
  · rw [if_pos e]; omega
  · rw [if_neg e]; omega
theorem lns_bd {c : Con} (h : May c) : (∀ x ∈ lns c.cs, x < 256 ^ 2) ∧ ∀ x ∈ lns c.ss, x < 256 ^ 4 := ⟨fun x hx => by have := (lns_pos h.pc x hx).2; omega, fun x hx => by have := (lns_pos h.ps x hx).2; omega⟩
theorem tl_none {ss : List Nat} (e : ss.length = 0) (n : Nat) (r : List Nat) : tlH ss n r = 255 :: (n / 256 % 256) :: (n % 256) :: 0 :: r := by unfold tlH; rw [if_pos e]; rfl
theorem tl_some {ss : List Nat} (e : ss.length ≠ 0) (n : Nat) (r : List Nat) : tlH ss n r = 3 :: (ss.length / 256 % 256) :: (ss.length % 256) :: (ss.flatMap (dig 4) ++ 255 :: (n / 256 % 256) :: (n % 256) :: 0 :: r) := by unfold tlH; rw [if_neg e]; rfl
theorem two_eq {x y : Nat} (hx : x < 65536) (hy : y < 65536) (h1 : x / 256 % 256 = y / 256 % 256) (h2 : x % 256 = y % 256) : x = y := by
  rw [Nat.mod_eq_of_lt (by omega), Nat.mod_eq_of_lt (by omega)] at h1
  omega
/-- no container has such bytes -/
theorem turned_no {c c' : Con} (h : May c) (h' : May c') {p x y : Nat} (hp : Place c p) (hx : (ser c)[p]? = some x) (hn : y ≠ x) (he : (ser c).set p y = ser c') : False := by
  have ht := ser_total h
  have ht' := ser_total h'
  have hl : (ser c').length = (ser c).length := by rw [← he, List.length_set]
  have c1 := h.n2; have c2 := h'.n2; have c3 := h.ns; have c4 := h'.ns; have c5 := h.z1; have c6 := h'.z1; have c7 := h.z2; have c8 := h'.z2
  have lc := lns_len c.cs; have lc' := lns_len c'.cs; have ls := lns_len c.ss; have ls' := lns_len c'.ss
  by_cases hq : p < 9
  · have hs : p = 0 ∨ p = 1 ∨ p = 2 ∨ p = 3 ∨ p = 6 := by
      have := h.n1
      unfold Place endOf at hp
      split at hp <;> omega
    rw [ser_cut c] at hx he
    rw [ser_cut c'] at he
    unfold preH at hx he
    rcases hs with rfl | rfl | rfl | rfl | rfl
    · simp at hx he; omega
    · simp at hx he; omega
    · simp at hx he; omega
    · simp at hx he; omega
    · simp at hx he; omega
  · have hp9 : 9 + 2 * c.cs.length ≤ p := by
      unfold Place endOf at hp
      split at hp <;> omega
    obtain ⟨q, rfl⟩ : ∃ q, p = 9 + 2 * c.cs.length + q := ⟨p - (9 + 2 * c.cs.length), by omega⟩
    rw [ser_cut c] at hx he
    rw [ser_cut c'] at he
    have lp : (preH (lns c.cs)).length = 9 + 2 * c.cs.length := by rw [preH_len, lc]
    have lp' : (preH (lns c'.cs)).length = 9 + 2 * c'.cs.length := by rw [preH_len, lc']
    rw [List.set_append_right _ _ (by omega), lp, show 9 + 2 * c.cs.length + q - (9 + 2 * c.cs.length) = q by omega] at he
    rw [List.getElem?_append_right (by omega), lp, show 9 + 2 * c.cs.length + q - (9 + 2 * c.cs.length) = q by omega] at hx
    have e7 := congrArg (fun l : List Nat => l[7]?) he
    have e8 := congrArg (fun l : List Nat => l[8]?) he
    unfold preH at e7 e8
    simp only [List.cons_append, List.getElem?_cons_succ, List.getElem?_cons_zero, Option.some.injEq] at e7 e8
    have ec : c.cs.length = c'.cs.length := by rw [lc, lc'] at e7 e8; omega
    obtain ⟨f1, f2⟩ := List.append_inj he (by rw [lp, lp', ec])
    have fcs : lns c.cs = lns c'.cs := by
      have := congrArg (fun l : List Nat => l.drop 9) f1
      unfold preH at this
      simp only [List.drop_succ_cons, List.drop_zero] at this
      exact flat_inj (by rw [lc, lc', ec]) (lns_bd h).1 (lns_bd h').1 this
    rw [fcs] at ht
    generalize c.ts.flatMap tyb ++ c.cs.flatten ++ c.ss.flatten ++ c.d = r at hx f2
    generalize c'.ts.flatMap tyb ++ c'.cs.flatten ++ c'.ss.flatten ++ c'.d = r' at f2
    clear he f1 e7 e8 lp lp'
    unfold Place at hp
    unfold endOf at hp ht ht'
    by_cases es : c.ss.length = 0
    · rw [if_pos es] at hp ht
      have s0 : sumL (lns c.ss) = 0 := by rw [List.eq_nil_of_length_eq_zero (by omega : (lns c.ss).length = 0)]; rfl
      rw [tl_none (by omega)] at hx f2
      by_cases es' : c'.ss.length = 0
      · rw [tl_none (by omega)] at f2
        have hq : q = 0 ∨ q = 3 := by omega
        rcases hq with rfl | rfl
        · simp at hx f2; omega
        · simp at hx f2; omega
      · rw [if_neg es'] at ht'
        rw [tl_some (by omega)] at f2
        have hq : q = 0 ∨ q = 3 := by omega
        rcases hq with rfl | rfl
        · simp at f2
          have g0 := two_eq (by omega) (by omega) f2.2.1 f2.2.2.1
          omega
        · simp at f2
    · rw [if_neg es] at hp ht
      rw [tl_some (by omega)] at hx f2
      by_cases es' : c'.ss.length = 0
      · rw [if_pos es'] at ht'
        have s0 : sumL (lns c'.ss) = 0 := by rw [List.eq_nil_of_length_eq_zero (by omega : (lns c'.ss).length = 0)]; rfl
        rw [tl_none (by omega)] at f2
        have hq : q = 0 ∨ q = 3 + 4 * c.ss.length ∨ q = 3 + 4 * c.ss.length + 3 := by omega
        rcases hq with rfl | rfl | rfl
        · simp at f2
          have g0 := two_eq (by omega) (by omega) f2.2.1 f2.2.2.1
          omega
        · rw [show 3 + 4 * c.ss.length = 4 * c.ss.length + 3 by omega] at f2
          simp at f2
        · rw [show 3 + 4 * c.ss.length + 3 = 4 * c.ss.length + 3 + 3 by omega] at f2
          simp at f2
      · rw [if_neg es'] at ht'
        rw [tl_some (by omega)] at f2
        have hq : q = 0 ∨ q = 3 + 4 * c.ss.length ∨ q = 3 + 4 * c.ss.length + 3 := by omega
        have fl : ((lns c.ss).flatMap (dig 4)).length = 4 * c.ss.length := by rw [flat_len, ls]
        have fl' : ((lns c'.ss).flatMap (dig 4)).length = 4 * c'.ss.length := by rw [flat_len, ls']
        rcases hq with rfl | rfl | rfl
        · simp at hx f2; omega
        · rw [show 3 + 4 * c.ss.length = (4 * c.ss.length + 0) + 1 + 1 + 1 by omega] at f2 hx
          simp only [List.set_cons_succ, List.getElem?_cons_succ, List.cons.injEq] at hx f2
          obtain ⟨_, g1, g2, g3⟩ := f2
          have em : c.ss.length = c'.ss.length := by omega
          rw [List.getElem?_append_right (by omega), fl, Nat.sub_self] at hx
          rw [List.set_append_right _ _ (by omega), fl, Nat.sub_self] at g3
          have := (List.append_inj g3 (by omega)).2
          simp at hx this
          omega
        · rw [show 3 + 4 * c.ss.length + 3 = (4 * c.ss.length + 3) + 1 + 1 + 1 by omega] at f2 hx
          simp only [List.set_cons_succ, List.getElem?_cons_succ, List.cons.injEq] at hx f2
          obtain ⟨_, g1, g2, g3⟩ := f2
          have em : c.ss.length = c'.ss.length := by omega
          rw [List.getElem?_append_right (by omega), fl, show 4 * c.ss.length + 3 - 4 * c.ss.length = 3 by omega] at hx
          rw [List.set_append_right _ _ (by omega), fl, show 4 * c.ss.length + 3 - 4 * c.ss.length = 3 by omega] at g3
          have := (List.append_inj g3 (by omega)).2
          simp at hx this
          omega
theorem prs_turned {c : Con} (h : May c) {p x y : Nat} (hb : Byt ((ser c).set p y)) (hp : Place c p) (hx : (ser c)[p]? = some x) (hn : y ≠ x) (opn : Bool) : ∃ e a, prs ((ser c).set p y) opn = .error (e, a) ∧ 0 < e := by
  cases hr : prs ((ser c).set p y) opn with
  | ok c' =>
    obtain ⟨h', e, _⟩ := prs_ok hb hr
    exact absurd (turned_no h h' hp hx hn e.symm) id
  | error er =>
    obtain ⟨e, a⟩ := er
    exact ⟨e, a, rfl, (gd_prs _ opn e a hr).1⟩
end Go.Proofs.Ytndhabhlajldeaa
/- A law's container in its box. -/
namespace Go.Proofs.Ytndhabhlajldeaa
open Go.RowKit
/-- a law's container in its box -/
structure CtM (bx : Nat) (w W : World) (L : List Value) (c : Con) : Prop where
  cb : CBox W bx 28 L
  cw : CW (fun _ => True) W (.agg L.toArray) c
  bel : Below w.heap.size w W
theorem CtM.past {bx : Nat} {w W W' : World} {L : List Value} {c : Con} (h : CtM bx w W L c) (k : Below W.heap.size W W') : CtM bx w W' L c := ⟨h.cb.past k, h.cw.past k, h.bel.trans (k.mono h.bel.size)⟩
end Go.Proofs.Ytndhabhlajldeaa
