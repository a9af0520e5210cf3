/- The laws' twin: a container with lists of its own. -/
import Derived.Test.YtndhabhlajldeaaBseM
namespace Go.Proofs.Ytndhabhlajldeaa
open Go.RowKit
theorem tV_one (l : List Ty) : ∀ u ∈ tV l, u.oneCell' = true := fun u hu => by
  obtain ⟨p, _, hp⟩ := List.mem_flatMap.1 hu
  simp at hp
  rcases hp with rfl | rfl | rfl <;> rfl
/-- append(v, u...) of types -/
theorem wp_appTs {P : Nat → Prop} {w : World} {o : Oper} {a : Act} {K : Act → World → Prop} {Q : Exit → Act → World → Prop} (s x : Operand)
    (ho : o.op = .call { callee := .builtin .append, args := #[s, x], argTypes := #[25, 25] }) (B : Nat) (hB : B ≤ w.heap.size) (v : Value) (l : List Ty) (hs : a.eval s = v) (hown : w.ownsRow B 77 3 v l.length (tV l))
    (u : Value) (m : List Ty) (hx : a.eval x = u) (hu : TL P w u m) (hn : l.length + m.length ≤ 2199023255552)
    (h : ∀ v' w', App B 77 3 w w' v v' (l ++ m).length (tV (l ++ m)) → K (a.put o.dst v') w') : o.wp Try.prog a w K Q := by
  obtain ⟨ad, cap, rfl⟩ := owns_sl hown
  obtain ⟨_, ad2, cap2, rfl, h0, h1, hz, h2⟩ := hu
  cases ad2 with
  | none =>
    have e0 : cap2 = 0 := hz rfl
    have e1 : m.length = 0 := by omega
    obtain rfl := List.eq_nil_of_length_eq_zero e1
    subst e0
    have hrun := run_append_owned_none (P := Try.prog) (w := w) B 25 o.type 77 (info_parts Try.infoT).choose 3 Try.underlying25 (info_parts Try.infoT).choose_spec.1 _ _ _ hown
    unfold Oper.wp
    simp [execOp, ho, resolve, invoke, builtin, hs, hx, hrun, Result.andThen]
    refine h _ _ ?_
    rw [List.append_nil]
    exact App.refl hown
  | some a2 =>
    refine wp_apps s x 25 77 ho (.agg #[.int .i64 0, .int .i64 0, .int .i64 0]) 3 24 Try.underlying25 Try.infoT rfl (by omega) (by omega) B hB ad l.length cap (tV l) hs hown a2 m.length cap2 (tV m) hx (tV_len m) (fun j c hj => ?_) (tV_one m) hn (fun ad' cap' w' q1 q2 q3 => h _ _ ⟨?_, ?_, fun k hk => ?_⟩)
    · have hm : 0 < m.length := by have := (List.getElem?_eq_some_iff.1 hj).1; rw [tV_len] at this; omega
      obtain ⟨g, b, e, _, _, h3⟩ := h2 hm
      injection e with e
      subst e
      rw [Addr.add_mid]
      exact h3 j c hj
    · rw [List.length_append, tV_app]; exact q1
    · exact q2.mono fun k hk => own_iff.1 hk
    · rcases q3.own (own_iff.2 hk) with e | e
      · exact Or.inl (own_iff.1 e)
      · exact Or.inr e
/-- a container in lists of its own, those of sections and of nested containers in unlike blocks -/
def DO (B : Nat) (W : World) (v : Value) (c : Con) : Prop := ∃ ta tc ca cc sa sc da dc, v = .agg #[.slice ta c.ts.length tc, .slice ca c.cs.length cc, .slice sa c.ss.length sc, .slice da c.d.length dc, .int .i64 c.n] ∧ W.ownsRow B 77 3 (.slice ta c.ts.length tc) c.ts.length (tV c.ts) ∧ PO B W (.slice ca c.cs.length cc) c.cs ∧ PO B W (.slice sa c.ss.length sc) c.ss ∧ W.ownsRow B 5 1 (.slice da c.d.length dc) c.d.length (bV c.d) ∧ ∀ g, OwnV (.slice sa c.ss.length sc) g → ¬ OwnV (.slice ca c.cs.length cc) g
theorem flat_each {ll : List (List Nat)} {n : Nat} (h : ll.flatten.length ≤ n) : ∀ x ∈ ll, x.length ≤ n := fun _ hx => Nat.le_trans (List.sublist_flatten_of_mem hx).length_le h
theorem DO.cw {B : Nat} {W : World} {v : Value} {c : Con} (h : DO B W v c) (hs : Small c) : CW (fun g => B ≤ g) W v c := by
  obtain ⟨ta, tc, ca, cc, sa, sc, da, dc, rfl, k1, k2, k3, k4, _⟩ := h
  unfold Small at hs
  exact ⟨_, _, _, _, rfl, SL.own k1 (by omega) fun g hg => (k1.lt g hg).1, k2.pl (by omega) (flat_each (by omega)), k3.pl (by omega) (flat_each (by omega)), SL.own k4 (by omega) fun g hg => (k4.lt g hg).1⟩
theorem DO.past {B : Nat} {W W' : World} {v : Value} {c : Con} (h : DO B W v c) (k : Below W.heap.size W W') : DO B W' v c := by
  obtain ⟨ta, tc, ca, cc, sa, sc, da, dc, e, k1, k2, k3, k4, k5⟩ := h
  exact ⟨ta, tc, ca, cc, sa, sc, da, dc, e, owns_past k1 k, k2.past k, k3.past k, owns_past k4 k, k5⟩
theorem PO.lt {B : Nat} {W : World} {v : Value} {ll : List (List Nat)} (h : PO B W v ll) : ∀ g, OwnV v g → B ≤ g ∧ g < W.heap.size := by
  obtain ⟨us, _, h2, _⟩ := h
  exact fun g hg => h2.lt g hg
theorem row_alienT {B q n : Nat} {W W' : World} {v : Value} {cs : List Value} (h : W.ownsRow B 77 3 v n cs) (k : But (fun y => y = q) W W') (a : Alien W q) : W'.ownsRow B 77 3 v n cs := owns_row_blockB h fun g hg => k.block g (h.lt g hg).2 fun e => by
  obtain ⟨t, m, c, n1, _, _⟩ := a
  exact own_box h c (Ne.symm n1) hg e
theorem PO.alien {B q : Nat} {W W' : World} {v : Value} {ll : List (List Nat)} (h : PO B W v ll) (k : But (fun y => y = q) W W') (a : Alien W q) : PO B W' v ll := by
  obtain ⟨us, h1, h2, h3⟩ := h
  obtain ⟨t, m, c, _, n2, n3⟩ := a
  exact ⟨us, h1, owns_row_blockB h2 fun g hg => k.block g (h2.lt g hg).2 fun e => own_box h2 c (Ne.symm n2) hg e, h3.butT k c n3⟩
/-- the lists of a container -/
structure SrC (P : Nat → Prop) (W : World) (tv cv sv dv : Value) (c : Con) : Prop where
  t : TL P W tv c.ts
  p : PL P W cv c.cs
  s : PL P W sv c.ss
  d : BL P W dv c.d
theorem SrC.past {P : Nat → Prop} {W W' : World} {tv cv sv dv : Value} {c : Con} (h : SrC P W tv cv sv dv c) (k : Below W.heap.size W W') : SrC P W' tv cv sv dv c := ⟨h.t.past k, h.p.past k, h.s.past k, h.d.past k⟩
set_option maxHeartbeats 8000000 in
set_option maxRecDepth 100000 in
theorem twin_is {P : Nat → Prop} (w : World) (v : Value) (c : Con) (h : CW P w v c) (hs : Small c) : Calls Try.prog 19 #[v] w fun e w' => ∃ v', e = .returned v' ∧ DO w.heap.size w' v' c ∧ Below w.heap.size w w' := by
  obtain ⟨tv, cv, sv, dv, rfl, h1, h2, h3, h4⟩ := h
  obtain ⟨ta, tc, rfl, _⟩ := h1.len
  obtain ⟨ca, cc, rfl, _⟩ := h2.len
  obtain ⟨sa, sc, rfl, _⟩ := h3.len
  obtain ⟨da, dc, rfl, _⟩ := h4.len
  have HSM : Hid (Small c) := hs
  have b1 := below_alloc w (.cells #[.slice ta c.ts.length tc, .slice ca c.cs.length cc, .slice sa c.ss.length sc, .slice da c.d.length dc, .int .i64 c.n] 28)
  have b2 := below_alloc (w.alloc (.cells #[.slice ta c.ts.length tc, .slice ca c.cs.length cc, .slice sa c.ss.length sc, .slice da c.d.length dc, .int .i64 c.n] 28)) (.cells #[.slice none 0 0, .slice none 0 0, .slice none 0 0, .slice none 0 0, .int .i64 0] 28)
  have s1 : (w.alloc (.cells #[.slice ta c.ts.length tc, .slice ca c.cs.length cc, .slice sa c.ss.length sc, .slice da c.d.length dc, .int .i64 c.n] 28)).heap.size = w.heap.size + 1 := by simp
  have bb : Below w.heap.size w ((w.alloc (.cells #[.slice ta c.ts.length tc, .slice ca c.cs.length cc, .slice sa c.ss.length sc, .slice da c.d.length dc, .int .i64 c.n] 28)).alloc (.cells #[.slice none 0 0, .slice none 0 0, .slice none 0 0, .slice none 0 0, .int .i64 0] 28)) := b1.trans (b2.mono (by omega))
  have c2 := CBox.new (w.alloc (.cells #[.slice ta c.ts.length tc, .slice ca c.cs.length cc, .slice sa c.ss.length sc, .slice da c.d.length dc, .int .i64 c.n] 28)) 28 [.slice none 0 0, .slice none 0 0, .slice none 0 0, .slice none 0 0, .int .i64 0]
  rw [s1] at c2
  have N0 : Hid (CBox ((w.alloc (.cells #[.slice ta c.ts.length tc, .slice ca c.cs.length cc, .slice sa c.ss.length sc, .slice da c.d.length dc, .int .i64 c.n] 28)).alloc (.cells #[.slice none 0 0, .slice none 0 0, .slice none 0 0, .slice none 0 0, .int .i64 0] 28)) w.heap.size 28 [.slice ta c.ts.length tc, .slice ca c.cs.length cc, .slice sa c.ss.length sc, .slice da c.d.length dc, .int .i64 c.n] ∧ CBox ((w.alloc (.cells #[.slice ta c.ts.length tc, .slice ca c.cs.length cc, .slice sa c.ss.length sc, .slice da c.d.length dc, .int .i64 c.n] 28)).alloc (.cells #[.slice none 0 0, .slice none 0 0, .slice none 0 0, .slice none 0 0, .int .i64 0] 28)) (w.heap.size + 1) 28 [.slice none 0 0, .slice none 0 0, .slice none 0 0, .slice none 0 0, .int .i64 0] ∧ Below w.heap.size w ((w.alloc (.cells #[.slice ta c.ts.length tc, .slice ca c.cs.length cc, .slice sa c.ss.length sc, .slice da c.d.length dc, .int .i64 c.n] 28)).alloc (.cells #[.slice none 0 0, .slice none 0 0, .slice none 0 0, .slice none 0 0, .int .i64 0] 28))) := ⟨(CBox.new w 28 [.slice ta c.ts.length tc, .slice ca c.cs.length cc, .slice sa c.ss.length sc, .slice da c.d.length dc, .int .i64 c.n]).past b2, c2, bb⟩
  have SR0 : Hid (SrC P ((w.alloc (.cells #[.slice ta c.ts.length tc, .slice ca c.cs.length cc, .slice sa c.ss.length sc, .slice da c.d.length dc, .int .i64 c.n] 28)).alloc (.cells #[.slice none 0 0, .slice none 0 0, .slice none 0 0, .slice none 0 0, .int .i64 0] 28)) (.slice ta c.ts.length tc) (.slice ca c.cs.length cc) (.slice sa c.ss.length sc) (.slice da c.d.length dc) c) := ⟨h1.past bb, h2.past bb, h3.past bb, h4.past bb⟩
  clear h1 h2 h3 h4 b1 b2 s1 bb c2 hs
  have GL0 : Hid (w.heap.size < w.heap.size + 1) := by unfold Hid; omega
  go_enter Try.func19, Try.ntmps19
  go_upto_region 1 with fail
  generalize w.heap.size + 1 = b2 at N0 GL0 ⊢
  generalize hbw : w.heap.size = b1 at N0 GL0 ⊢
  have GB : Hid (w.heap.size = b1) := hbw
  have GE : Hid (b1 ≤ w.heap.size) := by unfold Hid; omega
  have GL : Hid (b1 < b2) := GL0.out
  clear hbw GL0
  generalize (w.alloc _).alloc _ = W0 at N0 SR0 ⊢
  refine wp_region_held_drew (S := fun V' => CBox V' b1 28 [.slice ta c.ts.length tc, .slice ca c.cs.length cc, .slice sa c.ss.length sc, .slice da c.d.length dc, .int .i64 c.n]) (by kernel_rfl) (N0.out.1.past below_drew) (fun HH => ?_)
  have BX : Hid (CBox W0.drew b2 28 [.slice none 0 0, .slice none 0 0, .slice none 0 0, .slice none 0 0, .int .i64 0]) := N0.out.2.1.past below_drew
  have B : Hid (Below b1 w W0.drew) := N0.out.2.2.drew
  have SRC : Hid (SrC P W0.drew (.slice ta c.ts.length tc) (.slice ca c.cs.length cc) (.slice sa c.ss.length sc) (.slice da c.d.length dc) c) := SR0.out.past below_drew
  clear N0 SR0
  generalize W0.drew = z0 at HH BX B SRC ⊢
  refine wpAnyH_take (i := 0) (v := .pointer (some ⟨b1, 0, none⟩)) ov0 (by kernel_rfl) (by kernel_rfl) (by kernel_rfl) (fun _ _ _ h => h) (Or.inl ⟨by rfl, fun V' hS => ?_⟩) HH ?_
  · go_simp
  simp only [Act.put, List.setIfInBounds_toArray, List.set_cons_zero, List.set_cons_succ]
  refine wpAnyH_take (i := 1) (v := .slice ta c.ts.length tc) ov1 (by kernel_rfl) (by kernel_rfl) (by kernel_rfl) (fun _ _ _ h => h) (Or.inl ⟨by rfl, fun V' hS => ?_⟩) HH ?_
  · have c0 := hS.cell 0
    go_simp
  simp only [Act.put, List.setIfInBounds_toArray, List.set_cons_zero, List.set_cons_succ]
  refine wpAnyH_take (i := 3) (v := .pointer (some ⟨b1, 1, none⟩)) ov3 (by kernel_rfl) (by kernel_rfl) (by kernel_rfl) (fun _ _ _ h => h) (Or.inl ⟨by rfl, fun V' hS => ?_⟩) HH ?_
  · go_simp
  simp only [Act.put, List.setIfInBounds_toArray, List.set_cons_zero, List.set_cons_succ]
  refine wpAnyH_take (i := 4) (v := .slice ca c.cs.length cc) ov4 (by kernel_rfl) (by kernel_rfl) (by kernel_rfl) (fun _ _ _ h => h) (Or.inl ⟨by rfl, fun V' hS => ?_⟩) HH ?_
  · have c0 := hS.cell 1
    go_simp
  simp only [Act.put, List.setIfInBounds_toArray, List.set_cons_zero, List.set_cons_succ]
  refine wpAnyH_take (i := 6) (v := .pointer (some ⟨b1, 2, none⟩)) ov6 (by kernel_rfl) (by kernel_rfl) (by kernel_rfl) (fun _ _ _ h => h) (Or.inl ⟨by rfl, fun V' hS => ?_⟩) HH ?_
  · go_simp
  simp only [Act.put, List.setIfInBounds_toArray, List.set_cons_zero, List.set_cons_succ]
  refine wpAnyH_take (i := 7) (v := .slice sa c.ss.length sc) ov7 (by kernel_rfl) (by kernel_rfl) (by kernel_rfl) (fun _ _ _ h => h) (Or.inl ⟨by rfl, fun V' hS => ?_⟩) HH ?_
  · have c0 := hS.cell 2
    go_simp
  simp only [Act.put, List.setIfInBounds_toArray, List.set_cons_zero, List.set_cons_succ]
  refine wpAnyH_take (i := 9) (v := .pointer (some ⟨b1, 3, none⟩)) ov9 (by kernel_rfl) (by kernel_rfl) (by kernel_rfl) (fun _ _ _ h => h) (Or.inl ⟨by rfl, fun V' hS => ?_⟩) HH ?_
  · go_simp
  simp only [Act.put, List.setIfInBounds_toArray, List.set_cons_zero, List.set_cons_succ]
  refine wpAnyH_take (i := 10) (v := .slice da c.d.length dc) ov10 (by kernel_rfl) (by kernel_rfl) (by kernel_rfl) (fun _ _ _ h => h) (Or.inl ⟨by rfl, fun V' hS => ?_⟩) HH ?_
  · have c0 := hS.cell 3
    go_simp
  simp only [Act.put, List.setIfInBounds_toArray, List.set_cons_zero, List.set_cons_succ]
  refine wpAnyH_take (i := 12) (v := .pointer (some ⟨b1, 4, none⟩)) ov12 (by kernel_rfl) (by kernel_rfl) (by kernel_rfl) (fun _ _ _ h => h) (Or.inl ⟨by rfl, fun V' hS => ?_⟩) HH ?_
  · go_simp
  simp only [Act.put, List.setIfInBounds_toArray, List.set_cons_zero, List.set_cons_succ]
  refine wpAnyH_take (i := 13) (v := .int .i64 c.n) ov13 (by kernel_rfl) (by kernel_rfl) (by kernel_rfl) (fun _ _ _ h => h) (Or.inl ⟨by rfl, fun V' hS => ?_⟩) HH ?_
  · have c0 := hS.cell 4
    go_simp
  simp only [Act.put, List.setIfInBounds_toArray, List.set_cons_zero, List.set_cons_succ]
  refine wpAnyH_ready (rs := [2]) (by kernel_rfl) (by simp) ?_
  refine AllReadyH.cons ov2 (fun K hK => ?_) AllReadyH.nil
  rw [if_pos (by rfl)]
  refine wp_appTs _ _ rfl b1 (Nat.le_trans GE.out B.out.size) (.slice none 0 0) [] rfl (World.ownsRow_nil _ _ _ _) (.slice ta c.ts.length tc) c.ts rfl SRC.out.t (by have := HSM.out; unfold Small at this; simp only [List.length_nil]; omega) ?_
  intro v9 z1 hA
  obtain ⟨qa, qc, e9⟩ := owns_sl hA.row
  rw [List.nil_append] at e9
  subst e9
  have hB := hA.nil_below
  have FT9 : Hid (z1.ownsRow b1 77 3 (.slice qa c.ts.length qc) c.ts.length (tV c.ts)) := hA.row
  clear hA
  have B9 := B.out.trans (hB.mono (Nat.le_trans GE.out B.out.size))
  clear B
  have B : Hid (Below b1 w z1) := B9
  clear B9
  have S9 := SRC.out.past hB
  clear SRC
  have SRC : Hid _ := S9
  clear S9
  have T9 := BX.out.past hB
  clear BX
  have BX : Hid (CBox z1 b2 28 [.slice none 0 0, .slice none 0 0, .slice none 0 0, .slice none 0 0, .int .i64 0]) := T9
  clear T9
  have H9 := HH.past hB
  clear HH
  have HH := H9
  clear H9
  (try (have q9 := FT.out; clear FT; have FT : Hid _ := owns_past q9 hB; clear q9))
  (try (have q9 := FC.out; clear FC; have FC : Hid _ := PO.past q9 hB; clear q9))
  (try (have q9 := FZ.out; clear FZ; have FZ : Hid _ := PO.past q9 hB; clear q9))
  (try (have q9 := FD.out; clear FD; have FD : Hid _ := owns_past q9 hB; clear q9))
  have FT := FT9
  clear FT9 hB
  refine hK.out _ z1 HH (fun _ => ?_)
  clear hK K
  (try simp only [Act.put, List.setIfInBounds_toArray, List.set_cons_zero, List.set_cons_succ])
  refine wpAnyH_ready (rs := [5]) (by kernel_rfl) (by simp) ?_
  refine AllReadyH.cons ov5 (fun K hK => ?_) AllReadyH.nil
  rw [if_pos (by rfl)]
  go_simp
  refine (ownParts_is _ _ c.cs SRC.out.p (by have := HSM.out; unfold Small at this; omega)).mono ?_
  rintro e z1 ⟨v9, rfl, hP, hB⟩
  obtain ⟨xa, xc, rfl⟩ := PO.sl hP
  have FC9 : Hid (PO b1 z1 (.slice xa c.cs.length xc) c.cs) := hP.base (Nat.le_trans GE.out B.out.size)
  clear hP
  have B9 := B.out.trans (hB.mono (Nat.le_trans GE.out B.out.size))
  clear B
  have B : Hid (Below b1 w z1) := B9
  clear B9
  have S9 := SRC.out.past hB
  clear SRC
  have SRC : Hid _ := S9
  clear S9
  have T9 := BX.out.past hB
  clear BX
  have BX : Hid (CBox z1 b2 28 [.slice none 0 0, .slice none 0 0, .slice none 0 0, .slice none 0 0, .int .i64 0]) := T9
  clear T9
  have H9 := HH.past hB
  clear HH
  have HH := H9
  clear H9
  (try (have q9 := FT.out; clear FT; have FT : Hid _ := owns_past q9 hB; clear q9))
  (try (have q9 := FC.out; clear FC; have FC : Hid _ := PO.past q9 hB; clear q9))
  (try (have q9 := FZ.out; clear FZ; have FZ : Hid _ := PO.past q9 hB; clear q9))
  (try (have q9 := FD.out; clear FD; have FD : Hid _ := owns_past q9 hB; clear q9))
  have FC := FC9
  clear FC9 hB
  (try go_wp2_with fail)
  refine hK.out _ _ HH (fun _ => ?_)
  clear hK K
  (try simp only [Act.put, List.setIfInBounds_toArray, List.set_cons_zero, List.set_cons_succ])
  refine wpAnyH_ready (rs := [8]) (by kernel_rfl) (by simp) ?_
  refine AllReadyH.cons ov8 (fun K hK => ?_) AllReadyH.nil
  rw [if_pos (by rfl)]
  go_simp
  refine (ownParts_is _ _ c.ss SRC.out.s (by have := HSM.out; unfold Small at this; omega)).mono ?_
  rintro e z1 ⟨v9, rfl, hP, hB⟩
  obtain ⟨ya, yc, rfl⟩ := PO.sl hP
  have FAP : Hid (∀ g, OwnV (.slice ya c.ss.length yc) g → ¬ OwnV (.slice xa c.cs.length xc) g) := fun g h1 h2 => by have q1 := (PO.lt hP g h1).1; have q2 := (PO.lt FC.out g h2).2; omega
  have FZ9 : Hid (PO b1 z1 (.slice ya c.ss.length yc) c.ss) := hP.base (Nat.le_trans GE.out B.out.size)
  clear hP
  have B9 := B.out.trans (hB.mono (Nat.le_trans GE.out B.out.size))
  clear B
  have B : Hid (Below b1 w z1) := B9
  clear B9
  have S9 := SRC.out.past hB
  clear SRC
  have SRC : Hid _ := S9
  clear S9
  have T9 := BX.out.past hB
  clear BX
  have BX : Hid (CBox z1 b2 28 [.slice none 0 0, .slice none 0 0, .slice none 0 0, .slice none 0 0, .int .i64 0]) := T9
  clear T9
  have H9 := HH.past hB
  clear HH
  have HH := H9
  clear H9
  (try (have q9 := FT.out; clear FT; have FT : Hid _ := owns_past q9 hB; clear q9))
  (try (have q9 := FC.out; clear FC; have FC : Hid _ := PO.past q9 hB; clear q9))
  (try (have q9 := FZ.out; clear FZ; have FZ : Hid _ := PO.past q9 hB; clear q9))
  (try (have q9 := FD.out; clear FD; have FD : Hid _ := owns_past q9 hB; clear q9))
  have FZ := FZ9
  clear FZ9 hB
  (try go_wp2_with fail)
  refine hK.out _ _ HH (fun _ => ?_)
  clear hK K
  (try simp only [Act.put, List.setIfInBounds_toArray, List.set_cons_zero, List.set_cons_succ])
  refine wpAnyH_ready (rs := [11]) (by kernel_rfl) (by simp) ?_
  refine AllReadyH.cons ov11 (fun K hK => ?_) AllReadyH.nil
  rw [if_pos (by rfl)]
  go_simp
  refine (own_is _ _ c.d SRC.out.d (by have := HSM.out; unfold Small at this; omega)).mono ?_
  rintro e z1 ⟨v9, rfl, hP, hB⟩
  obtain ⟨ea, ec, rfl⟩ := owns_sl hP
  have FD9 : Hid (z1.ownsRow b1 5 1 (.slice ea c.d.length ec) c.d.length (bV c.d)) := owns_base hP (Nat.le_trans GE.out B.out.size)
  clear hP
  have B9 := B.out.trans (hB.mono (Nat.le_trans GE.out B.out.size))
  clear B
  have B : Hid (Below b1 w z1) := B9
  clear B9
  have S9 := SRC.out.past hB
  clear SRC
  have SRC : Hid _ := S9
  clear S9
  have T9 := BX.out.past hB
  clear BX
  have BX : Hid (CBox z1 b2 28 [.slice none 0 0, .slice none 0 0, .slice none 0 0, .slice none 0 0, .int .i64 0]) := T9
  clear T9
  have H9 := HH.past hB
  clear HH
  have HH := H9
  clear H9
  (try (have q9 := FT.out; clear FT; have FT : Hid _ := owns_past q9 hB; clear q9))
  (try (have q9 := FC.out; clear FC; have FC : Hid _ := PO.past q9 hB; clear q9))
  (try (have q9 := FZ.out; clear FZ; have FZ : Hid _ := PO.past q9 hB; clear q9))
  (try (have q9 := FD.out; clear FD; have FD : Hid _ := owns_past q9 hB; clear q9))
  have FD := FD9
  clear FD9 hB
  (try go_wp2_with fail)
  refine hK.out _ _ HH (fun _ => ?_)
  clear hK K
  (try simp only [Act.put, List.setIfInBounds_toArray, List.set_cons_zero, List.set_cons_succ])
  refine wpAnyH_take (i := 14) (v := .agg #[.slice qa c.ts.length qc, .slice xa c.cs.length xc, .slice ya c.ss.length yc, .slice ea c.d.length ec, .int .i64 c.n]) ov14 (by kernel_rfl) (by kernel_rfl) (by kernel_rfl) (fun _ _ _ h => h) (Or.inl ⟨by rfl, fun V' hS => ?_⟩) HH ?_
  · go_simp
  simp only [Act.put, List.setIfInBounds_toArray, List.set_cons_zero, List.set_cons_succ]
  refine wpAnyH_ready (rs := [15]) (by kernel_rfl) (by simp) ?_
  refine AllReadyH.cons ov15 (fun K hK => ?_) AllReadyH.nil
  rw [if_pos (by rfl)]
  have k0 : z1.cell? ⟨b2, 0, none⟩ = some (.slice none 0 0) := BX.out.cell 0
  have k1 : z1.cell? ⟨b2, 1, none⟩ = some (.slice none 0 0) := BX.out.cell 1
  have k2 : z1.cell? ⟨b2, 2, none⟩ = some (.slice none 0 0) := BX.out.cell 2
  have k3 : z1.cell? ⟨b2, 3, none⟩ = some (.slice none 0 0) := BX.out.cell 3
  have k4 : z1.cell? ⟨b2, 4, none⟩ = some (.int .i64 0) := BX.out.cell 4
  have f0 := CBox.frozen BX.out 0
  have f1 := CBox.frozen BX.out 1
  have f2 := CBox.frozen BX.out 2
  have f3 := CBox.frozen BX.out 3
  have f4 := CBox.frozen BX.out 4
  go_simp
  clear k0 k1 k2 k3 k4 f0 f1 f2 f3 f4
  have hs : But (fun y => y = b2) z1 (((((z1.setCell ⟨b2, 0, none⟩ (.slice qa c.ts.length qc)).setCell ⟨b2, 1, none⟩ (.slice xa c.cs.length xc)).setCell ⟨b2, 2, none⟩ (.slice ya c.ss.length yc)).setCell ⟨b2, 3, none⟩ (.slice ea c.d.length ec)).setCell ⟨b2, 4, none⟩ (.int .i64 c.n)) := ((((((But.refl (fun y => y = b2) z1).setCell ⟨b2, 0, none⟩ _ (Or.inl rfl)).setCell ⟨b2, 1, none⟩ _ (Or.inl rfl)).setCell ⟨b2, 2, none⟩ _ (Or.inl rfl)).setCell ⟨b2, 3, none⟩ _ (Or.inl rfl)).setCell ⟨b2, 4, none⟩ _ (Or.inl rfl))
  have ra : Alien z1 b2 := ⟨_, _, BX.out, by decide, by decide, by decide⟩
  have cb : CBox (((((z1.setCell ⟨b2, 0, none⟩ (.slice qa c.ts.length qc)).setCell ⟨b2, 1, none⟩ (.slice xa c.cs.length xc)).setCell ⟨b2, 2, none⟩ (.slice ya c.ss.length yc)).setCell ⟨b2, 3, none⟩ (.slice ea c.d.length ec)).setCell ⟨b2, 4, none⟩ (.int .i64 c.n)) b2 28 [.slice qa c.ts.length qc, .slice xa c.cs.length xc, .slice ya c.ss.length yc, .slice ea c.d.length ec, .int .i64 c.n] := (((((BX.out.set 0 _).set 1 _).set 2 _).set 3 _).set 4 _)
  have HF : Hid (CBox (((((z1.setCell ⟨b2, 0, none⟩ (.slice qa c.ts.length qc)).setCell ⟨b2, 1, none⟩ (.slice xa c.cs.length xc)).setCell ⟨b2, 2, none⟩ (.slice ya c.ss.length yc)).setCell ⟨b2, 3, none⟩ (.slice ea c.d.length ec)).setCell ⟨b2, 4, none⟩ (.int .i64 c.n)) b2 28 [.slice qa c.ts.length qc, .slice xa c.cs.length xc, .slice ya c.ss.length yc, .slice ea c.d.length ec, .int .i64 c.n] ∧ DO b1 (((((z1.setCell ⟨b2, 0, none⟩ (.slice qa c.ts.length qc)).setCell ⟨b2, 1, none⟩ (.slice xa c.cs.length xc)).setCell ⟨b2, 2, none⟩ (.slice ya c.ss.length yc)).setCell ⟨b2, 3, none⟩ (.slice ea c.d.length ec)).setCell ⟨b2, 4, none⟩ (.int .i64 c.n)) (.agg #[.slice qa c.ts.length qc, .slice xa c.cs.length xc, .slice ya c.ss.length yc, .slice ea c.d.length ec, .int .i64 c.n]) c ∧ Below b1 w (((((z1.setCell ⟨b2, 0, none⟩ (.slice qa c.ts.length qc)).setCell ⟨b2, 1, none⟩ (.slice xa c.cs.length xc)).setCell ⟨b2, 2, none⟩ (.slice ya c.ss.length yc)).setCell ⟨b2, 3, none⟩ (.slice ea c.d.length ec)).setCell ⟨b2, 4, none⟩ (.int .i64 c.n))) := ⟨cb, ⟨_, _, _, _, _, _, _, _, rfl, row_alienT FT.out hs ra, PO.alien FC.out hs ra, PO.alien FZ.out hs ra, row_alien FD.out hs ra, FAP.out⟩, B.out.trans (hs.below (fun g e => by have := GL.out; omega) (Nat.le_trans GE.out B.out.size))⟩
  have HHN := HH.but hs (by have := GL.out; omega)
  clear hs ra cb HH
  refine hK.out _ (((((z1.setCell ⟨b2, 0, none⟩ (.slice qa c.ts.length qc)).setCell ⟨b2, 1, none⟩ (.slice xa c.cs.length xc)).setCell ⟨b2, 2, none⟩ (.slice ya c.ss.length yc)).setCell ⟨b2, 3, none⟩ (.slice ea c.d.length ec)).setCell ⟨b2, 4, none⟩ (.int .i64 c.n)) HHN (fun _ => ?_)
  clear hK K
  (try simp only [Act.put, List.setIfInBounds_toArray, List.set_cons_zero, List.set_cons_succ])
  generalize (((((z1.setCell ⟨b2, 0, none⟩ (.slice qa c.ts.length qc)).setCell ⟨b2, 1, none⟩ (.slice xa c.cs.length xc)).setCell ⟨b2, 2, none⟩ (.slice ya c.ss.length yc)).setCell ⟨b2, 3, none⟩ (.slice ea c.d.length ec)).setCell ⟨b2, 4, none⟩ (.int .i64 c.n)) = Z9 at HF HHN ⊢
  refine wpAnyH_done (by kernel_rfl) ?_ _
  clear HHN
  go_wp2
  refine bodyPost_ret (v := .agg #[.slice qa c.ts.length qc, .slice xa c.cs.length xc, .slice ya c.ss.length yc, .slice ea c.d.length ec, .int .i64 c.n]) (results_c (p := 2) (ty := 28) Try.results19 _ _ _ ⟨b2, 0, none⟩ rfl (run_loadVar_mid Z9 b2 0 28 [.slice qa c.ts.length qc, .slice xa c.cs.length xc, .slice ya c.ss.length yc, .slice ea c.d.length ec, .int .i64 c.n] _ HF.out.1.range Try.underlying28 rfl (by kernel_rfl))) rfl ?_
  exact ⟨_, rfl, by rw [GB.out]; exact HF.out.2.1, by rw [GB.out]; exact HF.out.2.2⟩
end Go.Proofs.Ytndhabhlajldeaa
/- The laws' weight: how many bytes, types and lists a container has. -/
namespace Go.Proofs.Ytndhabhlajldeaa
open Go.RowKit
def fourOf (c : Con) : Nat := c.ts.length + c.cs.length + c.ss.length + c.d.length
def total (c : Con) : Nat := fourOf c + c.cs.flatten.length + c.ss.flatten.length
theorem total_small {c : Con} (h : total c ≤ 2097152) : Small c := by
  unfold total fourOf at h
  unfold Small
  omega
set_option maxHeartbeats 8000000 in
set_option maxRecDepth 100000 in
theorem weight_is {P : Nat → Prop} (w : World) (v : Value) (c : Con) (h : CW P w v c) : Calls Try.prog 18 #[v] w fun e w' => (∃ n : Nat, e = .returned (.int .i64 (n : Int)) ∧ (n ≤ 2097152 → total c = n)) ∧ Below w.heap.size w w' := by
  obtain ⟨tv, cv, sv, dv, rfl, h1, h2, h3, h4⟩ := h
  obtain ⟨ta, tc, rfl, _, l1⟩ := h1.len
  obtain ⟨ca, cc, rfl, _, l2⟩ := h2.len
  obtain ⟨sa, sc, rfl, _, l3⟩ := h3.len
  obtain ⟨da, dc, rfl, _, l4⟩ := h4.len
  have b1 := below_alloc w (.cells #[.slice ta c.ts.length tc, .slice ca c.cs.length cc, .slice sa c.ss.length sc, .slice da c.d.length dc, .int .i64 c.n] 28)
  have HX : Hid (CBox (w.alloc (.cells #[.slice ta c.ts.length tc, .slice ca c.cs.length cc, .slice sa c.ss.length sc, .slice da c.d.length dc, .int .i64 c.n] 28)) w.heap.size 28 [.slice ta c.ts.length tc, .slice ca c.cs.length cc, .slice sa c.ss.length sc, .slice da c.d.length dc, .int .i64 c.n] ∧ Below w.heap.size w (w.alloc (.cells #[.slice ta c.ts.length tc, .slice ca c.cs.length cc, .slice sa c.ss.length sc, .slice da c.d.length dc, .int .i64 c.n] 28))) := ⟨CBox.new w _ [_, _, _, _, _], b1⟩
  have HS : Hid (PL P (w.alloc (.cells #[.slice ta c.ts.length tc, .slice ca c.cs.length cc, .slice sa c.ss.length sc, .slice da c.d.length dc, .int .i64 c.n] 28)) (.slice ca c.cs.length cc) c.cs ∧ PL P (w.alloc (.cells #[.slice ta c.ts.length tc, .slice ca c.cs.length cc, .slice sa c.ss.length sc, .slice da c.d.length dc, .int .i64 c.n] 28)) (.slice sa c.ss.length sc) c.ss) := ⟨h2.past b1, h3.past b1⟩
  obtain ⟨x1, hx1⟩ : ∃ x, x = c.ts.length + c.cs.length := ⟨_, rfl⟩
  obtain ⟨x2, hx2⟩ : ∃ x, x = x1 + c.ss.length := ⟨_, rfl⟩
  obtain ⟨x3, hx3⟩ : ∃ x, x = x2 + c.d.length := ⟨_, rfl⟩
  have r1 : (c.ts.length : Int) + (c.cs.length : Int) = (x1 : Int) := by omega
  have r2 : (x1 : Int) + (c.ss.length : Int) = (x2 : Int) := by omega
  have r3 : (x2 : Int) + (c.d.length : Int) = (x3 : Int) := by omega
  have w1 : IntKind.i64.wrap (x1 : Int) = (x1 : Int) := by rw [IntKind.wrap_i64]; omega
  have w2 : IntKind.i64.wrap (x2 : Int) = (x2 : Int) := by rw [IntKind.wrap_i64]; omega
  have w3 : IntKind.i64.wrap (x3 : Int) = (x3 : Int) := by rw [IntKind.wrap_i64]; omega
  have H4 : Hid (x3 = fourOf c) := by unfold Hid fourOf; omega
  have HLL : Hid (c.cs.length ≤ 1152921504606846976 ∧ c.ss.length ≤ 1152921504606846976) := ⟨l2, l3⟩
  clear h1 h2 h3 h4 b1 hx1 hx2 hx3 l1 l2 l3 l4
  go_enter Try.func18, Try.ntmps18
  go_upto_region 1 with fail
  generalize hbx : w.heap.size = bx at HX ⊢
  have GB : Hid (w.heap.size = bx) := hbx
  clear hbx
  generalize w.alloc _ = W0 at HX HS ⊢
  have a0 : W0.cell? ⟨bx, 0, none⟩ = some (.slice ta c.ts.length tc) := HX.out.1.cell 0
  have a1 : W0.cell? ⟨bx, 1, none⟩ = some (.slice ca c.cs.length cc) := HX.out.1.cell 1
  have a2 : W0.cell? ⟨bx, 2, none⟩ = some (.slice sa c.ss.length sc) := HX.out.1.cell 2
  have a3 : W0.cell? ⟨bx, 3, none⟩ = some (.slice da c.d.length dc) := HX.out.1.cell 3
  have a4 : W0.cell? ⟨bx, 4, none⟩ = some (.int .i64 c.n) := HX.out.1.cell 4
  go_upto_region 2 with fail
  clear r1 r2 r3 w1 w2 w3 a0 a3 a4
  go_wp2
  go_loopw [3, 4] (fun s3 s4 wr => ∃ (k m : Nat), s4 = .int .i64 (k : Int) ∧ s3 = .int .i64 (m : Int) ∧ k ≤ c.cs.length ∧ m = x3 + (c.cs.take k).flatten.length ∧ wr = W0) (fun _ s4 _ => c.cs.length - (intOf s4).toNat)
  case atStart => exact ⟨0, x3, rfl, rfl, by omega, by simp, rfl⟩
  case round =>
    obtain ⟨k, m, rfl, rfl, hk, hn, hw⟩ := hrel
    have hw2 := hw.symm
    clear hw
    subst hw2
    have HN : Hid (m = x3 + (c.cs.take k).flatten.length) := hn
    clear hn
    by_cases e : k = c.cs.length
    · have q1 : ¬ (k : Int) < (c.cs.length : Int) := by omega
      have HT : Hid (m = fourOf c + c.cs.flatten.length ∨ 2097152 < m) := Or.inl (by have h9 := HN.out; rw [List.take_of_length_le (by omega)] at h9; rw [← H4.out]; exact h9)
      go_wp2
      go_loopw [3, 5] (fun s3 s5 wr => ∃ (k n : Nat), s5 = .int .i64 (k : Int) ∧ s3 = .int .i64 (n : Int) ∧ k ≤ c.ss.length ∧ (n = m + (c.ss.take k).flatten.length ∨ 2097152 < n) ∧ wr = W0) (fun _ s5 _ => c.ss.length - (intOf s5).toNat)
      case atStart => exact ⟨0, m, rfl, rfl, by omega, Or.inl (by simp), rfl⟩
      case round =>
        obtain ⟨k, n, rfl, rfl, hk, hn, hw⟩ := hrel
        have hw2 := hw.symm
        clear hw
        subst hw2
        have HN : Hid ((n = m + (c.ss.take k).flatten.length ∨ 2097152 < n)) := hn
        clear hn
        by_cases e : k = c.ss.length
        · have q1 : ¬ (k : Int) < (c.ss.length : Int) := by omega
          have HF : Hid (total c = n ∨ (2097152 < n)) := by
            have h9 := HN.out
            have h8 := HT.out
            unfold Hid total
            rw [List.take_of_length_le (by omega)] at h9; omega
          clear e
          go_wp2
          go_ret
          exact ⟨⟨n, rfl, by have := HF.out; omega⟩, by rw [GB.out]; exact HX.out.2⟩
        · have q1 : (k : Int) < (c.ss.length : Int) := by omega
          by_cases en : n ≤ 2097152
          · have q2 : (n : Int) ≤ 2097152 := by omega
            obtain ⟨x, hx⟩ : ∃ x, c.ss[k]? = some x := ⟨c.ss[k]'(by omega), List.getElem?_eq_getElem _⟩
            obtain ⟨g, a, u, eg, hcell, hb⟩ := (HS.out.2).get hx
            subst eg
            obtain ⟨ad2, cap2, rfl, _, hl2⟩ := hb.len
            obtain ⟨n2, hn2⟩ : ∃ n2, n2 = n + x.length := ⟨_, rfl⟩
            have r1 : (n : Int) + (x.length : Int) = (n2 : Int) := by omega
            have w1 : IntKind.i64.wrap (n2 : Int) = (n2 : Int) := by rw [IntKind.wrap_i64]; omega
            have HN2 : Hid ((n2 = m + (c.ss.take (k + 1)).flatten.length ∨ 2097152 < n2)) := by
              have h9 := HN.out
              unfold Hid
              rw [flatten_snoc hx, List.length_append]
              omega
            have HK : Hid (k + 1 ≤ c.ss.length) := by unfold Hid; omega
            have kB : (k : Int) < 1152921504606846976 := by have := HLL.out; omega
            clear hx hb e en hn2 hl2 hk
            go_wp2
            go_roundw
            case rel => exact ⟨k + 1, n2, by first | rfl | go_num, rfl, HK.out, HN2.out, by first | rfl | trivial⟩
            case measure => simp [intOf]; omega
          · have q2 : ¬ (n : Int) ≤ 2097152 := by omega
            have HF : Hid (total c = n ∨ (2097152 < n)) := by
              have h9 := HN.out
              have h8 := HT.out
              unfold Hid total
              omega
            clear e en
            go_wp2
            go_ret
            exact ⟨⟨n, rfl, by have := HF.out; omega⟩, by rw [GB.out]; exact HX.out.2⟩
    · have q1 : (k : Int) < (c.cs.length : Int) := by omega
      by_cases en : m ≤ 2097152
      · have q2 : (m : Int) ≤ 2097152 := by omega
        obtain ⟨x, hx⟩ : ∃ x, c.cs[k]? = some x := ⟨c.cs[k]'(by omega), List.getElem?_eq_getElem _⟩
        obtain ⟨g, a, u, eg, hcell, hb⟩ := (HS.out.1).get hx
        subst eg
        obtain ⟨ad2, cap2, rfl, _, hl2⟩ := hb.len
        obtain ⟨m2, hn2⟩ : ∃ m2, m2 = m + x.length := ⟨_, rfl⟩
        have r1 : (m : Int) + (x.length : Int) = (m2 : Int) := by omega
        have w1 : IntKind.i64.wrap (m2 : Int) = (m2 : Int) := by rw [IntKind.wrap_i64]; omega
        have HN2 : Hid (m2 = x3 + (c.cs.take (k + 1)).flatten.length) := by
          have h9 := HN.out
          unfold Hid
          rw [flatten_snoc hx, List.length_append]
          omega
        have HK : Hid (k + 1 ≤ c.cs.length) := by unfold Hid; omega
        have kB : (k : Int) < 1152921504606846976 := by have := HLL.out; omega
        clear hx hb e en hn2 hl2 hk
        go_wp2
        go_roundw
        case rel => exact ⟨k + 1, m2, by first | rfl | go_num, rfl, HK.out, HN2.out, by first | rfl | trivial⟩
        case measure => simp [intOf]; omega
      · have q2 : ¬ (m : Int) ≤ 2097152 := by omega
        have HT : Hid (m = fourOf c + c.cs.flatten.length ∨ 2097152 < m) := Or.inr (by omega)
        go_wp2
        go_loopw [3, 5] (fun s3 s5 wr => ∃ (k n : Nat), s5 = .int .i64 (k : Int) ∧ s3 = .int .i64 (n : Int) ∧ k ≤ c.ss.length ∧ (n = m + (c.ss.take k).flatten.length ∨ 2097152 < n) ∧ wr = W0) (fun _ s5 _ => c.ss.length - (intOf s5).toNat)
        case atStart => exact ⟨0, m, rfl, rfl, by omega, Or.inl (by simp), rfl⟩
        case round =>
          obtain ⟨k, n, rfl, rfl, hk, hn, hw⟩ := hrel
          have hw2 := hw.symm
          clear hw
          subst hw2
          have HN : Hid ((n = m + (c.ss.take k).flatten.length ∨ 2097152 < n)) := hn
          clear hn
          by_cases e : k = c.ss.length
          · have q1 : ¬ (k : Int) < (c.ss.length : Int) := by omega
            have HF : Hid (total c = n ∨ (2097152 < n)) := by
              have h9 := HN.out
              have h8 := HT.out
              unfold Hid total
              rw [List.take_of_length_le (by omega)] at h9; omega
            clear e
            go_wp2
            go_ret
            exact ⟨⟨n, rfl, by have := HF.out; omega⟩, by rw [GB.out]; exact HX.out.2⟩
          · have q1 : (k : Int) < (c.ss.length : Int) := by omega
            by_cases en : n ≤ 2097152
            · have q2 : (n : Int) ≤ 2097152 := by omega
              obtain ⟨x, hx⟩ : ∃ x, c.ss[k]? = some x := ⟨c.ss[k]'(by omega), List.getElem?_eq_getElem _⟩
              obtain ⟨g, a, u, eg, hcell, hb⟩ := (HS.out.2).get hx
              subst eg
              obtain ⟨ad2, cap2, rfl, _, hl2⟩ := hb.len
              obtain ⟨n2, hn2⟩ : ∃ n2, n2 = n + x.length := ⟨_, rfl⟩
              have r1 : (n : Int) + (x.length : Int) = (n2 : Int) := by omega
              have w1 : IntKind.i64.wrap (n2 : Int) = (n2 : Int) := by rw [IntKind.wrap_i64]; omega
              have HN2 : Hid ((n2 = m + (c.ss.take (k + 1)).flatten.length ∨ 2097152 < n2)) := by
                have h9 := HN.out
                unfold Hid
                rw [flatten_snoc hx, List.length_append]
                omega
              have HK : Hid (k + 1 ≤ c.ss.length) := by unfold Hid; omega
              have kB : (k : Int) < 1152921504606846976 := by have := HLL.out; omega
              clear hx hb e en hn2 hl2 hk
              go_wp2
              go_roundw
              case rel => exact ⟨k + 1, n2, by first | rfl | go_num, rfl, HK.out, HN2.out, by first | rfl | trivial⟩
              case measure => simp [intOf]; omega
            · have q2 : ¬ (n : Int) ≤ 2097152 := by omega
              have HF : Hid (total c = n ∨ (2097152 < n)) := by
                have h9 := HN.out
                have h8 := HT.out
                unfold Hid total
                omega
              clear e en
              go_wp2
              go_ret
              exact ⟨⟨n, rfl, by have := HF.out; omega⟩, by rw [GB.out]; exact HX.out.2⟩
end Go.Proofs.Ytndhabhlajldeaa
/- A law's container in its box. -/
namespace Go.Proofs.Ytndhabhlajldeaa
open Go.RowKit
/-- a law's container in its box -/
structure CtM (bx : Nat) (w W : World) (L : List Value) (c : Con) : Prop where
  cb : CBox W bx 28 L
  cw : CW (fun _ => True) W (.agg L.toArray) c
  bel : Below w.heap.size w W
theorem CtM.past {bx : Nat} {w W W' : World} {L : List Value} {c : Con} (h : CtM bx w W L c) (k : Below W.heap.size W W') : CtM bx w W' L c := ⟨h.cb.past k, h.cw.past k, h.bel.trans (k.mono h.bel.size)⟩
end Go.Proofs.Ytndhabhlajldeaa
