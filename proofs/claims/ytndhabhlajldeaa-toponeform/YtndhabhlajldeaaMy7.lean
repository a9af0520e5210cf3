/- vouchtop's copied: a container in lists of its own. -/
import Derived.Test.YtndhabhlajldeaaMy6
namespace Go.Proofs.Ytndhabhlajldeaa
open Go.RowKit
/-- append of one piece that lies in a box -/
theorem wp_appP1 {w : World} {o : Oper} {a : Act} {K : Act → World → Prop} {Q : Exit → Act → World → Prop} (s x : Operand)
    (ho : o.op = .call { callee := .builtin .append, args := #[s, x], argTypes := #[26, 26] }) (B : Nat) (hB : B ≤ w.heap.size) (v : Value) (ll : List (List Nat)) (hs : a.eval s = v) (hown : PO B w v ll)
    (u : Value) (l : List Nat) (hu : w.ownsRow B 5 1 u l.length (bV l)) (bb : Nat) (hx : a.eval x = .slice (some ⟨bb, 0, none⟩) 1 1) (hbb : CBox w bb 22 [u]) (hn : ll.length + 1 ≤ 2199023255552)
    (h : ∀ v' w', PO B w' v' (ll ++ [l]) → But (fun g => B ≤ g) w w' → K (a.put o.dst v') w') : o.wp Try.prog a w K Q := by
  obtain ⟨us, hl, hr, h1⟩ := hown
  obtain ⟨ad, cap, rfl⟩ := owns_sl hr
  obtain ⟨ua, uc, rfl⟩ := owns_sl hu
  refine wp_apps s x 26 22 ho (.slice none 0 0) 1 24 Try.underlying26 Try.infoB rfl (by omega) (by omega) B hB ad ll.length cap us hs hr ⟨bb, 0, none⟩ 1 1 [.slice ua l.length uc] hx rfl (fun j c hj => ?_) (fun y hy => by rw [List.mem_singleton.1 hy]; rfl) hn (fun ad' cap' w' q1 q2 q3 => ?_)
  · have hj0 : j = 0 := by have := (List.getElem?_eq_some_iff.1 hj).1; simpa using this
    subst hj0
    rw [Addr.add_mid]
    rw [Nat.zero_add]
    exact (hbb.cell 0).trans hj
  · have b2 : But (OwnV (.slice ad ll.length cap)) w w' := q2.mono fun k hk => own_iff.1 hk
    have keep : ∀ {y : Value} {m : List Nat}, w.ownsRow B 5 1 y m.length (bV m) → w'.ownsRow B 5 1 y m.length (bV m) := fun hy => owns_row_blockB hy fun g hg => b2.block g (hy.lt g hg).2 fun e => owns_apart hr hy (by decide) e hg
    refine h _ _ ⟨us ++ [.slice ua l.length uc], by simp [hl], by rw [List.length_append]; exact q1, ?_⟩ (b2.mono fun k e => (hr.lt k e).1)
    have h2 : Own1 B w' us (ll ++ [l]) := fun i y m hi hm => by
      have hlt : i < ll.length := by rw [← hl]; exact (List.getElem?_eq_some_iff.1 hi).1
      rw [List.getElem?_append_left hlt] at hm
      exact keep (h1 i y m hi hm)
    exact h2.snoc (by rw [hl]; simp) (keep hu)
/-- at the start: the argument's box and the result's -/
structure CpM (b1 b2 : Nat) (w W : World) (L Z : List Value) : Prop where
  c1 : CBox W b1 28 L
  c2 : CBox W b2 28 Z
  bel : Below w.heap.size w W
/-- behind the literal -/
structure CpZ (b1 b2 b3 B0 : Nat) (w Z : World) (L : List Value) (tv dv : Value) (c : Con) : Prop where
  c3 : CBox Z b3 28 [tv, .slice none 0 0, .slice none 0 0, dv, .int .i64 c.n]
  c1 : CBox Z b1 28 L
  c2 : CBox Z b2 28 [.slice none 0 0, .slice none 0 0, .slice none 0 0, .slice none 0 0, .int .i64 0]
  t : Z.ownsRow B0 77 3 tv c.ts.length (tV c.ts)
  d : Z.ownsRow B0 5 1 dv c.d.length (bV c.d)
  bel : Below w.heap.size w Z
  g3 : w.heap.size ≤ b3
  n1 : b1 ≠ b3
  n2 : b2 ≠ b3
/-- a list of the copy in the making -/
structure CpL (b3 B : Nat) (w Z W : World) (L3 : List Value) (v : Value) (ll : List (List Nat)) : Prop where
  box : CBox W b3 28 L3
  px : PO B W v ll
  but : But (fun g => g = b3 ∨ B ≤ g) Z W
  bel : Below w.heap.size w W
  lt : b3 < B
  ge : B ≤ Z.heap.size
  g3 : w.heap.size ≤ b3
section
variable {b3 B : Nat} {w Z W W' : World} {v v' : Value} {L3 : List Value} {ll lm : List (List Nat)}
theorem CpL.le (h : CpL b3 B w Z W L3 v ll) : B ≤ W.heap.size := Nat.le_trans h.ge h.but.size
theorem CpL.past (h : CpL b3 B w Z W L3 v ll) (q : Below W.heap.size W W') : CpL b3 B w Z W' L3 v ll := ⟨h.box.past q, h.px.past q, h.but.trans (below_but q), h.bel.trans (q.mono h.bel.size), h.lt, h.ge, h.g3⟩
theorem CpL.app (h : CpL b3 B w Z W L3 v ll) (hp : PO B W' v' lm) (q : But (fun g => B ≤ g) W W') (j : Nat) : CpL b3 B w Z (W'.setCell ⟨b3, j, none⟩ v') (L3.set j v') v' lm := by
  have hx : CBox W' b3 28 L3 := h.box.but q fun (e : B ≤ b3) => by have := h.lt; omega
  have hs : But (fun y => y = b3) W' (W'.setCell ⟨b3, j, none⟩ v') := (But.refl (fun y => y = b3) W').setCell ⟨b3, j, none⟩ _ (Or.inl rfl)
  have k1 : But (fun g => g = b3 ∨ B ≤ g) W W' := q.mono fun g hg => Or.inr hg
  have k2 : But (fun g => g = b3 ∨ B ≤ g) W' (W'.setCell ⟨b3, j, none⟩ v') := hs.mono fun g hg => Or.inl hg
  have h3 := h.g3
  have hl := h.lt
  exact ⟨hx.set j _, PO.alien hp hs ⟨_, _, hx, by decide, by decide, by decide⟩, h.but.trans (k1.trans k2), h.bel.trans ((k1.trans k2).below (fun g e => by omega) h.bel.size), h.lt, h.ge, h.g3⟩
end
set_option maxHeartbeats 8000000 in
set_option maxRecDepth 100000 in
theorem copied_is2 {P : Nat → Prop} (w : World) (v : Value) (c : Con) (h : CW P w v c) (hs : Small c) : Calls Try.prog 52 #[v] w fun e w' => ∃ v', e = .returned v' ∧ CW (fun _ => True) w' v' c ∧ Below w.heap.size w w' := by
  obtain ⟨tv, cv, sv, dv, rfl, h1, h2, h3, h4⟩ := h
  obtain ⟨ta, tc, rfl, _⟩ := h1.len
  obtain ⟨ca, cc, rfl, _⟩ := h2.len
  obtain ⟨sa, sc, rfl, _⟩ := h3.len
  obtain ⟨da, dc, rfl, _⟩ := h4.len
  have HSM : Hid (Small c) := hs
  have HNB : Hid (c.cs.length ≤ 33554432 ∧ c.ss.length ≤ 33554432) := by unfold Small at hs; unfold Hid; omega
  have HSR : Hid (∀ W, Below w.heap.size w W → TL P W (.slice ta c.ts.length tc) c.ts ∧ BL P W (.slice da c.d.length dc) c.d) := fun W hW => ⟨h1.past hW, h4.past hW⟩
  have SC : Hid (∀ W, Below w.heap.size w W → PL P W (.slice ca c.cs.length cc) c.cs) := fun W hW => h2.past hW
  have SK : Hid (∀ W, Below w.heap.size w W → PL P W (.slice sa c.ss.length sc) c.ss) := fun W hW => h3.past hW
  have b1 := below_alloc w (.cells #[.slice ta c.ts.length tc, .slice ca c.cs.length cc, .slice sa c.ss.length sc, .slice da c.d.length dc, .int .i64 c.n] 28)
  have b2 := below_alloc (w.alloc (.cells #[.slice ta c.ts.length tc, .slice ca c.cs.length cc, .slice sa c.ss.length sc, .slice da c.d.length dc, .int .i64 c.n] 28)) (.cells #[.slice none 0 0, .slice none 0 0, .slice none 0 0, .slice none 0 0, .int .i64 0] 28)
  have s1 : (w.alloc (.cells #[.slice ta c.ts.length tc, .slice ca c.cs.length cc, .slice sa c.ss.length sc, .slice da c.d.length dc, .int .i64 c.n] 28)).heap.size = w.heap.size + 1 := by simp
  have bb : Below w.heap.size w ((w.alloc (.cells #[.slice ta c.ts.length tc, .slice ca c.cs.length cc, .slice sa c.ss.length sc, .slice da c.d.length dc, .int .i64 c.n] 28)).alloc (.cells #[.slice none 0 0, .slice none 0 0, .slice none 0 0, .slice none 0 0, .int .i64 0] 28)) := b1.trans (b2.mono (by omega))
  have c2 := CBox.new (w.alloc (.cells #[.slice ta c.ts.length tc, .slice ca c.cs.length cc, .slice sa c.ss.length sc, .slice da c.d.length dc, .int .i64 c.n] 28)) 28 [.slice none 0 0, .slice none 0 0, .slice none 0 0, .slice none 0 0, .int .i64 0]
  rw [s1] at c2
  have M0 : Hid (CpM w.heap.size (w.heap.size + 1) w ((w.alloc (.cells #[.slice ta c.ts.length tc, .slice ca c.cs.length cc, .slice sa c.ss.length sc, .slice da c.d.length dc, .int .i64 c.n] 28)).alloc (.cells #[.slice none 0 0, .slice none 0 0, .slice none 0 0, .slice none 0 0, .int .i64 0] 28)) [.slice ta c.ts.length tc, .slice ca c.cs.length cc, .slice sa c.ss.length sc, .slice da c.d.length dc, .int .i64 c.n] [.slice none 0 0, .slice none 0 0, .slice none 0 0, .slice none 0 0, .int .i64 0]) := ⟨(CBox.new w 28 [.slice ta c.ts.length tc, .slice ca c.cs.length cc, .slice sa c.ss.length sc, .slice da c.d.length dc, .int .i64 c.n]).past b2, c2, bb⟩
  have GL0 : Hid (w.heap.size < w.heap.size + 1) := by unfold Hid; omega
  clear h1 h2 h3 h4 b1 b2 s1 bb c2 hs
  generalize hbw : w.heap.size = bw at M0 GL0
  have GB : Hid (w.heap.size = bw) := hbw
  have GE : Hid (bw ≤ w.heap.size) := by unfold Hid; omega
  have GL2 : Hid (w.heap.size < bw + 1) := by unfold Hid; omega
  go_enter Try.func52, Try.ntmps52
  go_upto_region 1 with fail
  clear hbw
  generalize hb2 : bw + 1 = b2 at M0 GL0 GL2 ⊢
  clear hb2
  generalize hb1 : bw = b1 at M0 GL0
  (try rw [hb1])
  clear hb1
  have GL : Hid (w.heap.size < b2 ∧ b1 < b2) := ⟨GL2.out, GL0.out⟩
  clear GL0 GL2
  generalize (w.alloc _).alloc _ = W1 at M0 ⊢
  have M := M0
  clear M0
  go_cut [3] (fun s3 wx => ∃ (b3 : Nat) (qa : Option Addr) (qc : Nat) (ea : Option Addr) (ec : Nat), s3 = .pointer (some ⟨b3, 0, none⟩) ∧ CpZ b1 b2 b3 bw w wx [.slice ta c.ts.length tc, .slice ca c.cs.length cc, .slice sa c.ss.length sc, .slice da c.d.length dc, .int .i64 c.n] (.slice qa c.ts.length qc) (.slice ea c.d.length ec) c)
  case first =>
    refine wp_region_held_drew (S := fun V' => CBox V' b1 28 [.slice ta c.ts.length tc, .slice ca c.cs.length cc, .slice sa c.ss.length sc, .slice da c.d.length dc, .int .i64 c.n]) (by kernel_rfl) (M.out.c1.past below_drew) (fun HH => ?_)
    have BX : Hid (CBox W1.drew b2 28 [.slice none 0 0, .slice none 0 0, .slice none 0 0, .slice none 0 0, .int .i64 0]) := M.out.c2.past below_drew
    have B : Hid (Below bw w W1.drew ∧ b2 < W1.drew.heap.size ∧ b1 < W1.drew.heap.size) := ⟨by rw [← GB.out]; exact M.out.bel.drew, M.out.c2.lt, M.out.c1.lt⟩
    have SRC : Hid (TL P W1.drew (.slice ta c.ts.length tc) c.ts ∧ BL P W1.drew (.slice da c.d.length dc) c.d) := HSR.out _ M.out.bel.drew
    clear M
    generalize W1.drew = z1 at HH BX B SRC ⊢
    refine wpAnyH_take (i := 1) (v := .pointer (some ⟨b1, 0, none⟩)) ov1 (by kernel_rfl) (by kernel_rfl) (by kernel_rfl) (fun _ _ _ h => h) (Or.inl ⟨by rfl, fun V' hS => ?_⟩) HH ?_
    · go_simp
    simp only [Act.put, List.setIfInBounds_toArray, List.set_cons_zero, List.set_cons_succ]
    refine wpAnyH_take (i := 2) (v := .slice ta c.ts.length tc) ov2 (by kernel_rfl) (by kernel_rfl) (by kernel_rfl) (fun _ _ _ h => h) (Or.inl ⟨by rfl, fun V' hS => ?_⟩) HH ?_
    · have c0 := hS.cell 0
      go_simp
    simp only [Act.put, List.setIfInBounds_toArray, List.set_cons_zero, List.set_cons_succ]
    refine wpAnyH_take (i := 4) (v := .pointer (some ⟨b1, 3, none⟩)) ov4 (by kernel_rfl) (by kernel_rfl) (by kernel_rfl) (fun _ _ _ h => h) (Or.inl ⟨by rfl, fun V' hS => ?_⟩) HH ?_
    · go_simp
    simp only [Act.put, List.setIfInBounds_toArray, List.set_cons_zero, List.set_cons_succ]
    refine wpAnyH_take (i := 5) (v := .slice da c.d.length dc) ov5 (by kernel_rfl) (by kernel_rfl) (by kernel_rfl) (fun _ _ _ h => h) (Or.inl ⟨by rfl, fun V' hS => ?_⟩) HH ?_
    · have c0 := hS.cell 3
      go_simp
    simp only [Act.put, List.setIfInBounds_toArray, List.set_cons_zero, List.set_cons_succ]
    refine wpAnyH_take (i := 7) (v := .pointer (some ⟨b1, 4, none⟩)) ov7 (by kernel_rfl) (by kernel_rfl) (by kernel_rfl) (fun _ _ _ h => h) (Or.inl ⟨by rfl, fun V' hS => ?_⟩) HH ?_
    · go_simp
    simp only [Act.put, List.setIfInBounds_toArray, List.set_cons_zero, List.set_cons_succ]
    refine wpAnyH_take (i := 8) (v := .int .i64 c.n) ov8 (by kernel_rfl) (by kernel_rfl) (by kernel_rfl) (fun _ _ _ h => h) (Or.inl ⟨by rfl, fun V' hS => ?_⟩) HH ?_
    · have c0 := hS.cell 4
      go_simp
    simp only [Act.put, List.setIfInBounds_toArray, List.set_cons_zero, List.set_cons_succ]
    refine wpAnyH_ready (rs := [0, 10]) (by kernel_rfl) (by simp) ?_
    refine AllReadyH.cons ov0 (fun K hK => ?_) (AllReadyH.cons ov10 (fun K hK => ?_) AllReadyH.nil)
    · rw [if_pos (by rfl)]
      go_simp
      have hB : Below z1.heap.size z1 (z1.alloc (.cells #[] 77)) := below_alloc _ _
      have F9 : (z1.alloc (.cells #[] 77)).ownsRow bw 77 3 (.slice (some ⟨z1.heap.size, 0, none⟩) 0 0) ([] : List Ty).length (tV []) := World.ownsRow_lit z1 #[] 0 (Nat.le_trans GE.out B.out.1.size) (by unfold maxLen; omega) rfl
      have H9 := HH.past hB
      clear HH
      have HH := H9
      clear H9
      have q9 := And.intro (B.out.1.trans (hB.mono (Nat.le_trans GE.out B.out.1.size))) (And.intro (Nat.lt_of_lt_of_le B.out.2.1 hB.size) (Nat.lt_of_lt_of_le B.out.2.2 hB.size))
      clear B
      have B : Hid (Below bw w (z1.alloc (.cells #[] 77)) ∧ b2 < (z1.alloc (.cells #[] 77)).heap.size ∧ b1 < (z1.alloc (.cells #[] 77)).heap.size) := q9
      clear q9
      have q9 := BX.out.past hB
      clear BX
      have BX : Hid (CBox (z1.alloc (.cells #[] 77)) b2 28 [.slice none 0 0, .slice none 0 0, .slice none 0 0, .slice none 0 0, .int .i64 0]) := q9
      clear q9
      have q9 := And.intro (SRC.out.1.past hB) (SRC.out.2.past hB)
      clear SRC
      have SRC : Hid (TL P (z1.alloc (.cells #[] 77)) (.slice ta c.ts.length tc) c.ts ∧ BL P (z1.alloc (.cells #[] 77)) (.slice da c.d.length dc) c.d) := q9
      clear q9
      (try (have q9 := FX.out; clear FX; have FX : Hid (CBox (z1.alloc (.cells #[] 77)) b3 28 [.slice none 0 0, .slice none 0 0, .slice none 0 0, .slice none 0 0, .int .i64 0]) := CBox.past q9 hB; clear q9))
      have FE : Hid ((z1.alloc (.cells #[] 77)).ownsRow bw 77 3 (.slice (some ⟨z1.heap.size, 0, none⟩) 0 0) ([] : List Ty).length (tV [])) := F9
      clear F9 hB
      refine hK.out _ (z1.alloc (.cells #[] 77)) HH (fun _ => ?_)
      clear hK K
      (try simp only [Act.put, List.setIfInBounds_toArray, List.set_cons_zero, List.set_cons_succ])
      generalize z1.heap.size = be at FE ⊢
      (first | generalize (z1.alloc (.cells #[] 77)) = z1 at HH B BX SRC FE FX ⊢ | generalize (z1.alloc (.cells #[] 77)) = z1 at HH B BX SRC FE ⊢)
      refine wpAnyH_ready (rs := [3, 10]) (by kernel_rfl) (by simp) ?_
      refine AllReadyH.cons ov3 (fun K hK => ?_) (AllReadyH.cons ov10 (fun K hK => ?_) AllReadyH.nil)
      · rw [if_pos (by rfl)]
        refine wp_appTs _ _ rfl bw (Nat.le_trans GE.out B.out.1.size) (.slice (some ⟨be, 0, none⟩) 0 0) [] rfl FE.out (.slice ta c.ts.length tc) c.ts rfl SRC.out.1 (by have := HSM.out; unfold Small at this; simp only [List.length_nil]; omega) ?_
        intro v9 z9 hA
        obtain ⟨qa, qc, e9⟩ := owns_sl hA.row
        rw [List.nil_append] at e9
        subst e9
        have hbt := hA.but.mono (T := fun g => g = be) (fun g hg => (Option.some.inj (show some be = some g from hg)).symm)
        have F9 : Hid (z9.ownsRow bw 77 3 (.slice qa c.ts.length qc) c.ts.length (tV c.ts)) := hA.row
        have ebe : bw ≤ be ∧ be < z1.heap.size := World.ownsRow.lt FE.out be rfl
        have H9 := HH.but hbt (fun (e : b1 = be) => by have h1 := own_box FE.out HH (by decide) (g := be) rfl; exact h1 e.symm)
        have B9 : Hid (Below bw w z9 ∧ b2 < z9.heap.size ∧ b1 < z9.heap.size) := ⟨B.out.1.trans (hbt.below (fun g (e : g = be) => by rw [e]; exact ebe.1) (Nat.le_trans GE.out B.out.1.size)), Nat.lt_of_lt_of_le B.out.2.1 hbt.size, Nat.lt_of_lt_of_le B.out.2.2 hbt.size⟩
        have X9 : Hid (CBox z9 b2 28 [.slice none 0 0, .slice none 0 0, .slice none 0 0, .slice none 0 0, .int .i64 0]) := BX.out.but hbt (fun (e : b2 = be) => by have h1 := own_box FE.out BX.out (by decide) (g := be) rfl; exact h1 e.symm)
        have hbe : w.heap.size ≤ be := by rw [GB.out]; exact ebe.1
        have S9 : Hid (TL P z9 (.slice ta c.ts.length tc) c.ts ∧ BL P z9 (.slice da c.d.length dc) c.d) := HSR.out _ (by rw [GB.out]; exact B9.out.1)
        (try (have q9 : Hid (CBox z9 b3 28 [.slice none 0 0, .slice none 0 0, .slice none 0 0, .slice none 0 0, .int .i64 0]) := FX.out.but hbt (fun (e : b3 = be) => by have h1 := own_box FE.out FX.out (by decide) (g := be) rfl; exact h1 e.symm); clear FX; have FX := q9; clear q9))
        clear FE HH B BX SRC hA hbt ebe hbe
        have FT := F9
        have HH := H9
        have B := B9
        have BX := X9
        have SRC := S9
        clear F9 H9 B9 X9 S9
        refine hK.out _ z9 HH (fun _ => ?_)
        clear hK K
        (try simp only [Act.put, List.setIfInBounds_toArray, List.set_cons_zero, List.set_cons_succ])
        (first | generalize z9 = z1 at HH B BX SRC FT FX ⊢ | generalize z9 = z1 at HH B BX SRC FT ⊢)
        refine wpAnyH_ready (rs := [6, 10]) (by kernel_rfl) (by simp) ?_
        refine AllReadyH.cons ov6 (fun K hK => ?_) (AllReadyH.cons ov10 (fun K hK => ?_) AllReadyH.nil)
        · rw [if_pos (by rfl)]
          go_simp
          refine (row_is _ _ c.d SRC.out.2 (by have := HSM.out; unfold Small at this; omega)).mono ?_
          rintro e z9 ⟨v9, rfl, hP, hB⟩
          obtain ⟨ea, ec, rfl⟩ := owns_sl hP
          have F9 : Hid (z9.ownsRow bw 5 1 (.slice ea c.d.length ec) c.d.length (bV c.d)) := owns_base hP (Nat.le_trans GE.out B.out.1.size)
          clear hP
          have H9 := HH.past hB
          clear HH
          have HH := H9
          clear H9
          have q9 := And.intro (B.out.1.trans (hB.mono (Nat.le_trans GE.out B.out.1.size))) (And.intro (Nat.lt_of_lt_of_le B.out.2.1 hB.size) (Nat.lt_of_lt_of_le B.out.2.2 hB.size))
          clear B
          have B : Hid (Below bw w z9 ∧ b2 < z9.heap.size ∧ b1 < z9.heap.size) := q9
          clear q9
          have q9 := BX.out.past hB
          clear BX
          have BX : Hid (CBox z9 b2 28 [.slice none 0 0, .slice none 0 0, .slice none 0 0, .slice none 0 0, .int .i64 0]) := q9
          clear q9
          have q9 := And.intro (SRC.out.1.past hB) (SRC.out.2.past hB)
          clear SRC
          have SRC : Hid (TL P z9 (.slice ta c.ts.length tc) c.ts ∧ BL P z9 (.slice da c.d.length dc) c.d) := q9
          clear q9
          (try (have q9 := FE.out; clear FE; have FE : Hid (z9.ownsRow bw 77 3 (.slice (some ⟨be, 0, none⟩) 0 0) ([] : List Ty).length (tV [])) := owns_past q9 hB; clear q9))
          (try (have q9 := FT.out; clear FT; have FT : Hid (z9.ownsRow bw 77 3 (.slice qa c.ts.length qc) c.ts.length (tV c.ts)) := owns_past q9 hB; clear q9))
          (try (have q9 := FX.out; clear FX; have FX : Hid (CBox z9 b3 28 [.slice none 0 0, .slice none 0 0, .slice none 0 0, .slice none 0 0, .int .i64 0]) := CBox.past q9 hB; clear q9))
          have FD := F9
          clear F9 hB
          (try go_wp2_with fail)
          refine hK.out _ _ HH (fun _ => ?_)
          clear hK K
          (try simp only [Act.put, List.setIfInBounds_toArray, List.set_cons_zero, List.set_cons_succ])
          (first | generalize z9 = z1 at HH B BX SRC FT FD FX ⊢ | generalize z9 = z1 at HH B BX SRC FT FD ⊢)
          refine wpAnyH_take (i := 9) (v := .agg #[.slice qa c.ts.length qc, .slice none 0 0, .slice none 0 0, .slice ea c.d.length ec, .int .i64 c.n]) ov9 (by kernel_rfl) (by kernel_rfl) (by kernel_rfl) (fun _ _ _ h => h) (Or.inl ⟨by rfl, fun V' hS => ?_⟩) HH ?_
          · go_simp
          simp only [Act.put, List.setIfInBounds_toArray, List.set_cons_zero, List.set_cons_succ]
          refine wpAnyH_ready (rs := [10]) (by kernel_rfl) (by simp) ?_
          refine AllReadyH.cons ov10 (fun K hK => ?_) AllReadyH.nil
          rw [if_pos (by rfl)]
          go_simp
          have hB : Below z1.heap.size z1 (z1.alloc (.cells #[.slice none 0 0, .slice none 0 0, .slice none 0 0, .slice none 0 0, .int .i64 0] 28)) := below_alloc _ _
          have F9 := CBox.new z1 28 [.slice none 0 0, .slice none 0 0, .slice none 0 0, .slice none 0 0, .int .i64 0]
          have G9 : Hid (w.heap.size ≤ z1.heap.size ∧ b2 ≠ z1.heap.size ∧ b1 ≠ z1.heap.size) := ⟨by have h1 := B.out.1.size; exact h1, by have := B.out.2.1; omega, by have := B.out.2.2; omega⟩
          have H9 := HH.past hB
          clear HH
          have HH := H9
          clear H9
          have q9 := And.intro (B.out.1.trans (hB.mono (Nat.le_trans GE.out B.out.1.size))) (And.intro (Nat.lt_of_lt_of_le B.out.2.1 hB.size) (Nat.lt_of_lt_of_le B.out.2.2 hB.size))
          clear B
          have B : Hid (Below bw w (z1.alloc (.cells #[.slice none 0 0, .slice none 0 0, .slice none 0 0, .slice none 0 0, .int .i64 0] 28)) ∧ b2 < (z1.alloc (.cells #[.slice none 0 0, .slice none 0 0, .slice none 0 0, .slice none 0 0, .int .i64 0] 28)).heap.size ∧ b1 < (z1.alloc (.cells #[.slice none 0 0, .slice none 0 0, .slice none 0 0, .slice none 0 0, .int .i64 0] 28)).heap.size) := q9
          clear q9
          have q9 := BX.out.past hB
          clear BX
          have BX : Hid (CBox (z1.alloc (.cells #[.slice none 0 0, .slice none 0 0, .slice none 0 0, .slice none 0 0, .int .i64 0] 28)) b2 28 [.slice none 0 0, .slice none 0 0, .slice none 0 0, .slice none 0 0, .int .i64 0]) := q9
          clear q9
          have q9 := And.intro (SRC.out.1.past hB) (SRC.out.2.past hB)
          clear SRC
          have SRC : Hid (TL P (z1.alloc (.cells #[.slice none 0 0, .slice none 0 0, .slice none 0 0, .slice none 0 0, .int .i64 0] 28)) (.slice ta c.ts.length tc) c.ts ∧ BL P (z1.alloc (.cells #[.slice none 0 0, .slice none 0 0, .slice none 0 0, .slice none 0 0, .int .i64 0] 28)) (.slice da c.d.length dc) c.d) := q9
          clear q9
          (try (have q9 := FE.out; clear FE; have FE : Hid ((z1.alloc (.cells #[.slice none 0 0, .slice none 0 0, .slice none 0 0, .slice none 0 0, .int .i64 0] 28)).ownsRow bw 77 3 (.slice (some ⟨be, 0, none⟩) 0 0) ([] : List Ty).length (tV [])) := owns_past q9 hB; clear q9))
          (try (have q9 := FT.out; clear FT; have FT : Hid ((z1.alloc (.cells #[.slice none 0 0, .slice none 0 0, .slice none 0 0, .slice none 0 0, .int .i64 0] 28)).ownsRow bw 77 3 (.slice qa c.ts.length qc) c.ts.length (tV c.ts)) := owns_past q9 hB; clear q9))
          (try (have q9 := FD.out; clear FD; have FD : Hid ((z1.alloc (.cells #[.slice none 0 0, .slice none 0 0, .slice none 0 0, .slice none 0 0, .int .i64 0] 28)).ownsRow bw 5 1 (.slice ea c.d.length ec) c.d.length (bV c.d)) := owns_past q9 hB; clear q9))
          have FX : Hid (CBox (z1.alloc (.cells #[.slice none 0 0, .slice none 0 0, .slice none 0 0, .slice none 0 0, .int .i64 0] 28)) z1.heap.size 28 [.slice none 0 0, .slice none 0 0, .slice none 0 0, .slice none 0 0, .int .i64 0]) := F9
          clear F9 hB
          refine hK.out _ (z1.alloc (.cells #[.slice none 0 0, .slice none 0 0, .slice none 0 0, .slice none 0 0, .int .i64 0] 28)) HH (fun _ => ?_)
          clear hK K
          (try simp only [Act.put, List.setIfInBounds_toArray, List.set_cons_zero, List.set_cons_succ])
          generalize z1.heap.size = b3 at FX G9 ⊢
          (first | generalize (z1.alloc (.cells #[.slice none 0 0, .slice none 0 0, .slice none 0 0, .slice none 0 0, .int .i64 0] 28)) = z1 at HH B BX SRC FX FT FD ⊢ | generalize (z1.alloc (.cells #[.slice none 0 0, .slice none 0 0, .slice none 0 0, .slice none 0 0, .int .i64 0] 28)) = z1 at HH B BX SRC FX FT ⊢ | generalize (z1.alloc (.cells #[.slice none 0 0, .slice none 0 0, .slice none 0 0, .slice none 0 0, .int .i64 0] 28)) = z1 at HH B BX SRC FX FE ⊢ | generalize (z1.alloc (.cells #[.slice none 0 0, .slice none 0 0, .slice none 0 0, .slice none 0 0, .int .i64 0] 28)) = z1 at HH B BX SRC FX ⊢)
          refine wpAnyH_ready (rs := [11]) (by kernel_rfl) (by simp) ?_
          refine AllReadyH.cons ov11 (fun K hK => ?_) AllReadyH.nil
          rw [if_pos (by rfl)]
          have k0 : z1.cell? ⟨b3, 0, none⟩ = some (.slice none 0 0) := FX.out.cell 0
          have k1 : z1.cell? ⟨b3, 1, none⟩ = some (.slice none 0 0) := FX.out.cell 1
          have k2 : z1.cell? ⟨b3, 2, none⟩ = some (.slice none 0 0) := FX.out.cell 2
          have k3 : z1.cell? ⟨b3, 3, none⟩ = some (.slice none 0 0) := FX.out.cell 3
          have k4 : z1.cell? ⟨b3, 4, none⟩ = some (.int .i64 0) := FX.out.cell 4
          have f0 := CBox.frozen FX.out 0
          have f1 := CBox.frozen FX.out 1
          have f2 := CBox.frozen FX.out 2
          have f3 := CBox.frozen FX.out 3
          have f4 := CBox.frozen FX.out 4
          go_simp
          clear k0 k1 k2 k3 k4 f0 f1 f2 f3 f4
          have hs : But (fun y => y = b3) z1 (((((z1.setCell ⟨b3, 0, none⟩ (.slice qa c.ts.length qc)).setCell ⟨b3, 1, none⟩ (.slice none 0 0)).setCell ⟨b3, 2, none⟩ (.slice none 0 0)).setCell ⟨b3, 3, none⟩ (.slice ea c.d.length ec)).setCell ⟨b3, 4, none⟩ (.int .i64 c.n)) := ((((((But.refl (fun y => y = b3) z1).setCell ⟨b3, 0, none⟩ _ (Or.inl rfl)).setCell ⟨b3, 1, none⟩ _ (Or.inl rfl)).setCell ⟨b3, 2, none⟩ _ (Or.inl rfl)).setCell ⟨b3, 3, none⟩ _ (Or.inl rfl)).setCell ⟨b3, 4, none⟩ _ (Or.inl rfl))
          have ra : Alien z1 b3 := ⟨_, _, FX.out, by decide, by decide, by decide⟩
          have cb : CBox (((((z1.setCell ⟨b3, 0, none⟩ (.slice qa c.ts.length qc)).setCell ⟨b3, 1, none⟩ (.slice none 0 0)).setCell ⟨b3, 2, none⟩ (.slice none 0 0)).setCell ⟨b3, 3, none⟩ (.slice ea c.d.length ec)).setCell ⟨b3, 4, none⟩ (.int .i64 c.n)) b3 28 [.slice qa c.ts.length qc, .slice none 0 0, .slice none 0 0, .slice ea c.d.length ec, .int .i64 c.n] := (((((FX.out.set 0 _).set 1 _).set 2 _).set 3 _).set 4 _)
          have HZ : Hid (CpZ b1 b2 b3 bw w (((((z1.setCell ⟨b3, 0, none⟩ (.slice qa c.ts.length qc)).setCell ⟨b3, 1, none⟩ (.slice none 0 0)).setCell ⟨b3, 2, none⟩ (.slice none 0 0)).setCell ⟨b3, 3, none⟩ (.slice ea c.d.length ec)).setCell ⟨b3, 4, none⟩ (.int .i64 c.n)) [.slice ta c.ts.length tc, .slice ca c.cs.length cc, .slice sa c.ss.length sc, .slice da c.d.length dc, .int .i64 c.n] (.slice qa c.ts.length qc) (.slice ea c.d.length ec) c) := ⟨cb, HH.but hs G9.out.2.2, BX.out.but hs G9.out.2.1, row_alienT FT.out hs ra, row_alien FD.out hs ra, (show Below w.heap.size w z1 from by first | exact B.out.1 | (rw [GB.out]; exact B.out.1)).trans (hs.below (fun g e => by have := G9.out.1; omega) (show w.heap.size ≤ z1.heap.size from by have h1 := B.out.1.size; exact h1)), G9.out.1, G9.out.2.2, G9.out.2.1⟩
          have HHN := HH.but hs G9.out.2.2
          clear hs ra cb HH
          refine hK.out _ (((((z1.setCell ⟨b3, 0, none⟩ (.slice qa c.ts.length qc)).setCell ⟨b3, 1, none⟩ (.slice none 0 0)).setCell ⟨b3, 2, none⟩ (.slice none 0 0)).setCell ⟨b3, 3, none⟩ (.slice ea c.d.length ec)).setCell ⟨b3, 4, none⟩ (.int .i64 c.n)) HHN (fun _ => ?_)
          clear hK K
          (try simp only [Act.put, List.setIfInBounds_toArray, List.set_cons_zero, List.set_cons_succ])
          generalize (((((z1.setCell ⟨b3, 0, none⟩ (.slice qa c.ts.length qc)).setCell ⟨b3, 1, none⟩ (.slice none 0 0)).setCell ⟨b3, 2, none⟩ (.slice none 0 0)).setCell ⟨b3, 3, none⟩ (.slice ea c.d.length ec)).setCell ⟨b3, 4, none⟩ (.int .i64 c.n)) = Z at HZ HHN ⊢
          clear B BX SRC FT FD FX
          refine wpAnyH_done (by kernel_rfl) ?_ _
          clear HHN
          go_wp2
          go_meet
          case rel => exact ⟨b3, qa, qc, ea, ec, rfl, HZ.out⟩
        · rw [if_pos (by rfl)]
          go_simp
          have hB : Below z1.heap.size z1 (z1.alloc (.cells #[.slice none 0 0, .slice none 0 0, .slice none 0 0, .slice none 0 0, .int .i64 0] 28)) := below_alloc _ _
          have F9 := CBox.new z1 28 [.slice none 0 0, .slice none 0 0, .slice none 0 0, .slice none 0 0, .int .i64 0]
          have G9 : Hid (w.heap.size ≤ z1.heap.size ∧ b2 ≠ z1.heap.size ∧ b1 ≠ z1.heap.size) := ⟨by have h1 := B.out.1.size; exact h1, by have := B.out.2.1; omega, by have := B.out.2.2; omega⟩
          have H9 := HH.past hB
          clear HH
          have HH := H9
          clear H9
          have q9 := And.intro (B.out.1.trans (hB.mono (Nat.le_trans GE.out B.out.1.size))) (And.intro (Nat.lt_of_lt_of_le B.out.2.1 hB.size) (Nat.lt_of_lt_of_le B.out.2.2 hB.size))
          clear B
          have B : Hid (Below bw w (z1.alloc (.cells #[.slice none 0 0, .slice none 0 0, .slice none 0 0, .slice none 0 0, .int .i64 0] 28)) ∧ b2 < (z1.alloc (.cells #[.slice none 0 0, .slice none 0 0, .slice none 0 0, .slice none 0 0, .int .i64 0] 28)).heap.size ∧ b1 < (z1.alloc (.cells #[.slice none 0 0, .slice none 0 0, .slice none 0 0, .slice none 0 0, .int .i64 0] 28)).heap.size) := q9
          clear q9
          have q9 := BX.out.past hB
          clear BX
          have BX : Hid (CBox (z1.alloc (.cells #[.slice none 0 0, .slice none 0 0, .slice none 0 0, .slice none 0 0, .int .i64 0] 28)) b2 28 [.slice none 0 0, .slice none 0 0, .slice none 0 0, .slice none 0 0, .int .i64 0]) := q9
          clear q9
          have q9 := And.intro (SRC.out.1.past hB) (SRC.out.2.past hB)
          clear SRC
          have SRC : Hid (TL P (z1.alloc (.cells #[.slice none 0 0, .slice none 0 0, .slice none 0 0, .slice none 0 0, .int .i64 0] 28)) (.slice ta c.ts.length tc) c.ts ∧ BL P (z1.alloc (.cells #[.slice none 0 0, .slice none 0 0, .slice none 0 0, .slice none 0 0, .int .i64 0] 28)) (.slice da c.d.length dc) c.d) := q9
          clear q9
          (try (have q9 := FE.out; clear FE; have FE : Hid ((z1.alloc (.cells #[.slice none 0 0, .slice none 0 0, .slice none 0 0, .slice none 0 0, .int .i64 0] 28)).ownsRow bw 77 3 (.slice (some ⟨be, 0, none⟩) 0 0) ([] : List Ty).length (tV [])) := owns_past q9 hB; clear q9))
          (try (have q9 := FT.out; clear FT; have FT : Hid ((z1.alloc (.cells #[.slice none 0 0, .slice none 0 0, .slice none 0 0, .slice none 0 0, .int .i64 0] 28)).ownsRow bw 77 3 (.slice qa c.ts.length qc) c.ts.length (tV c.ts)) := owns_past q9 hB; clear q9))
          (try (have q9 := FD.out; clear FD; have FD : Hid ((z1.alloc (.cells #[.slice none 0 0, .slice none 0 0, .slice none 0 0, .slice none 0 0, .int .i64 0] 28)).ownsRow bw 5 1 (.slice ea c.d.length ec) c.d.length (bV c.d)) := owns_past q9 hB; clear q9))
          have FX : Hid (CBox (z1.alloc (.cells #[.slice none 0 0, .slice none 0 0, .slice none 0 0, .slice none 0 0, .int .i64 0] 28)) z1.heap.size 28 [.slice none 0 0, .slice none 0 0, .slice none 0 0, .slice none 0 0, .int .i64 0]) := F9
          clear F9 hB
          refine hK.out _ (z1.alloc (.cells #[.slice none 0 0, .slice none 0 0, .slice none 0 0, .slice none 0 0, .int .i64 0] 28)) HH (fun _ => ?_)
          clear hK K
          (try simp only [Act.put, List.setIfInBounds_toArray, List.set_cons_zero, List.set_cons_succ])
          generalize z1.heap.size = b3 at FX G9 ⊢
          (first | generalize (z1.alloc (.cells #[.slice none 0 0, .slice none 0 0, .slice none 0 0, .slice none 0 0, .int .i64 0] 28)) = z1 at HH B BX SRC FX FT FD ⊢ | generalize (z1.alloc (.cells #[.slice none 0 0, .slice none 0 0, .slice none 0 0, .slice none 0 0, .int .i64 0] 28)) = z1 at HH B BX SRC FX FT ⊢ | generalize (z1.alloc (.cells #[.slice none 0 0, .slice none 0 0, .slice none 0 0, .slice none 0 0, .int .i64 0] 28)) = z1 at HH B BX SRC FX FE ⊢ | generalize (z1.alloc (.cells #[.slice none 0 0, .slice none 0 0, .slice none 0 0, .slice none 0 0, .int .i64 0] 28)) = z1 at HH B BX SRC FX ⊢)
          refine wpAnyH_ready (rs := [6]) (by kernel_rfl) (by simp) ?_
          refine AllReadyH.cons ov6 (fun K hK => ?_) AllReadyH.nil
          rw [if_pos (by rfl)]
          go_simp
          refine (row_is _ _ c.d SRC.out.2 (by have := HSM.out; unfold Small at this; omega)).mono ?_
          rintro e z9 ⟨v9, rfl, hP, hB⟩
          obtain ⟨ea, ec, rfl⟩ := owns_sl hP
          have F9 : Hid (z9.ownsRow bw 5 1 (.slice ea c.d.length ec) c.d.length (bV c.d)) := owns_base hP (Nat.le_trans GE.out B.out.1.size)
          clear hP
          have H9 := HH.past hB
          clear HH
          have HH := H9
          clear H9
          have q9 := And.intro (B.out.1.trans (hB.mono (Nat.le_trans GE.out B.out.1.size))) (And.intro (Nat.lt_of_lt_of_le B.out.2.1 hB.size) (Nat.lt_of_lt_of_le B.out.2.2 hB.size))
          clear B
          have B : Hid (Below bw w z9 ∧ b2 < z9.heap.size ∧ b1 < z9.heap.size) := q9
          clear q9
          have q9 := BX.out.past hB
          clear BX
          have BX : Hid (CBox z9 b2 28 [.slice none 0 0, .slice none 0 0, .slice none 0 0, .slice none 0 0, .int .i64 0]) := q9
          clear q9
          have q9 := And.intro (SRC.out.1.past hB) (SRC.out.2.past hB)
          clear SRC
          have SRC : Hid (TL P z9 (.slice ta c.ts.length tc) c.ts ∧ BL P z9 (.slice da c.d.length dc) c.d) := q9
          clear q9
          (try (have q9 := FE.out; clear FE; have FE : Hid (z9.ownsRow bw 77 3 (.slice (some ⟨be, 0, none⟩) 0 0) ([] : List Ty).length (tV [])) := owns_past q9 hB; clear q9))
          (try (have q9 := FT.out; clear FT; have FT : Hid (z9.ownsRow bw 77 3 (.slice qa c.ts.length qc) c.ts.length (tV c.ts)) := owns_past q9 hB; clear q9))
          (try (have q9 := FX.out; clear FX; have FX : Hid (CBox z9 b3 28 [.slice none 0 0, .slice none 0 0, .slice none 0 0, .slice none 0 0, .int .i64 0]) := CBox.past q9 hB; clear q9))
          have FD := F9
          clear F9 hB
          (try go_wp2_with fail)
          refine hK.out _ _ HH (fun _ => ?_)
          clear hK K
          (try simp only [Act.put, List.setIfInBounds_toArray, List.set_cons_zero, List.set_cons_succ])
          (first | generalize z9 = z1 at HH B BX SRC FT FD FX ⊢ | generalize z9 = z1 at HH B BX SRC FT FD ⊢)
          refine wpAnyH_take (i := 9) (v := .agg #[.slice qa c.ts.length qc, .slice none 0 0, .slice none 0 0, .slice ea c.d.length ec, .int .i64 c.n]) ov9 (by kernel_rfl) (by kernel_rfl) (by kernel_rfl) (fun _ _ _ h => h) (Or.inl ⟨by rfl, fun V' hS => ?_⟩) HH ?_
          · go_simp
          simp only [Act.put, List.setIfInBounds_toArray, List.set_cons_zero, List.set_cons_succ]
          refine wpAnyH_ready (rs := [11]) (by kernel_rfl) (by simp) ?_
          refine AllReadyH.cons ov11 (fun K hK => ?_) AllReadyH.nil
          rw [if_pos (by rfl)]
          have k0 : z1.cell? ⟨b3, 0, none⟩ = some (.slice none 0 0) := FX.out.cell 0
          have k1 : z1.cell? ⟨b3, 1, none⟩ = some (.slice none 0 0) := FX.out.cell 1
          have k2 : z1.cell? ⟨b3, 2, none⟩ = some (.slice none 0 0) := FX.out.cell 2
          have k3 : z1.cell? ⟨b3, 3, none⟩ = some (.slice none 0 0) := FX.out.cell 3
          have k4 : z1.cell? ⟨b3, 4, none⟩ = some (.int .i64 0) := FX.out.cell 4
          have f0 := CBox.frozen FX.out 0
          have f1 := CBox.frozen FX.out 1
          have f2 := CBox.frozen FX.out 2
          have f3 := CBox.frozen FX.out 3
          have f4 := CBox.frozen FX.out 4
          go_simp
          clear k0 k1 k2 k3 k4 f0 f1 f2 f3 f4
          have hs : But (fun y => y = b3) z1 (((((z1.setCell ⟨b3, 0, none⟩ (.slice qa c.ts.length qc)).setCell ⟨b3, 1, none⟩ (.slice none 0 0)).setCell ⟨b3, 2, none⟩ (.slice none 0 0)).setCell ⟨b3, 3, none⟩ (.slice ea c.d.length ec)).setCell ⟨b3, 4, none⟩ (.int .i64 c.n)) := ((((((But.refl (fun y => y = b3) z1).setCell ⟨b3, 0, none⟩ _ (Or.inl rfl)).setCell ⟨b3, 1, none⟩ _ (Or.inl rfl)).setCell ⟨b3, 2, none⟩ _ (Or.inl rfl)).setCell ⟨b3, 3, none⟩ _ (Or.inl rfl)).setCell ⟨b3, 4, none⟩ _ (Or.inl rfl))
          have ra : Alien z1 b3 := ⟨_, _, FX.out, by decide, by decide, by decide⟩
          have cb : CBox (((((z1.setCell ⟨b3, 0, none⟩ (.slice qa c.ts.length qc)).setCell ⟨b3, 1, none⟩ (.slice none 0 0)).setCell ⟨b3, 2, none⟩ (.slice none 0 0)).setCell ⟨b3, 3, none⟩ (.slice ea c.d.length ec)).setCell ⟨b3, 4, none⟩ (.int .i64 c.n)) b3 28 [.slice qa c.ts.length qc, .slice none 0 0, .slice none 0 0, .slice ea c.d.length ec, .int .i64 c.n] := (((((FX.out.set 0 _).set 1 _).set 2 _).set 3 _).set 4 _)
          have HZ : Hid (CpZ b1 b2 b3 bw w (((((z1.setCell ⟨b3, 0, none⟩ (.slice qa c.ts.length qc)).setCell ⟨b3, 1, none⟩ (.slice none 0 0)).setCell ⟨b3, 2, none⟩ (.slice none 0 0)).setCell ⟨b3, 3, none⟩ (.slice ea c.d.length ec)).setCell ⟨b3, 4, none⟩ (.int .i64 c.n)) [.slice ta c.ts.length tc, .slice ca c.cs.length cc, .slice sa c.ss.length sc, .slice da c.d.length dc, .int .i64 c.n] (.slice qa c.ts.length qc) (.slice ea c.d.length ec) c) := ⟨cb, HH.but hs G9.out.2.2, BX.out.but hs G9.out.2.1, row_alienT FT.out hs ra, row_alien FD.out hs ra, (show Below w.heap.size w z1 from by first | exact B.out.1 | (rw [GB.out]; exact B.out.1)).trans (hs.below (fun g e => by have := G9.out.1; omega) (show w.heap.size ≤ z1.heap.size from by have h1 := B.out.1.size; exact h1)), G9.out.1, G9.out.2.2, G9.out.2.1⟩
          have HHN := HH.but hs G9.out.2.2
          clear hs ra cb HH
          refine hK.out _ (((((z1.setCell ⟨b3, 0, none⟩ (.slice qa c.ts.length qc)).setCell ⟨b3, 1, none⟩ (.slice none 0 0)).setCell ⟨b3, 2, none⟩ (.slice none 0 0)).setCell ⟨b3, 3, none⟩ (.slice ea c.d.length ec)).setCell ⟨b3, 4, none⟩ (.int .i64 c.n)) HHN (fun _ => ?_)
          clear hK K
          (try simp only [Act.put, List.setIfInBounds_toArray, List.set_cons_zero, List.set_cons_succ])
          generalize (((((z1.setCell ⟨b3, 0, none⟩ (.slice qa c.ts.length qc)).setCell ⟨b3, 1, none⟩ (.slice none 0 0)).setCell ⟨b3, 2, none⟩ (.slice none 0 0)).setCell ⟨b3, 3, none⟩ (.slice ea c.d.length ec)).setCell ⟨b3, 4, none⟩ (.int .i64 c.n)) = Z at HZ HHN ⊢
          clear B BX SRC FT FD FX
          refine wpAnyH_done (by kernel_rfl) ?_ _
          clear HHN
          go_wp2
          go_meet
          case rel => exact ⟨b3, qa, qc, ea, ec, rfl, HZ.out⟩
      · rw [if_pos (by rfl)]
        go_simp
        have hB : Below z1.heap.size z1 (z1.alloc (.cells #[.slice none 0 0, .slice none 0 0, .slice none 0 0, .slice none 0 0, .int .i64 0] 28)) := below_alloc _ _
        have F9 := CBox.new z1 28 [.slice none 0 0, .slice none 0 0, .slice none 0 0, .slice none 0 0, .int .i64 0]
        have G9 : Hid (w.heap.size ≤ z1.heap.size ∧ b2 ≠ z1.heap.size ∧ b1 ≠ z1.heap.size) := ⟨by have h1 := B.out.1.size; exact h1, by have := B.out.2.1; omega, by have := B.out.2.2; omega⟩
        have H9 := HH.past hB
        clear HH
        have HH := H9
        clear H9
        have q9 := And.intro (B.out.1.trans (hB.mono (Nat.le_trans GE.out B.out.1.size))) (And.intro (Nat.lt_of_lt_of_le B.out.2.1 hB.size) (Nat.lt_of_lt_of_le B.out.2.2 hB.size))
        clear B
        have B : Hid (Below bw w (z1.alloc (.cells #[.slice none 0 0, .slice none 0 0, .slice none 0 0, .slice none 0 0, .int .i64 0] 28)) ∧ b2 < (z1.alloc (.cells #[.slice none 0 0, .slice none 0 0, .slice none 0 0, .slice none 0 0, .int .i64 0] 28)).heap.size ∧ b1 < (z1.alloc (.cells #[.slice none 0 0, .slice none 0 0, .slice none 0 0, .slice none 0 0, .int .i64 0] 28)).heap.size) := q9
        clear q9
        have q9 := BX.out.past hB
        clear BX
        have BX : Hid (CBox (z1.alloc (.cells #[.slice none 0 0, .slice none 0 0, .slice none 0 0, .slice none 0 0, .int .i64 0] 28)) b2 28 [.slice none 0 0, .slice none 0 0, .slice none 0 0, .slice none 0 0, .int .i64 0]) := q9
        clear q9
        have q9 := And.intro (SRC.out.1.past hB) (SRC.out.2.past hB)
        clear SRC
        have SRC : Hid (TL P (z1.alloc (.cells #[.slice none 0 0, .slice none 0 0, .slice none 0 0, .slice none 0 0, .int .i64 0] 28)) (.slice ta c.ts.length tc) c.ts ∧ BL P (z1.alloc (.cells #[.slice none 0 0, .slice none 0 0, .slice none 0 0, .slice none 0 0, .int .i64 0] 28)) (.slice da c.d.length dc) c.d) := q9
        clear q9
        (try (have q9 := FE.out; clear FE; have FE : Hid ((z1.alloc (.cells #[.slice none 0 0, .slice none 0 0, .slice none 0 0, .slice none 0 0, .int .i64 0] 28)).ownsRow bw 77 3 (.slice (some ⟨be, 0, none⟩) 0 0) ([] : List Ty).length (tV [])) := owns_past q9 hB; clear q9))
        (try (have q9 := FT.out; clear FT; have FT : Hid ((z1.alloc (.cells #[.slice none 0 0, .slice none 0 0, .slice none 0 0, .slice none 0 0, .int .i64 0] 28)).ownsRow bw 77 3 (.slice qa c.ts.length qc) c.ts.length (tV c.ts)) := owns_past q9 hB; clear q9))
        (try (have q9 := FD.out; clear FD; have FD : Hid ((z1.alloc (.cells #[.slice none 0 0, .slice none 0 0, .slice none 0 0, .slice none 0 0, .int .i64 0] 28)).ownsRow bw 5 1 (.slice ea c.d.length ec) c.d.length (bV c.d)) := owns_past q9 hB; clear q9))
        have FX : Hid (CBox (z1.alloc (.cells #[.slice none 0 0, .slice none 0 0, .slice none 0 0, .slice none 0 0, .int .i64 0] 28)) z1.heap.size 28 [.slice none 0 0, .slice none 0 0, .slice none 0 0, .slice none 0 0, .int .i64 0]) := F9
        clear F9 hB
        refine hK.out _ (z1.alloc (.cells #[.slice none 0 0, .slice none 0 0, .slice none 0 0, .slice none 0 0, .int .i64 0] 28)) HH (fun _ => ?_)
        clear hK K
        (try simp only [Act.put, List.setIfInBounds_toArray, List.set_cons_zero, List.set_cons_succ])
        generalize z1.heap.size = b3 at FX G9 ⊢
        (first | generalize (z1.alloc (.cells #[.slice none 0 0, .slice none 0 0, .slice none 0 0, .slice none 0 0, .int .i64 0] 28)) = z1 at HH B BX SRC FX FT FD ⊢ | generalize (z1.alloc (.cells #[.slice none 0 0, .slice none 0 0, .slice none 0 0, .slice none 0 0, .int .i64 0] 28)) = z1 at HH B BX SRC FX FT ⊢ | generalize (z1.alloc (.cells #[.slice none 0 0, .slice none 0 0, .slice none 0 0, .slice none 0 0, .int .i64 0] 28)) = z1 at HH B BX SRC FX FE ⊢ | generalize (z1.alloc (.cells #[.slice none 0 0, .slice none 0 0, .slice none 0 0, .slice none 0 0, .int .i64 0] 28)) = z1 at HH B BX SRC FX ⊢)
        refine wpAnyH_ready (rs := [3]) (by kernel_rfl) (by simp) ?_
        refine AllReadyH.cons ov3 (fun K hK => ?_) AllReadyH.nil
        rw [if_pos (by rfl)]
        refine wp_appTs _ _ rfl bw (Nat.le_trans GE.out B.out.1.size) (.slice (some ⟨be, 0, none⟩) 0 0) [] rfl FE.out (.slice ta c.ts.length tc) c.ts rfl SRC.out.1 (by have := HSM.out; unfold Small at this; simp only [List.length_nil]; omega) ?_
        intro v9 z9 hA
        obtain ⟨qa, qc, e9⟩ := owns_sl hA.row
        rw [List.nil_append] at e9
        subst e9
        have hbt := hA.but.mono (T := fun g => g = be) (fun g hg => (Option.some.inj (show some be = some g from hg)).symm)
        have F9 : Hid (z9.ownsRow bw 77 3 (.slice qa c.ts.length qc) c.ts.length (tV c.ts)) := hA.row
        have ebe : bw ≤ be ∧ be < z1.heap.size := World.ownsRow.lt FE.out be rfl
        have H9 := HH.but hbt (fun (e : b1 = be) => by have h1 := own_box FE.out HH (by decide) (g := be) rfl; exact h1 e.symm)
        have B9 : Hid (Below bw w z9 ∧ b2 < z9.heap.size ∧ b1 < z9.heap.size) := ⟨B.out.1.trans (hbt.below (fun g (e : g = be) => by rw [e]; exact ebe.1) (Nat.le_trans GE.out B.out.1.size)), Nat.lt_of_lt_of_le B.out.2.1 hbt.size, Nat.lt_of_lt_of_le B.out.2.2 hbt.size⟩
        have X9 : Hid (CBox z9 b2 28 [.slice none 0 0, .slice none 0 0, .slice none 0 0, .slice none 0 0, .int .i64 0]) := BX.out.but hbt (fun (e : b2 = be) => by have h1 := own_box FE.out BX.out (by decide) (g := be) rfl; exact h1 e.symm)
        have hbe : w.heap.size ≤ be := by rw [GB.out]; exact ebe.1
        have S9 : Hid (TL P z9 (.slice ta c.ts.length tc) c.ts ∧ BL P z9 (.slice da c.d.length dc) c.d) := HSR.out _ (by rw [GB.out]; exact B9.out.1)
        (try (have q9 : Hid (CBox z9 b3 28 [.slice none 0 0, .slice none 0 0, .slice none 0 0, .slice none 0 0, .int .i64 0]) := FX.out.but hbt (fun (e : b3 = be) => by have h1 := own_box FE.out FX.out (by decide) (g := be) rfl; exact h1 e.symm); clear FX; have FX := q9; clear q9))
        clear FE HH B BX SRC hA hbt ebe hbe
        have FT := F9
        have HH := H9
        have B := B9
        have BX := X9
        have SRC := S9
        clear F9 H9 B9 X9 S9
        refine hK.out _ z9 HH (fun _ => ?_)
        clear hK K
        (try simp only [Act.put, List.setIfInBounds_toArray, List.set_cons_zero, List.set_cons_succ])
        (first | generalize z9 = z1 at HH B BX SRC FT FX ⊢ | generalize z9 = z1 at HH B BX SRC FT ⊢)
        refine wpAnyH_ready (rs := [6]) (by kernel_rfl) (by simp) ?_
        refine AllReadyH.cons ov6 (fun K hK => ?_) AllReadyH.nil
        rw [if_pos (by rfl)]
        go_simp
        refine (row_is _ _ c.d SRC.out.2 (by have := HSM.out; unfold Small at this; omega)).mono ?_
        rintro e z9 ⟨v9, rfl, hP, hB⟩
        obtain ⟨ea, ec, rfl⟩ := owns_sl hP
        have F9 : Hid (z9.ownsRow bw 5 1 (.slice ea c.d.length ec) c.d.length (bV c.d)) := owns_base hP (Nat.le_trans GE.out B.out.1.size)
        clear hP
        have H9 := HH.past hB
        clear HH
        have HH := H9
        clear H9
        have q9 := And.intro (B.out.1.trans (hB.mono (Nat.le_trans GE.out B.out.1.size))) (And.intro (Nat.lt_of_lt_of_le B.out.2.1 hB.size) (Nat.lt_of_lt_of_le B.out.2.2 hB.size))
        clear B
        have B : Hid (Below bw w z9 ∧ b2 < z9.heap.size ∧ b1 < z9.heap.size) := q9
        clear q9
        have q9 := BX.out.past hB
        clear BX
        have BX : Hid (CBox z9 b2 28 [.slice none 0 0, .slice none 0 0, .slice none 0 0, .slice none 0 0, .int .i64 0]) := q9
        clear q9
        have q9 := And.intro (SRC.out.1.past hB) (SRC.out.2.past hB)
        clear SRC
        have SRC : Hid (TL P z9 (.slice ta c.ts.length tc) c.ts ∧ BL P z9 (.slice da c.d.length dc) c.d) := q9
        clear q9
        (try (have q9 := FE.out; clear FE; have FE : Hid (z9.ownsRow bw 77 3 (.slice (some ⟨be, 0, none⟩) 0 0) ([] : List Ty).length (tV [])) := owns_past q9 hB; clear q9))
        (try (have q9 := FT.out; clear FT; have FT : Hid (z9.ownsRow bw 77 3 (.slice qa c.ts.length qc) c.ts.length (tV c.ts)) := owns_past q9 hB; clear q9))
        (try (have q9 := FX.out; clear FX; have FX : Hid (CBox z9 b3 28 [.slice none 0 0, .slice none 0 0, .slice none 0 0, .slice none 0 0, .int .i64 0]) := CBox.past q9 hB; clear q9))
        have FD := F9
        clear F9 hB
        (try go_wp2_with fail)
        refine hK.out _ _ HH (fun _ => ?_)
        clear hK K
        (try simp only [Act.put, List.setIfInBounds_toArray, List.set_cons_zero, List.set_cons_succ])
        (first | generalize z9 = z1 at HH B BX SRC FT FD FX ⊢ | generalize z9 = z1 at HH B BX SRC FT FD ⊢)
        refine wpAnyH_take (i := 9) (v := .agg #[.slice qa c.ts.length qc, .slice none 0 0, .slice none 0 0, .slice ea c.d.length ec, .int .i64 c.n]) ov9 (by kernel_rfl) (by kernel_rfl) (by kernel_rfl) (fun _ _ _ h => h) (Or.inl ⟨by rfl, fun V' hS => ?_⟩) HH ?_
        · go_simp
        simp only [Act.put, List.setIfInBounds_toArray, List.set_cons_zero, List.set_cons_succ]
        refine wpAnyH_ready (rs := [11]) (by kernel_rfl) (by simp) ?_
        refine AllReadyH.cons ov11 (fun K hK => ?_) AllReadyH.nil
        rw [if_pos (by rfl)]
        have k0 : z1.cell? ⟨b3, 0, none⟩ = some (.slice none 0 0) := FX.out.cell 0
        have k1 : z1.cell? ⟨b3, 1, none⟩ = some (.slice none 0 0) := FX.out.cell 1
        have k2 : z1.cell? ⟨b3, 2, none⟩ = some (.slice none 0 0) := FX.out.cell 2
        have k3 : z1.cell? ⟨b3, 3, none⟩ = some (.slice none 0 0) := FX.out.cell 3
        have k4 : z1.cell? ⟨b3, 4, none⟩ = some (.int .i64 0) := FX.out.cell 4
        have f0 := CBox.frozen FX.out 0
        have f1 := CBox.frozen FX.out 1
        have f2 := CBox.frozen FX.out 2
        have f3 := CBox.frozen FX.out 3
        have f4 := CBox.frozen FX.out 4
        go_simp
        clear k0 k1 k2 k3 k4 f0 f1 f2 f3 f4
        have hs : But (fun y => y = b3) z1 (((((z1.setCell ⟨b3, 0, none⟩ (.slice qa c.ts.length qc)).setCell ⟨b3, 1, none⟩ (.slice none 0 0)).setCell ⟨b3, 2, none⟩ (.slice none 0 0)).setCell ⟨b3, 3, none⟩ (.slice ea c.d.length ec)).setCell ⟨b3, 4, none⟩ (.int .i64 c.n)) := ((((((But.refl (fun y => y = b3) z1).setCell ⟨b3, 0, none⟩ _ (Or.inl rfl)).setCell ⟨b3, 1, none⟩ _ (Or.inl rfl)).setCell ⟨b3, 2, none⟩ _ (Or.inl rfl)).setCell ⟨b3, 3, none⟩ _ (Or.inl rfl)).setCell ⟨b3, 4, none⟩ _ (Or.inl rfl))
        have ra : Alien z1 b3 := ⟨_, _, FX.out, by decide, by decide, by decide⟩
        have cb : CBox (((((z1.setCell ⟨b3, 0, none⟩ (.slice qa c.ts.length qc)).setCell ⟨b3, 1, none⟩ (.slice none 0 0)).setCell ⟨b3, 2, none⟩ (.slice none 0 0)).setCell ⟨b3, 3, none⟩ (.slice ea c.d.length ec)).setCell ⟨b3, 4, none⟩ (.int .i64 c.n)) b3 28 [.slice qa c.ts.length qc, .slice none 0 0, .slice none 0 0, .slice ea c.d.length ec, .int .i64 c.n] := (((((FX.out.set 0 _).set 1 _).set 2 _).set 3 _).set 4 _)
        have HZ : Hid (CpZ b1 b2 b3 bw w (((((z1.setCell ⟨b3, 0, none⟩ (.slice qa c.ts.length qc)).setCell ⟨b3, 1, none⟩ (.slice none 0 0)).setCell ⟨b3, 2, none⟩ (.slice none 0 0)).setCell ⟨b3, 3, none⟩ (.slice ea c.d.length ec)).setCell ⟨b3, 4, none⟩ (.int .i64 c.n)) [.slice ta c.ts.length tc, .slice ca c.cs.length cc, .slice sa c.ss.length sc, .slice da c.d.length dc, .int .i64 c.n] (.slice qa c.ts.length qc) (.slice ea c.d.length ec) c) := ⟨cb, HH.but hs G9.out.2.2, BX.out.but hs G9.out.2.1, row_alienT FT.out hs ra, row_alien FD.out hs ra, (show Below w.heap.size w z1 from by first | exact B.out.1 | (rw [GB.out]; exact B.out.1)).trans (hs.below (fun g e => by have := G9.out.1; omega) (show w.heap.size ≤ z1.heap.size from by have h1 := B.out.1.size; exact h1)), G9.out.1, G9.out.2.2, G9.out.2.1⟩
        have HHN := HH.but hs G9.out.2.2
        clear hs ra cb HH
        refine hK.out _ (((((z1.setCell ⟨b3, 0, none⟩ (.slice qa c.ts.length qc)).setCell ⟨b3, 1, none⟩ (.slice none 0 0)).setCell ⟨b3, 2, none⟩ (.slice none 0 0)).setCell ⟨b3, 3, none⟩ (.slice ea c.d.length ec)).setCell ⟨b3, 4, none⟩ (.int .i64 c.n)) HHN (fun _ => ?_)
        clear hK K
        (try simp only [Act.put, List.setIfInBounds_toArray, List.set_cons_zero, List.set_cons_succ])
        generalize (((((z1.setCell ⟨b3, 0, none⟩ (.slice qa c.ts.length qc)).setCell ⟨b3, 1, none⟩ (.slice none 0 0)).setCell ⟨b3, 2, none⟩ (.slice none 0 0)).setCell ⟨b3, 3, none⟩ (.slice ea c.d.length ec)).setCell ⟨b3, 4, none⟩ (.int .i64 c.n)) = Z at HZ HHN ⊢
        clear B BX SRC FT FD FX
        refine wpAnyH_done (by kernel_rfl) ?_ _
        clear HHN
        go_wp2
        go_meet
        case rel => exact ⟨b3, qa, qc, ea, ec, rfl, HZ.out⟩
    · rw [if_pos (by rfl)]
      go_simp
      have hB : Below z1.heap.size z1 (z1.alloc (.cells #[.slice none 0 0, .slice none 0 0, .slice none 0 0, .slice none 0 0, .int .i64 0] 28)) := below_alloc _ _
      have F9 := CBox.new z1 28 [.slice none 0 0, .slice none 0 0, .slice none 0 0, .slice none 0 0, .int .i64 0]
      have G9 : Hid (w.heap.size ≤ z1.heap.size ∧ b2 ≠ z1.heap.size ∧ b1 ≠ z1.heap.size) := ⟨by have h1 := B.out.1.size; exact h1, by have := B.out.2.1; omega, by have := B.out.2.2; omega⟩
      have H9 := HH.past hB
      clear HH
      have HH := H9
      clear H9
      have q9 := And.intro (B.out.1.trans (hB.mono (Nat.le_trans GE.out B.out.1.size))) (And.intro (Nat.lt_of_lt_of_le B.out.2.1 hB.size) (Nat.lt_of_lt_of_le B.out.2.2 hB.size))
      clear B
      have B : Hid (Below bw w (z1.alloc (.cells #[.slice none 0 0, .slice none 0 0, .slice none 0 0, .slice none 0 0, .int .i64 0] 28)) ∧ b2 < (z1.alloc (.cells #[.slice none 0 0, .slice none 0 0, .slice none 0 0, .slice none 0 0, .int .i64 0] 28)).heap.size ∧ b1 < (z1.alloc (.cells #[.slice none 0 0, .slice none 0 0, .slice none 0 0, .slice none 0 0, .int .i64 0] 28)).heap.size) := q9
      clear q9
      have q9 := BX.out.past hB
      clear BX
      have BX : Hid (CBox (z1.alloc (.cells #[.slice none 0 0, .slice none 0 0, .slice none 0 0, .slice none 0 0, .int .i64 0] 28)) b2 28 [.slice none 0 0, .slice none 0 0, .slice none 0 0, .slice none 0 0, .int .i64 0]) := q9
      clear q9
      have q9 := And.intro (SRC.out.1.past hB) (SRC.out.2.past hB)
      clear SRC
      have SRC : Hid (TL P (z1.alloc (.cells #[.slice none 0 0, .slice none 0 0, .slice none 0 0, .slice none 0 0, .int .i64 0] 28)) (.slice ta c.ts.length tc) c.ts ∧ BL P (z1.alloc (.cells #[.slice none 0 0, .slice none 0 0, .slice none 0 0, .slice none 0 0, .int .i64 0] 28)) (.slice da c.d.length dc) c.d) := q9
      clear q9
      (try (have q9 := FE.out; clear FE; have FE : Hid ((z1.alloc (.cells #[.slice none 0 0, .slice none 0 0, .slice none 0 0, .slice none 0 0, .int .i64 0] 28)).ownsRow bw 77 3 (.slice (some ⟨be, 0, none⟩) 0 0) ([] : List Ty).length (tV [])) := owns_past q9 hB; clear q9))
      (try (have q9 := FT.out; clear FT; have FT : Hid ((z1.alloc (.cells #[.slice none 0 0, .slice none 0 0, .slice none 0 0, .slice none 0 0, .int .i64 0] 28)).ownsRow bw 77 3 (.slice qa c.ts.length qc) c.ts.length (tV c.ts)) := owns_past q9 hB; clear q9))
      (try (have q9 := FD.out; clear FD; have FD : Hid ((z1.alloc (.cells #[.slice none 0 0, .slice none 0 0, .slice none 0 0, .slice none 0 0, .int .i64 0] 28)).ownsRow bw 5 1 (.slice ea c.d.length ec) c.d.length (bV c.d)) := owns_past q9 hB; clear q9))
      have FX : Hid (CBox (z1.alloc (.cells #[.slice none 0 0, .slice none 0 0, .slice none 0 0, .slice none 0 0, .int .i64 0] 28)) z1.heap.size 28 [.slice none 0 0, .slice none 0 0, .slice none 0 0, .slice none 0 0, .int .i64 0]) := F9
      clear F9 hB
      refine hK.out _ (z1.alloc (.cells #[.slice none 0 0, .slice none 0 0, .slice none 0 0, .slice none 0 0, .int .i64 0] 28)) HH (fun _ => ?_)
      clear hK K
      (try simp only [Act.put, List.setIfInBounds_toArray, List.set_cons_zero, List.set_cons_succ])
      generalize z1.heap.size = b3 at FX G9 ⊢
      (first | generalize (z1.alloc (.cells #[.slice none 0 0, .slice none 0 0, .slice none 0 0, .slice none 0 0, .int .i64 0] 28)) = z1 at HH B BX SRC FX FT FD ⊢ | generalize (z1.alloc (.cells #[.slice none 0 0, .slice none 0 0, .slice none 0 0, .slice none 0 0, .int .i64 0] 28)) = z1 at HH B BX SRC FX FT ⊢ | generalize (z1.alloc (.cells #[.slice none 0 0, .slice none 0 0, .slice none 0 0, .slice none 0 0, .int .i64 0] 28)) = z1 at HH B BX SRC FX FE ⊢ | generalize (z1.alloc (.cells #[.slice none 0 0, .slice none 0 0, .slice none 0 0, .slice none 0 0, .int .i64 0] 28)) = z1 at HH B BX SRC FX ⊢)
      refine wpAnyH_ready (rs := [0]) (by kernel_rfl) (by simp) ?_
      refine AllReadyH.cons ov0 (fun K hK => ?_) AllReadyH.nil
      rw [if_pos (by rfl)]
      go_simp
      have hB : Below z1.heap.size z1 (z1.alloc (.cells #[] 77)) := below_alloc _ _
      have F9 : (z1.alloc (.cells #[] 77)).ownsRow bw 77 3 (.slice (some ⟨z1.heap.size, 0, none⟩) 0 0) ([] : List Ty).length (tV []) := World.ownsRow_lit z1 #[] 0 (Nat.le_trans GE.out B.out.1.size) (by unfold maxLen; omega) rfl
      have H9 := HH.past hB
      clear HH
      have HH := H9
      clear H9
      have q9 := And.intro (B.out.1.trans (hB.mono (Nat.le_trans GE.out B.out.1.size))) (And.intro (Nat.lt_of_lt_of_le B.out.2.1 hB.size) (Nat.lt_of_lt_of_le B.out.2.2 hB.size))
      clear B
      have B : Hid (Below bw w (z1.alloc (.cells #[] 77)) ∧ b2 < (z1.alloc (.cells #[] 77)).heap.size ∧ b1 < (z1.alloc (.cells #[] 77)).heap.size) := q9
      clear q9
      have q9 := BX.out.past hB
      clear BX
      have BX : Hid (CBox (z1.alloc (.cells #[] 77)) b2 28 [.slice none 0 0, .slice none 0 0, .slice none 0 0, .slice none 0 0, .int .i64 0]) := q9
      clear q9
      have q9 := And.intro (SRC.out.1.past hB) (SRC.out.2.past hB)
      clear SRC
      have SRC : Hid (TL P (z1.alloc (.cells #[] 77)) (.slice ta c.ts.length tc) c.ts ∧ BL P (z1.alloc (.cells #[] 77)) (.slice da c.d.length dc) c.d) := q9
      clear q9
      (try (have q9 := FX.out; clear FX; have FX : Hid (CBox (z1.alloc (.cells #[] 77)) b3 28 [.slice none 0 0, .slice none 0 0, .slice none 0 0, .slice none 0 0, .int .i64 0]) := CBox.past q9 hB; clear q9))
      have FE : Hid ((z1.alloc (.cells #[] 77)).ownsRow bw 77 3 (.slice (some ⟨z1.heap.size, 0, none⟩) 0 0) ([] : List Ty).length (tV [])) := F9
      clear F9 hB
      refine hK.out _ (z1.alloc (.cells #[] 77)) HH (fun _ => ?_)
      clear hK K
      (try simp only [Act.put, List.setIfInBounds_toArray, List.set_cons_zero, List.set_cons_succ])
      generalize z1.heap.size = be at FE ⊢
      (first | generalize (z1.alloc (.cells #[] 77)) = z1 at HH B BX SRC FE FX ⊢ | generalize (z1.alloc (.cells #[] 77)) = z1 at HH B BX SRC FE ⊢)
      refine wpAnyH_ready (rs := [3]) (by kernel_rfl) (by simp) ?_
      refine AllReadyH.cons ov3 (fun K hK => ?_) AllReadyH.nil
      rw [if_pos (by rfl)]
      refine wp_appTs _ _ rfl bw (Nat.le_trans GE.out B.out.1.size) (.slice (some ⟨be, 0, none⟩) 0 0) [] rfl FE.out (.slice ta c.ts.length tc) c.ts rfl SRC.out.1 (by have := HSM.out; unfold Small at this; simp only [List.length_nil]; omega) ?_
      intro v9 z9 hA
      obtain ⟨qa, qc, e9⟩ := owns_sl hA.row
      rw [List.nil_append] at e9
      subst e9
      have hbt := hA.but.mono (T := fun g => g = be) (fun g hg => (Option.some.inj (show some be = some g from hg)).symm)
      have F9 : Hid (z9.ownsRow bw 77 3 (.slice qa c.ts.length qc) c.ts.length (tV c.ts)) := hA.row
      have ebe : bw ≤ be ∧ be < z1.heap.size := World.ownsRow.lt FE.out be rfl
      have H9 := HH.but hbt (fun (e : b1 = be) => by have h1 := own_box FE.out HH (by decide) (g := be) rfl; exact h1 e.symm)
      have B9 : Hid (Below bw w z9 ∧ b2 < z9.heap.size ∧ b1 < z9.heap.size) := ⟨B.out.1.trans (hbt.below (fun g (e : g = be) => by rw [e]; exact ebe.1) (Nat.le_trans GE.out B.out.1.size)), Nat.lt_of_lt_of_le B.out.2.1 hbt.size, Nat.lt_of_lt_of_le B.out.2.2 hbt.size⟩
      have X9 : Hid (CBox z9 b2 28 [.slice none 0 0, .slice none 0 0, .slice none 0 0, .slice none 0 0, .int .i64 0]) := BX.out.but hbt (fun (e : b2 = be) => by have h1 := own_box FE.out BX.out (by decide) (g := be) rfl; exact h1 e.symm)
      have hbe : w.heap.size ≤ be := by rw [GB.out]; exact ebe.1
      have S9 : Hid (TL P z9 (.slice ta c.ts.length tc) c.ts ∧ BL P z9 (.slice da c.d.length dc) c.d) := HSR.out _ (by rw [GB.out]; exact B9.out.1)
      (try (have q9 : Hid (CBox z9 b3 28 [.slice none 0 0, .slice none 0 0, .slice none 0 0, .slice none 0 0, .int .i64 0]) := FX.out.but hbt (fun (e : b3 = be) => by have h1 := own_box FE.out FX.out (by decide) (g := be) rfl; exact h1 e.symm); clear FX; have FX := q9; clear q9))
      clear FE HH B BX SRC hA hbt ebe hbe
      have FT := F9
      have HH := H9
      have B := B9
      have BX := X9
      have SRC := S9
      clear F9 H9 B9 X9 S9
      refine hK.out _ z9 HH (fun _ => ?_)
      clear hK K
      (try simp only [Act.put, List.setIfInBounds_toArray, List.set_cons_zero, List.set_cons_succ])
      (first | generalize z9 = z1 at HH B BX SRC FT FX ⊢ | generalize z9 = z1 at HH B BX SRC FT ⊢)
      refine wpAnyH_ready (rs := [6]) (by kernel_rfl) (by simp) ?_
      refine AllReadyH.cons ov6 (fun K hK => ?_) AllReadyH.nil
      rw [if_pos (by rfl)]
      go_simp
      refine (row_is _ _ c.d SRC.out.2 (by have := HSM.out; unfold Small at this; omega)).mono ?_
      rintro e z9 ⟨v9, rfl, hP, hB⟩
      obtain ⟨ea, ec, rfl⟩ := owns_sl hP
      have F9 : Hid (z9.ownsRow bw 5 1 (.slice ea c.d.length ec) c.d.length (bV c.d)) := owns_base hP (Nat.le_trans GE.out B.out.1.size)
      clear hP
      have H9 := HH.past hB
      clear HH
      have HH := H9
      clear H9
      have q9 := And.intro (B.out.1.trans (hB.mono (Nat.le_trans GE.out B.out.1.size))) (And.intro (Nat.lt_of_lt_of_le B.out.2.1 hB.size) (Nat.lt_of_lt_of_le B.out.2.2 hB.size))
      clear B
      have B : Hid (Below bw w z9 ∧ b2 < z9.heap.size ∧ b1 < z9.heap.size) := q9
      clear q9
      have q9 := BX.out.past hB
      clear BX
      have BX : Hid (CBox z9 b2 28 [.slice none 0 0, .slice none 0 0, .slice none 0 0, .slice none 0 0, .int .i64 0]) := q9
      clear q9
      have q9 := And.intro (SRC.out.1.past hB) (SRC.out.2.past hB)
      clear SRC
      have SRC : Hid (TL P z9 (.slice ta c.ts.length tc) c.ts ∧ BL P z9 (.slice da c.d.length dc) c.d) := q9
      clear q9
      (try (have q9 := FE.out; clear FE; have FE : Hid (z9.ownsRow bw 77 3 (.slice (some ⟨be, 0, none⟩) 0 0) ([] : List Ty).length (tV [])) := owns_past q9 hB; clear q9))
      (try (have q9 := FT.out; clear FT; have FT : Hid (z9.ownsRow bw 77 3 (.slice qa c.ts.length qc) c.ts.length (tV c.ts)) := owns_past q9 hB; clear q9))
      (try (have q9 := FX.out; clear FX; have FX : Hid (CBox z9 b3 28 [.slice none 0 0, .slice none 0 0, .slice none 0 0, .slice none 0 0, .int .i64 0]) := CBox.past q9 hB; clear q9))
      have FD := F9
      clear F9 hB
      (try go_wp2_with fail)
      refine hK.out _ _ HH (fun _ => ?_)
      clear hK K
      (try simp only [Act.put, List.setIfInBounds_toArray, List.set_cons_zero, List.set_cons_succ])
      (first | generalize z9 = z1 at HH B BX SRC FT FD FX ⊢ | generalize z9 = z1 at HH B BX SRC FT FD ⊢)
      refine wpAnyH_take (i := 9) (v := .agg #[.slice qa c.ts.length qc, .slice none 0 0, .slice none 0 0, .slice ea c.d.length ec, .int .i64 c.n]) ov9 (by kernel_rfl) (by kernel_rfl) (by kernel_rfl) (fun _ _ _ h => h) (Or.inl ⟨by rfl, fun V' hS => ?_⟩) HH ?_
      · go_simp
      simp only [Act.put, List.setIfInBounds_toArray, List.set_cons_zero, List.set_cons_succ]
      refine wpAnyH_ready (rs := [11]) (by kernel_rfl) (by simp) ?_
      refine AllReadyH.cons ov11 (fun K hK => ?_) AllReadyH.nil
      rw [if_pos (by rfl)]
      have k0 : z1.cell? ⟨b3, 0, none⟩ = some (.slice none 0 0) := FX.out.cell 0
      have k1 : z1.cell? ⟨b3, 1, none⟩ = some (.slice none 0 0) := FX.out.cell 1
      have k2 : z1.cell? ⟨b3, 2, none⟩ = some (.slice none 0 0) := FX.out.cell 2
      have k3 : z1.cell? ⟨b3, 3, none⟩ = some (.slice none 0 0) := FX.out.cell 3
      have k4 : z1.cell? ⟨b3, 4, none⟩ = some (.int .i64 0) := FX.out.cell 4
      have f0 := CBox.frozen FX.out 0
      have f1 := CBox.frozen FX.out 1
      have f2 := CBox.frozen FX.out 2
      have f3 := CBox.frozen FX.out 3
      have f4 := CBox.frozen FX.out 4
      go_simp
      clear k0 k1 k2 k3 k4 f0 f1 f2 f3 f4
      have hs : But (fun y => y = b3) z1 (((((z1.setCell ⟨b3, 0, none⟩ (.slice qa c.ts.length qc)).setCell ⟨b3, 1, none⟩ (.slice none 0 0)).setCell ⟨b3, 2, none⟩ (.slice none 0 0)).setCell ⟨b3, 3, none⟩ (.slice ea c.d.length ec)).setCell ⟨b3, 4, none⟩ (.int .i64 c.n)) := ((((((But.refl (fun y => y = b3) z1).setCell ⟨b3, 0, none⟩ _ (Or.inl rfl)).setCell ⟨b3, 1, none⟩ _ (Or.inl rfl)).setCell ⟨b3, 2, none⟩ _ (Or.inl rfl)).setCell ⟨b3, 3, none⟩ _ (Or.inl rfl)).setCell ⟨b3, 4, none⟩ _ (Or.inl rfl))
      have ra : Alien z1 b3 := ⟨_, _, FX.out, by decide, by decide, by decide⟩
      have cb : CBox (((((z1.setCell ⟨b3, 0, none⟩ (.slice qa c.ts.length qc)).setCell ⟨b3, 1, none⟩ (.slice none 0 0)).setCell ⟨b3, 2, none⟩ (.slice none 0 0)).setCell ⟨b3, 3, none⟩ (.slice ea c.d.length ec)).setCell ⟨b3, 4, none⟩ (.int .i64 c.n)) b3 28 [.slice qa c.ts.length qc, .slice none 0 0, .slice none 0 0, .slice ea c.d.length ec, .int .i64 c.n] := (((((FX.out.set 0 _).set 1 _).set 2 _).set 3 _).set 4 _)
      have HZ : Hid (CpZ b1 b2 b3 bw w (((((z1.setCell ⟨b3, 0, none⟩ (.slice qa c.ts.length qc)).setCell ⟨b3, 1, none⟩ (.slice none 0 0)).setCell ⟨b3, 2, none⟩ (.slice none 0 0)).setCell ⟨b3, 3, none⟩ (.slice ea c.d.length ec)).setCell ⟨b3, 4, none⟩ (.int .i64 c.n)) [.slice ta c.ts.length tc, .slice ca c.cs.length cc, .slice sa c.ss.length sc, .slice da c.d.length dc, .int .i64 c.n] (.slice qa c.ts.length qc) (.slice ea c.d.length ec) c) := ⟨cb, HH.but hs G9.out.2.2, BX.out.but hs G9.out.2.1, row_alienT FT.out hs ra, row_alien FD.out hs ra, (show Below w.heap.size w z1 from by first | exact B.out.1 | (rw [GB.out]; exact B.out.1)).trans (hs.below (fun g e => by have := G9.out.1; omega) (show w.heap.size ≤ z1.heap.size from by have h1 := B.out.1.size; exact h1)), G9.out.1, G9.out.2.2, G9.out.2.1⟩
      have HHN := HH.but hs G9.out.2.2
      clear hs ra cb HH
      refine hK.out _ (((((z1.setCell ⟨b3, 0, none⟩ (.slice qa c.ts.length qc)).setCell ⟨b3, 1, none⟩ (.slice none 0 0)).setCell ⟨b3, 2, none⟩ (.slice none 0 0)).setCell ⟨b3, 3, none⟩ (.slice ea c.d.length ec)).setCell ⟨b3, 4, none⟩ (.int .i64 c.n)) HHN (fun _ => ?_)
      clear hK K
      (try simp only [Act.put, List.setIfInBounds_toArray, List.set_cons_zero, List.set_cons_succ])
      generalize (((((z1.setCell ⟨b3, 0, none⟩ (.slice qa c.ts.length qc)).setCell ⟨b3, 1, none⟩ (.slice none 0 0)).setCell ⟨b3, 2, none⟩ (.slice none 0 0)).setCell ⟨b3, 3, none⟩ (.slice ea c.d.length ec)).setCell ⟨b3, 4, none⟩ (.int .i64 c.n)) = Z at HZ HHN ⊢
      clear B BX SRC FT FD FX
      refine wpAnyH_done (by kernel_rfl) ?_ _
      clear HHN
      go_wp2
      go_meet
      case rel => exact ⟨b3, qa, qc, ea, ec, rfl, HZ.out⟩
  case rest =>
    obtain ⟨b3, qa, qc, ea, ec, rfl, hZ⟩ := hcut
    have HZ : Hid (CpZ b1 b2 b3 bw w wc [.slice ta c.ts.length tc, .slice ca c.cs.length cc, .slice sa c.ss.length sc, .slice da c.d.length dc, .int .i64 c.n] (.slice qa c.ts.length qc) (.slice ea c.d.length ec) c) := hZ
    clear hZ M
    generalize hZZ : wc = Z at *
    clear hZZ
    obtain ⟨B, hBz⟩ : ∃ B, B = Z.heap.size := ⟨_, rfl⟩
    have HNE : Hid (b1 ≠ b3 ∧ b2 ≠ b3 ∧ b1 < B ∧ b2 < B) := ⟨HZ.out.n1, HZ.out.n2, by have := HZ.out.c1.lt; omega, by have := HZ.out.c2.lt; omega⟩
    have HT : Hid (TL (fun g => g ≠ b3 ∧ g ≠ b2 ∧ g < B) Z (.slice qa c.ts.length qc) c.ts ∧ BL (fun g => g ≠ b3 ∧ g ≠ b2 ∧ g < B) Z (.slice ea c.d.length ec) c.d) := by
      have hsm := HSM.out
      unfold Small at hsm
      exact ⟨SL.own HZ.out.t (by omega) fun g hg => ⟨fun e => own_box HZ.out.t HZ.out.c3 (by decide) hg e, fun e => own_box HZ.out.t HZ.out.c2 (by decide) hg e, by have := (World.ownsRow.lt HZ.out.t g hg).2; omega⟩, SL.own HZ.out.d (by omega) fun g hg => ⟨fun e => own_box HZ.out.d HZ.out.c3 (by decide) hg e, fun e => own_box HZ.out.d HZ.out.c2 (by decide) hg e, by have := (World.ownsRow.lt HZ.out.d g hg).2; omega⟩⟩
    have HZ1 : Hid (CBox Z b1 28 [.slice ta c.ts.length tc, .slice ca c.cs.length cc, .slice sa c.ss.length sc, .slice da c.d.length dc, .int .i64 c.n]) := HZ.out.c1
    have HZ3 : Hid (CBox Z b2 28 [.slice none 0 0, .slice none 0 0, .slice none 0 0, .slice none 0 0, .int .i64 0]) := HZ.out.c2
    have H : Hid (CpL b3 B w Z Z [.slice qa c.ts.length qc, .slice none 0 0, .slice none 0 0, .slice ea c.d.length ec, .int .i64 c.n] (.slice none 0 0) []) := ⟨HZ.out.c3, PO.nil _ _, But.refl _ _, HZ.out.bel, by have := HZ.out.c3.lt; omega, by omega, HZ.out.g3⟩
    clear HZ hBz
    go_wp2
    go_loopw [4] (fun s4 wr => ∃ (k : Nat) (pa : Option Addr) (pc : Nat), s4 = .int .i64 (k : Int) ∧ k ≤ c.cs.length ∧ CpL b3 B w Z wr [.slice qa c.ts.length qc, .slice pa k pc, .slice none 0 0, .slice ea c.d.length ec, .int .i64 c.n] (.slice pa k pc) (c.cs.take k)) (fun s4 _ => c.cs.length - (intOf s4).toNat)
    case atStart => exact ⟨0, none, 0, rfl, by omega, H.out⟩
    case round =>
      obtain ⟨k, pa, pc, rfl, hk, hA⟩ := hrel
      clear H
      have H : Hid (CpL b3 B w Z wr [.slice qa c.ts.length qc, .slice pa k pc, .slice none 0 0, .slice ea c.d.length ec, .int .i64 c.n] (.slice pa k pc) (c.cs.take k)) := hA
      clear hA
      have HB1 : Hid (CBox wr b1 28 [.slice ta c.ts.length tc, .slice ca c.cs.length cc, .slice sa c.ss.length sc, .slice da c.d.length dc, .int .i64 c.n]) := HZ1.out.but H.out.but (fun e => e.elim HNE.out.1 (fun (e : B ≤ b1) => by have := HNE.out.2.2.1; omega))
      have a0 : wr.cell? ⟨b1, 1, none⟩ = some (.slice ca c.cs.length cc) := HB1.out.cell 1
      by_cases e : k = c.cs.length
      · have q1 : ¬ (k : Int) < (c.cs.length : Int) := by omega
        have H9 : Hid (CpL b3 B w Z wr [.slice qa c.ts.length qc, .slice pa c.cs.length pc, .slice none 0 0, .slice ea c.d.length ec, .int .i64 c.n] (.slice pa c.cs.length pc) (c.cs)) := by have h9 := H.out; rw [e, List.take_of_length_le (by omega)] at h9; exact h9
        clear H e hk
        have H := H9
        clear H9
        obtain ⟨xa, xc, hxa⟩ : ∃ xa xc, (Value.slice pa c.cs.length pc) = .slice xa c.cs.length xc := ⟨pa, pc, rfl⟩
        rw [hxa] at H
        clear hxa
        have H0 : Hid (CpL b3 B w Z wr [.slice qa c.ts.length qc, .slice xa c.cs.length xc, .slice none 0 0, .slice ea c.d.length ec, .int .i64 c.n] (.slice xa c.cs.length xc) (c.cs)) := H.out
        clear H
        generalize hZZ2 : wr = Z2 at H0 HB1 a0 ⊢
        clear hZZ2
        obtain ⟨B2, hB2⟩ : ∃ B2, B2 = Z2.heap.size := ⟨_, rfl⟩
        have HT9 : Hid (TL (fun g => g ≠ b3 ∧ g ≠ b2 ∧ g < B2) Z2 (.slice qa c.ts.length qc) c.ts ∧ PL (fun g => g ≠ b3 ∧ g ≠ b2 ∧ g < B2) Z2 (.slice xa c.cs.length xc) c.cs ∧ BL (fun g => g ≠ b3 ∧ g ≠ b2 ∧ g < B2) Z2 (.slice ea c.d.length ec) c.d) := by
          have kk : ∀ g, (fun g => g ≠ b3 ∧ g ≠ b2 ∧ g < B) g → ¬ (g = b3 ∨ B ≤ g) := fun g hg e => by obtain ⟨q1, q2, q3⟩ := hg; omega
          have hsm := HSM.out
          unfold Small at hsm
          exact ⟨(HT.out.1.but H0.out.but kk).mono fun g hg hl => ⟨hg.1, hg.2.1, by omega⟩, (H0.out.px.pl (by omega) (flat_each (by omega))).mono fun g (hg : B ≤ g) hl => ⟨by have := H0.out.lt; omega, by have := HNE.out.2.2.2; omega, by omega⟩, (HT.out.2.but H0.out.but kk).mono fun g hg hl => ⟨hg.1, hg.2.1, by omega⟩⟩
        have HZ2 : Hid (CBox Z2 b1 28 [.slice ta c.ts.length tc, .slice ca c.cs.length cc, .slice sa c.ss.length sc, .slice da c.d.length dc, .int .i64 c.n]) := HB1.out
        have HZ3' : Hid (CBox Z2 b2 28 [.slice none 0 0, .slice none 0 0, .slice none 0 0, .slice none 0 0, .int .i64 0]) := HZ3.out.but H0.out.but (fun e => e.elim HNE.out.2.1 (fun (e : B ≤ b2) => by have := HNE.out.2.2.2; omega))
        have HNE9 : Hid (b1 ≠ b3 ∧ b2 ≠ b3 ∧ b1 < B2 ∧ b2 < B2) := ⟨HNE.out.1, HNE.out.2.1, by have := HZ2.out.lt; omega, by have := HZ3'.out.lt; omega⟩
        have H : Hid (CpL b3 B2 w Z2 Z2 [.slice qa c.ts.length qc, .slice xa c.cs.length xc, .slice none 0 0, .slice ea c.d.length ec, .int .i64 c.n] (.slice none 0 0) []) := ⟨H0.out.box, PO.nil _ _, But.refl _ _, H0.out.bel, by have := H0.out.box.lt; omega, by omega, H0.out.g3⟩
        clear H0 HB1 HT HNE HZ1 HZ3 hB2
        have HT := HT9
        have HNE := HNE9
        have HZ3 := HZ3'
        clear HT9 HNE9 HZ3'
        generalize B2 = B at H HT HNE ⊢
        go_wp2
        go_loopw [5] (fun s5 wr => ∃ (k : Nat) (pa : Option Addr) (pc : Nat), s5 = .int .i64 (k : Int) ∧ k ≤ c.ss.length ∧ CpL b3 B w Z2 wr [.slice qa c.ts.length qc, .slice xa c.cs.length xc, .slice pa k pc, .slice ea c.d.length ec, .int .i64 c.n] (.slice pa k pc) (c.ss.take k)) (fun s5 _ => c.ss.length - (intOf s5).toNat)
        case atStart => exact ⟨0, none, 0, rfl, by omega, H.out⟩
        case round =>
          obtain ⟨k, pa, pc, rfl, hk, hA⟩ := hrel
          clear H
          have H : Hid (CpL b3 B w Z2 wr [.slice qa c.ts.length qc, .slice xa c.cs.length xc, .slice pa k pc, .slice ea c.d.length ec, .int .i64 c.n] (.slice pa k pc) (c.ss.take k)) := hA
          clear hA
          have HB1 : Hid (CBox wr b1 28 [.slice ta c.ts.length tc, .slice ca c.cs.length cc, .slice sa c.ss.length sc, .slice da c.d.length dc, .int .i64 c.n]) := HZ2.out.but H.out.but (fun e => e.elim HNE.out.1 (fun (e : B ≤ b1) => by have := HNE.out.2.2.1; omega))
          have a0 : wr.cell? ⟨b1, 2, none⟩ = some (.slice sa c.ss.length sc) := HB1.out.cell 2
          by_cases e : k = c.ss.length
          · have q1 : ¬ (k : Int) < (c.ss.length : Int) := by omega
            have H9 : Hid (CpL b3 B w Z2 wr [.slice qa c.ts.length qc, .slice xa c.cs.length xc, .slice pa c.ss.length pc, .slice ea c.d.length ec, .int .i64 c.n] (.slice pa c.ss.length pc) (c.ss)) := by have h9 := H.out; rw [e, List.take_of_length_le (by omega)] at h9; exact h9
            clear H e hk
            have H := H9
            clear H9
            obtain ⟨ya, yc, hya⟩ : ∃ ya yc, (Value.slice pa c.ss.length pc) = .slice ya c.ss.length yc := ⟨pa, pc, rfl⟩
            rw [hya] at H
            clear hya
            have C2 : Hid (CBox wr b2 28 [.slice none 0 0, .slice none 0 0, .slice none 0 0, .slice none 0 0, .int .i64 0]) := HZ3.out.but H.out.but (fun e => e.elim HNE.out.2.1 (fun (e : B ≤ b2) => by have := HNE.out.2.2.2; omega))
            have x0 : wr.cell? ⟨b3, 0, none⟩ = some (.slice qa c.ts.length qc) := H.out.box.cell 0
            have x1 : wr.cell? ⟨b3, 1, none⟩ = some (.slice xa c.cs.length xc) := H.out.box.cell 1
            have x2 : wr.cell? ⟨b3, 2, none⟩ = some (.slice ya c.ss.length yc) := H.out.box.cell 2
            have x3 : wr.cell? ⟨b3, 3, none⟩ = some (.slice ea c.d.length ec) := H.out.box.cell 3
            have x4 : wr.cell? ⟨b3, 4, none⟩ = some (.int .i64 c.n) := H.out.box.cell 4
            have k0 : wr.cell? ⟨b2, 0, none⟩ = some (.slice none 0 0) := C2.out.cell 0
            have f0 := CBox.frozen C2.out 0
            have k1 : wr.cell? ⟨b2, 1, none⟩ = some (.slice none 0 0) := C2.out.cell 1
            have f1 := CBox.frozen C2.out 1
            have k2 : wr.cell? ⟨b2, 2, none⟩ = some (.slice none 0 0) := C2.out.cell 2
            have f2 := CBox.frozen C2.out 2
            have k3 : wr.cell? ⟨b2, 3, none⟩ = some (.slice none 0 0) := C2.out.cell 3
            have f3 := CBox.frozen C2.out 3
            have k4 : wr.cell? ⟨b2, 4, none⟩ = some (.int .i64 0) := C2.out.cell 4
            have f4 := CBox.frozen C2.out 4
            have HF : Hid (CBox (((((wr.setCell ⟨b2, 0, none⟩ (.slice qa c.ts.length qc)).setCell ⟨b2, 1, none⟩ (.slice xa c.cs.length xc)).setCell ⟨b2, 2, none⟩ (.slice ya c.ss.length yc)).setCell ⟨b2, 3, none⟩ (.slice ea c.d.length ec)).setCell ⟨b2, 4, none⟩ (.int .i64 c.n)) b2 28 [.slice qa c.ts.length qc, .slice xa c.cs.length xc, .slice ya c.ss.length yc, .slice ea c.d.length ec, .int .i64 c.n] ∧ CW (fun _ => True) (((((wr.setCell ⟨b2, 0, none⟩ (.slice qa c.ts.length qc)).setCell ⟨b2, 1, none⟩ (.slice xa c.cs.length xc)).setCell ⟨b2, 2, none⟩ (.slice ya c.ss.length yc)).setCell ⟨b2, 3, none⟩ (.slice ea c.d.length ec)).setCell ⟨b2, 4, none⟩ (.int .i64 c.n)) (.agg #[.slice qa c.ts.length qc, .slice xa c.cs.length xc, .slice ya c.ss.length yc, .slice ea c.d.length ec, .int .i64 c.n]) c ∧ Below w.heap.size w (((((wr.setCell ⟨b2, 0, none⟩ (.slice qa c.ts.length qc)).setCell ⟨b2, 1, none⟩ (.slice xa c.cs.length xc)).setCell ⟨b2, 2, none⟩ (.slice ya c.ss.length yc)).setCell ⟨b2, 3, none⟩ (.slice ea c.d.length ec)).setCell ⟨b2, 4, none⟩ (.int .i64 c.n))) := by
              have hs : But (fun y => y = b2) wr (((((wr.setCell ⟨b2, 0, none⟩ (.slice qa c.ts.length qc)).setCell ⟨b2, 1, none⟩ (.slice xa c.cs.length xc)).setCell ⟨b2, 2, none⟩ (.slice ya c.ss.length yc)).setCell ⟨b2, 3, none⟩ (.slice ea c.d.length ec)).setCell ⟨b2, 4, none⟩ (.int .i64 c.n)) := ((((((But.refl (fun y => y = b2) wr).setCell ⟨b2, 0, none⟩ _ (Or.inl rfl)).setCell ⟨b2, 1, none⟩ _ (Or.inl rfl)).setCell ⟨b2, 2, none⟩ _ (Or.inl rfl)).setCell ⟨b2, 3, none⟩ _ (Or.inl rfl)).setCell ⟨b2, 4, none⟩ _ (Or.inl rfl))
              have kk : ∀ g, (fun g => g ≠ b3 ∧ g ≠ b2 ∧ g < B) g → ¬ (g = b3 ∨ B ≤ g) := fun g hg e => by obtain ⟨q1, q2, q3⟩ := hg; omega
              have ks : ∀ g, (fun g => g ≠ b3 ∧ g ≠ b2 ∧ g < B) g → ¬ g = b2 := fun g hg e => hg.2.1 e
              have h1 := ((HT.out.1.but H.out.but kk).but hs ks).mono (P' := fun _ => True) fun _ _ _ => trivial
              have h2 := ((HT.out.2.1.but H.out.but kk).but hs ks).mono (P' := fun _ => True) fun _ _ _ => trivial
              have h4 := ((HT.out.2.2.but H.out.but kk).but hs ks).mono (P' := fun _ => True) fun _ _ _ => trivial
              have hn := HNB.out
              have hsm := HSM.out
              unfold Small at hsm
              have h3 := ((H.out.px.pl (by omega) (flat_each (by omega))).but hs (fun g (hg : B ≤ g) e => by have := HNE.out.2.2.2; omega)).mono (P' := fun _ => True) fun _ _ _ => trivial
              exact ⟨(((((C2.out.set 0 _).set 1 _).set 2 _).set 3 _).set 4 _), ⟨_, _, _, _, rfl, h1, h2, h3, h4⟩, H.out.bel.trans (hs.below (fun g e => by have := GL.out; omega) H.out.bel.size)⟩
            clear H C2 HT
            go_wp2
            clear x0 x1 x2 x3 x4 k0 k1 k2 k3 k4 f0 f1 f2 f3 f4
            generalize (((((wr.setCell ⟨b2, 0, none⟩ (.slice qa c.ts.length qc)).setCell ⟨b2, 1, none⟩ (.slice xa c.cs.length xc)).setCell ⟨b2, 2, none⟩ (.slice ya c.ss.length yc)).setCell ⟨b2, 3, none⟩ (.slice ea c.d.length ec)).setCell ⟨b2, 4, none⟩ (.int .i64 c.n)) = Z9 at HF ⊢
            refine bodyPost_ret (v := .agg #[.slice qa c.ts.length qc, .slice xa c.cs.length xc, .slice ya c.ss.length yc, .slice ea c.d.length ec, .int .i64 c.n]) (results_c (p := 2) (ty := 28) Try.results52 _ _ _ ⟨b2, 0, none⟩ rfl (run_loadVar_mid Z9 b2 0 28 [.slice qa c.ts.length qc, .slice xa c.cs.length xc, .slice ya c.ss.length yc, .slice ea c.d.length ec, .int .i64 c.n] _ HF.out.1.range Try.underlying28 rfl (by kernel_rfl))) rfl ?_
            exact ⟨_, rfl, HF.out.2.1, by first | exact HF.out.2.2 | (rw [← GB.out]; exact HF.out.2.2)⟩
          · have q1 : (k : Int) < (c.ss.length : Int) := by omega
            have HK : Hid (k < c.ss.length) := by unfold Hid; omega
            have HLK : Hid ((c.ss.take k).length = k) := by unfold Hid; rw [List.length_take]; omega
            have HLK1 : Hid ((c.ss.take (k + 1)).length = k + 1) := by unfold Hid; rw [List.length_take]; omega
            obtain ⟨x, hx⟩ : ∃ x, c.ss[k]? = some x := ⟨c.ss[k]'(by omega), List.getElem?_eq_getElem _⟩
            have HX : Hid (c.ss[k]? = some x) := hx
            have HXL : Hid (x.length ≤ 16777216) := by have := (List.sublist_flatten_of_mem (List.mem_of_getElem? hx)).length_le; have := HSM.out; unfold Small at this; unfold Hid; omega
            obtain ⟨g, a, u, eg, hcl, hb0⟩ := (SK.out wr H.out.bel).get hx
            subst eg
            obtain ⟨xua, xuc, rfl, _, _⟩ := hb0.len
            have HXP : Hid (∀ W, Below w.heap.size w W → W.cell? ⟨g, a + k, none⟩ = some (.slice xua x.length xuc) ∧ BL P W (.slice xua x.length xuc) x) := fun W hW => by
              obtain ⟨g', a', u', eg', h1, h2⟩ := (SK.out W hW).get HX.out
              injection eg' with eg'
              injection eg' with e1 e2
              subst e1 e2
              obtain ⟨g', a', u2, eg', h3, h4⟩ := (SK.out wr H.out.bel).get HX.out
              injection eg' with eg'
              injection eg' with e1 e2
              subst e1 e2
              obtain ⟨g3, a3, u3, eg3, h5, h6⟩ := (SK.out w (Below.refl _ _)).get HX.out
              injection eg3 with eg3
              injection eg3 with e1 e2
              subst e1 e2
              have f1 := (hW.cell (World.block_lt_of_cell? _ _ h5)).trans h5
              have f2 := (H.out.bel.cell (World.block_lt_of_cell? _ _ h5)).trans h5
              have f3 : (some u' : Option Value) = some u3 := h1.symm.trans f1
              have f4 : (some (.slice xua x.length xuc) : Option Value) = some u3 := hcl.symm.trans f2
              injection f3 with f3
              injection f4 with f4
              subst f3
              rw [f4]
              exact ⟨h1, h2⟩
            have PX : Hid (∀ W, Below w.heap.size w W → W.cell? ⟨g, a + k, none⟩ = some (.slice xua x.length xuc)) := fun W hW => (HXP.out W hW).1
            have HXB : Hid (∀ W, Below w.heap.size w W → BL P W (.slice xua x.length xuc) x) := fun W hW => (HXP.out W hW).2
            clear hx e hk hcl hb0 HXP
            have kB : (k : Int) < 1152921504606846976 := by have := HNB.out; have := HK.out; omega
            go_upto_region 9 with fail
            clear a0
            refine wp_region_held_drew (S := fun V' => CBox V' b1 28 [.slice ta c.ts.length tc, .slice ca c.cs.length cc, .slice (some ⟨g, a, none⟩) c.ss.length sc, .slice da c.d.length dc, .int .i64 c.n] ∧ Below w.heap.size w V') (by kernel_rfl) ⟨HB1.out.past below_drew, H.out.bel.drew⟩ (fun HH => ?_)
            have q9 := H.out.past below_drew
            clear H
            have H : Hid (CpL b3 B w Z2 wr.drew [.slice qa c.ts.length qc, .slice xa c.cs.length xc, .slice pa k pc, .slice ea c.d.length ec, .int .i64 c.n] (.slice pa k pc) (c.ss.take k)) := q9
            clear q9
            have q9 := HB1.out.past below_drew
            clear HB1
            have HB1 : Hid (CBox wr.drew b1 28 [.slice ta c.ts.length tc, .slice ca c.cs.length cc, .slice (some ⟨g, a, none⟩) c.ss.length sc, .slice da c.d.length dc, .int .i64 c.n]) := q9
            clear q9
            generalize wr.drew = z1 at HH H HB1 ⊢
            refine wpAnyH_take (i := 0) (v := .pointer (some ⟨b3, 2, none⟩)) ov0 (by kernel_rfl) (by kernel_rfl) (by kernel_rfl) (fun _ _ _ h => h) (Or.inl ⟨by rfl, fun V' hS => ?_⟩) HH ?_
            · go_simp
            simp only [Act.put, List.setIfInBounds_toArray, List.set_cons_zero, List.set_cons_succ]
            refine wpAnyH_take (i := 2) (v := .pointer (some ⟨b1, 2, none⟩)) ov2 (by kernel_rfl) (by kernel_rfl) (by kernel_rfl) (fun _ _ _ h => h) (Or.inl ⟨by rfl, fun V' hS => ?_⟩) HH ?_
            · go_simp
            simp only [Act.put, List.setIfInBounds_toArray, List.set_cons_zero, List.set_cons_succ]
            refine wpAnyH_take (i := 3) (v := .slice (some ⟨g, a, none⟩) c.ss.length sc) ov3 (by kernel_rfl) (by kernel_rfl) (by kernel_rfl) (fun _ _ _ h => h) (Or.inl ⟨by rfl, fun V' hS => ?_⟩) HH ?_
            · have c0 := hS.1.cell 2
              go_simp
            simp only [Act.put, List.setIfInBounds_toArray, List.set_cons_zero, List.set_cons_succ]
            refine wpAnyH_take (i := 4) (v := .int .i64 (k : Int)) ov4 (by kernel_rfl) (by kernel_rfl) (by kernel_rfl) (fun _ _ _ h => h) (Or.inl ⟨by rfl, fun V' hS => ?_⟩) HH ?_
            · go_simp
            simp only [Act.put, List.setIfInBounds_toArray, List.set_cons_zero, List.set_cons_succ]
            refine wpAnyH_take (i := 5) (v := .pointer (some ⟨g, a + k, none⟩)) ov5 (by kernel_rfl) (by kernel_rfl) (by kernel_rfl) (fun _ _ _ h => h) (Or.inl ⟨by rfl, fun V' hS => ?_⟩) HH ?_
            · go_simp
            simp only [Act.put, List.setIfInBounds_toArray, List.set_cons_zero, List.set_cons_succ]
            refine wpAnyH_take (i := 6) (v := .slice xua x.length xuc) ov6 (by kernel_rfl) (by kernel_rfl) (by kernel_rfl) (fun _ _ _ h => h) (Or.inl ⟨by rfl, fun V' hS => ?_⟩) HH ?_
            · have c0 := PX.out V' hS.2
              go_simp
            simp only [Act.put, List.setIfInBounds_toArray, List.set_cons_zero, List.set_cons_succ]
            refine wpAnyH_ready (rs := [1, 7]) (by kernel_rfl) (by simp) ?_
            refine AllReadyH.cons ov1 (fun K hK => ?_) (AllReadyH.cons ov7 (fun K hK => ?_) AllReadyH.nil)
            · rw [if_pos (by rfl)]
              have c0 := H.out.box.cell 2
              go_simp
              clear c0
              refine hK.out _ _ HH (fun _ => ?_)
              clear hK K
              (try simp only [Act.put, List.setIfInBounds_toArray, List.set_cons_zero, List.set_cons_succ])
              refine wpAnyH_ready (rs := [7]) (by kernel_rfl) (by simp) ?_
              refine AllReadyH.cons ov7 (fun K hK => ?_) AllReadyH.nil
              rw [if_pos (by rfl)]
              go_simp
              refine (row_is _ _ x (HXB.out _ HH.2) HXL.out).mono ?_
              rintro e z8 ⟨v9, rfl, hO, hB⟩
              obtain ⟨ra, rc, rfl⟩ := owns_sl hO
              have FR : Hid (z8.ownsRow B 5 1 (.slice ra x.length rc) x.length (bV x)) := owns_base hO H.out.le
              have q9 := H.out.past hB
              clear H
              have H : Hid (CpL b3 B w Z2 z8 [.slice qa c.ts.length qc, .slice xa c.cs.length xc, .slice pa k pc, .slice ea c.d.length ec, .int .i64 c.n] (.slice pa k pc) (c.ss.take k)) := q9
              clear q9
              have q9 := HB1.out.past hB
              clear HB1
              have HB1 : Hid (CBox z8 b1 28 [.slice ta c.ts.length tc, .slice ca c.cs.length cc, .slice (some ⟨g, a, none⟩) c.ss.length sc, .slice da c.d.length dc, .int .i64 c.n]) := q9
              clear q9
              clear hO hB
              (try go_wp2_with fail)
              refine hK.out _ _ ⟨HB1.out, H.out.bel⟩ (fun _ => ?_)
              clear hK K
              (try simp only [Act.put, List.setIfInBounds_toArray, List.set_cons_zero, List.set_cons_succ])
              skip
              generalize z8 = z1 at H HB1 FR ⊢
              refine wpAnyH_ready (rs := [8]) (by kernel_rfl) (by simp) ?_
              refine AllReadyH.cons ov8 (fun K hK => ?_) AllReadyH.nil
              rw [if_pos (by rfl)]
              go_simp
              have hB : Below z1.heap.size z1 (z1.alloc (.cells #[.slice ra x.length rc] 22)) := below_alloc _ _
              have F9 := CBox.new z1 22 [.slice ra x.length rc]
              have q9 := owns_past FR.out hB
              clear FR
              have FR : Hid (World.ownsRow (z1.alloc (.cells #[.slice ra x.length rc] 22)) B 5 1 (.slice ra x.length rc) x.length (bV x)) := q9
              clear q9
              have q9 := H.out.past hB
              clear H
              have H : Hid (CpL b3 B w Z2 (z1.alloc (.cells #[.slice ra x.length rc] 22)) [.slice qa c.ts.length qc, .slice xa c.cs.length xc, .slice pa k pc, .slice ea c.d.length ec, .int .i64 c.n] (.slice pa k pc) (c.ss.take k)) := q9
              clear q9
              have q9 := HB1.out.past hB
              clear HB1
              have HB1 : Hid (CBox (z1.alloc (.cells #[.slice ra x.length rc] 22)) b1 28 [.slice ta c.ts.length tc, .slice ca c.cs.length cc, .slice (some ⟨g, a, none⟩) c.ss.length sc, .slice da c.d.length dc, .int .i64 c.n]) := q9
              clear q9
              have FB : Hid (CBox (z1.alloc (.cells #[.slice ra x.length rc] 22)) z1.heap.size 22 [.slice ra x.length rc]) := F9
              clear F9 hB
              refine hK.out _ (z1.alloc (.cells #[.slice ra x.length rc] 22)) ⟨HB1.out, H.out.bel⟩ (fun _ => ?_)
              clear hK K
              (try simp only [Act.put, List.setIfInBounds_toArray, List.set_cons_zero, List.set_cons_succ])
              generalize z1.heap.size = bb at FB ⊢
              generalize (z1.alloc (.cells #[.slice ra x.length rc] 22)) = z1 at H HB1 FB FR ⊢
              refine wpAnyH_ready (rs := [9]) (by kernel_rfl) (by simp) ?_
              refine AllReadyH.cons ov9 (fun K hK => ?_) AllReadyH.nil
              rw [if_pos (by rfl)]
              refine wp_appP1 _ _ rfl B H.out.le (.slice pa k pc) (c.ss.take k) rfl H.out.px (.slice ra x.length rc) x FR.out bb rfl FB.out (by rw [HLK.out]; have := HNB.out; have := HK.out; omega) ?_
              intro v9 z9 hP hb
              rw [← take_snoc HX.out] at hP
              obtain ⟨oa2, oc2, e9⟩ := PO.sl hP
              rw [HLK1.out] at e9
              subst e9
              have hP9 : Hid (PO B z9 (.slice oa2 (k + 1) oc2) (c.ss.take (k + 1)) ∧ But (fun g => B ≤ g) z1 z9) := ⟨hP, hb⟩
              have hb9 : CBox z9 b1 28 [.slice ta c.ts.length tc, .slice ca c.cs.length cc, .slice (some ⟨g, a, none⟩) c.ss.length sc, .slice da c.d.length dc, .int .i64 c.n] := HB1.out.but hb (fun (e : B ≤ b1) => by have := HNE.out.2.2.1; omega)
              have c8 : CBox z9 b3 28 [.slice qa c.ts.length qc, .slice xa c.cs.length xc, .slice pa k pc, .slice ea c.d.length ec, .int .i64 c.n] := H.out.box.but hb (fun (e : B ≤ b3) => by have := H.out.lt; omega)
              have bel9 : Below w.heap.size w z9 := H.out.bel.trans (hb.below (fun g (e : B ≤ g) => by have h2 := H.out.g3; have h3 := H.out.lt; omega) H.out.bel.size)
              clear FB FR hP hb
              refine hK.out _ z9 ⟨hb9, bel9⟩ (fun _ => ?_)
              clear hK K
              (try simp only [Act.put, List.setIfInBounds_toArray, List.set_cons_zero, List.set_cons_succ])
              refine wpAnyH_take (i := 10) (v := .pointer (some ⟨b3, 2, none⟩)) ov10 (by kernel_rfl) (by kernel_rfl) (by kernel_rfl) (fun _ _ _ h => h) (Or.inl ⟨by rfl, fun V' hS => ?_⟩) ⟨hb9, bel9⟩ ?_
              · go_simp
              simp only [Act.put, List.setIfInBounds_toArray, List.set_cons_zero, List.set_cons_succ]
              refine wpAnyH_ready (rs := [11]) (by kernel_rfl) (by simp) ?_
              refine AllReadyH.cons ov11 (fun K hK => ?_) AllReadyH.nil
              rw [if_pos (by rfl)]
              have k0 := c8.cell 2
              have f0 := CBox.frozen c8 2
              go_simp
              clear k0 f0
              have H9 : Hid (CpL b3 B w Z2 (z9.setCell ⟨b3, 2, none⟩ (.slice oa2 (k + 1) oc2)) [.slice qa c.ts.length qc, .slice xa c.cs.length xc, .slice oa2 (k + 1) oc2, .slice ea c.d.length ec, .int .i64 c.n] (.slice oa2 (k + 1) oc2) (c.ss.take (k + 1))) := H.out.app hP9.out.1 hP9.out.2 2
              have hb8 : CBox (z9.setCell ⟨b3, 2, none⟩ (.slice oa2 (k + 1) oc2)) b1 28 [.slice ta c.ts.length tc, .slice ca c.cs.length cc, .slice (some ⟨g, a, none⟩) c.ss.length sc, .slice da c.d.length dc, .int .i64 c.n] := hb9.but ((But.refl (fun y => y = b3) z9).setCell ⟨b3, 2, none⟩ (.slice oa2 (k + 1) oc2) (Or.inl rfl)) HNE.out.1
              refine hK.out _ (z9.setCell ⟨b3, 2, none⟩ (.slice oa2 (k + 1) oc2)) ⟨hb8, H9.out.bel⟩ (fun _ => ?_)
              clear hK K
              (try simp only [Act.put, List.setIfInBounds_toArray, List.set_cons_zero, List.set_cons_succ])
              generalize (z9.setCell ⟨b3, 2, none⟩ (.slice oa2 (k + 1) oc2)) = z2 at H9 hb8 ⊢
              clear hb9 c8 bel9 hP9 H HB1
              refine wpAnyH_done (by kernel_rfl) ?_ _
              clear hb8 PX HX HLK HLK1 HXB
              go_wp2
              go_roundw
              case rel => exact ⟨k + 1, oa2, oc2, by first | rfl | go_num, by have := HK.out; omega, H9.out⟩
              case measure => simp [intOf]; omega
            · rw [if_pos (by rfl)]
              go_simp
              refine (row_is _ _ x (HXB.out _ HH.2) HXL.out).mono ?_
              rintro e z8 ⟨v9, rfl, hO, hB⟩
              obtain ⟨ra, rc, rfl⟩ := owns_sl hO
              have FR : Hid (z8.ownsRow B 5 1 (.slice ra x.length rc) x.length (bV x)) := owns_base hO H.out.le
              have q9 := H.out.past hB
              clear H
              have H : Hid (CpL b3 B w Z2 z8 [.slice qa c.ts.length qc, .slice xa c.cs.length xc, .slice pa k pc, .slice ea c.d.length ec, .int .i64 c.n] (.slice pa k pc) (c.ss.take k)) := q9
              clear q9
              have q9 := HB1.out.past hB
              clear HB1
              have HB1 : Hid (CBox z8 b1 28 [.slice ta c.ts.length tc, .slice ca c.cs.length cc, .slice (some ⟨g, a, none⟩) c.ss.length sc, .slice da c.d.length dc, .int .i64 c.n]) := q9
              clear q9
              clear hO hB
              (try go_wp2_with fail)
              refine hK.out _ _ ⟨HB1.out, H.out.bel⟩ (fun _ => ?_)
              clear hK K
              (try simp only [Act.put, List.setIfInBounds_toArray, List.set_cons_zero, List.set_cons_succ])
              skip
              generalize z8 = z1 at H HB1 FR ⊢
              refine wpAnyH_ready (rs := [1, 8]) (by kernel_rfl) (by simp) ?_
              refine AllReadyH.cons ov1 (fun K hK => ?_) (AllReadyH.cons ov8 (fun K hK => ?_) AllReadyH.nil)
              · rw [if_pos (by rfl)]
                have c0 := H.out.box.cell 2
                go_simp
                clear c0
                refine hK.out _ _ ⟨HB1.out, H.out.bel⟩ (fun _ => ?_)
                clear hK K
                (try simp only [Act.put, List.setIfInBounds_toArray, List.set_cons_zero, List.set_cons_succ])
                refine wpAnyH_ready (rs := [8]) (by kernel_rfl) (by simp) ?_
                refine AllReadyH.cons ov8 (fun K hK => ?_) AllReadyH.nil
                rw [if_pos (by rfl)]
                go_simp
                have hB : Below z1.heap.size z1 (z1.alloc (.cells #[.slice ra x.length rc] 22)) := below_alloc _ _
                have F9 := CBox.new z1 22 [.slice ra x.length rc]
                have q9 := owns_past FR.out hB
                clear FR
                have FR : Hid (World.ownsRow (z1.alloc (.cells #[.slice ra x.length rc] 22)) B 5 1 (.slice ra x.length rc) x.length (bV x)) := q9
                clear q9
                have q9 := H.out.past hB
                clear H
                have H : Hid (CpL b3 B w Z2 (z1.alloc (.cells #[.slice ra x.length rc] 22)) [.slice qa c.ts.length qc, .slice xa c.cs.length xc, .slice pa k pc, .slice ea c.d.length ec, .int .i64 c.n] (.slice pa k pc) (c.ss.take k)) := q9
                clear q9
                have q9 := HB1.out.past hB
                clear HB1
                have HB1 : Hid (CBox (z1.alloc (.cells #[.slice ra x.length rc] 22)) b1 28 [.slice ta c.ts.length tc, .slice ca c.cs.length cc, .slice (some ⟨g, a, none⟩) c.ss.length sc, .slice da c.d.length dc, .int .i64 c.n]) := q9
                clear q9
                have FB : Hid (CBox (z1.alloc (.cells #[.slice ra x.length rc] 22)) z1.heap.size 22 [.slice ra x.length rc]) := F9
                clear F9 hB
                refine hK.out _ (z1.alloc (.cells #[.slice ra x.length rc] 22)) ⟨HB1.out, H.out.bel⟩ (fun _ => ?_)
                clear hK K
                (try simp only [Act.put, List.setIfInBounds_toArray, List.set_cons_zero, List.set_cons_succ])
                generalize z1.heap.size = bb at FB ⊢
                generalize (z1.alloc (.cells #[.slice ra x.length rc] 22)) = z1 at H HB1 FB FR ⊢
                refine wpAnyH_ready (rs := [9]) (by kernel_rfl) (by simp) ?_
                refine AllReadyH.cons ov9 (fun K hK => ?_) AllReadyH.nil
                rw [if_pos (by rfl)]
                refine wp_appP1 _ _ rfl B H.out.le (.slice pa k pc) (c.ss.take k) rfl H.out.px (.slice ra x.length rc) x FR.out bb rfl FB.out (by rw [HLK.out]; have := HNB.out; have := HK.out; omega) ?_
                intro v9 z9 hP hb
                rw [← take_snoc HX.out] at hP
                obtain ⟨oa2, oc2, e9⟩ := PO.sl hP
                rw [HLK1.out] at e9
                subst e9
                have hP9 : Hid (PO B z9 (.slice oa2 (k + 1) oc2) (c.ss.take (k + 1)) ∧ But (fun g => B ≤ g) z1 z9) := ⟨hP, hb⟩
                have hb9 : CBox z9 b1 28 [.slice ta c.ts.length tc, .slice ca c.cs.length cc, .slice (some ⟨g, a, none⟩) c.ss.length sc, .slice da c.d.length dc, .int .i64 c.n] := HB1.out.but hb (fun (e : B ≤ b1) => by have := HNE.out.2.2.1; omega)
                have c8 : CBox z9 b3 28 [.slice qa c.ts.length qc, .slice xa c.cs.length xc, .slice pa k pc, .slice ea c.d.length ec, .int .i64 c.n] := H.out.box.but hb (fun (e : B ≤ b3) => by have := H.out.lt; omega)
                have bel9 : Below w.heap.size w z9 := H.out.bel.trans (hb.below (fun g (e : B ≤ g) => by have h2 := H.out.g3; have h3 := H.out.lt; omega) H.out.bel.size)
                clear FB FR hP hb
                refine hK.out _ z9 ⟨hb9, bel9⟩ (fun _ => ?_)
                clear hK K
                (try simp only [Act.put, List.setIfInBounds_toArray, List.set_cons_zero, List.set_cons_succ])
                refine wpAnyH_take (i := 10) (v := .pointer (some ⟨b3, 2, none⟩)) ov10 (by kernel_rfl) (by kernel_rfl) (by kernel_rfl) (fun _ _ _ h => h) (Or.inl ⟨by rfl, fun V' hS => ?_⟩) ⟨hb9, bel9⟩ ?_
                · go_simp
                simp only [Act.put, List.setIfInBounds_toArray, List.set_cons_zero, List.set_cons_succ]
                refine wpAnyH_ready (rs := [11]) (by kernel_rfl) (by simp) ?_
                refine AllReadyH.cons ov11 (fun K hK => ?_) AllReadyH.nil
                rw [if_pos (by rfl)]
                have k0 := c8.cell 2
                have f0 := CBox.frozen c8 2
                go_simp
                clear k0 f0
                have H9 : Hid (CpL b3 B w Z2 (z9.setCell ⟨b3, 2, none⟩ (.slice oa2 (k + 1) oc2)) [.slice qa c.ts.length qc, .slice xa c.cs.length xc, .slice oa2 (k + 1) oc2, .slice ea c.d.length ec, .int .i64 c.n] (.slice oa2 (k + 1) oc2) (c.ss.take (k + 1))) := H.out.app hP9.out.1 hP9.out.2 2
                have hb8 : CBox (z9.setCell ⟨b3, 2, none⟩ (.slice oa2 (k + 1) oc2)) b1 28 [.slice ta c.ts.length tc, .slice ca c.cs.length cc, .slice (some ⟨g, a, none⟩) c.ss.length sc, .slice da c.d.length dc, .int .i64 c.n] := hb9.but ((But.refl (fun y => y = b3) z9).setCell ⟨b3, 2, none⟩ (.slice oa2 (k + 1) oc2) (Or.inl rfl)) HNE.out.1
                refine hK.out _ (z9.setCell ⟨b3, 2, none⟩ (.slice oa2 (k + 1) oc2)) ⟨hb8, H9.out.bel⟩ (fun _ => ?_)
                clear hK K
                (try simp only [Act.put, List.setIfInBounds_toArray, List.set_cons_zero, List.set_cons_succ])
                generalize (z9.setCell ⟨b3, 2, none⟩ (.slice oa2 (k + 1) oc2)) = z2 at H9 hb8 ⊢
                clear hb9 c8 bel9 hP9 H HB1
                refine wpAnyH_done (by kernel_rfl) ?_ _
                clear hb8 PX HX HLK HLK1 HXB
                go_wp2
                go_roundw
                case rel => exact ⟨k + 1, oa2, oc2, by first | rfl | go_num, by have := HK.out; omega, H9.out⟩
                case measure => simp [intOf]; omega
              · rw [if_pos (by rfl)]
                go_simp
                have hB : Below z1.heap.size z1 (z1.alloc (.cells #[.slice ra x.length rc] 22)) := below_alloc _ _
                have F9 := CBox.new z1 22 [.slice ra x.length rc]
                have q9 := owns_past FR.out hB
                clear FR
                have FR : Hid (World.ownsRow (z1.alloc (.cells #[.slice ra x.length rc] 22)) B 5 1 (.slice ra x.length rc) x.length (bV x)) := q9
                clear q9
                have q9 := H.out.past hB
                clear H
                have H : Hid (CpL b3 B w Z2 (z1.alloc (.cells #[.slice ra x.length rc] 22)) [.slice qa c.ts.length qc, .slice xa c.cs.length xc, .slice pa k pc, .slice ea c.d.length ec, .int .i64 c.n] (.slice pa k pc) (c.ss.take k)) := q9
                clear q9
                have q9 := HB1.out.past hB
                clear HB1
                have HB1 : Hid (CBox (z1.alloc (.cells #[.slice ra x.length rc] 22)) b1 28 [.slice ta c.ts.length tc, .slice ca c.cs.length cc, .slice (some ⟨g, a, none⟩) c.ss.length sc, .slice da c.d.length dc, .int .i64 c.n]) := q9
                clear q9
                have FB : Hid (CBox (z1.alloc (.cells #[.slice ra x.length rc] 22)) z1.heap.size 22 [.slice ra x.length rc]) := F9
                clear F9 hB
                refine hK.out _ (z1.alloc (.cells #[.slice ra x.length rc] 22)) ⟨HB1.out, H.out.bel⟩ (fun _ => ?_)
                clear hK K
                (try simp only [Act.put, List.setIfInBounds_toArray, List.set_cons_zero, List.set_cons_succ])
                generalize z1.heap.size = bb at FB ⊢
                generalize (z1.alloc (.cells #[.slice ra x.length rc] 22)) = z1 at H HB1 FB FR ⊢
                refine wpAnyH_ready (rs := [1]) (by kernel_rfl) (by simp) ?_
                refine AllReadyH.cons ov1 (fun K hK => ?_) AllReadyH.nil
                rw [if_pos (by rfl)]
                have c0 := H.out.box.cell 2
                go_simp
                clear c0
                refine hK.out _ _ ⟨HB1.out, H.out.bel⟩ (fun _ => ?_)
                clear hK K
                (try simp only [Act.put, List.setIfInBounds_toArray, List.set_cons_zero, List.set_cons_succ])
                refine wpAnyH_ready (rs := [9]) (by kernel_rfl) (by simp) ?_
                refine AllReadyH.cons ov9 (fun K hK => ?_) AllReadyH.nil
                rw [if_pos (by rfl)]
                refine wp_appP1 _ _ rfl B H.out.le (.slice pa k pc) (c.ss.take k) rfl H.out.px (.slice ra x.length rc) x FR.out bb rfl FB.out (by rw [HLK.out]; have := HNB.out; have := HK.out; omega) ?_
                intro v9 z9 hP hb
                rw [← take_snoc HX.out] at hP
                obtain ⟨oa2, oc2, e9⟩ := PO.sl hP
                rw [HLK1.out] at e9
                subst e9
                have hP9 : Hid (PO B z9 (.slice oa2 (k + 1) oc2) (c.ss.take (k + 1)) ∧ But (fun g => B ≤ g) z1 z9) := ⟨hP, hb⟩
                have hb9 : CBox z9 b1 28 [.slice ta c.ts.length tc, .slice ca c.cs.length cc, .slice (some ⟨g, a, none⟩) c.ss.length sc, .slice da c.d.length dc, .int .i64 c.n] := HB1.out.but hb (fun (e : B ≤ b1) => by have := HNE.out.2.2.1; omega)
                have c8 : CBox z9 b3 28 [.slice qa c.ts.length qc, .slice xa c.cs.length xc, .slice pa k pc, .slice ea c.d.length ec, .int .i64 c.n] := H.out.box.but hb (fun (e : B ≤ b3) => by have := H.out.lt; omega)
                have bel9 : Below w.heap.size w z9 := H.out.bel.trans (hb.below (fun g (e : B ≤ g) => by have h2 := H.out.g3; have h3 := H.out.lt; omega) H.out.bel.size)
                clear FB FR hP hb
                refine hK.out _ z9 ⟨hb9, bel9⟩ (fun _ => ?_)
                clear hK K
                (try simp only [Act.put, List.setIfInBounds_toArray, List.set_cons_zero, List.set_cons_succ])
                refine wpAnyH_take (i := 10) (v := .pointer (some ⟨b3, 2, none⟩)) ov10 (by kernel_rfl) (by kernel_rfl) (by kernel_rfl) (fun _ _ _ h => h) (Or.inl ⟨by rfl, fun V' hS => ?_⟩) ⟨hb9, bel9⟩ ?_
                · go_simp
                simp only [Act.put, List.setIfInBounds_toArray, List.set_cons_zero, List.set_cons_succ]
                refine wpAnyH_ready (rs := [11]) (by kernel_rfl) (by simp) ?_
                refine AllReadyH.cons ov11 (fun K hK => ?_) AllReadyH.nil
                rw [if_pos (by rfl)]
                have k0 := c8.cell 2
                have f0 := CBox.frozen c8 2
                go_simp
                clear k0 f0
                have H9 : Hid (CpL b3 B w Z2 (z9.setCell ⟨b3, 2, none⟩ (.slice oa2 (k + 1) oc2)) [.slice qa c.ts.length qc, .slice xa c.cs.length xc, .slice oa2 (k + 1) oc2, .slice ea c.d.length ec, .int .i64 c.n] (.slice oa2 (k + 1) oc2) (c.ss.take (k + 1))) := H.out.app hP9.out.1 hP9.out.2 2
                have hb8 : CBox (z9.setCell ⟨b3, 2, none⟩ (.slice oa2 (k + 1) oc2)) b1 28 [.slice ta c.ts.length tc, .slice ca c.cs.length cc, .slice (some ⟨g, a, none⟩) c.ss.length sc, .slice da c.d.length dc, .int .i64 c.n] := hb9.but ((But.refl (fun y => y = b3) z9).setCell ⟨b3, 2, none⟩ (.slice oa2 (k + 1) oc2) (Or.inl rfl)) HNE.out.1
                refine hK.out _ (z9.setCell ⟨b3, 2, none⟩ (.slice oa2 (k + 1) oc2)) ⟨hb8, H9.out.bel⟩ (fun _ => ?_)
                clear hK K
                (try simp only [Act.put, List.setIfInBounds_toArray, List.set_cons_zero, List.set_cons_succ])
                generalize (z9.setCell ⟨b3, 2, none⟩ (.slice oa2 (k + 1) oc2)) = z2 at H9 hb8 ⊢
                clear hb9 c8 bel9 hP9 H HB1
                refine wpAnyH_done (by kernel_rfl) ?_ _
                clear hb8 PX HX HLK HLK1 HXB
                go_wp2
                go_roundw
                case rel => exact ⟨k + 1, oa2, oc2, by first | rfl | go_num, by have := HK.out; omega, H9.out⟩
                case measure => simp [intOf]; omega
      · have q1 : (k : Int) < (c.cs.length : Int) := by omega
        have HK : Hid (k < c.cs.length) := by unfold Hid; omega
        have HLK : Hid ((c.cs.take k).length = k) := by unfold Hid; rw [List.length_take]; omega
        have HLK1 : Hid ((c.cs.take (k + 1)).length = k + 1) := by unfold Hid; rw [List.length_take]; omega
        obtain ⟨x, hx⟩ : ∃ x, c.cs[k]? = some x := ⟨c.cs[k]'(by omega), List.getElem?_eq_getElem _⟩
        have HX : Hid (c.cs[k]? = some x) := hx
        have HXL : Hid (x.length ≤ 16777216) := by have := (List.sublist_flatten_of_mem (List.mem_of_getElem? hx)).length_le; have := HSM.out; unfold Small at this; unfold Hid; omega
        obtain ⟨g, a, u, eg, hcl, hb0⟩ := (SC.out wr H.out.bel).get hx
        subst eg
        obtain ⟨xua, xuc, rfl, _, _⟩ := hb0.len
        have HXP : Hid (∀ W, Below w.heap.size w W → W.cell? ⟨g, a + k, none⟩ = some (.slice xua x.length xuc) ∧ BL P W (.slice xua x.length xuc) x) := fun W hW => by
          obtain ⟨g', a', u', eg', h1, h2⟩ := (SC.out W hW).get HX.out
          injection eg' with eg'
          injection eg' with e1 e2
          subst e1 e2
          obtain ⟨g', a', u2, eg', h3, h4⟩ := (SC.out wr H.out.bel).get HX.out
          injection eg' with eg'
          injection eg' with e1 e2
          subst e1 e2
          obtain ⟨g3, a3, u3, eg3, h5, h6⟩ := (SC.out w (Below.refl _ _)).get HX.out
          injection eg3 with eg3
          injection eg3 with e1 e2
          subst e1 e2
          have f1 := (hW.cell (World.block_lt_of_cell? _ _ h5)).trans h5
          have f2 := (H.out.bel.cell (World.block_lt_of_cell? _ _ h5)).trans h5
          have f3 : (some u' : Option Value) = some u3 := h1.symm.trans f1
          have f4 : (some (.slice xua x.length xuc) : Option Value) = some u3 := hcl.symm.trans f2
          injection f3 with f3
          injection f4 with f4
          subst f3
          rw [f4]
          exact ⟨h1, h2⟩
        have PX : Hid (∀ W, Below w.heap.size w W → W.cell? ⟨g, a + k, none⟩ = some (.slice xua x.length xuc)) := fun W hW => (HXP.out W hW).1
        have HXB : Hid (∀ W, Below w.heap.size w W → BL P W (.slice xua x.length xuc) x) := fun W hW => (HXP.out W hW).2
        clear hx e hk hcl hb0 HXP
        have kB : (k : Int) < 1152921504606846976 := by have := HNB.out; have := HK.out; omega
        go_upto_region 5 with fail
        clear a0
        refine wp_region_held_drew (S := fun V' => CBox V' b1 28 [.slice ta c.ts.length tc, .slice (some ⟨g, a, none⟩) c.cs.length cc, .slice sa c.ss.length sc, .slice da c.d.length dc, .int .i64 c.n] ∧ Below w.heap.size w V') (by kernel_rfl) ⟨HB1.out.past below_drew, H.out.bel.drew⟩ (fun HH => ?_)
        have q9 := H.out.past below_drew
        clear H
        have H : Hid (CpL b3 B w Z wr.drew [.slice qa c.ts.length qc, .slice pa k pc, .slice none 0 0, .slice ea c.d.length ec, .int .i64 c.n] (.slice pa k pc) (c.cs.take k)) := q9
        clear q9
        have q9 := HB1.out.past below_drew
        clear HB1
        have HB1 : Hid (CBox wr.drew b1 28 [.slice ta c.ts.length tc, .slice (some ⟨g, a, none⟩) c.cs.length cc, .slice sa c.ss.length sc, .slice da c.d.length dc, .int .i64 c.n]) := q9
        clear q9
        generalize wr.drew = z1 at HH H HB1 ⊢
        refine wpAnyH_take (i := 0) (v := .pointer (some ⟨b3, 1, none⟩)) ov0 (by kernel_rfl) (by kernel_rfl) (by kernel_rfl) (fun _ _ _ h => h) (Or.inl ⟨by rfl, fun V' hS => ?_⟩) HH ?_
        · go_simp
        simp only [Act.put, List.setIfInBounds_toArray, List.set_cons_zero, List.set_cons_succ]
        refine wpAnyH_take (i := 2) (v := .pointer (some ⟨b1, 1, none⟩)) ov2 (by kernel_rfl) (by kernel_rfl) (by kernel_rfl) (fun _ _ _ h => h) (Or.inl ⟨by rfl, fun V' hS => ?_⟩) HH ?_
        · go_simp
        simp only [Act.put, List.setIfInBounds_toArray, List.set_cons_zero, List.set_cons_succ]
        refine wpAnyH_take (i := 3) (v := .slice (some ⟨g, a, none⟩) c.cs.length cc) ov3 (by kernel_rfl) (by kernel_rfl) (by kernel_rfl) (fun _ _ _ h => h) (Or.inl ⟨by rfl, fun V' hS => ?_⟩) HH ?_
        · have c0 := hS.1.cell 1
          go_simp
        simp only [Act.put, List.setIfInBounds_toArray, List.set_cons_zero, List.set_cons_succ]
        refine wpAnyH_take (i := 4) (v := .int .i64 (k : Int)) ov4 (by kernel_rfl) (by kernel_rfl) (by kernel_rfl) (fun _ _ _ h => h) (Or.inl ⟨by rfl, fun V' hS => ?_⟩) HH ?_
        · go_simp
        simp only [Act.put, List.setIfInBounds_toArray, List.set_cons_zero, List.set_cons_succ]
        refine wpAnyH_take (i := 5) (v := .pointer (some ⟨g, a + k, none⟩)) ov5 (by kernel_rfl) (by kernel_rfl) (by kernel_rfl) (fun _ _ _ h => h) (Or.inl ⟨by rfl, fun V' hS => ?_⟩) HH ?_
        · go_simp
        simp only [Act.put, List.setIfInBounds_toArray, List.set_cons_zero, List.set_cons_succ]
        refine wpAnyH_take (i := 6) (v := .slice xua x.length xuc) ov6 (by kernel_rfl) (by kernel_rfl) (by kernel_rfl) (fun _ _ _ h => h) (Or.inl ⟨by rfl, fun V' hS => ?_⟩) HH ?_
        · have c0 := PX.out V' hS.2
          go_simp
        simp only [Act.put, List.setIfInBounds_toArray, List.set_cons_zero, List.set_cons_succ]
        refine wpAnyH_ready (rs := [1, 7]) (by kernel_rfl) (by simp) ?_
        refine AllReadyH.cons ov1 (fun K hK => ?_) (AllReadyH.cons ov7 (fun K hK => ?_) AllReadyH.nil)
        · rw [if_pos (by rfl)]
          have c0 := H.out.box.cell 1
          go_simp
          clear c0
          refine hK.out _ _ HH (fun _ => ?_)
          clear hK K
          (try simp only [Act.put, List.setIfInBounds_toArray, List.set_cons_zero, List.set_cons_succ])
          refine wpAnyH_ready (rs := [7]) (by kernel_rfl) (by simp) ?_
          refine AllReadyH.cons ov7 (fun K hK => ?_) AllReadyH.nil
          rw [if_pos (by rfl)]
          go_simp
          refine (row_is _ _ x (HXB.out _ HH.2) HXL.out).mono ?_
          rintro e z8 ⟨v9, rfl, hO, hB⟩
          obtain ⟨ra, rc, rfl⟩ := owns_sl hO
          have FR : Hid (z8.ownsRow B 5 1 (.slice ra x.length rc) x.length (bV x)) := owns_base hO H.out.le
          have q9 := H.out.past hB
          clear H
          have H : Hid (CpL b3 B w Z z8 [.slice qa c.ts.length qc, .slice pa k pc, .slice none 0 0, .slice ea c.d.length ec, .int .i64 c.n] (.slice pa k pc) (c.cs.take k)) := q9
          clear q9
          have q9 := HB1.out.past hB
          clear HB1
          have HB1 : Hid (CBox z8 b1 28 [.slice ta c.ts.length tc, .slice (some ⟨g, a, none⟩) c.cs.length cc, .slice sa c.ss.length sc, .slice da c.d.length dc, .int .i64 c.n]) := q9
          clear q9
          clear hO hB
          (try go_wp2_with fail)
          refine hK.out _ _ ⟨HB1.out, H.out.bel⟩ (fun _ => ?_)
          clear hK K
          (try simp only [Act.put, List.setIfInBounds_toArray, List.set_cons_zero, List.set_cons_succ])
          skip
          generalize z8 = z1 at H HB1 FR ⊢
          refine wpAnyH_ready (rs := [8]) (by kernel_rfl) (by simp) ?_
          refine AllReadyH.cons ov8 (fun K hK => ?_) AllReadyH.nil
          rw [if_pos (by rfl)]
          go_simp
          have hB : Below z1.heap.size z1 (z1.alloc (.cells #[.slice ra x.length rc] 22)) := below_alloc _ _
          have F9 := CBox.new z1 22 [.slice ra x.length rc]
          have q9 := owns_past FR.out hB
          clear FR
          have FR : Hid (World.ownsRow (z1.alloc (.cells #[.slice ra x.length rc] 22)) B 5 1 (.slice ra x.length rc) x.length (bV x)) := q9
          clear q9
          have q9 := H.out.past hB
          clear H
          have H : Hid (CpL b3 B w Z (z1.alloc (.cells #[.slice ra x.length rc] 22)) [.slice qa c.ts.length qc, .slice pa k pc, .slice none 0 0, .slice ea c.d.length ec, .int .i64 c.n] (.slice pa k pc) (c.cs.take k)) := q9
          clear q9
          have q9 := HB1.out.past hB
          clear HB1
          have HB1 : Hid (CBox (z1.alloc (.cells #[.slice ra x.length rc] 22)) b1 28 [.slice ta c.ts.length tc, .slice (some ⟨g, a, none⟩) c.cs.length cc, .slice sa c.ss.length sc, .slice da c.d.length dc, .int .i64 c.n]) := q9
          clear q9
          have FB : Hid (CBox (z1.alloc (.cells #[.slice ra x.length rc] 22)) z1.heap.size 22 [.slice ra x.length rc]) := F9
          clear F9 hB
          refine hK.out _ (z1.alloc (.cells #[.slice ra x.length rc] 22)) ⟨HB1.out, H.out.bel⟩ (fun _ => ?_)
          clear hK K
          (try simp only [Act.put, List.setIfInBounds_toArray, List.set_cons_zero, List.set_cons_succ])
          generalize z1.heap.size = bb at FB ⊢
          generalize (z1.alloc (.cells #[.slice ra x.length rc] 22)) = z1 at H HB1 FB FR ⊢
          refine wpAnyH_ready (rs := [9]) (by kernel_rfl) (by simp) ?_
          refine AllReadyH.cons ov9 (fun K hK => ?_) AllReadyH.nil
          rw [if_pos (by rfl)]
          refine wp_appP1 _ _ rfl B H.out.le (.slice pa k pc) (c.cs.take k) rfl H.out.px (.slice ra x.length rc) x FR.out bb rfl FB.out (by rw [HLK.out]; have := HNB.out; have := HK.out; omega) ?_
          intro v9 z9 hP hb
          rw [← take_snoc HX.out] at hP
          obtain ⟨oa2, oc2, e9⟩ := PO.sl hP
          rw [HLK1.out] at e9
          subst e9
          have hP9 : Hid (PO B z9 (.slice oa2 (k + 1) oc2) (c.cs.take (k + 1)) ∧ But (fun g => B ≤ g) z1 z9) := ⟨hP, hb⟩
          have hb9 : CBox z9 b1 28 [.slice ta c.ts.length tc, .slice (some ⟨g, a, none⟩) c.cs.length cc, .slice sa c.ss.length sc, .slice da c.d.length dc, .int .i64 c.n] := HB1.out.but hb (fun (e : B ≤ b1) => by have := HNE.out.2.2.1; omega)
          have c8 : CBox z9 b3 28 [.slice qa c.ts.length qc, .slice pa k pc, .slice none 0 0, .slice ea c.d.length ec, .int .i64 c.n] := H.out.box.but hb (fun (e : B ≤ b3) => by have := H.out.lt; omega)
          have bel9 : Below w.heap.size w z9 := H.out.bel.trans (hb.below (fun g (e : B ≤ g) => by have h2 := H.out.g3; have h3 := H.out.lt; omega) H.out.bel.size)
          clear FB FR hP hb
          refine hK.out _ z9 ⟨hb9, bel9⟩ (fun _ => ?_)
          clear hK K
          (try simp only [Act.put, List.setIfInBounds_toArray, List.set_cons_zero, List.set_cons_succ])
          refine wpAnyH_take (i := 10) (v := .pointer (some ⟨b3, 1, none⟩)) ov10 (by kernel_rfl) (by kernel_rfl) (by kernel_rfl) (fun _ _ _ h => h) (Or.inl ⟨by rfl, fun V' hS => ?_⟩) ⟨hb9, bel9⟩ ?_
          · go_simp
          simp only [Act.put, List.setIfInBounds_toArray, List.set_cons_zero, List.set_cons_succ]
          refine wpAnyH_ready (rs := [11]) (by kernel_rfl) (by simp) ?_
          refine AllReadyH.cons ov11 (fun K hK => ?_) AllReadyH.nil
          rw [if_pos (by rfl)]
          have k0 := c8.cell 1
          have f0 := CBox.frozen c8 1
          go_simp
          clear k0 f0
          have H9 : Hid (CpL b3 B w Z (z9.setCell ⟨b3, 1, none⟩ (.slice oa2 (k + 1) oc2)) [.slice qa c.ts.length qc, .slice oa2 (k + 1) oc2, .slice none 0 0, .slice ea c.d.length ec, .int .i64 c.n] (.slice oa2 (k + 1) oc2) (c.cs.take (k + 1))) := H.out.app hP9.out.1 hP9.out.2 1
          have hb8 : CBox (z9.setCell ⟨b3, 1, none⟩ (.slice oa2 (k + 1) oc2)) b1 28 [.slice ta c.ts.length tc, .slice (some ⟨g, a, none⟩) c.cs.length cc, .slice sa c.ss.length sc, .slice da c.d.length dc, .int .i64 c.n] := hb9.but ((But.refl (fun y => y = b3) z9).setCell ⟨b3, 1, none⟩ (.slice oa2 (k + 1) oc2) (Or.inl rfl)) HNE.out.1
          refine hK.out _ (z9.setCell ⟨b3, 1, none⟩ (.slice oa2 (k + 1) oc2)) ⟨hb8, H9.out.bel⟩ (fun _ => ?_)
          clear hK K
          (try simp only [Act.put, List.setIfInBounds_toArray, List.set_cons_zero, List.set_cons_succ])
          generalize (z9.setCell ⟨b3, 1, none⟩ (.slice oa2 (k + 1) oc2)) = z2 at H9 hb8 ⊢
          clear hb9 c8 bel9 hP9 H HB1
          refine wpAnyH_done (by kernel_rfl) ?_ _
          clear hb8 PX HX HLK HLK1 HXB
          go_wp2
          go_roundw
          case rel => exact ⟨k + 1, oa2, oc2, by first | rfl | go_num, by have := HK.out; omega, H9.out⟩
          case measure => simp [intOf]; omega
        · rw [if_pos (by rfl)]
          go_simp
          refine (row_is _ _ x (HXB.out _ HH.2) HXL.out).mono ?_
          rintro e z8 ⟨v9, rfl, hO, hB⟩
          obtain ⟨ra, rc, rfl⟩ := owns_sl hO
          have FR : Hid (z8.ownsRow B 5 1 (.slice ra x.length rc) x.length (bV x)) := owns_base hO H.out.le
          have q9 := H.out.past hB
          clear H
          have H : Hid (CpL b3 B w Z z8 [.slice qa c.ts.length qc, .slice pa k pc, .slice none 0 0, .slice ea c.d.length ec, .int .i64 c.n] (.slice pa k pc) (c.cs.take k)) := q9
          clear q9
          have q9 := HB1.out.past hB
          clear HB1
          have HB1 : Hid (CBox z8 b1 28 [.slice ta c.ts.length tc, .slice (some ⟨g, a, none⟩) c.cs.length cc, .slice sa c.ss.length sc, .slice da c.d.length dc, .int .i64 c.n]) := q9
          clear q9
          clear hO hB
          (try go_wp2_with fail)
          refine hK.out _ _ ⟨HB1.out, H.out.bel⟩ (fun _ => ?_)
          clear hK K
          (try simp only [Act.put, List.setIfInBounds_toArray, List.set_cons_zero, List.set_cons_succ])
          skip
          generalize z8 = z1 at H HB1 FR ⊢
          refine wpAnyH_ready (rs := [1, 8]) (by kernel_rfl) (by simp) ?_
          refine AllReadyH.cons ov1 (fun K hK => ?_) (AllReadyH.cons ov8 (fun K hK => ?_) AllReadyH.nil)
          · rw [if_pos (by rfl)]
            have c0 := H.out.box.cell 1
            go_simp
            clear c0
            refine hK.out _ _ ⟨HB1.out, H.out.bel⟩ (fun _ => ?_)
            clear hK K
            (try simp only [Act.put, List.setIfInBounds_toArray, List.set_cons_zero, List.set_cons_succ])
            refine wpAnyH_ready (rs := [8]) (by kernel_rfl) (by simp) ?_
            refine AllReadyH.cons ov8 (fun K hK => ?_) AllReadyH.nil
            rw [if_pos (by rfl)]
            go_simp
            have hB : Below z1.heap.size z1 (z1.alloc (.cells #[.slice ra x.length rc] 22)) := below_alloc _ _
            have F9 := CBox.new z1 22 [.slice ra x.length rc]
            have q9 := owns_past FR.out hB
            clear FR
            have FR : Hid (World.ownsRow (z1.alloc (.cells #[.slice ra x.length rc] 22)) B 5 1 (.slice ra x.length rc) x.length (bV x)) := q9
            clear q9
            have q9 := H.out.past hB
            clear H
            have H : Hid (CpL b3 B w Z (z1.alloc (.cells #[.slice ra x.length rc] 22)) [.slice qa c.ts.length qc, .slice pa k pc, .slice none 0 0, .slice ea c.d.length ec, .int .i64 c.n] (.slice pa k pc) (c.cs.take k)) := q9
            clear q9
            have q9 := HB1.out.past hB
            clear HB1
            have HB1 : Hid (CBox (z1.alloc (.cells #[.slice ra x.length rc] 22)) b1 28 [.slice ta c.ts.length tc, .slice (some ⟨g, a, none⟩) c.cs.length cc, .slice sa c.ss.length sc, .slice da c.d.length dc, .int .i64 c.n]) := q9
            clear q9
            have FB : Hid (CBox (z1.alloc (.cells #[.slice ra x.length rc] 22)) z1.heap.size 22 [.slice ra x.length rc]) := F9
            clear F9 hB
            refine hK.out _ (z1.alloc (.cells #[.slice ra x.length rc] 22)) ⟨HB1.out, H.out.bel⟩ (fun _ => ?_)
            clear hK K
            (try simp only [Act.put, List.setIfInBounds_toArray, List.set_cons_zero, List.set_cons_succ])
            generalize z1.heap.size = bb at FB ⊢
            generalize (z1.alloc (.cells #[.slice ra x.length rc] 22)) = z1 at H HB1 FB FR ⊢
            refine wpAnyH_ready (rs := [9]) (by kernel_rfl) (by simp) ?_
            refine AllReadyH.cons ov9 (fun K hK => ?_) AllReadyH.nil
            rw [if_pos (by rfl)]
            refine wp_appP1 _ _ rfl B H.out.le (.slice pa k pc) (c.cs.take k) rfl H.out.px (.slice ra x.length rc) x FR.out bb rfl FB.out (by rw [HLK.out]; have := HNB.out; have := HK.out; omega) ?_
            intro v9 z9 hP hb
            rw [← take_snoc HX.out] at hP
            obtain ⟨oa2, oc2, e9⟩ := PO.sl hP
            rw [HLK1.out] at e9
            subst e9
            have hP9 : Hid (PO B z9 (.slice oa2 (k + 1) oc2) (c.cs.take (k + 1)) ∧ But (fun g => B ≤ g) z1 z9) := ⟨hP, hb⟩
            have hb9 : CBox z9 b1 28 [.slice ta c.ts.length tc, .slice (some ⟨g, a, none⟩) c.cs.length cc, .slice sa c.ss.length sc, .slice da c.d.length dc, .int .i64 c.n] := HB1.out.but hb (fun (e : B ≤ b1) => by have := HNE.out.2.2.1; omega)
            have c8 : CBox z9 b3 28 [.slice qa c.ts.length qc, .slice pa k pc, .slice none 0 0, .slice ea c.d.length ec, .int .i64 c.n] := H.out.box.but hb (fun (e : B ≤ b3) => by have := H.out.lt; omega)
            have bel9 : Below w.heap.size w z9 := H.out.bel.trans (hb.below (fun g (e : B ≤ g) => by have h2 := H.out.g3; have h3 := H.out.lt; omega) H.out.bel.size)
            clear FB FR hP hb
            refine hK.out _ z9 ⟨hb9, bel9⟩ (fun _ => ?_)
            clear hK K
            (try simp only [Act.put, List.setIfInBounds_toArray, List.set_cons_zero, List.set_cons_succ])
            refine wpAnyH_take (i := 10) (v := .pointer (some ⟨b3, 1, none⟩)) ov10 (by kernel_rfl) (by kernel_rfl) (by kernel_rfl) (fun _ _ _ h => h) (Or.inl ⟨by rfl, fun V' hS => ?_⟩) ⟨hb9, bel9⟩ ?_
            · go_simp
            simp only [Act.put, List.setIfInBounds_toArray, List.set_cons_zero, List.set_cons_succ]
            refine wpAnyH_ready (rs := [11]) (by kernel_rfl) (by simp) ?_
            refine AllReadyH.cons ov11 (fun K hK => ?_) AllReadyH.nil
            rw [if_pos (by rfl)]
            have k0 := c8.cell 1
            have f0 := CBox.frozen c8 1
            go_simp
            clear k0 f0
            have H9 : Hid (CpL b3 B w Z (z9.setCell ⟨b3, 1, none⟩ (.slice oa2 (k + 1) oc2)) [.slice qa c.ts.length qc, .slice oa2 (k + 1) oc2, .slice none 0 0, .slice ea c.d.length ec, .int .i64 c.n] (.slice oa2 (k + 1) oc2) (c.cs.take (k + 1))) := H.out.app hP9.out.1 hP9.out.2 1
            have hb8 : CBox (z9.setCell ⟨b3, 1, none⟩ (.slice oa2 (k + 1) oc2)) b1 28 [.slice ta c.ts.length tc, .slice (some ⟨g, a, none⟩) c.cs.length cc, .slice sa c.ss.length sc, .slice da c.d.length dc, .int .i64 c.n] := hb9.but ((But.refl (fun y => y = b3) z9).setCell ⟨b3, 1, none⟩ (.slice oa2 (k + 1) oc2) (Or.inl rfl)) HNE.out.1
            refine hK.out _ (z9.setCell ⟨b3, 1, none⟩ (.slice oa2 (k + 1) oc2)) ⟨hb8, H9.out.bel⟩ (fun _ => ?_)
            clear hK K
            (try simp only [Act.put, List.setIfInBounds_toArray, List.set_cons_zero, List.set_cons_succ])
            generalize (z9.setCell ⟨b3, 1, none⟩ (.slice oa2 (k + 1) oc2)) = z2 at H9 hb8 ⊢
            clear hb9 c8 bel9 hP9 H HB1
            refine wpAnyH_done (by kernel_rfl) ?_ _
            clear hb8 PX HX HLK HLK1 HXB
            go_wp2
            go_roundw
            case rel => exact ⟨k + 1, oa2, oc2, by first | rfl | go_num, by have := HK.out; omega, H9.out⟩
            case measure => simp [intOf]; omega
          · rw [if_pos (by rfl)]
            go_simp
            have hB : Below z1.heap.size z1 (z1.alloc (.cells #[.slice ra x.length rc] 22)) := below_alloc _ _
            have F9 := CBox.new z1 22 [.slice ra x.length rc]
            have q9 := owns_past FR.out hB
            clear FR
            have FR : Hid (World.ownsRow (z1.alloc (.cells #[.slice ra x.length rc] 22)) B 5 1 (.slice ra x.length rc) x.length (bV x)) := q9
            clear q9
            have q9 := H.out.past hB
            clear H
            have H : Hid (CpL b3 B w Z (z1.alloc (.cells #[.slice ra x.length rc] 22)) [.slice qa c.ts.length qc, .slice pa k pc, .slice none 0 0, .slice ea c.d.length ec, .int .i64 c.n] (.slice pa k pc) (c.cs.take k)) := q9
            clear q9
            have q9 := HB1.out.past hB
            clear HB1
            have HB1 : Hid (CBox (z1.alloc (.cells #[.slice ra x.length rc] 22)) b1 28 [.slice ta c.ts.length tc, .slice (some ⟨g, a, none⟩) c.cs.length cc, .slice sa c.ss.length sc, .slice da c.d.length dc, .int .i64 c.n]) := q9
            clear q9
            have FB : Hid (CBox (z1.alloc (.cells #[.slice ra x.length rc] 22)) z1.heap.size 22 [.slice ra x.length rc]) := F9
            clear F9 hB
            refine hK.out _ (z1.alloc (.cells #[.slice ra x.length rc] 22)) ⟨HB1.out, H.out.bel⟩ (fun _ => ?_)
            clear hK K
            (try simp only [Act.put, List.setIfInBounds_toArray, List.set_cons_zero, List.set_cons_succ])
            generalize z1.heap.size = bb at FB ⊢
            generalize (z1.alloc (.cells #[.slice ra x.length rc] 22)) = z1 at H HB1 FB FR ⊢
            refine wpAnyH_ready (rs := [1]) (by kernel_rfl) (by simp) ?_
            refine AllReadyH.cons ov1 (fun K hK => ?_) AllReadyH.nil
            rw [if_pos (by rfl)]
            have c0 := H.out.box.cell 1
            go_simp
            clear c0
            refine hK.out _ _ ⟨HB1.out, H.out.bel⟩ (fun _ => ?_)
            clear hK K
            (try simp only [Act.put, List.setIfInBounds_toArray, List.set_cons_zero, List.set_cons_succ])
            refine wpAnyH_ready (rs := [9]) (by kernel_rfl) (by simp) ?_
            refine AllReadyH.cons ov9 (fun K hK => ?_) AllReadyH.nil
            rw [if_pos (by rfl)]
            refine wp_appP1 _ _ rfl B H.out.le (.slice pa k pc) (c.cs.take k) rfl H.out.px (.slice ra x.length rc) x FR.out bb rfl FB.out (by rw [HLK.out]; have := HNB.out; have := HK.out; omega) ?_
            intro v9 z9 hP hb
            rw [← take_snoc HX.out] at hP
            obtain ⟨oa2, oc2, e9⟩ := PO.sl hP
            rw [HLK1.out] at e9
            subst e9
            have hP9 : Hid (PO B z9 (.slice oa2 (k + 1) oc2) (c.cs.take (k + 1)) ∧ But (fun g => B ≤ g) z1 z9) := ⟨hP, hb⟩
            have hb9 : CBox z9 b1 28 [.slice ta c.ts.length tc, .slice (some ⟨g, a, none⟩) c.cs.length cc, .slice sa c.ss.length sc, .slice da c.d.length dc, .int .i64 c.n] := HB1.out.but hb (fun (e : B ≤ b1) => by have := HNE.out.2.2.1; omega)
            have c8 : CBox z9 b3 28 [.slice qa c.ts.length qc, .slice pa k pc, .slice none 0 0, .slice ea c.d.length ec, .int .i64 c.n] := H.out.box.but hb (fun (e : B ≤ b3) => by have := H.out.lt; omega)
            have bel9 : Below w.heap.size w z9 := H.out.bel.trans (hb.below (fun g (e : B ≤ g) => by have h2 := H.out.g3; have h3 := H.out.lt; omega) H.out.bel.size)
            clear FB FR hP hb
            refine hK.out _ z9 ⟨hb9, bel9⟩ (fun _ => ?_)
            clear hK K
            (try simp only [Act.put, List.setIfInBounds_toArray, List.set_cons_zero, List.set_cons_succ])
            refine wpAnyH_take (i := 10) (v := .pointer (some ⟨b3, 1, none⟩)) ov10 (by kernel_rfl) (by kernel_rfl) (by kernel_rfl) (fun _ _ _ h => h) (Or.inl ⟨by rfl, fun V' hS => ?_⟩) ⟨hb9, bel9⟩ ?_
            · go_simp
            simp only [Act.put, List.setIfInBounds_toArray, List.set_cons_zero, List.set_cons_succ]
            refine wpAnyH_ready (rs := [11]) (by kernel_rfl) (by simp) ?_
            refine AllReadyH.cons ov11 (fun K hK => ?_) AllReadyH.nil
            rw [if_pos (by rfl)]
            have k0 := c8.cell 1
            have f0 := CBox.frozen c8 1
            go_simp
            clear k0 f0
            have H9 : Hid (CpL b3 B w Z (z9.setCell ⟨b3, 1, none⟩ (.slice oa2 (k + 1) oc2)) [.slice qa c.ts.length qc, .slice oa2 (k + 1) oc2, .slice none 0 0, .slice ea c.d.length ec, .int .i64 c.n] (.slice oa2 (k + 1) oc2) (c.cs.take (k + 1))) := H.out.app hP9.out.1 hP9.out.2 1
            have hb8 : CBox (z9.setCell ⟨b3, 1, none⟩ (.slice oa2 (k + 1) oc2)) b1 28 [.slice ta c.ts.length tc, .slice (some ⟨g, a, none⟩) c.cs.length cc, .slice sa c.ss.length sc, .slice da c.d.length dc, .int .i64 c.n] := hb9.but ((But.refl (fun y => y = b3) z9).setCell ⟨b3, 1, none⟩ (.slice oa2 (k + 1) oc2) (Or.inl rfl)) HNE.out.1
            refine hK.out _ (z9.setCell ⟨b3, 1, none⟩ (.slice oa2 (k + 1) oc2)) ⟨hb8, H9.out.bel⟩ (fun _ => ?_)
            clear hK K
            (try simp only [Act.put, List.setIfInBounds_toArray, List.set_cons_zero, List.set_cons_succ])
            generalize (z9.setCell ⟨b3, 1, none⟩ (.slice oa2 (k + 1) oc2)) = z2 at H9 hb8 ⊢
            clear hb9 c8 bel9 hP9 H HB1
            refine wpAnyH_done (by kernel_rfl) ?_ _
            clear hb8 PX HX HLK HLK1 HXB
            go_wp2
            go_roundw
            case rel => exact ⟨k + 1, oa2, oc2, by first | rfl | go_num, by have := HK.out; omega, H9.out⟩
            case measure => simp [intOf]; omega
end Go.Proofs.Ytndhabhlajldeaa
