/- The document's containers: what its Parse leans on. -/
import Derived.Test.YtndhabhlajldeaaBro
import Derived.Test.YtndhabhlajldeaaBrl
import Derived.Test.YtndhabhlajldeaaBkz
namespace Go.Proofs.Ytndhabhlajldeaa
open Go.RowKit
/-- no header is refused for nothing -/
theorem hdr_no0 (b : List Nat) (a : Nat) : hdr b ≠ .error (0, a) := by
  have hf : ∀ k w y p, 0 < y → fld b k w y p ≠ .error (0, a) := by
    intro k w y p hy h
    unfold fld at h
    split at h
    · cases h
    · split at h
      · cases h
      · injection h with h
        injection h with h _
        omega
  have hf0 : ∀ k w, fld b k w 0 (fun _ => true) ≠ .error (0, a) := by
    intro k w h
    unfold fld at h
    split at h
    · cases h
    · cases h
  have hl : ∀ w m k, lens b w k m ≠ .error (0, a) := by
    intro w m
    induction m with
    | zero => intro k h; cases h
    | succ m ih =>
      intro k h
      unfold lens at h
      cases e1 : fld b k w 56 (fun n => decide (0 < n)) with
      | error er => rw [e1] at h; cases h; exact hf _ _ _ _ (by omega) e1
      | ok x =>
        rw [e1] at h
        cases e2 : lens b w (k + w) m with
        | error er => simp only [Except.bind, e2] at h; cases h; exact ih _ e2
        | ok r => simp only [Except.bind, e2] at h; cases h
  have hb : ∀ {α β : Type} (x : Except Er α) (f : α → Except Er β), x ≠ .error (0, a) → (∀ v, f v ≠ .error (0, a)) → x.bind f ≠ .error (0, a) := by
    intro α β x f h1 h2 h
    cases x with
    | error er => exact h1 (by cases h; rfl)
    | ok v => exact h2 v h
  have he : ∀ k cs ss, hdEnd b k cs ss ≠ .error (0, a) := fun k cs ss => hb _ _ (hf0 _ _) fun d => hb _ _ (hf _ _ _ _ (by omega)) fun _ h => by cases h
  unfold hdr
  refine hb _ _ (hf _ _ _ _ (by omega)) fun _ => hb _ _ (hf _ _ _ _ (by omega)) fun _ => hb _ _ (hf _ _ _ _ (by omega)) fun _ => hb _ _ (hf _ _ _ _ (by omega)) fun _ => hb _ _ (hf _ _ _ _ (by omega)) fun t => hb _ _ (hf _ _ _ _ (by omega)) fun _ => hb _ _ (hf _ _ _ _ (by omega)) fun m => hb _ _ (hl _ _ _) fun cs => ?_
  unfold hdKind
  refine hb _ _ (hf _ _ _ _ (by omega)) fun q => ?_
  split
  · unfold hdSubs
    exact hb _ _ (hf _ _ _ _ (by omega)) fun s => hb _ _ (hl _ _ _) fun ss => hb _ _ (hf _ _ _ _ (by omega)) fun _ => he _ _ _
  · exact he _ _ _
theorem hdr_e {b : List Nat} (hb : Byt b) {h : Hd} (g : hdr b = .ok h) : h.e ≤ b.length := by
  have H := hdr_ok hb g
  have h1 := congrArg List.length H.eq
  rw [List.length_append] at h1
  rw [H.e]
  omega
/-- a type, by what is wrong with it -/
theorem tyAt_is (b : List Nat) (k i : Nat) (h : k + 4 ≤ b.length) : tyAt b k i = if tyBad i ((rd b k 1 : Int), (rd b (k + 1) 1 : Int), (rd b (k + 2) 2 : Int)) < 3 then .error (59, k + tyBad i ((rd b k 1 : Int), (rd b (k + 1) 1 : Int), (rd b (k + 2) 2 : Int))) else .ok ((rd b k 1 : Int), (rd b (k + 1) 1 : Int), (rd b (k + 2) 2 : Int)) := by
  unfold tyAt tyBad
  cases e0 : okIn i (rd b k 1 : Int) with
  | false => rw [fld_no (by omega) e0]; simp [Except.bind]
  | true =>
    rw [fld_ok (by omega) e0]
    simp only [Except.bind]
    cases e1 : okOut i (rd b (k + 1) 1 : Int) with
    | false => rw [fld_no (by omega) e1]; simp
    | true =>
      rw [fld_ok (by omega) e1]
      simp only []
      cases e2 : okMost (rd b (k + 2) 2 : Int) with
      | false => rw [fld_no (by omega) e2]; simp
      | true => rw [fld_ok (by omega) e2]; simp
/-- what the document's Parse answers -/
def PrD (B : Nat) (r : Except Er Con) (e : Ending) (w' : World) : Prop :=
  match r with
  | .ok c => ∃ v, e = .returned (.tuple #[v, rejV 0 0]) ∧ CW (fun g => B ≤ g) w' v c
  | .error (c, a) => e = .returned (.tuple #[.agg #[.slice none 0 0, .slice none 0 0, .slice none 0 0, .slice none 0 0, .int .i64 0], rejV c a])
/-- append of one type -/
theorem wpList_appT {w : World} {ops : Array Oper} {rest : List Oper} {o : Oper} {a : Act} {Q : Exit → Act → World → Prop} (hgd : o.guard = none) (s x : Operand)
    (ho : o.op = .call { callee := .builtin .append, args := #[s, x], argTypes := #[25, 25] }) (B : Nat) (hB : B ≤ w.heap.size) (v : Value) (l : List Ty) (hs : a.eval s = v) (hown : w.ownsRow B 77 3 v l.length (tV l))
    (x0 x1 x2 : Int) (hx : a.eval x = .slice (some ⟨w.heap.size, 0, none⟩) 1 1) (hn : l.length + 1 ≤ 2199023255552)
    (h : ∀ v' w', App B 77 3 w w' v v' (l ++ [(x0, x1, x2)]).length (tV (l ++ [(x0, x1, x2)])) → wpList Try.prog ops Q rest (a.put o.dst v') w') : wpList Try.prog ops Q (o :: rest) a (w.alloc (.cells #[.int .i64 x0, .int .i64 x1, .int .i64 x2] 77)) :=
  wpList_plain hgd fun _ hK => by
    obtain ⟨ad, cap, rfl⟩ := owns_sl hown
    refine wp_apps s x 25 77 ho (.agg #[.int .i64 0, .int .i64 0, .int .i64 0]) 3 24 Try.underlying25 Try.infoT rfl (by omega) (by omega) B (Nat.le_trans hB (below_alloc _ _).size) ad l.length cap (tV l) hs (owns_past hown (below_alloc _ _)) ⟨w.heap.size, 0, none⟩ 1 1 (tV [(x0, x1, x2)]) hx (tV_len _) (fun j c hj => ?_) (fun u hu => ?_) hn (fun ad' cap' w' q1 q2 q3 => hK _ _ (h _ _ ⟨?_, ?_, fun k hk => ?_⟩))
    · rw [Addr.add_mid, Nat.zero_add]
      exact ((CBox.new w 77 (tV [(x0, x1, x2)])).cell j).trans hj
    · simp [tV] at hu
      rcases hu with rfl | rfl | rfl <;> rfl
    · rw [List.length_append, tV_app]; exact q1
    · have b1 : But (OwnV (.slice ad l.length cap)) w (w.alloc (.cells #[.int .i64 x0, .int .i64 x1, .int .i64 x2] 77)) := below_but (below_alloc _ _)
      exact b1.trans (q2.mono fun k hk => own_iff.1 hk)
    · rcases q3.own (own_iff.2 hk) with e | e
      · exact Or.inl (own_iff.1 e)
      · exact Or.inr (Nat.le_trans (below_alloc _ _).size e)
theorem PO.pl {B : Nat} {W : World} {v : Value} {ll : List (List Nat)} (h : PO B W v ll) (hl : ll.length ≤ 1152921504606846976) (hx : ∀ x ∈ ll, x.length ≤ 1152921504606846976) : PL (fun g => B ≤ g) W v ll := by
  obtain ⟨us, h1, h2, h3⟩ := h
  refine ⟨us, SL.own h2 hl fun g hg => (h2.lt g hg).1, fun i l hi => ?_⟩
  have hlt : i < us.length := by rw [h1]; exact (List.getElem?_eq_some_iff.1 hi).1
  refine ⟨us[i], List.getElem?_eq_getElem hlt, ?_⟩
  have h4 := h3 i us[i] l (List.getElem?_eq_getElem hlt) hi
  exact SL.own h4 (hx l (List.mem_of_getElem? hi)) fun y hy => (h4.lt y hy).1
theorem PO.base {B B' : Nat} {W : World} {v : Value} {ll : List (List Nat)} (h : PO B W v ll) (k : B' ≤ B) : PO B' W v ll := by
  obtain ⟨us, h1, h2, h3⟩ := h
  exact ⟨us, h1, owns_base h2 k, fun i u l a b => owns_base (h3 i u l a b) k⟩
/-- the two boxes of an answer -/
def boxes (W : World) (b4 b5 : Nat) (l4 l5 : List Value) : World := (((((((((W.setCell ⟨b4, 0, none⟩ (l4.getD 0 undef)).setCell ⟨b4, 1, none⟩ (l4.getD 1 undef)).setCell ⟨b4, 2, none⟩ (l4.getD 2 undef)).setCell ⟨b4, 3, none⟩ (l4.getD 3 undef)).setCell ⟨b4, 4, none⟩ (l4.getD 4 undef)).setCell ⟨b5, 0, none⟩ (l5.getD 0 undef)).setCell ⟨b5, 1, none⟩ (l5.getD 1 undef)).setCell ⟨b5, 2, none⟩ (l5.getD 2 undef)).setCell ⟨b5, 3, none⟩ (l5.getD 3 undef))
theorem boxes_is (W : World) (b4 b5 : Nat) (x0 x1 x2 x3 x4 y0 y1 y2 y3 : Value) (h4 : CBox W b4 28 con0L) (h5 : CBox W b5 47 rej0L) (ne : b4 ≠ b5) :
    CBox (boxes W b4 b5 [x0, x1, x2, x3, x4] [y0, y1, y2, y3]) b4 28 [x0, x1, x2, x3, x4] ∧ CBox (boxes W b4 b5 [x0, x1, x2, x3, x4] [y0, y1, y2, y3]) b5 47 [y0, y1, y2, y3] ∧ But (fun g => g = b4 ∨ g = b5) W (boxes W b4 b5 [x0, x1, x2, x3, x4] [y0, y1, y2, y3]) := by
  unfold boxes
  have k4 : But (fun g => g = b4) W (((((W.setCell ⟨b4, 0, none⟩ x0).setCell ⟨b4, 1, none⟩ x1).setCell ⟨b4, 2, none⟩ x2).setCell ⟨b4, 3, none⟩ x3).setCell ⟨b4, 4, none⟩ x4) := (((((But.refl (fun g => g = b4) W).setCell ⟨b4, 0, none⟩ _ (Or.inl rfl)).setCell ⟨b4, 1, none⟩ _ (Or.inl rfl)).setCell ⟨b4, 2, none⟩ _ (Or.inl rfl)).setCell ⟨b4, 3, none⟩ _ (Or.inl rfl)).setCell ⟨b4, 4, none⟩ _ (Or.inl rfl)
  have c4 : CBox (((((W.setCell ⟨b4, 0, none⟩ x0).setCell ⟨b4, 1, none⟩ x1).setCell ⟨b4, 2, none⟩ x2).setCell ⟨b4, 3, none⟩ x3).setCell ⟨b4, 4, none⟩ x4) b4 28 [x0, x1, x2, x3, x4] := ((((h4.set 0 _).set 1 _).set 2 _).set 3 _).set 4 _
  have z5 := h5.but k4 (Ne.symm ne)
  simp only [List.getD_cons_zero, List.getD_cons_succ]
  generalize ((((W.setCell ⟨b4, 0, none⟩ x0).setCell ⟨b4, 1, none⟩ x1).setCell ⟨b4, 2, none⟩ x2).setCell ⟨b4, 3, none⟩ x3).setCell ⟨b4, 4, none⟩ x4 = Z at k4 c4 z5 ⊢
  have k5 : But (fun g => g = b5) Z ((((Z.setCell ⟨b5, 0, none⟩ y0).setCell ⟨b5, 1, none⟩ y1).setCell ⟨b5, 2, none⟩ y2).setCell ⟨b5, 3, none⟩ y3) := ((((But.refl (fun g => g = b5) Z).setCell ⟨b5, 0, none⟩ _ (Or.inl rfl)).setCell ⟨b5, 1, none⟩ _ (Or.inl rfl)).setCell ⟨b5, 2, none⟩ _ (Or.inl rfl)).setCell ⟨b5, 3, none⟩ _ (Or.inl rfl)
  exact ⟨c4.but k5 ne, (((z5.set 0 _).set 1 _).set 2 _).set 3 _, (k4.mono fun g e => Or.inl e).trans (k5.mono fun g e => Or.inr e)⟩
theorem boxes_load (W : World) (b4 b5 : Nat) (x0 x1 x2 x3 x4 y0 y1 y2 y3 : Value) (tmps : Array Value) (ht4 : tmps.getD 4 undef = .pointer (some ⟨b4, 0, none⟩)) (ht5 : tmps.getD 5 undef = .pointer (some ⟨b5, 0, none⟩))
    (hl : (loadVar 28 ⟨b4, 0, none⟩).run Try.prog (boxes W b4 b5 [x0, x1, x2, x3, x4] [y0, y1, y2, y3]) = .ok (.agg #[x0, x1, x2, x3, x4]) (boxes W b4 b5 [x0, x1, x2, x3, x4] [y0, y1, y2, y3])) (hm : (loadVar 47 ⟨b5, 0, none⟩).run Try.prog (boxes W b4 b5 [x0, x1, x2, x3, x4] [y0, y1, y2, y3]) = .ok (.agg #[y0, y1, y2, y3]) (boxes W b4 b5 [x0, x1, x2, x3, x4] [y0, y1, y2, y3])) :
    (results Try.f33 tmps).run Try.prog (boxes W b4 b5 [x0, x1, x2, x3, x4] [y0, y1, y2, y3]) = .ok (.tuple #[.agg #[x0, x1, x2, x3, x4], .agg #[y0, y1, y2, y3]]) (boxes W b4 b5 [x0, x1, x2, x3, x4] [y0, y1, y2, y3]) :=
  results_2c (p := 4) (q := 5) (ty := 28) (tz := 47) Try.results33 _ _ _ ⟨b4, 0, none⟩ ⟨b5, 0, none⟩ ht4 ht5 hl hm
end Go.Proofs.Ytndhabhlajldeaa
