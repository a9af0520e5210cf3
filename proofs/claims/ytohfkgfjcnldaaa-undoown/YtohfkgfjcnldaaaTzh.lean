/- Tables by what they tell: A (the rows by their keys), H (how they were at the marks); every block has an owner. -/
import Derived.Test.YtohfkgfjcnldaaaTzg
namespace Go.Proofs.Ytohfkgfjcnldaaa
open Go.RowKit Go.Shelf
/-- the block of a list of pairs: nobody writes there -/
def IsPr (w : World) (j : Nat) : Prop := ∃ v l, PrL w v l ∧ v.ownBlock = some j
def Mine (ow : Nat → Nat) (i : Nat) (w : World) (j : Nat) : Prop := ow j = i ∧ ¬ IsPr w j
/-- only i's blocks have changed -/
def Mv (ow : Nat → Nat) (i : Nat) (w w' : World) : Prop := But (Mine ow i w) w w'
/-- what is new is i's -/
def grow (ow : Nat → Nat) (n i : Nat) (j : Nat) : Nat := if j < n then ow j else i
theorem grow_lt {ow : Nat → Nat} {n i j : Nat} (h : j < n) : grow ow n i j = ow j := if_pos h
theorem grow_ge {ow : Nat → Nat} {n i j : Nat} (h : n ≤ j) : grow ow n i j = i := if_neg (by omega)
theorem TabU.ltU {W : World} {b : Nat} {S : Nat → Prop} {L : List (Int × Int)} {V : List Un} {M : List Nat} (h : TabU W b S L V M) (j : Nat) (hj : UB V j) : j < W.heap.size := by
  obtain ⟨pm, ra, rc, ba, bc, ma, mc, m, h1, rfl, h2⟩ := h
  obtain ⟨u, hu, e⟩ := hj
  have hk := h2 u hu
  rcases e with rfl | rfl | ⟨e0, rfl⟩
  · exact hk.cx.lt
  · exact hk.cy.lt
  · exact (hk.cz e0).lt
/-- undo's table -/
structure T1 (W : World) (ow : Nat → Nat) (i b N : Nat) (A : List (Int × Int)) (H : List (List (Int × Int))) : Prop where
  ex : ∃ S L V M, TabU W b S L V M ∧ OkB V L ∧ Mks V M ∧ A = srt L ∧ H = oldL V L M ∧ V.length ≤ N ∧ (∀ j, S j → ow j = i) ∧ ∀ j, UB V j → ow j = i
  lA : A.length ≤ N
  lH : H.length ≤ N
  lO : ∀ l ∈ H, l.length ≤ N
/-- the document's -/
structure R1 (W : World) (ow : Nat → Nat) (i c N : Nat) (A : List (Int × Int)) (H : List (List (Int × Int))) : Prop where
  ex : ∃ lv oa oc OV, RTab W c lv oa oc A OV H ∧ ∀ j, RS c oa j → ow j = i
  lA : A.length ≤ N
  lH : H.length ≤ N
  lO : ∀ l ∈ H, l.length ≤ N
theorem T1.mono {W : World} {ow : Nat → Nat} {i b N N' : Nat} {A : List (Int × Int)} {H : List (List (Int × Int))} (h : T1 W ow i b N A H) (hN : N ≤ N') : T1 W ow i b N' A H := by
  obtain ⟨⟨S, L, V, M, h1, h2, h3, h4, h5, h6, h7, h8⟩, a, b, c⟩ := h
  exact ⟨⟨S, L, V, M, h1, h2, h3, h4, h5, Nat.le_trans h6 hN, h7, h8⟩, Nat.le_trans a hN, Nat.le_trans b hN, fun l hl => Nat.le_trans (c l hl) hN⟩
theorem R1.mono {W : World} {ow : Nat → Nat} {i c N N' : Nat} {A : List (Int × Int)} {H : List (List (Int × Int))} (h : R1 W ow i c N A H) (hN : N ≤ N') : R1 W ow i c N' A H :=
  ⟨h.ex, Nat.le_trans h.lA hN, Nat.le_trans h.lH hN, fun l hl => Nat.le_trans (h.lO l hl) hN⟩
theorem T1.but {W W' : World} {ow : Nat → Nat} {i k b N : Nat} {A : List (Int × Int)} {H : List (List (Int × Int))} (h : T1 W ow i b N A H) {T : Nat → Prop} (hM : But T W W') (hT : ∀ j, ow j = i → ¬ T j) : T1 W' (grow ow W.heap.size k) i b N A H := by
  obtain ⟨⟨S, L, V, M, h1, h2, h3, h4, h5, h6, h7, h8⟩, a, b, c⟩ := h
  refine ⟨⟨S, L, V, M, h1.but hM (fun j hj e => hT j (h7 j hj) e) (fun j hj e => hT j (h8 j hj) e), h2, h3, h4, h5, h6, fun j hj => ?_, fun j hj => ?_⟩, a, b, c⟩
  · rw [grow_lt (h1.lt j hj)]
    exact h7 j hj
  · rw [grow_lt (h1.ltU j hj)]
    exact h8 j hj
theorem T1.keep {W W' : World} {ow : Nat → Nat} {i k b N : Nat} {A : List (Int × Int)} {H : List (List (Int × Int))} (h : T1 W ow i b N A H) (hM : Mv ow k W W') (hk : i ≠ k) : T1 W' (grow ow W.heap.size k) i b N A H := h.but hM (fun _ e f => hk (e.symm.trans f.1))
theorem T1.past {W W' : World} {ow : Nat → Nat} {i k b N : Nat} {A : List (Int × Int)} {H : List (List (Int × Int))} (h : T1 W ow i b N A H) (hM : Below W.heap.size W W') : T1 W' (grow ow W.heap.size k) i b N A H := h.but (below_but (S := fun _ => False) hM) (fun _ _ => id)
theorem R1.but {W W' : World} {ow : Nat → Nat} {i k c N : Nat} {A : List (Int × Int)} {H : List (List (Int × Int))} (h : R1 W ow i c N A H) {T : Nat → Prop} (hM : But T W W') (hT : ∀ j, ow j = i → ¬ T j) (hP : ∀ j, IsPr W j → ¬ T j) : R1 W' (grow ow W.heap.size k) i c N A H := by
  obtain ⟨⟨lv, oa, oc, OV, h1, h2⟩, a, b, c⟩ := h
  refine ⟨⟨lv, oa, oc, OV, h1.but hM (fun j hj e => hT j (h2 j hj) e) (fun v l hv j hj e => hP j ⟨v, l, hv, hj⟩ e), fun j hj => ?_⟩, a, b, c⟩
  rw [grow_lt (h1.lt j hj)]
  exact h2 j hj
theorem R1.keep {W W' : World} {ow : Nat → Nat} {i k c N : Nat} {A : List (Int × Int)} {H : List (List (Int × Int))} (h : R1 W ow i c N A H) (hM : Mv ow k W W') (hk : i ≠ k) : R1 W' (grow ow W.heap.size k) i c N A H := h.but hM (fun _ e f => hk (e.symm.trans f.1)) (fun _ hp e => e.2 hp)
theorem R1.past {W W' : World} {ow : Nat → Nat} {i k c N : Nat} {A : List (Int × Int)} {H : List (List (Int × Int))} (h : R1 W ow i c N A H) (hM : Below W.heap.size W W') : R1 W' (grow ow W.heap.size k) i c N A H := h.but (below_but (S := fun _ => False) hM) (fun _ _ => id) (fun _ _ => id)
theorem Mv.below {ow : Nat → Nat} {i : Nat} {w w' : World} (h : Below w.heap.size w w') : Mv ow i w w' := below_but h
theorem Mv.same {ow : Nat → Nat} {i : Nat} {w : World} : Mv ow i w w := But.refl _ _
theorem IsPr.keep {ow : Nat → Nat} {i : Nat} {w w' : World} (h : Mv ow i w w') {j : Nat} (hj : IsPr w j) : IsPr w' j := by
  obtain ⟨v, l, hv, e⟩ := hj
  exact ⟨v, l, hv.but h (fun k hk f => f.2 ⟨v, l, hv, hk⟩), e⟩
theorem Mv.trans {ow : Nat → Nat} {i : Nat} {u v w : World} (h : Mv ow i u v) (k : Mv (grow ow u.heap.size i) i v w) : Mv ow i u w := by
  refine ⟨k.os.trans h.os, k.tape.trans h.tape, k.output.trans h.output, Nat.le_trans h.size k.size, fun j hj hn => ?_⟩
  refine (k.block j (Nat.lt_of_lt_of_le hj h.size) fun e => hn ?_).trans (h.block j hj hn)
  refine ⟨(grow_lt hj).symm.trans e.1, fun hp => e.2 (IsPr.keep h hp)⟩
theorem Mv.low {ow : Nat → Nat} {i B : Nat} {w w' : World} (h : Mv ow i w w') (hB : ∀ j, j < B → ow j ≠ i) (hb : B ≤ w.heap.size) : Below B w w' :=
  But.below h (fun k e => by rcases Nat.lt_or_ge k B with h1 | h1; exact absurd e.1 (hB k h1); exact h1) hb
theorem grow_low {ow : Nat → Nat} {n i B k : Nat} (h : ∀ j, j < B → ow j ≠ k) (hB : B ≤ n) (j : Nat) (hj : j < B) : grow ow n i j ≠ k := by
  rw [grow_lt (by omega)]
  exact h j hj
/-- behind a step of undo's table -/
theorem T1.next {w w' : World} {ow : Nat → Nat} {i b N : Nat} {S S' : Nat → Prop} {L L' : List (Int × Int)} {V V' : List Un} {M M' : List Nat} {A' : List (Int × Int)} {H' : List (List (Int × Int))} (h1 : TabU w b S L V M) (h7 : ∀ j, S j → ow j = i) (h8 : ∀ j, UB V j → ow j = i) (q1 : TabU w' b S' L' V' M') (q2 : But S w w') (q3 : Grown S S' w) (q4 : ∀ j, UB V' j → UB V j ∨ w.heap.size ≤ j)
    (ok : OkB V' L') (mk : Mks V' M') (eA : A' = srt L') (eH : H' = oldL V' L' M') (lV : V'.length ≤ N) (lA : A'.length ≤ N) (lH : H'.length ≤ N) (lO : ∀ l ∈ H', l.length ≤ N) : T1 w' (grow ow w.heap.size i) i b N A' H' ∧ Mv ow i w w' := by
  refine ⟨⟨⟨S', L', V', M', q1, ok, mk, eA, eH, lV, fun j hj => ?_, fun j hj => ?_⟩, lA, lH, lO⟩, q2.mono fun j hj => ⟨h7 j hj, fun ⟨v, l, hv, e⟩ => h1.noPr v l hv j e hj⟩⟩
  · rcases q3 j hj with e | e
    · rw [grow_lt (h1.lt j e)]
      exact h7 j e
    · exact grow_ge e
  · rcases q4 j hj with e | e
    · rw [grow_lt (h1.ltU j e)]
      exact h8 j e
    · exact grow_ge e
theorem noted_ub {n : Nat} {M : List Nat} {V V' : List Un} {L L' : List (Int × Int)} (h : Noted n M V V' L L') (j : Nat) (hj : UB V' j) : UB V j ∨ n ≤ j := by
  rcases h with ⟨_, rfl⟩ | ⟨_, u, rfl, _, _, a, b, c⟩
  · exact Or.inl hj
  · obtain ⟨x, hx, e⟩ := hj
    rcases List.mem_append.1 hx with hx | hx
    · exact Or.inl ⟨x, hx, e⟩
    · obtain rfl : x = u := by simpa using hx
      rcases e with rfl | rfl | ⟨e0, rfl⟩
      · exact Or.inr a
      · exact Or.inr b
      · exact Or.inr (c e0)
/-- behind a step of the document's table -/
theorem R1.next {w w' : World} {ow : Nat → Nat} {i c N : Nat} {lv lv' : Value} {oa oa' : Option Addr} {oc oc' : Nat} {OV OV' : List Value} {A A' : List (Int × Int)} {H H' : List (List (Int × Int))} (h1 : RTab w c lv oa oc A OV H) (h2 : ∀ j, RS c oa j → ow j = i) (q1 : RTab w' c lv' oa' oc' A' OV' H') (q2 : But (RS c oa) w w') (q3 : Grown (RS c oa) (RS c oa') w)
    (lA : A'.length ≤ N) (lH : H'.length ≤ N) (lO : ∀ l ∈ H', l.length ≤ N) : R1 w' (grow ow w.heap.size i) i c N A' H' ∧ Mv ow i w w' := by
  refine ⟨⟨⟨lv', oa', oc', OV', q1, fun j hj => ?_⟩, lA, lH, lO⟩, q2.mono fun j hj => ⟨h2 j hj, fun ⟨v, l, hv, e⟩ => h1.apart hv j e hj⟩⟩
  rcases q3 j hj with e | e
  · rw [grow_lt (h1.lt j e)]
    exact h2 j e
  · exact grow_ge e
/-- what the calls do to A and H -/
def delA (A : List (Int × Int)) (k : Int) : List (Int × Int) := if (getR A k).isSome then delRL A k else A
def isM (H : List (List (Int × Int))) (k : Int) : Bool := decide (0 ≤ k ∧ k < (H.length : Int))
def bkE (H : List (List (Int × Int))) (k : Int) : Int := if isM H k then 0 else 30
def bkA (A : List (Int × Int)) (H : List (List (Int × Int))) (k : Int) : List (Int × Int) := if isM H k then H[k.toNat]?.getD [] else A
def bkH (H : List (List (Int × Int))) (k : Int) : List (List (Int × Int)) := if isM H k then H.take k.toNat else H
theorem getR_some {A : List (Int × Int)} {k : Int} : (getR A k).isSome = true ↔ (plc A k < A.length ∧ (atL A (plc A k)).1 = k) := by
  unfold getR
  split
  · rename_i h; exact ⟨fun _ => h, fun _ => rfl⟩
  · rename_i h; exact ⟨fun e => (by cases e), fun e => absurd e h⟩
theorem setRL_len (A : List (Int × Int)) (k v : Int) : (setRL A k v).length ≤ A.length + 1 := by
  unfold setRL setAt
  have := plc_le A k
  simp only [List.length_append, List.length_take, List.length_drop, List.length_singleton]
  split <;> omega
theorem delRL_len (A : List (Int × Int)) (k : Int) : (delRL A k).length ≤ A.length := by
  unfold delRL
  simp only [List.length_append, List.length_take, List.length_drop]
  omega
theorem delA_len (A : List (Int × Int)) (k : Int) : (delA A k).length ≤ A.length := by
  unfold delA
  split
  · exact delRL_len A k
  · exact Nat.le_refl _
theorem oldL_len (V : List Un) (L : List (Int × Int)) (M : List Nat) : (oldL V L M).length = M.length := List.length_map _
theorem bk_lens {A : List (Int × Int)} {H : List (List (Int × Int))} {N : Nat} (lA : A.length ≤ N) (lH : H.length ≤ N) (lO : ∀ l ∈ H, l.length ≤ N) (k : Int) : (bkA A H k).length ≤ N ∧ (bkH H k).length ≤ N ∧ ∀ l ∈ bkH H k, l.length ≤ N := by
  unfold bkA bkH
  split
  · refine ⟨?_, ?_, fun l hl => lO l (List.mem_of_mem_take hl)⟩
    · cases e : H[k.toNat]? with
      | none => exact Nat.zero_le _
      | some l => exact lO l (List.mem_iff_getElem?.2 ⟨_, e⟩)
    · rw [List.length_take]; omega
  · exact ⟨lA, lH, lO⟩
end Go.Proofs.Ytohfkgfjcnldaaa
