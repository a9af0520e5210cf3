/- What a table tells behind Set and Delete; a table, the law's view of it. -/
import Derived.Test.YtohfkgfjcnldaaaTyc
import Derived.Test.YtohfkgfjcnldaaaRows
import Derived.WalkKit
import Derived.WalkSpells
import Derived.WalkLawsBesides
import Derived.Deep.QuietTactic
import Derived.BigQuiet
import Derived.BigRegion
import Derived.Deep.CutRange
import Derived.Deep.CutBlock
import Derived.Deep.DeepCutAuto
import Derived.LoopTactic
import Derived.LoopN
import Derived.WalkMore
namespace Go.Proofs.Ytohfkgfjcnldaaa
open Go.RowKit Go.Shelf
theorem getR_mem {l : List (Int × Int)} (h : Ris l) {q v : Int} : getR l q = some v ↔ (q, v) ∈ l := by
  refine ⟨fun e => ?_, fun e => ?_⟩
  · obtain ⟨h1, h2⟩ := getR_some.1 (show (getR l q).isSome = true by rw [e]; rfl)
    unfold getR at e
    rw [if_pos ⟨h1, h2⟩] at e
    injection e with e
    have := atL_get h1
    have h9 : atL l (plc l q) = (q, v) := Prod.ext h2 e
    rw [h9] at this
    exact List.mem_iff_getElem?.2 ⟨_, this⟩
  · obtain ⟨i, hi⟩ := List.mem_iff_getElem?.1 e
    have ea : atL l i = (q, v) := by unfold atL; rw [hi]; rfl
    have := getR_at h (i := i) (List.getElem?_eq_some_iff.1 hi).1
    rw [ea] at this
    exact this
theorem has_iff {l : List (Int × Int)} (h : Ris l) {q : Int} : (getR l q).isSome = true ↔ ∃ v, (q, v) ∈ l := by
  refine ⟨fun e => ?_, fun ⟨v, hv⟩ => ?_⟩
  · obtain ⟨v, hv⟩ := Option.isSome_iff_exists.1 e
    exact ⟨v, (getR_mem h).1 hv⟩
  · rw [(getR_mem h).2 hv]; rfl
theorem split_at (l : List (Int × Int)) (i : Nat) (p : Int × Int) : p ∈ l ↔ p ∈ l.take i ∨ p ∈ l.drop i := by
  rw [← List.mem_append, List.take_append_drop]
theorem set_mem {A : List (Int × Int)} (h : Ris A) (k v : Int) (p : Int × Int) : p ∈ setRL A k v ↔ p = (k, v) ∨ (p.1 ≠ k ∧ p ∈ A) := by
  unfold setRL setAt
  have h1 := ris_take (l := A) k
  have h2 := ris_drop h k
  by_cases hg : plc A k < A.length ∧ (atL A (plc A k)).1 = k
  · rw [if_pos hg]
    have h3 := ris_rest h hg.1 hg.2
    have ea := around hg.1
    have em : p ∈ A ↔ p ∈ A.take (plc A k) ∨ p = atL A (plc A k) ∨ p ∈ A.drop (plc A k + 1) := by
      conv => lhs; rw [ea]
      rw [List.mem_append, List.mem_cons]
    rw [em, List.mem_append, List.mem_append, List.mem_singleton]
    refine ⟨?_, ?_⟩
    · rintro ((e | e) | e)
      · exact Or.inr ⟨by have := h1 p e; omega, Or.inl e⟩
      · exact Or.inl e
      · exact Or.inr ⟨by have := h3 p e; omega, Or.inr (Or.inr e)⟩
    · rintro (e | ⟨e1, e | e | e⟩)
      · exact Or.inl (Or.inr e)
      · exact Or.inl (Or.inl e)
      · rw [e] at e1; exact absurd hg.2 e1
      · exact Or.inr e
  · rw [if_neg hg, List.mem_append, List.mem_append, List.mem_singleton, split_at A (plc A k) p]
    have h9 : ∀ q ∈ A, q.1 ≠ k := fun q hq e => hg (getR_some.1 ((has_iff h).2 ⟨q.2, by rw [← e]; exact hq⟩))
    refine ⟨?_, ?_⟩
    · rintro ((e | e) | e)
      · exact Or.inr ⟨h9 p ((split_at A _ p).2 (Or.inl e)), Or.inl e⟩
      · exact Or.inl e
      · exact Or.inr ⟨h9 p ((split_at A _ p).2 (Or.inr e)), Or.inr e⟩
    · rintro (e | ⟨_, e | e⟩)
      · exact Or.inl (Or.inr e)
      · exact Or.inl (Or.inl e)
      · exact Or.inr e
theorem del_mem {A : List (Int × Int)} (h : Ris A) (k : Int) (p : Int × Int) : p ∈ delA A k ↔ p.1 ≠ k ∧ p ∈ A := by
  unfold delA
  by_cases hg : (getR A k).isSome = true
  · rw [if_pos hg]
    obtain ⟨g1, g2⟩ := getR_some.1 hg
    unfold delRL
    have h1 := ris_take (l := A) k
    have h3 := ris_rest h g1 g2
    have ea := around g1
    have em : p ∈ A ↔ p ∈ A.take (plc A k) ∨ p = atL A (plc A k) ∨ p ∈ A.drop (plc A k + 1) := by
      conv => lhs; rw [ea]
      rw [List.mem_append, List.mem_cons]
    rw [em, List.mem_append]
    refine ⟨?_, ?_⟩
    · rintro (e | e)
      · exact ⟨by have := h1 p e; omega, Or.inl e⟩
      · exact ⟨by have := h3 p e; omega, Or.inr (Or.inr e)⟩
    · rintro ⟨e1, e | e | e⟩
      · exact Or.inl e
      · rw [e] at e1; exact absurd g2 e1
      · exact Or.inr e
  · rw [if_neg hg]
    exact ⟨fun e => ⟨fun ek => hg ((has_iff h).2 ⟨p.2, by rw [← ek]; exact e⟩), e⟩, fun e => e.2⟩
theorem getR_set {A : List (Int × Int)} (h : Ris A) {k v : Int} (h' : Ris (setRL A k v)) (q : Int) : getR (setRL A k v) q = if q = k then some v else getR A q := by
  apply Option.ext
  intro x
  rw [getR_mem h', set_mem h]
  split
  · rename_i e
    subst e
    exact ⟨fun e => e.elim (fun e => by injection e with _ e; rw [e]) (fun e => absurd rfl e.1), fun e => by injection e with e; subst e; exact Or.inl rfl⟩
  · rename_i e
    rw [getR_mem h]
    exact ⟨fun f => f.elim (fun f => by injection f with f _; exact absurd f e) (fun f => f.2), fun f => Or.inr ⟨e, f⟩⟩
theorem getR_del {A : List (Int × Int)} (h : Ris A) {k : Int} (h' : Ris (delA A k)) (q : Int) : getR (delA A k) q = if q = k then none else getR A q := by
  apply Option.ext
  intro x
  rw [getR_mem h', del_mem h]
  split
  · rename_i e
    exact ⟨fun f => absurd e f.1, fun f => by cases f⟩
  · rename_i e
    rw [getR_mem h]
    exact ⟨fun f => f.2, fun f => ⟨e, f⟩⟩
theorem set_len (A : List (Int × Int)) (k v : Int) : (setRL A k v).length = if (getR A k).isSome then A.length else A.length + 1 := by
  unfold setRL setAt
  have := plc_le A k
  by_cases hg : (getR A k).isSome = true
  · rw [if_pos hg, if_pos (getR_some.1 hg)]
    have := (getR_some.1 hg).1
    simp only [List.length_append, List.length_take, List.length_drop, List.length_singleton]
    omega
  · rw [if_neg hg, if_neg (fun e => hg (getR_some.2 e))]
    simp only [List.length_append, List.length_take, List.length_drop, List.length_singleton]
    omega
theorem del_len (A : List (Int × Int)) (k : Int) (hg : (getR A k).isSome = true) : (delA A k).length + 1 = A.length := by
  unfold delA
  rw [if_pos hg]
  have := (getR_some.1 hg).1
  unfold delRL
  simp only [List.length_append, List.length_take, List.length_drop]
  omega
theorem del_none {A : List (Int × Int)} {k : Int} (hg : getR A k = none) : delA A k = A := by
  unfold delA
  rw [hg]
  rfl
/-- a table t = b (owner 1), and what was seen of it (AS), in a box -/
structure UV (w W : World) (b xb N : Nat) (A : List (Int × Int)) (H : List (List (Int × Int))) (vk vv : Value) (AS : List (Int × Int)) : Prop where
  ex : ∃ ow, T1 W ow 1 b N A H ∧ IsI W ow vk (AS.map Prod.fst) ∧ IsI W ow vv (AS.map Prod.snd) ∧ ow xb = 0 ∧ ∀ x, x < w.heap.size → ow x = 0
  bx : CBox W xb 67 [vk, vv]
  bel : Below w.heap.size w W
theorem UV.step {w W W' : World} {b xb N N' : Nat} {A A' : List (Int × Int)} {H H' : List (List (Int × Int))} {vk vv : Value} {AS : List (Int × Int)} (h : UV w W b xb N A H vk vv AS) (q : ∀ ow, T1 W ow 1 b N A H → ∃ ow', T1 W' ow' 1 b N' A' H' ∧ Mo (fun x => x = 1) ow ow' W W') : UV w W' b xb N' A' H' vk vv AS := by
  obtain ⟨⟨ow, h1, h2, h3, h4, h5⟩, h6, h7⟩ := h
  obtain ⟨ow', g1, g2⟩ := q ow h1
  obtain ⟨s1, s2⟩ := g2.box h6 (by rw [h4]; omega)
  obtain ⟨l1, l2⟩ := g2.low h5 (by omega) h7.size
  exact ⟨⟨ow', g1, h2.mo g2 (by omega), h3.mo g2 (by omega), s2.trans h4, l2⟩, s1, h7.trans l1⟩
theorem UV.past {w W W' : World} {b xb N : Nat} {A : List (Int × Int)} {H : List (List (Int × Int))} {vk vv : Value} {AS : List (Int × Int)} (h : UV w W b xb N A H vk vv AS) (hB : Below W.heap.size W W') : UV w W' b xb N A H vk vv AS := by
  obtain ⟨⟨ow, h1, h2, h3, h4, h5⟩, h6, h7⟩ := h
  exact ⟨⟨grow ow W.heap.size 0, h1.past hB, h2.past hB, h3.past hB, (grow_lt h6.lt).trans h4, fun x hx => (grow_lt (Nat.lt_of_lt_of_le hx h7.size)).trans (h5 x hx)⟩, h6.but (below_but (S := fun _ => False) hB) id, h7.trans (hB.mono h7.size)⟩
theorem UV.mono {w W : World} {b xb N N' : Nat} {A : List (Int × Int)} {H : List (List (Int × Int))} {vk vv : Value} {AS : List (Int × Int)} (h : UV w W b xb N A H vk vv AS) (hN : N ≤ N') : UV w W b xb N' A H vk vv AS := by
  obtain ⟨⟨ow, h1, h2⟩, h6, h7⟩ := h
  exact ⟨⟨ow, h1.mono hN, h2⟩, h6, h7⟩
theorem UV.ris {w W : World} {b xb N : Nat} {A : List (Int × Int)} {H : List (List (Int × Int))} {vk vv : Value} {AS : List (Int × Int)} (h : UV w W b xb N A H vk vv AS) : Ris A ∧ A.length ≤ N ∧ H.length ≤ N := by
  obtain ⟨⟨ow, h1, h2⟩, h6, h7⟩ := h
  exact ⟨h1.ris, h1.lA, h1.lH⟩
/-- the i-th of what was seen -/
theorem UV.at {w W : World} {b xb N : Nat} {A : List (Int × Int)} {H : List (List (Int × Int))} {vk vv : Value} {AS : List (Int × Int)} (h : UV w W b xb N A H vk vv AS) : ∃ ka kc va vc, vk = .slice ka AS.length kc ∧ vv = .slice va AS.length vc ∧ ∀ i kx vx, AS[i]? = some (kx, vx) → ∃ g g', ka = some ⟨g, 0, none⟩ ∧ va = some ⟨g', 0, none⟩ ∧ W.cell? ⟨g, i, none⟩ = some (.int .i64 kx) ∧ W.cell? ⟨g', i, none⟩ = some (.int .i64 vx) := by
  obtain ⟨⟨ow, _, ⟨ka, kc, rfl, h2⟩, ⟨va, vc, rfl, h3⟩, _⟩, _⟩ := h
  refine ⟨ka, kc, va, vc, by rw [List.length_map], by rw [List.length_map], fun i kx vx hi => ?_⟩
  obtain ⟨g, e1, _, c1⟩ := h2 i kx (by rw [List.getElem?_map, hi]; rfl)
  obtain ⟨g', e2, _, c2⟩ := h3 i vx (by rw [List.getElem?_map, hi]; rfl)
  exact ⟨g, g', e1, e2, c1, c2⟩
theorem UV.set {w W : World} {b xb N : Nat} {A : List (Int × Int)} {H : List (List (Int × Int))} {vk vv : Value} {AS : List (Int × Int)} (h : UV w W b xb N A H vk vv AS) (k v : Int) (hk : I64 k) (hN : N < 274877906944) : Calls Try.prog 39 #[.pointer (some ⟨b, 0, none⟩), .int .i64 k, .int .i64 v] W fun e w' => e = .returned (.tuple #[]) ∧ UV w w' b xb (N + 1) (setRL A k v) H vk vv AS := by
  obtain ⟨ow, h1, h2⟩ := h.ex
  refine (set1 W ow 1 b N A H h1 k v hk (by omega)).mono ?_
  rintro e w' ⟨rfl, q1, q2⟩
  obtain ⟨h3, h4, h5, h6⟩ := h2
  have m : Mo (fun x => x = 1) ow _ W w' := Mo.of q2 rfl
  obtain ⟨s1, s2⟩ := m.box h.bx (by rw [h5]; omega)
  obtain ⟨l1, l2⟩ := m.low h6 (by omega) h.bel.size
  exact ⟨rfl, ⟨_, q1, h3.mo m (by omega), h4.mo m (by omega), s2.trans h5, l2⟩, s1, h.bel.trans l1⟩
theorem UV.del {w W : World} {b xb N : Nat} {A : List (Int × Int)} {H : List (List (Int × Int))} {vk vv : Value} {AS : List (Int × Int)} (h : UV w W b xb N A H vk vv AS) (k : Int) (hk : I64 k) (hN : N < 274877906944) : Calls Try.prog 43 #[.pointer (some ⟨b, 0, none⟩), .int .i64 k] W fun e w' => e = .returned (.bool (getR A k).isSome) ∧ UV w w' b xb (N + 1) (delA A k) H vk vv AS := by
  obtain ⟨ow, h1, h2⟩ := h.ex
  refine (del1 W ow 1 b N A H h1 k hk (by omega)).mono ?_
  rintro e w' ⟨rfl, q1, q2⟩
  obtain ⟨h3, h4, h5, h6⟩ := h2
  have m : Mo (fun x => x = 1) ow _ W w' := Mo.of q2 rfl
  obtain ⟨s1, s2⟩ := m.box h.bx (by rw [h5]; omega)
  obtain ⟨l1, l2⟩ := m.low h6 (by omega) h.bel.size
  exact ⟨rfl, ⟨_, q1, h3.mo m (by omega), h4.mo m (by omega), s2.trans h5, l2⟩, s1, h.bel.trans l1⟩
theorem UV.get {w W : World} {b xb N : Nat} {A : List (Int × Int)} {H : List (List (Int × Int))} {vk vv : Value} {AS : List (Int × Int)} (h : UV w W b xb N A H vk vv AS) (k : Int) (hk : I64 k) (hN : N < 274877906944) (r : Option Int) (hr : getR A k = r) : Calls Try.prog 44 #[.pointer (some ⟨b, 0, none⟩), .int .i64 k] W fun e w' => e = .returned (.tuple #[.int .i64 (r.getD 0), .bool r.isSome]) ∧ w' = W := by
  obtain ⟨ow, h1, h2⟩ := h.ex
  rw [← hr]
  exact get1 W ow 1 b N A H h1 k hk (by omega)
theorem UV.len {w W : World} {b xb N : Nat} {A : List (Int × Int)} {H : List (List (Int × Int))} {vk vv : Value} {AS : List (Int × Int)} (h : UV w W b xb N A H vk vv AS) : Calls Try.prog 48 #[.pointer (some ⟨b, 0, none⟩)] W fun e w' => e = .returned (.int .i64 (A.length : Int)) ∧ w' = W := by
  obtain ⟨ow, h1, h2⟩ := h.ex
  exact len1 W ow 1 b N A H h1
theorem UV.tells {w W : World} {b xb N : Nat} {A : List (Int × Int)} {H : List (List (Int × Int))} {vk vv : Value} (h : UV w W b xb N A H vk vv A) (hN : N < 274877906944) : Calls Try.prog 46 #[.pointer (some ⟨b, 0, none⟩), .agg #[vk, vv]] W fun e w' => e = .returned (.bool true) ∧ Below W.heap.size W w' := by
  obtain ⟨ow, h1, h2, h3, _⟩ := h.ex
  exact tells_is W ow 1 b N A H h1 hN vk vv h2 h3
/-- a table alone -/
structure U0 (w W : World) (b N : Nat) (A : List (Int × Int)) (H : List (List (Int × Int))) : Prop where
  ex : ∃ ow, T1 W ow 1 b N A H ∧ ∀ x, x < w.heap.size → ow x = 0
  bel : Below w.heap.size w W
theorem U0.do {w W : World} {b N : Nat} {A : List (Int × Int)} {H : List (List (Int × Int))} (h : U0 w W b N A H) (hN : N < 274877906944) (kd : Int) (two : Bool) (k v : Int) (hk : I64 k) : Calls Try.prog 38 #[.pointer (some ⟨b, 0, none⟩), .agg #[.int .i64 kd, .bool two, .int .i64 k, .int .i64 v]] W fun e w' => e = .returned (.tuple #[]) ∧ U0 w w' b (N + 1) (nxA kd k v A H) (nxH kd k A H) := by
  obtain ⟨ow, h1, h2⟩ := h.ex
  refine (do_is W ow 1 b N A H h1 hN kd two k v hk).mono ?_
  rintro e w' ⟨rfl, ow', q1, q2⟩
  obtain ⟨l1, l2⟩ := q2.low h2 (by omega) h.bel.size
  exact ⟨rfl, ⟨ow', q1, l2⟩, h.bel.trans l1⟩
theorem U0.new (w : World) (N : Nat) : Calls Try.prog 37 #[] w fun e w' => ∃ b, e = .returned (.pointer (some ⟨b, 0, none⟩)) ∧ U0 w w' b N [] [] := by
  refine (new1 w (fun _ => 0) 1 N).mono ?_
  rintro e w' ⟨rfl, h1, h2⟩
  exact ⟨_, rfl, ⟨_, h1, fun x hx => grow_lt hx⟩, h2⟩
/-- what seen tells lies in a box -/
theorem U0.seen {w W : World} {b N : Nat} {A : List (Int × Int)} {H : List (List (Int × Int))} (h : U0 w W b N A H) (hN : N < 274877906944) : Calls Try.prog 40 #[.pointer (some ⟨b, 0, none⟩)] W fun e w' => ∃ ka kc va vc, e = .returned (.agg #[.slice ka A.length kc, .slice va A.length vc]) ∧ UV w (w'.alloc (.cells #[.slice ka A.length kc, .slice va A.length vc] 67)) b w'.heap.size N A H (.slice ka A.length kc) (.slice va A.length vc) A := by
  obtain ⟨ow, h1, h2⟩ := h.ex
  refine (seen_is W ow 1 b N A H h1 hN).mono ?_
  rintro e w' ⟨vk, vv, rfl, q1, q2, q3⟩
  obtain ⟨ka, kc, e1, q2'⟩ := q2
  obtain ⟨va, vc, e2, q3'⟩ := q3
  rw [List.length_map] at e1 e2
  subst e1 e2
  have hB : Below w'.heap.size w' (w'.alloc (.cells #[.slice ka A.length kc, .slice va A.length vc] 67)) := (Below.refl _ _).alloc (Nat.le_refl _) _
  have i2 : IsI w' (grow ow W.heap.size 0) (.slice ka A.length kc) (A.map Prod.fst) := ⟨ka, kc, by rw [List.length_map], q2'⟩
  have i3 : IsI w' (grow ow W.heap.size 0) (.slice va A.length vc) (A.map Prod.snd) := ⟨va, vc, by rw [List.length_map], q3'⟩
  have z1 := q1.size
  have z0 := h.bel.size
  refine ⟨ka, kc, va, vc, rfl, ⟨grow (grow ow W.heap.size 0) w'.heap.size 0, (h1.past q1).past hB, i2.past hB, i3.past hB, grow_ge (Nat.le_refl _), fun x hx => ?_⟩, CBox.new w' _ [_, _], (h.bel.trans (q1.mono z0)).trans (hB.mono (by omega))⟩
  rw [grow_lt (by omega), grow_lt (by omega)]
  exact h2 x hx
end Go.Proofs.Ytohfkgfjcnldaaa
/- A region whose operations come in their order, one by one. -/
namespace Go.Proofs.Ytohfkgfjcnldaaa
open Go.RowKit
theorem lst_val {P : Program} {ops : Array Oper} {Q : Exit → Act → World → Prop} {a : Act} {w : World} {rest : List Oper} {o : Oper} {v : Value} (hg : Region.wanted o (yielded ops a.tmps) = true) (hv : (execOp a.eval o).run P w = .ok (.value v) w) (h : wpList P ops Q rest (a.put o.dst v) w) : wpList P ops Q (o :: rest) a w :=
  wpList_step fun K hK => by
    rw [if_pos hg]
    unfold Oper.wp
    rw [hv]
    exact hK _ _ h
theorem lst_not {P : Program} {ops : Array Oper} {Q : Exit → Act → World → Prop} {a : Act} {w : World} {rest : List Oper} {o : Oper} (hg : Region.wanted o (yielded ops a.tmps) = false) (h : wpList P ops Q rest (a.put o.dst undef) w) : wpList P ops Q (o :: rest) a w :=
  wpList_step fun K hK => by
    rw [if_neg (by rw [hg]; simp)]
    exact hK _ _ h
theorem lst_call {P : Program} {ops : Array Oper} {Q : Exit → Act → World → Prop} {a : Act} {w : World} {rest : List Oper} {o : Oper} {f : FuncId} {args : Array Value} {R : Ending → World → Prop} (hg : Region.wanted o (yielded ops a.tmps) = true) (hv : (execOp a.eval o).run P w = .ok (.enter f args) w) (hc : Calls P f args w R) (h : ∀ e w', R e w' → ∃ v, e = .returned v ∧ wpList P ops Q rest (a.put o.dst v) w') : wpList P ops Q (o :: rest) a w :=
  wpList_step fun K hK => by
    rw [if_pos hg]
    unfold Oper.wp
    rw [hv, Oper.upon_enter]
    refine Calls.mono hc fun e w' hr => ?_
    obtain ⟨v, rfl, hh⟩ := h e w' hr
    exact hK _ _ hh
end Go.Proofs.Ytohfkgfjcnldaaa
/- Two tables, and what was seen of the first one; UndoMany: numbers. -/
namespace Go.Proofs.Ytohfkgfjcnldaaa
open Go.RowKit Go.Shelf
/-- tables t = b1 (owner 1), u = b2 (owner 2), and a view (AS) -/
structure UW (w W : World) (b1 b2 N : Nat) (A1 : List (Int × Int)) (H1 : List (List (Int × Int))) (A2 : List (Int × Int)) (H2 : List (List (Int × Int))) (xb : Nat) (vk vv : Value) (AS : List (Int × Int)) : Prop where
  ex : ∃ ow, T1 W ow 1 b1 N A1 H1 ∧ T1 W ow 2 b2 N A2 H2 ∧ IsI W ow vk (AS.map Prod.fst) ∧ IsI W ow vv (AS.map Prod.snd) ∧ ow xb = 0 ∧ ∀ x, x < w.heap.size → ow x = 0
  bx : CBox W xb 67 [vk, vv]
  bel : Below w.heap.size w W
section
variable {w W : World} {b1 b2 N xb : Nat} {A1 : List (Int × Int)} {H1 : List (List (Int × Int))} {A2 : List (Int × Int)} {H2 : List (List (Int × Int))} {vk vv : Value} {AS : List (Int × Int)}
theorem UW.past {W' : World} (h : UW w W b1 b2 N A1 H1 A2 H2 xb vk vv AS) (hB : Below W.heap.size W W') : UW w W' b1 b2 N A1 H1 A2 H2 xb vk vv AS := by
  obtain ⟨⟨ow, h1, h2, h3, h4, h5, h6⟩, h7, h8⟩ := h
  exact ⟨⟨grow ow W.heap.size 0, h1.past hB, h2.past hB, h3.past hB, h4.past hB, (grow_lt h7.lt).trans h5, fun x hx => (grow_lt (Nat.lt_of_lt_of_le hx h8.size)).trans (h6 x hx)⟩, h7.but (below_but (S := fun _ => False) hB) id, h8.trans (hB.mono h8.size)⟩
theorem UW.t {f : FuncId} {args : Array Value} {r : Value} {A' : List (Int × Int)} {H' : List (List (Int × Int))} (h : UW w W b1 b2 N A1 H1 A2 H2 xb vk vv AS) (q : ∀ ow, T1 W ow 1 b1 N A1 H1 → Calls Try.prog f args W fun e w' => e = .returned r ∧ T1 w' (grow ow W.heap.size 1) 1 b1 (N + 1) A' H' ∧ Mv ow 1 W w') : Calls Try.prog f args W fun e w' => e = .returned r ∧ UW w w' b1 b2 (N + 1) A' H' A2 H2 xb vk vv AS := by
  obtain ⟨⟨ow, h1, h2, h3, h4, h5, h6⟩, h7, h8⟩ := h
  refine (q ow h1).mono ?_
  rintro e w' ⟨rfl, q1, q2⟩
  have m : Mo (fun x => x = 1) ow _ W w' := Mo.of q2 rfl
  obtain ⟨s1, s2⟩ := m.box h7 (by rw [h5]; omega)
  obtain ⟨l1, l2⟩ := m.low h6 (by omega) h8.size
  exact ⟨rfl, ⟨_, q1, (h2.mo m (by omega)).mono (by omega), h3.mo m (by omega), h4.mo m (by omega), s2.trans h5, l2⟩, s1, h8.trans l1⟩
theorem UW.u {f : FuncId} {args : Array Value} {r : Value} {A' : List (Int × Int)} {H' : List (List (Int × Int))} (h : UW w W b1 b2 N A1 H1 A2 H2 xb vk vv AS) (q : ∀ ow, T1 W ow 2 b2 N A2 H2 → Calls Try.prog f args W fun e w' => e = .returned r ∧ T1 w' (grow ow W.heap.size 2) 2 b2 (N + 1) A' H' ∧ Mv ow 2 W w') : Calls Try.prog f args W fun e w' => e = .returned r ∧ UW w w' b1 b2 (N + 1) A1 H1 A' H' xb vk vv AS := by
  obtain ⟨⟨ow, h1, h2, h3, h4, h5, h6⟩, h7, h8⟩ := h
  refine (q ow h2).mono ?_
  rintro e w' ⟨rfl, q1, q2⟩
  have m : Mo (fun x => x = 2) ow _ W w' := Mo.of q2 rfl
  obtain ⟨s1, s2⟩ := m.box h7 (by rw [h5]; omega)
  obtain ⟨l1, l2⟩ := m.low h6 (by omega) h8.size
  exact ⟨rfl, ⟨_, (h1.mo m (by omega)).mono (by omega), q1, h3.mo m (by omega), h4.mo m (by omega), s2.trans h5, l2⟩, s1, h8.trans l1⟩
theorem UW.marks (h : UW w W b1 b2 N A1 H1 A2 H2 xb vk vv AS) : Calls Try.prog 41 #[.pointer (some ⟨b1, 0, none⟩)] W fun e w' => e = .returned (.int .i64 (H1.length : Int)) ∧ w' = W := by
  obtain ⟨ow, h1, _⟩ := h.ex
  exact marks1 W ow 1 b1 N A1 H1 h1
theorem UW.tells (h : UW w W b1 b2 N A1 H1 A2 H2 xb vk vv A1) (hN : N < 274877906944) : Calls Try.prog 46 #[.pointer (some ⟨b1, 0, none⟩), .agg #[vk, vv]] W fun e w' => e = .returned (.bool true) ∧ UW w w' b1 b2 N A1 H1 A2 H2 xb vk vv A1 := by
  obtain ⟨ow, h1, h2, h3, h4, _⟩ := h.ex
  refine (tells_is W ow 1 b1 N A1 H1 h1 hN vk vv h3 h4).mono ?_
  rintro e w' ⟨rfl, hB⟩
  exact ⟨rfl, h.past hB⟩
/-- what is seen of u, t tells too -/
theorem UW.seenU (h : UW w W b1 b2 N A1 H1 A1 H2 xb vk vv AS) (hN : N < 274877906944) : Calls Try.prog 40 #[.pointer (some ⟨b2, 0, none⟩)] W fun e w' => ∃ ka kc va vc, e = .returned (.agg #[.slice ka A1.length kc, .slice va A1.length vc]) ∧ UW w w' b1 b2 N A1 H1 A1 H2 xb vk vv AS ∧ Calls Try.prog 46 #[.pointer (some ⟨b1, 0, none⟩), .agg #[.slice ka A1.length kc, .slice va A1.length vc]] w' fun e w2 => e = .returned (.bool true) ∧ UW w w2 b1 b2 N A1 H1 A1 H2 xb vk vv AS := by
  obtain ⟨ow, h1, h2, h3, h4, _⟩ := h.ex
  refine (seen_is W ow 2 b2 N A1 H2 h2 hN).mono ?_
  rintro e w' ⟨vk', vv', rfl, hB, ⟨ka, kc, rfl, i1⟩, ⟨va, vc, rfl, i2⟩⟩
  have hU := h.past hB
  refine ⟨ka, kc, va, vc, by simp, hU, ?_⟩
  have T := tells_is w' (grow ow W.heap.size 0) 1 b1 N A1 H1 (h1.past hB) hN _ _ ⟨ka, kc, rfl, i1⟩ ⟨va, vc, rfl, i2⟩
  rw [List.length_map, List.length_map] at T
  refine T.mono ?_
  rintro e w2 ⟨rfl, hB2⟩
  exact ⟨rfl, hU.past hB2⟩
end
theorem UV.newU {w W : World} {b xb N : Nat} {A : List (Int × Int)} {H : List (List (Int × Int))} {vk vv : Value} {AS : List (Int × Int)} (h : UV w W b xb N A H vk vv AS) : Calls Try.prog 37 #[] W fun e w' => ∃ b2, e = .returned (.pointer (some ⟨b2, 0, none⟩)) ∧ UW w w' b b2 N A H [] [] xb vk vv AS := by
  obtain ⟨⟨ow, h1, h2, h3, h4, h5⟩, h6, h7⟩ := h
  refine (new1 W ow 2 N).mono ?_
  rintro e w' ⟨rfl, q1, hB⟩
  exact ⟨_, rfl, ⟨_, h1.past hB, q1, h2.past hB, h3.past hB, (grow_lt h6.lt).trans h4, fun x hx => (grow_lt (Nat.lt_of_lt_of_le hx h7.size)).trans (h5 x hx)⟩, h6.but (below_but (S := fun _ => False) hB) id, h7.trans (hB.mono h7.size)⟩
theorem U0.t {w W : World} {b N : Nat} {A A' : List (Int × Int)} {H H' : List (List (Int × Int))} {f : FuncId} {args : Array Value} {r : Value} (h : U0 w W b N A H) (q : ∀ ow, T1 W ow 1 b N A H → Calls Try.prog f args W fun e w' => e = .returned r ∧ T1 w' (grow ow W.heap.size 1) 1 b (N + 1) A' H' ∧ Mv ow 1 W w') : Calls Try.prog f args W fun e w' => e = .returned r ∧ U0 w w' b (N + 1) A' H' := by
  obtain ⟨ow, h1, h2⟩ := h.ex
  refine (q ow h1).mono ?_
  rintro e w' ⟨rfl, q1, q2⟩
  have m : Mo (fun x => x = 1) ow _ W w' := Mo.of q2 rfl
  obtain ⟨l1, l2⟩ := m.low h2 (by omega) h.bel.size
  exact ⟨rfl, ⟨_, q1, l2⟩, h.bel.trans l1⟩
theorem and10 (X : Int) : ∃ A : Nat, A ≤ 1023 ∧ bits BinOp.and IntKind.i64 X 1023 = (A : Int) := by
  have h : (BitVec.ofInt 64 X &&& BitVec.ofInt 64 1023).toNat ≤ 1023 := by rw [BitVec.toNat_and]; exact Nat.and_le_right
  have e : bits BinOp.and IntKind.i64 X 1023 = IntKind.i64.wrap (((BitVec.ofInt 64 X &&& BitVec.ofInt 64 1023).toNat : Nat) : Int) := rfl
  exact ⟨_, h, e.trans (Go.IntWalk.i64_in _ (by omega))⟩
def mA (n : Nat) : Nat → List (Int × Int)
  | 0 => []
  | i + 1 => setRL (mA n i) ((i * 7 % n : Nat) : Int) (i : Int)
def mH (n i : Nat) : List (List (Int × Int)) := (List.range i).map fun j => mA n (j + 1)
theorem mH_len (n i : Nat) : (mH n i).length = i := by simp [mH]
theorem mH_succ (n i : Nat) : mH n i ++ [mA n (i + 1)] = mH n (i + 1) := by simp [mH, List.range_succ]
theorem mH_at (n i j : Nat) (h : j < i) : (mH n i)[j]? = some (mA n (j + 1)) := by simp [mH, h]
theorem mH_no (n : Nat) : isM (mH n n) (n : Int) = false := by unfold isM; rw [mH_len]; simp
theorem mH_yes (n b : Nat) (h : b < n) : isM (mH n n) (b : Int) = true := by unfold isM; rw [mH_len]; simp; omega
theorem mH_back (n b : Nat) (h : b < n) : bkA (mA n n) (mH n n) (b : Int) = mA n (b + 1) ∧ (bkH (mH n n) (b : Int)).length = b ∧ bkE (mH n n) (b : Int) = 0 := by
  unfold bkA bkH bkE
  rw [mH_yes n b h, if_pos rfl, if_pos rfl, if_pos rfl, Int.toNat_natCast, mH_at n n b h, List.length_take, mH_len]
  exact ⟨rfl, by omega, rfl⟩
theorem mH_stay (n : Nat) : bkA (mA n n) (mH n n) (n : Int) = mA n n ∧ bkH (mH n n) (n : Int) = mH n n ∧ bkE (mH n n) (n : Int) = 30 := by
  unfold bkA bkH bkE
  rw [mH_no]
  exact ⟨rfl, rfl, rfl⟩
end Go.Proofs.Ytohfkgfjcnldaaa
