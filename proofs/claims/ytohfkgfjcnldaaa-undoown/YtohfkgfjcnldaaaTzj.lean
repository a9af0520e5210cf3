/- In the midst of a step of the law. -/
import Derived.Test.YtohfkgfjcnldaaaTzi
namespace Go.Proofs.Ytohfkgfjcnldaaa
open Go.RowKit Go.Shelf
/-- only blocks of owners in P have changed; old blocks keep their owners -/
structure Mo (P : Nat → Prop) (ow ow' : Nat → Nat) (w w' : World) : Prop where
  but : But (fun x => P (ow x) ∧ ¬ IsPr w x) w w'
  eq : ∀ x, x < w.heap.size → ow' x = ow x
theorem Mo.refl (P : Nat → Prop) (ow : Nat → Nat) (w : World) : Mo P ow ow w w := ⟨But.refl _ _, fun _ _ => rfl⟩
theorem Mo.of {P : Nat → Prop} {ow : Nat → Nat} {i : Nat} {w w' : World} (h : Mv ow i w w') (hP : P i) : Mo P ow (grow ow w.heap.size i) w w' := ⟨But.mono h (fun _ e => ⟨e.1.symm ▸ hP, e.2⟩), fun _ hx => grow_lt hx⟩
theorem Mo.below {P : Nat → Prop} {ow : Nat → Nat} {i : Nat} {w w' : World} (h : Below w.heap.size w w') : Mo P ow (grow ow w.heap.size i) w w' := ⟨below_but h, fun _ hx => grow_lt hx⟩
theorem Mo.pr {P : Nat → Prop} {ow ow' : Nat → Nat} {w w' : World} (h : Mo P ow ow' w w') {j : Nat} (hj : IsPr w j) : IsPr w' j := by
  obtain ⟨v, l, hv, e⟩ := hj
  exact ⟨v, l, hv.but h.but (fun k hk f => f.2 ⟨v, l, hv, hk⟩), e⟩
theorem Mo.prl {P : Nat → Prop} {ow ow' : Nat → Nat} {w w' : World} (h : Mo P ow ow' w w') {v : Value} {l : List (Int × Int)} (hv : PrL w v l) : PrL w' v l := hv.but h.but (fun _ hk f => f.2 ⟨v, l, hv, hk⟩)
theorem Mo.trans {P : Nat → Prop} {o1 o2 o3 : Nat → Nat} {u v w : World} (h : Mo P o1 o2 u v) (k : Mo P o2 o3 v w) : Mo P o1 o3 u w := by
  refine ⟨⟨k.but.os.trans h.but.os, k.but.tape.trans h.but.tape, k.but.output.trans h.but.output, Nat.le_trans h.but.size k.but.size, fun j hj hn => ?_⟩, fun x hx => (k.eq x (Nat.lt_of_lt_of_le hx h.but.size)).trans (h.eq x hx)⟩
  refine (k.but.block j (Nat.lt_of_lt_of_le hj h.but.size) fun e => hn ?_).trans (h.but.block j hj hn)
  exact ⟨h.eq j hj ▸ e.1, fun hp => e.2 (h.pr hp)⟩
theorem Mo.mono {P Q : Nat → Prop} {ow ow' : Nat → Nat} {w w' : World} (h : Mo P ow ow' w w') (k : ∀ x, P x → Q x) : Mo Q ow ow' w w' := ⟨But.mono h.but (fun _ e => ⟨k _ e.1, e.2⟩), h.eq⟩
theorem Mo.box {P : Nat → Prop} {ow ow' : Nat → Nat} {w w' : World} (h : Mo P ow ow' w w') {B : Nat} {t : TypeId} {l : List Value} (hb : CBox w B t l) (hP : ¬ P (ow B)) : CBox w' B t l ∧ ow' B = ow B := ⟨hb.but h.but (fun e => hP e.1), h.eq B hb.lt⟩
theorem Mo.low {P : Nat → Prop} {ow ow' : Nat → Nat} {w w' : World} (h : Mo P ow ow' w w') {B : Nat} (hB : ∀ j, j < B → ow j = 0) (h0 : ¬ P 0) (hb : B ≤ w.heap.size) : Below B w w' ∧ ∀ j, j < B → ow' j = 0 :=
  ⟨But.below h.but (fun k e => by rcases Nat.lt_or_ge k B with h1 | h1; exact absurd (hB k h1 ▸ e.1) h0; exact h1) hb, fun j hj => (h.eq j (by omega)).trans (hB j hj)⟩
theorem T1.mo {P : Nat → Prop} {W W' : World} {ow ow' : Nat → Nat} {i b N : Nat} {A : List (Int × Int)} {H : List (List (Int × Int))} (h : T1 W ow i b N A H) (m : Mo P ow ow' W W') (hP : ¬ P i) : T1 W' ow' i b N A H := by
  obtain ⟨⟨S, L, V, M, h1, h2, h3, h4, h5, h6, h7, h8⟩, a, b, c⟩ := h
  refine ⟨⟨S, L, V, M, h1.but m.but (fun j hj e => hP (h7 j hj ▸ e.1)) (fun j hj e => hP (h8 j hj ▸ e.1)), h2, h3, h4, h5, h6, fun j hj => ?_, fun j hj => ?_⟩, a, b, c⟩
  · rw [m.eq j (h1.lt j hj)]
    exact h7 j hj
  · rw [m.eq j (h1.ltU j hj)]
    exact h8 j hj
theorem R1.mo {P : Nat → Prop} {W W' : World} {ow ow' : Nat → Nat} {i c N : Nat} {A : List (Int × Int)} {H : List (List (Int × Int))} (h : R1 W ow i c N A H) (m : Mo P ow ow' W W') (hP : ¬ P i) : R1 W' ow' i c N A H := by
  obtain ⟨⟨lv, oa, oc, OV, h1, h2⟩, a, b, c⟩ := h
  refine ⟨⟨lv, oa, oc, OV, h1.but m.but (fun j hj e => hP (h2 j hj ▸ e.1)) (fun v l hv j hj e => e.2 ⟨v, l, hv, hj⟩), fun j hj => ?_⟩, a, b, c⟩
  rw [m.eq j (h1.lt j hj)]
  exact h2 j hj
/-- side s: its table is owner 2 s, the document's 2 s + 1; 0 is the law -/
def Ps (s : Nat) (x : Nat) : Prop := x = 2 * s ∨ x = 2 * s + 1
/-- the cells of the two boxes -/
def Bo (W : World) (sb ob b c : Nat) (kd : Int) (two : Bool) (k v : Int) : Prop :=
  (W.cell? ⟨sb, 0, none⟩ = some (.pointer (some ⟨b, 0, none⟩)) ∧ W.cell? ⟨sb, 1, none⟩ = some (.pointer (some ⟨c, 0, none⟩))) ∧ W.cell? ⟨ob, 0, none⟩ = some (.int .i64 kd) ∧ W.cell? ⟨ob, 1, none⟩ = some (.bool two) ∧ W.cell? ⟨ob, 2, none⟩ = some (.int .i64 k) ∧ W.cell? ⟨ob, 3, none⟩ = some (.int .i64 v)
structure LU (w0 : World) (o0 : Nat → Nat) (W : World) (ow : Nat → Nat) (s sb ob b c N : Nat) (A : List (Int × Int)) (H : List (List (Int × Int))) (A' : List (Int × Int)) (H' : List (List (Int × Int))) (kd : Int) (two : Bool) (k v : Int) : Prop where
  t : T1 W ow (2 * s) b N A H
  r : R1 W ow (2 * s + 1) c N A' H'
  sB : CBox W sb 27 [.pointer (some ⟨b, 0, none⟩), .pointer (some ⟨c, 0, none⟩)]
  oB : CBox W ob 30 [.int .i64 kd, .bool two, .int .i64 k, .int .i64 v]
  so : ow sb = 0
  oo : ow ob = 0
  m : Mo (Ps s) o0 ow w0 W
theorem LU.bo {w0 W : World} {o0 ow : Nat → Nat} {s sb ob b c N : Nat} {A A' : List (Int × Int)} {H H' : List (List (Int × Int))} {kd : Int} {two : Bool} {k v : Int} (h : LU w0 o0 W ow s sb ob b c N A H A' H' kd two k v) : Bo W sb ob b c kd two k v := ⟨⟨h.sB.cell 0, h.sB.cell 1⟩, h.oB.cell 0, h.oB.cell 1, h.oB.cell 2, h.oB.cell 3⟩
theorem LU.past {w0 W : World} {o0 ow : Nat → Nat} {s sb ob b c N : Nat} {A A' : List (Int × Int)} {H H' : List (List (Int × Int))} {kd : Int} {two : Bool} {k v : Int} {W' : World} (h : LU w0 o0 W ow s sb ob b c N A H A' H' kd two k v) (hB : Below W.heap.size W W') : LU w0 o0 W' (grow ow W.heap.size 0) s sb ob b c N A H A' H' kd two k v :=
  have m : Mo (Ps s) ow (grow ow W.heap.size 0) W W' := Mo.below hB
  ⟨h.t.past hB, h.r.past hB, h.sB.but (below_but (S := fun _ => False) hB) id, h.oB.but (below_but (S := fun _ => False) hB) id, (grow_lt h.sB.lt).trans h.so, (grow_lt h.oB.lt).trans h.oo, h.m.trans m⟩
theorem LU.drew {w0 W : World} {o0 ow : Nat → Nat} {s sb ob b c N : Nat} {A A' : List (Int × Int)} {H H' : List (List (Int × Int))} {kd : Int} {two : Bool} {k v : Int} (h : LU w0 o0 W ow s sb ob b c N A H A' H' kd two k v) : LU w0 o0 W.drew ow s sb ob b c N A H A' H' kd two k v := by
  have hB : Below W.heap.size W W.drew := (Below.refl _ _).drew
  have h2 := h.past hB
  exact ⟨h.t.mo (P := fun _ => False) ⟨below_but hB, fun _ _ => rfl⟩ id, h.r.mo (P := fun _ => False) ⟨below_but hB, fun _ _ => rfl⟩ id, h2.sB, h2.oB, h.so, h.oo, h.m.trans ⟨below_but hB, fun _ _ => rfl⟩⟩
theorem LU.stepT {w0 W : World} {o0 ow : Nat → Nat} {s sb ob b c N : Nat} {A A' : List (Int × Int)} {H H' : List (List (Int × Int))} {kd : Int} {two : Bool} {k v : Int} {W' : World} {A2 : List (Int × Int)} {H2 : List (List (Int × Int))} (h : LU w0 o0 W ow s sb ob b c N A H A' H' kd two k v) (hs : 0 < s) (ht : T1 W' (grow ow W.heap.size (2 * s)) (2 * s) b (N + 1) A2 H2) (hm : Mv ow (2 * s) W W') : LU w0 o0 W' (grow ow W.heap.size (2 * s)) s sb ob b c (N + 1) A2 H2 A' H' kd two k v := by
  have m : Mo (fun x => x = 2 * s) ow (grow ow W.heap.size (2 * s)) W W' := Mo.of hm rfl
  obtain ⟨s1, s2⟩ := m.box h.sB (by rw [h.so]; omega)
  obtain ⟨s3, s4⟩ := m.box h.oB (by rw [h.oo]; omega)
  exact ⟨ht, (h.r.mo m (by omega)).mono (by omega), s1, s3, s2.trans h.so, s4.trans h.oo, h.m.trans (m.mono (fun x e => Or.inl e))⟩
theorem LU.stepR {w0 W : World} {o0 ow : Nat → Nat} {s sb ob b c N : Nat} {A A' : List (Int × Int)} {H H' : List (List (Int × Int))} {kd : Int} {two : Bool} {k v : Int} {W' : World} {A2 : List (Int × Int)} {H2 : List (List (Int × Int))} (h : LU w0 o0 W ow s sb ob b c N A H A' H' kd two k v) (ht : R1 W' (grow ow W.heap.size (2 * s + 1)) (2 * s + 1) c (N + 1) A2 H2) (hm : Mv ow (2 * s + 1) W W') : LU w0 o0 W' (grow ow W.heap.size (2 * s + 1)) s sb ob b c (N + 1) A H A2 H2 kd two k v := by
  have m : Mo (fun x => x = 2 * s + 1) ow (grow ow W.heap.size (2 * s + 1)) W W' := Mo.of hm rfl
  obtain ⟨s1, s2⟩ := m.box h.sB (by rw [h.so]; omega)
  obtain ⟨s3, s4⟩ := m.box h.oB (by rw [h.oo]; omega)
  exact ⟨(h.t.mo m (by omega)).mono (by omega), ht, s1, s3, s2.trans h.so, s4.trans h.oo, h.m.trans (m.mono (fun x e => Or.inr e))⟩
theorem LU.setT {w0 W : World} {o0 ow : Nat → Nat} {s sb ob b c N : Nat} {A A' : List (Int × Int)} {H H' : List (List (Int × Int))} {kd : Int} {two : Bool} {k v : Int} (h : LU w0 o0 W ow s sb ob b c N A H A' H' kd two k v) (hk : I64 k) (hs : 0 < s) (hN : N < 274877906944) : Calls Try.prog 39 #[.pointer (some ⟨b, 0, none⟩), .int .i64 k, .int .i64 v] W fun e W' => e = .returned (.tuple #[]) ∧ ∃ ow', LU w0 o0 W' ow' s sb ob b c (N + 1) (setRL A k v) H A' H' kd two k v := by
  refine (set1 W ow (2 * s) b N A H h.t k v hk (by omega)).mono ?_
  rintro e W' ⟨rfl, q1, q2⟩
  exact ⟨rfl, _, LU.stepT h hs q1 q2⟩
theorem LU.setR {w0 W : World} {o0 ow : Nat → Nat} {s sb ob b c N : Nat} {A A' : List (Int × Int)} {H H' : List (List (Int × Int))} {kd : Int} {two : Bool} {k v : Int} (h : LU w0 o0 W ow s sb ob b c N A H A' H' kd two k v) (hN : N < 274877906944) : Calls Try.prog 22 #[.pointer (some ⟨c, 0, none⟩), .int .i64 k, .int .i64 v] W fun e W' => e = .returned (.tuple #[]) ∧ ∃ ow', LU w0 o0 W' ow' s sb ob b c (N + 1) A H (setRL A' k v) H' kd two k v := by
  refine (setR1 W ow (2 * s + 1) c N A' H' h.r k v (by omega)).mono ?_
  rintro e W' ⟨rfl, q1, q2⟩
  exact ⟨rfl, _, LU.stepR h q1 q2⟩
theorem LU.delT {w0 W : World} {o0 ow : Nat → Nat} {s sb ob b c N : Nat} {A A' : List (Int × Int)} {H H' : List (List (Int × Int))} {kd : Int} {two : Bool} {k v : Int} (h : LU w0 o0 W ow s sb ob b c N A H A' H' kd two k v) (hk : I64 k) (hs : 0 < s) (hN : N < 274877906944) : Calls Try.prog 43 #[.pointer (some ⟨b, 0, none⟩), .int .i64 k] W fun e W' => e = .returned (.bool (getR A k).isSome) ∧ ∃ ow', LU w0 o0 W' ow' s sb ob b c (N + 1) (delA A k) H A' H' kd two k v := by
  refine (del1 W ow (2 * s) b N A H h.t k hk (by omega)).mono ?_
  rintro e W' ⟨rfl, q1, q2⟩
  exact ⟨rfl, _, LU.stepT h hs q1 q2⟩
theorem LU.delR {w0 W : World} {o0 ow : Nat → Nat} {s sb ob b c N : Nat} {A A' : List (Int × Int)} {H H' : List (List (Int × Int))} {kd : Int} {two : Bool} {k v : Int} (h : LU w0 o0 W ow s sb ob b c N A H A' H' kd two k v) (hN : N < 274877906944) : Calls Try.prog 24 #[.pointer (some ⟨c, 0, none⟩), .int .i64 k] W fun e W' => e = .returned (.bool (getR A' k).isSome) ∧ ∃ ow', LU w0 o0 W' ow' s sb ob b c (N + 1) A H (delA A' k) H' kd two k v := by
  refine (delR1 W ow (2 * s + 1) c N A' H' h.r k (by omega)).mono ?_
  rintro e W' ⟨rfl, q1, q2⟩
  exact ⟨rfl, _, LU.stepR h q1 q2⟩
theorem LU.markT {w0 W : World} {o0 ow : Nat → Nat} {s sb ob b c N : Nat} {A A' : List (Int × Int)} {H H' : List (List (Int × Int))} {kd : Int} {two : Bool} {k v : Int} (h : LU w0 o0 W ow s sb ob b c N A H A' H' kd two k v) (hs : 0 < s) (hN : N < 274877906944) : Calls Try.prog 42 #[.pointer (some ⟨b, 0, none⟩)] W fun e W' => e = .returned (.int .i64 (H.length : Int)) ∧ ∃ ow', LU w0 o0 W' ow' s sb ob b c (N + 1) A (H ++ [A]) A' H' kd two k v := by
  refine (mark1 W ow (2 * s) b N A H h.t (by omega)).mono ?_
  rintro e W' ⟨rfl, q1, q2⟩
  exact ⟨rfl, _, LU.stepT h hs q1 q2⟩
theorem LU.markR {w0 W : World} {o0 ow : Nat → Nat} {s sb ob b c N : Nat} {A A' : List (Int × Int)} {H H' : List (List (Int × Int))} {kd : Int} {two : Bool} {k v : Int} (h : LU w0 o0 W ow s sb ob b c N A H A' H' kd two k v) (hN : N < 274877906944) : Calls Try.prog 26 #[.pointer (some ⟨c, 0, none⟩)] W fun e W' => e = .returned (.int .i64 (H'.length : Int)) ∧ ∃ ow', LU w0 o0 W' ow' s sb ob b c (N + 1) A H A' (H' ++ [A']) kd two k v := by
  refine (markR1 W ow (2 * s + 1) c N A' H' h.r (by omega)).mono ?_
  rintro e W' ⟨rfl, q1, q2⟩
  exact ⟨rfl, _, LU.stepR h q1 q2⟩
theorem LU.backT {w0 W : World} {o0 ow : Nat → Nat} {s sb ob b c N : Nat} {A A' : List (Int × Int)} {H H' : List (List (Int × Int))} {kd : Int} {two : Bool} {k v : Int} (h : LU w0 o0 W ow s sb ob b c N A H A' H' kd two k v) (hs : 0 < s) (hN : N < 274877906944) : Calls Try.prog 45 #[.pointer (some ⟨b, 0, none⟩), .int .i64 k] W fun e W' => e = .returned (.int .i64 (bkE H k)) ∧ ∃ ow', LU w0 o0 W' ow' s sb ob b c (N + 1) (bkA A H k) (bkH H k) A' H' kd two k v := by
  refine (back1 W ow (2 * s) b N A H h.t k hN).mono ?_
  rintro e W' ⟨rfl, q1, q2⟩
  exact ⟨rfl, _, LU.stepT h hs q1 q2⟩
theorem LU.backR {w0 W : World} {o0 ow : Nat → Nat} {s sb ob b c N : Nat} {A A' : List (Int × Int)} {H H' : List (List (Int × Int))} {kd : Int} {two : Bool} {k v : Int} (h : LU w0 o0 W ow s sb ob b c N A H A' H' kd two k v) : Calls Try.prog 28 #[.pointer (some ⟨c, 0, none⟩), .int .i64 k] W fun e W' => e = .returned (.int .i64 (bkE H' k)) ∧ ∃ ow', LU w0 o0 W' ow' s sb ob b c (N + 1) A H (bkA A' H' k) (bkH H' k) kd two k v := by
  refine (backR1 W ow (2 * s + 1) c N A' H' h.r k).mono ?_
  rintro e W' ⟨rfl, q1, q2⟩
  exact ⟨rfl, _, LU.stepR h q1 q2⟩
theorem LU.forgetT {w0 W : World} {o0 ow : Nat → Nat} {s sb ob b c N : Nat} {A A' : List (Int × Int)} {H H' : List (List (Int × Int))} {kd : Int} {two : Bool} {k v : Int} (h : LU w0 o0 W ow s sb ob b c N A H A' H' kd two k v) (hs : 0 < s) (hN : N < 274877906944) : Calls Try.prog 47 #[.pointer (some ⟨b, 0, none⟩), .int .i64 k] W fun e W' => e = .returned (.int .i64 (bkE H k)) ∧ ∃ ow', LU w0 o0 W' ow' s sb ob b c (N + 1) A (bkH H k) A' H' kd two k v := by
  refine (forget1 W ow (2 * s) b N A H h.t k (by omega)).mono ?_
  rintro e W' ⟨rfl, q1, q2⟩
  exact ⟨rfl, _, LU.stepT h hs q1 q2⟩
theorem LU.forgetR {w0 W : World} {o0 ow : Nat → Nat} {s sb ob b c N : Nat} {A A' : List (Int × Int)} {H H' : List (List (Int × Int))} {kd : Int} {two : Bool} {k v : Int} (h : LU w0 o0 W ow s sb ob b c N A H A' H' kd two k v) : Calls Try.prog 30 #[.pointer (some ⟨c, 0, none⟩), .int .i64 k] W fun e W' => e = .returned (.int .i64 (bkE H' k)) ∧ ∃ ow', LU w0 o0 W' ow' s sb ob b c (N + 1) A H A' (bkH H' k) kd two k v := by
  refine (forgetR1 W ow (2 * s + 1) c N A' H' h.r k).mono ?_
  rintro e W' ⟨rfl, q1, q2⟩
  exact ⟨rfl, _, LU.stepR h q1 q2⟩
end Go.Proofs.Ytohfkgfjcnldaaa
