/- Package code: Scan: what its loop keeps. -/
import Derived.Test.YtcjmbpchdeapiaaDoorCdj
import Derived.Test.YtcjmbpchdeapiaaDoorCdd
import Derived.RangeFuncBox
import Derived.Maps.AppendAt
namespace Go.Proofs.YtcjmbpchdeapiaaDoor
open Go.RowKit Go.Shelf
/-- a block that holds just these cells -/
def CBox (W : World) (B : Nat) (t : TypeId) (l : List Value) : Prop := W.heap[B]? = some (.cells l.toArray t (0, 0))
theorem CBox.lt {W : World} {B : Nat} {t : TypeId} {l : List Value} (h : CBox W B t l) : B < W.heap.size := (Array.getElem?_eq_some_iff.1 h).1
theorem CBox.cell {W : World} {B : Nat} {t : TypeId} {l : List Value} (h : CBox W B t l) (j : Nat) : W.cell? ⟨B, j, none⟩ = l[j]? := by simp [World.cell?, show W.heap[B]? = _ from h]
theorem CBox.frozen {W : World} {B : Nat} {t : TypeId} {l : List Value} (h : CBox W B t l) (j : Nat) : W.frozen? ⟨B, j, none⟩ = false := by simp [World.frozen?, show W.heap[B]? = _ from h]
theorem CBox.new (W : World) (t : TypeId) (l : List Value) : CBox (W.alloc (.cells l.toArray t)) W.heap.size t l := World.alloc_heap_new W _
theorem CBox.kept {W W' : World} {row : Option Nat} {B : Nat} {t : TypeId} {l : List Value} (h : CBox W B t l) (hg : W.grownBy W' row) (hne : some B ≠ row) : CBox W' B t l := (hg.block B h.lt hne).trans h
theorem CBox.alloc {W : World} {B : Nat} {t : TypeId} {l : List Value} (h : CBox W B t l) (o : Obj) : CBox (W.alloc o) B t l := h.kept (World.grownBy_alloc W o none) (by simp)
theorem CBox.past {W W' : World} {B : Nat} {t : TypeId} {l : List Value} (h : CBox W B t l) (hB : Below W.heap.size W W') : CBox W' B t l := (hB.block B h.lt).trans h
theorem CBox.other {W : World} {B : Nat} {t : TypeId} {l : List Value} (h : CBox W B t l) (a : Addr) (u : Value) (hne : B ≠ a.block) : CBox (W.setCell a u) B t l := (Below.heap_setCell W a u B hne).trans h
theorem CBox.set {W : World} {B : Nat} {t : TypeId} {l : List Value} (h : CBox W B t l) (j : Nat) (u : Value) : CBox (W.setCell ⟨B, j, none⟩ u) B t (l.set j u) := by
  have h' : W.heap[B]? = _ := h
  unfold CBox
  simp [World.setCell, Array.getElem?_modify, h']
theorem CBox.own {β : Type} (B : Nat) (t : TypeId) (f : β → List Value) : Own (fun s W => CBox W B t (f s)) := fun s X Y row hs hg hrow =>
  hs.kept hg (fun e => by
    obtain ⟨o, ho, hc⟩ := hrow B e.symm
    rw [show X.heap[B]? = _ from hs] at ho; cases ho; cases hc)
theorem InsB.own {β : Type} (g m : Nat) (b : Nat → Nat) : Own (fun (_ : β) W => InsB W g m b) := fun s X Y row hs hg hrow =>
  hs.kept hg (fun e => by
    obtain ⟨o, ho, hc⟩ := hrow g e.symm
    rw [hs.2] at ho; cases ho; cases hc)
theorem CBox.set4 {W : World} {B : Nat} {t : TypeId} {z0 z1 z2 z3 : Value} (h : CBox W B t [z0, z1, z2, z3]) (a0 a1 a2 a3 : Value) : CBox ((((W.setCell ⟨B, 0, none⟩ a0).setCell ⟨B, 1, none⟩ a1).setCell ⟨B, 2, none⟩ a2).setCell ⟨B, 3, none⟩ a3) B t [a0, a1, a2, a3] :=
  (((h.set 0 a0).set 1 a1).set 2 a2).set 3 a3
theorem CBox.row {W : World} {B : Nat} {t e : TypeId} {l : List Value} (h : CBox W B t l) {base size k : Nat} {v : Value} {xs : List Value} (hr : W.ownsRow base e size v k xs) (hB : B < base ∨ t ≠ e) : some B ≠ v.ownBlock := by
  rcases hr.2 with ⟨rfl, _⟩ | ⟨g, cap, cur, rfl, hb, hgb, _⟩
  · simp [Value.ownBlock]
  · intro e'
    obtain rfl : B = g := by simpa [Value.ownBlock] using e'
    rcases hB with hB | hB
    · omega
    · rw [show W.heap[B]? = _ from h] at hgb; cases hgb; exact hB rfl
theorem InsB.row {W : World} {g m : Nat} {b : Nat → Nat} (h : InsB W g m b) {base size k : Nat} {v : Value} {xs : List Value} (hr : W.ownsRow base 40 size v k xs) : some g ≠ v.ownBlock :=
  CBox.row (l := bsL m b) h.2 hr (Or.inr (by decide))
/-- an instruction's cells -/
def insC (b : Nat → Nat) (x : Nat × Nat × Nat) : List Value := [.int .i64 (x.1 : Int), .int .i64 (b x.1 : Int), .slice (some ⟨x.2.1, 0, none⟩) (immA b x.1) (immA b x.1), .int .i64 (nxA b x.1 : Int)]
def insL (b : Nat → Nat) (xs : List (Nat × Nat × Nat)) : List Value := xs.flatMap (insC b)
theorem insL_snoc (b : Nat → Nat) (xs : List (Nat × Nat × Nat)) (x : Nat × Nat × Nat) : insL b (xs ++ [x]) = insL b xs ++ insC b x := by simp [insL]
/-- the last one's cells -/
def lastC (b : Nat → Nat) (xs : List (Nat × Nat × Nat)) : List Value := match xs.getLast? with
  | none => [.int .i64 0, .int .i64 0, .slice none 0 0, .int .i64 0]
  | some x => insC b x
theorem lastC_snoc (b : Nat → Nat) (xs : List (Nat × Nat × Nat)) (x : Nat × Nat × Nat) : lastC b (xs ++ [x]) = insC b x := by simp [lastC]
theorem lastC_four (b : Nat → Nat) (xs : List (Nat × Nat × Nat)) : ∃ z0 z1 z2 z3, lastC b xs = [z0, z1, z2, z3] := by
  unfold lastC
  split
  · exact ⟨_, _, _, _, rfl⟩
  · exact ⟨_, _, _, _, rfl⟩
theorem lastC_parts {b : Nat → Nat} {xs : List (Nat × Nat × Nat)} (h : FitA b xs) : ∃ (z0 z1 : Nat) (ad : Option Addr) (m c : Nat), lastC b xs = [.int .i64 (z0 : Int), .int .i64 (z1 : Int), .slice ad m c, .int .i64 (posA b xs.length : Int)] ∧ (xs.length ≠ 0 → z0 = posA b (xs.length - 1) ∧ z1 = b (posA b (xs.length - 1))) := by
  rcases List.eq_nil_or_concat xs with rfl | ⟨ys, x, rfl⟩
  · exact ⟨0, 0, none, 0, 0, rfl, fun h => absurd rfl h⟩
  · rw [List.concat_eq_append] at h ⊢
    have hx : x.1 = posA b ys.length := h.get (j := ys.length) (by simp)
    rw [lastC_snoc, List.length_append, List.length_singleton, Nat.add_sub_cancel]
    refine ⟨x.1, b x.1, some ⟨x.2.1, 0, none⟩, immA b x.1, immA b x.1, ?_, fun _ => ⟨hx, by rw [hx]⟩⟩
    simp only [insC, posA, hx]
theorem infoI4 : (Tryd.prog.info? 40).map (fun i => (i.zero, i.size, i.bytes)) = some (some (.agg #[.int .i64 0, .int .i64 0, .slice none 0 0, .int .i64 0]), 4, 48) := by kernel_rfl
theorem cells4_new (W : World) (t : TypeId) (l : List Value) : ∀ j u, l[j]? = some u → (W.alloc (.cells l.toArray t)).cell? ((⟨W.heap.size, 0, none⟩ : Addr).add j) = some u := fun j u h => by
  rw [Addr.add_mid, Nat.zero_add, (CBox.new W t l).cell j, h]
theorem insC_one (b : Nat → Nat) (x : Nat × Nat × Nat) : ∀ u ∈ insC b x, u.oneCell' = true := by
  intro u hu
  simp only [insC, List.mem_cons, List.not_mem_nil, or_false] at hu
  rcases hu with rfl | rfl | rfl | rfl <;> rfl
/-- the blocks of the immediate bytes: each its own, from n0 on -/
def InsQ (n0 : Nat) (b : Nat → Nat) (xs : List (Nat × Nat × Nat)) (W : World) : Prop := xs.Pairwise (fun x y => x.2.1 < y.2.1) ∧ ∀ x ∈ xs, n0 ≤ x.2.1 ∧ InsB W x.2.1 (immA b x.1) (fun j => b (x.1 + 1 + j))
theorem InsQ.nil (n0 : Nat) (b : Nat → Nat) (W : World) : InsQ n0 b [] W := ⟨List.Pairwise.nil, fun x h => by cases h⟩
theorem InsQ.own (n0 : Nat) (b : Nat → Nat) : Own (InsQ n0 b) := fun _ X Y row hs hg hrow => ⟨hs.1, fun x hx => ⟨(hs.2 x hx).1, InsB.own (β := Unit) _ _ _ () X Y row (hs.2 x hx).2 hg hrow⟩⟩
theorem InsQ.past {n0 : Nat} {b : Nat → Nat} {xs : List (Nat × Nat × Nat)} {W W' : World} (h : InsQ n0 b xs W) (hB : Below W.heap.size W W') : InsQ n0 b xs W' := ⟨h.1, fun x hx => ⟨(h.2 x hx).1, (h.2 x hx).2.past hB⟩⟩
theorem InsQ.snoc {n0 : Nat} {b : Nat → Nat} {L : Nat} {xs : List (Nat × Nat × Nat)} {x : Nat × Nat × Nat} {W W' : World} (h : InsQ n0 b xs W) (hc : ComeA b L xs x W W') (hn : n0 ≤ W.heap.size) : InsQ n0 b (xs ++ [x]) W' := by
  obtain ⟨hB, _, _, _, ⟨q1, _, _⟩, hI⟩ := hc
  have h2 := h.past hB
  refine ⟨?_, fun y hy => ?_⟩
  · rw [List.pairwise_append]
    refine ⟨h.1, List.pairwise_singleton _ _, fun y hy z hz => ?_⟩
    obtain rfl := List.mem_singleton.1 hz
    have := (h.2 y hy).2.lt
    omega
  · rcases List.mem_append.1 hy with hy | hy
    · exact h2.2 y hy
    · obtain rfl := List.mem_singleton.1 hy
      exact ⟨by omega, hI⟩
theorem InsQ.kept {n0 : Nat} {b : Nat → Nat} {xs : List (Nat × Nat × Nat)} {W W' : World} {row : Option Nat} (h : InsQ n0 b xs W) (hg : W.grownBy W' row) (hr : ∀ x ∈ xs, some x.2.1 ≠ row) : InsQ n0 b xs W' := ⟨h.1, fun x hx => ⟨(h.2 x hx).1, (h.2 x hx).2.kept hg (hr x hx)⟩⟩
theorem InsQ.other {n0 : Nat} {b : Nat → Nat} {xs : List (Nat × Nat × Nat)} {W : World} (h : InsQ n0 b xs W) (a : Addr) (u : Value) (hn : a.block < n0) : InsQ n0 b xs (W.setCell a u) := ⟨h.1, fun x hx => ⟨(h.2 x hx).1, (h.2 x hx).2.1, (Below.heap_setCell W a u _ (by have := (h.2 x hx).1; omega)).trans (h.2 x hx).2.2⟩⟩
/-- what Scan's loop keeps between two rounds; n0: the block of 'found' -/
def ScI (w : World) (b : Nat → Nat) (pre : List (Nat × Nat × Nat)) (W : World) : Prop := (∃ fv, Boxed W w.heap.size 25 fv ∧ W.ownsRow (w.heap.size + 3) 40 4 fv pre.length (insL b pre)) ∧ CBox W (w.heap.size + 1) 40 (lastC b pre) ∧ InsQ (w.heap.size + 3) b pre W ∧ Below w.heap.size w W ∧ w.heap.size + 3 ≤ W.heap.size
/-- where an instruction has come -/
def ScC (w : World) (b : Nat → Nat) (L : Nat) (pre : List (Nat × Nat × Nat)) (x : Nat × Nat × Nat) (W : World) : Prop := (∃ fv, Boxed W w.heap.size 25 fv ∧ W.ownsRow (w.heap.size + 3) 40 4 fv pre.length (insL b pre) ∧ some x.2.2 ≠ fv.ownBlock) ∧ CBox W (w.heap.size + 1) 40 (lastC b pre) ∧ InsQ (w.heap.size + 3) b (pre ++ [x]) W ∧ Below w.heap.size w W ∧ (w.heap.size + 3 ≤ x.2.2 ∧ x.2.2 < W.heap.size) ∧ UptoA b L (pre.length + 1)
theorem row_own {β : Type} (base : Nat) (e : TypeId) (size : Nat) (v : Value) (k : Nat) (xs : List Value) : Own (fun (_ : β) W => W.ownsRow base e size v k xs) := by
  rintro s X Y row hr hg hrow
  refine hr.kept hg ?_
  rcases hr.2 with ⟨rfl, _⟩ | ⟨g, cap, cur, rfl, _, hgb, _⟩
  · exact .inl rfl
  · refine .inr fun e' => ?_
    obtain ⟨o, ho, hc⟩ := hrow g (by simpa [Value.ownBlock] using e'.symm)
    rw [hgb] at ho; cases ho; cases hc
theorem ScI.own (w : World) (b : Nat → Nat) (B : Nat) (hB : w.heap.size ≤ B) : OwnFrom B (ScI w b) := fun pre X Y row h hg hr => by
  have hr2 : ∀ r, row = some r → ∃ o : Obj, X.heap[r]? = some o ∧ o.isCells = false := fun r e => (hr r e).2
  obtain ⟨⟨fv, h1, h2⟩, h3, h4, h5, h6⟩ := h
  exact ⟨⟨fv, boxed_own (β := Unit) _ _ (fun _ => fv) () X Y row h1 hg hr2, row_own (β := Unit) _ _ _ _ _ _ () X Y row h2 hg hr2⟩, CBox.own (β := Unit) _ _ (fun _ => lastC b pre) () X Y row h3 hg hr2, InsQ.own _ _ pre X Y row h4 hg hr2, ownFrom_below (β := Unit) (Nat.le_refl _) hB () X Y row h5 hg hr, Nat.le_trans h6 hg.size⟩
theorem ScC.own (w : World) (b : Nat → Nat) (L : Nat) (pre : List (Nat × Nat × Nat)) (x : Nat × Nat × Nat) (B : Nat) (hB : w.heap.size ≤ B) : OwnFrom B (fun (_ : Unit) W => ScC w b L pre x W) := fun _ X Y row h hg hr => by
  have hr2 : ∀ r, row = some r → ∃ o : Obj, X.heap[r]? = some o ∧ o.isCells = false := fun r e => (hr r e).2
  obtain ⟨⟨fv, h1, h2, h2'⟩, h3, h4, h5, h6, h7⟩ := h
  exact ⟨⟨fv, boxed_own (β := Unit) _ _ (fun _ => fv) () X Y row h1 hg hr2, row_own (β := Unit) _ _ _ _ _ _ () X Y row h2 hg hr2, h2'⟩, CBox.own (β := Unit) _ _ (fun _ => lastC b pre) () X Y row h3 hg hr2, InsQ.own _ _ (pre ++ [x]) X Y row h4 hg hr2, ownFrom_below (β := Unit) (Nat.le_refl _) hB () X Y row h5 hg hr, ⟨h6.1, Nat.lt_of_lt_of_le h6.2 hg.size⟩, h7⟩
theorem ownsRow_past {W W' : World} {base : Nat} {e : TypeId} {size : Nat} {v : Value} {k : Nat} {xs : List Value} (h : W.ownsRow base e size v k xs) (hB : Below W.heap.size W W') : W'.ownsRow base e size v k xs :=
  row_own (β := Unit) _ _ _ _ _ _ () W W' none h (grown_below hB) (fun r e => by cases e)
theorem own_lt {W : World} {base : Nat} {e : TypeId} {size : Nat} {v : Value} {k : Nat} {xs : List Value} (h : W.ownsRow base e size v k xs) {g : Nat} (hg : some g = v.ownBlock) : base ≤ g ∧ g < W.heap.size := by
  rcases h.2 with ⟨rfl, _⟩ | ⟨g', cap, cur, rfl, hb, hgb, _⟩
  · simp [Value.ownBlock] at hg
  · obtain rfl : g = g' := by simpa [Value.ownBlock] using hg
    exact ⟨hb, (Array.getElem?_eq_some_iff.1 hgb).1⟩
theorem ScC.come {w : World} {b : Nat → Nat} {L : Nat} {pre : List (Nat × Nat × Nat)} {x : Nat × Nat × Nat} {W0 W1 : World} (h : ScI w b pre W0) (hc : ComeA b L pre x W0 W1) : ScC w b L pre x W1 := by
  obtain ⟨⟨fv, h1, h2⟩, h3, h4, h5, hn⟩ := h
  have hc' := hc
  obtain ⟨hB, hu, _, _, ⟨q1, q2, q3⟩, _⟩ := hc
  exact ⟨⟨fv, (hB.block _ h1.lt).trans h1, ownsRow_past h2 hB, fun e => by have := (own_lt h2 e).2; omega⟩, h3.past hB, h4.snoc hc' hn, h5.trans (hB.mono h5.size), ⟨by omega, q3⟩, hu⟩
/-- what the round's first statement leaves -/
def ScM (w : World) (b : Nat → Nat) (pre : List (Nat × Nat × Nat)) (x : Nat × Nat × Nat) (Bx : Nat) (W W2 : World) (v' : Value) : Prop :=
  Boxed W2 w.heap.size 25 v' ∧ W2.ownsRow (w.heap.size + 3) 40 4 v' (pre.length + 1) (insL b (pre ++ [x])) ∧ CBox W2 (w.heap.size + 1) 40 (lastC b pre) ∧ CBox W2 Bx 40 (insC b x) ∧ InsQ (w.heap.size + 3) b (pre ++ [x]) W2 ∧ Below w.heap.size w W2 ∧ w.heap.size + 3 ≤ W2.heap.size ∧
  KeepsOthers W W2 ∧ KeepC (fun k => (k < w.heap.size ∨ k = w.heap.size + 2) ∨ k = x.2.2) W W2
theorem ScM.mk {w W w1 : World} {b : Nat → Nat} {pre : List (Nat × Nat × Nat)} {x : Nat × Nat × Nat} {Bx : Nat} {fv v' : Value} {tmp : Obj}
    (h1 : Boxed W w.heap.size 25 fv) (h2 : W.ownsRow (w.heap.size + 3) 40 4 fv pre.length (insL b pre)) (h2' : some x.2.2 ≠ fv.ownBlock) (h3 : CBox W (w.heap.size + 1) 40 (lastC b pre)) (h4 : InsQ (w.heap.size + 3) b (pre ++ [x]) W) (h5 : Below w.heap.size w W) (h6 : w.heap.size + 3 ≤ x.2.2 ∧ x.2.2 < W.heap.size)
    (hx : CBox W Bx 40 (insC b x)) (hx2 : some Bx ≠ fv.ownBlock) (hx3 : w.heap.size + 3 ≤ Bx) (hown' : w1.ownsRow (w.heap.size + 3) 40 4 v' (pre.length + 1) (insL b pre ++ insC b x)) (hgrow : (W.alloc tmp).grownBy w1 fv.ownBlock) :
    (Boxed w1 w.heap.size 25 fv ∧ CBox w1 (w.heap.size + 1) 40 (lastC b pre) ∧ CBox w1 Bx 40 (insC b x)) ∧ ScM w b pre x Bx W (w1.setCell ⟨w.heap.size, 0, none⟩ v') v' := by
  have hte : (25 : Nat) ≠ 40 := by decide
  have hrow1 : ∀ j, fv.ownBlock = some j → w.heap.size + 3 ≤ j := fun j e => (own_lt h2 e.symm).1
  have g1 := (World.grownBy_alloc W tmp none)
  have hv1 : Boxed w1 w.heap.size 25 fv := (h1.alloc tmp).kept hgrow (h1.not_row hte h2)
  have sz : W.heap.size ≤ w1.heap.size := Nat.le_trans g1.size hgrow.size
  have hg2 := grownBy_setCell' w1 w.heap.size v'
  refine ⟨⟨hv1, (h3.alloc tmp).kept hgrow (h3.row h2 (Or.inl (by omega))), (hx.alloc tmp).kept hgrow hx2⟩, hv1.set v', ?_, ?_, ?_, ?_, ?_, ?_, ?_, ?_⟩
  · rw [insL_snoc]; exact hown'.kept hg2 (.inr (hv1.not_row hte hown').symm)
  · exact ((h3.alloc tmp).kept hgrow (h3.row h2 (Or.inl (by omega)))).other _ _ (by simp)
  · exact ((hx.alloc tmp).kept hgrow hx2).other _ _ (by simp; omega)
  · exact (((InsQ.past h4 ((Below.refl _ W).alloc (Nat.le_refl _) tmp)).kept hgrow (fun y hy => (h4.2 y hy).2.row h2))).other _ _ (by dsimp only; omega)
  · exact ((h5.alloc h5.size tmp).grown hgrow (by have := h5.size; simp; omega) (fun j e => by have := hrow1 j e; omega)).setCell (p := ⟨w.heap.size, 0, none⟩) (Nat.le_refl _) v'
  · have := hg2.size; omega
  · refine ((KeepsOthers.alloc W tmp).trans (KeepsOthers.of_grownBy hgrow fun j o ej hj => ?_)).trans (KeepsOthers.setCell _ _ _)
    rcases (h2.alloc tmp).2 with ⟨rfl, _⟩ | ⟨g, cap, cur, rfl, _, hgb, _⟩
    · simp [Value.ownBlock] at ej
    · obtain rfl : g = j := by simpa [Value.ownBlock] using ej
      rw [hgb] at hj; cases hj; rfl
  · refine (KeepC.trans (KeepC.past ((Below.refl _ W).alloc (Nat.le_refl _) tmp)) (KeepC.grown hgrow fun r e => ?_)).trans (KeepC.set _ _ _ ?_)
    · have := hrow1 r e
      rintro ((h | h) | h)
      · omega
      · omega
      · subst h; exact h2' e.symm
    · dsimp only
      rintro ((h | h) | h) <;> omega
/-- what the round leaves -/
theorem ScM.fin {w W W2 : World} {b : Nat → Nat} {pre : List (Nat × Nat × Nat)} {x : Nat × Nat × Nat} {Bx : Nat} {v' : Value} (h : ScM w b pre x Bx W W2 v') (h6 : w.heap.size + 3 ≤ x.2.2) (a0 a1 a2 a3 : Value) (ha : insC b x = [a0, a1, a2, a3]) :
    KeepsOthers W ((((W2.setCell ⟨w.heap.size + 1, 0, none⟩ a0).setCell ⟨w.heap.size + 1, 1, none⟩ a1).setCell ⟨w.heap.size + 1, 2, none⟩ a2).setCell ⟨w.heap.size + 1, 3, none⟩ a3) ∧
    EaK (fun k => k < w.heap.size ∨ k = w.heap.size + 2) x W ((((W2.setCell ⟨w.heap.size + 1, 0, none⟩ a0).setCell ⟨w.heap.size + 1, 1, none⟩ a1).setCell ⟨w.heap.size + 1, 2, none⟩ a2).setCell ⟨w.heap.size + 1, 3, none⟩ a3) ∧
    ScI w b (pre ++ [x]) ((((W2.setCell ⟨w.heap.size + 1, 0, none⟩ a0).setCell ⟨w.heap.size + 1, 1, none⟩ a1).setCell ⟨w.heap.size + 1, 2, none⟩ a2).setCell ⟨w.heap.size + 1, 3, none⟩ a3) := by
  obtain ⟨h1, h2, h3, _, h4, h5, h6', h7, h8⟩ := h
  have ne : ∀ u v : Value, ∀ V : World, ∀ j, Boxed V w.heap.size 25 v → Boxed (V.setCell ⟨w.heap.size + 1, j, none⟩ u) w.heap.size 25 v := fun u v V j hb => (Below.heap_setCell V ⟨w.heap.size + 1, j, none⟩ u _ (by simp)).trans hb
  have rw' : ∀ (u : Value) (V : World) (j : Nat), V.ownsRow (w.heap.size + 3) 40 4 v' (pre.length + 1) (insL b (pre ++ [x])) → (V.setCell ⟨w.heap.size + 1, j, none⟩ u).ownsRow (w.heap.size + 3) 40 4 v' (pre.length + 1) (insL b (pre ++ [x])) := fun u V j hb => by
    refine ⟨hb.1, hb.2.imp id fun ⟨g, c, cur, e1, e2, e3, e4⟩ => ⟨g, c, cur, e1, e2, (Below.heap_setCell V ⟨w.heap.size + 1, j, none⟩ u g (by dsimp only; omega)).trans e3, e4⟩⟩
  have ks : ∀ (u : Value) (V : World) (j : Nat), KeepC (fun k => (k < w.heap.size ∨ k = w.heap.size + 2) ∨ k = x.2.2) V (V.setCell ⟨w.heap.size + 1, j, none⟩ u) := fun u V j => KeepC.set _ _ _ (by dsimp only; rintro ((h | h) | h) <;> omega)
  obtain ⟨z0, z1, z2, z3, hz⟩ := lastC_four b pre
  rw [hz] at h3
  refine ⟨(((h7.trans (KeepsOthers.setCell _ _ _)).trans (KeepsOthers.setCell _ _ _)).trans (KeepsOthers.setCell _ _ _)).trans (KeepsOthers.setCell _ _ _), (((h8.trans (ks _ _ _)).trans (ks _ _ _)).trans (ks _ _ _)).trans (ks _ _ _), ⟨v', ne _ _ _ _ (ne _ _ _ _ (ne _ _ _ _ (ne _ _ _ _ h1))), ?_⟩, ?_, ?_, ?_, ?_⟩
  · rw [List.length_append]; exact rw' _ _ _ (rw' _ _ _ (rw' _ _ _ (rw' _ _ _ h2)))
  · rw [lastC_snoc, ha]; exact h3.set4 a0 a1 a2 a3
  · exact (((h4.other _ _ (by simp)).other _ _ (by simp)).other _ _ (by simp)).other _ _ (by simp)
  · exact (((h5.setCell (p := ⟨w.heap.size + 1, 0, none⟩) (by simp) _).setCell (p := ⟨w.heap.size + 1, 1, none⟩) (by simp) _).setCell (p := ⟨w.heap.size + 1, 2, none⟩) (by simp) _).setCell (p := ⟨w.heap.size + 1, 3, none⟩) (by simp) _
  · simp [World.setCell]; exact h6'
end Go.Proofs.YtcjmbpchdeapiaaDoor
