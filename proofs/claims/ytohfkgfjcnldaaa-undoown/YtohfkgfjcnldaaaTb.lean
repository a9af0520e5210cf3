/- Package undo: a table as it lies in memory. -/
import Derived.Test.YtohfkgfjcnldaaaTa
import Derived.Deep.QuietTactic
import Derived.BigQuiet
import Derived.BigRegion
import Derived.Deep.CutRange
import Derived.Deep.DeepCutAuto
import Derived.LoopTactic
import Derived.LoopN
import Derived.WalkMore
namespace Go.Proofs.Ytohfkgfjcnldaaa
open Go.RowKit
/-- all blocks that were there but those of S are as they were -/
structure But (S : Nat → Prop) (w w' : World) : Prop where
  os : w'.os = w.os
  tape : w'.tape = w.tape
  output : w'.output = w.output
  size : w.heap.size ≤ w'.heap.size
  block : ∀ k, k < w.heap.size → ¬ S k → w'.heap[k]? = w.heap[k]?
theorem But.refl (S : Nat → Prop) (w : World) : But S w w := ⟨rfl, rfl, rfl, Nat.le_refl _, fun _ _ _ => rfl⟩
theorem But.trans {S : Nat → Prop} {u v w : World} (h : But S u v) (k : But S v w) : But S u w :=
  ⟨k.os.trans h.os, k.tape.trans h.tape, k.output.trans h.output, Nat.le_trans h.size k.size, fun i hi hb => (k.block i (Nat.lt_of_lt_of_le hi h.size) hb).trans (h.block i hi hb)⟩
theorem below_but {S : Nat → Prop} {u v : World} (h : Below u.heap.size u v) : But S u v := ⟨h.os, h.tape, h.output, h.size, fun i hi _ => h.block i hi⟩
theorem But.cell {S : Nat → Prop} {w w' : World} (h : But S w w') {p : Addr} (hp : p.block < w.heap.size) (hb : ¬ S p.block) : w'.cell? p = w.cell? p := World.cell?_of_block (w := w) (h.block p.block hp hb)
theorem But.frozen {S : Nat → Prop} {w w' : World} (h : But S w w') {p : Addr} (hp : p.block < w.heap.size) (hb : ¬ S p.block) : w'.frozen? p = w.frozen? p := World.frozen?_of_block (w := w) (h.block p.block hp hb)
theorem But.below {S : Nat → Prop} {B : Nat} {w w' : World} (h : But S w w') (hS : ∀ k, S k → B ≤ k) (hB : B ≤ w.heap.size) : Below B w w' := ⟨h.os, h.tape, h.output, h.size, fun k hk => h.block k (by omega) (fun e => by have := hS k e; omega)⟩
theorem But.mono {S T : Nat → Prop} {u v : World} (h : But S u v) (k : ∀ i, S i → T i) : But T u v := ⟨h.os, h.tape, h.output, h.size, fun i hi hb => h.block i hi fun e => hb (k i e)⟩
/-- what stands in S later was there, or is new -/
def Grown (S S' : Nat → Prop) (w : World) : Prop := ∀ k, S' k → S k ∨ w.heap.size ≤ k
theorem Grown.refl (S : Nat → Prop) (w : World) : Grown S S w := fun _ h => Or.inl h
theorem But.then {S S' : Nat → Prop} {u v w : World} (h : But S u v) (g : Grown S S' u) (k : But S' v w) : But S u w :=
  ⟨k.os.trans h.os, k.tape.trans h.tape, k.output.trans h.output, Nat.le_trans h.size k.size, fun i hi hb => (k.block i (Nat.lt_of_lt_of_le hi h.size) (fun e => by rcases g i e with h1 | h1; exact hb h1; omega)).trans (h.block i hi hb)⟩
theorem Grown.then {S S' S2 : Nat → Prop} {u v : World} (g : Grown S S' u) (hs : u.heap.size ≤ v.heap.size) (k : Grown S' S2 v) : Grown S S2 u := fun i hi => by
  rcases k i hi with h | h
  · exact g i h
  · exact Or.inr (by omega)
theorem grown_but {w w' : World} {S : Nat → Prop} {row : Option Nat} (h : w.grownBy w' row) (hr : ∀ k, row = some k → S k) : But S w w' := ⟨h.os, h.tape, h.output, h.size, fun k hk hn => h.block k hk (fun e => hn (hr k e.symm))⟩
theorem But.drew {S : Nat → Prop} {w w' : World} (h : But S w w') : But S w w'.drew := ⟨h.os, h.tape, h.output, h.size, h.block⟩
theorem But.setCell {S : Nat → Prop} {w w' : World} (h : But S w w') (a : Addr) (u : Value) (ha : S a.block ∨ w.heap.size ≤ a.block) : But S w (w'.setCell a u) := by
  refine ⟨h.os, h.tape, h.output, ?_, fun k hk hn => ?_⟩
  · have : (w'.setCell a u).heap.size = w'.heap.size := by simp [World.setCell]
    rw [this]
    exact h.size
  · have hne : k ≠ a.block := by
      rintro rfl
      rcases ha with ha | ha
      · exact hn ha
      · omega
    exact (Below.heap_setCell w' a u k hne).trans (h.block k hk hn)
theorem But.alloc {S : Nat → Prop} {w w' : World} (h : But S w w') (o : Obj) : But S w (w'.alloc o) := ⟨h.os, h.tape, h.output, Nat.le_trans h.size (by simp), fun k hk hn => (Below.heap_alloc w' o k (Nat.lt_of_lt_of_le hk h.size)).trans (h.block k hk hn)⟩
/-- a block that holds just these cells -/
def CBox (W : World) (B : Nat) (t : TypeId) (l : List Value) : Prop := W.heap[B]? = some (.cells l.toArray t (0, 0))
theorem CBox.lt {W : World} {B : Nat} {t : TypeId} {l : List Value} (h : CBox W B t l) : B < W.heap.size := (Array.getElem?_eq_some_iff.1 h).1
theorem CBox.cell {W : World} {B : Nat} {t : TypeId} {l : List Value} (h : CBox W B t l) (j : Nat) : W.cell? ⟨B, j, none⟩ = l[j]? := by simp [World.cell?, show W.heap[B]? = _ from h]
theorem CBox.frozen {W : World} {B : Nat} {t : TypeId} {l : List Value} (h : CBox W B t l) (j : Nat) : W.frozen? ⟨B, j, none⟩ = false := by simp [World.frozen?, show W.heap[B]? = _ from h]
theorem CBox.new (W : World) (t : TypeId) (l : List Value) : CBox (W.alloc (.cells l.toArray t)) W.heap.size t l := heap_alloc_new W _
theorem CBox.but {S : Nat → Prop} {W W' : World} {B : Nat} {t : TypeId} {l : List Value} (h : CBox W B t l) (k : But S W W') (hs : ¬ S B) : CBox W' B t l := (k.block B h.lt hs).trans h
theorem CBox.set {W : World} {B : Nat} {t : TypeId} {l : List Value} (h : CBox W B t l) (j : Nat) (u : Value) : CBox (W.setCell ⟨B, j, none⟩ u) B t (l.set j u) := by
  have h' : W.heap[B]? = _ := h
  unfold CBox
  simp [World.setCell, Array.getElem?_modify, h']
/-- the cells of rows of two numbers -/
def rowsD (L : List (Int × Int)) : List Value := L.flatMap fun p => [.int .i64 p.1, .int .i64 p.2]
theorem rowsD_nil : rowsD [] = [] := rfl
theorem rowsD_cons (p : Int × Int) (L : List (Int × Int)) : rowsD (p :: L) = .int .i64 p.1 :: .int .i64 p.2 :: rowsD L := rfl
theorem rowsD_snoc (L : List (Int × Int)) (p : Int × Int) : rowsD (L ++ [p]) = rowsD L ++ [.int .i64 p.1, .int .i64 p.2] := by simp [rowsD]
theorem rowsD_len : ∀ L : List (Int × Int), (rowsD L).length = L.length * 2
  | [] => rfl
  | p :: L => by rw [rowsD_cons, List.length_cons, List.length_cons, rowsD_len L, List.length_cons]; omega
theorem rowsD_get : ∀ (L : List (Int × Int)) (i : Nat) (p : Int × Int), L[i]? = some p → (rowsD L)[i * 2]? = some (.int .i64 p.1) ∧ (rowsD L)[i * 2 + 1]? = some (.int .i64 p.2)
  | [], i, p, h => by simp at h
  | q :: L, 0, p, h => by
    simp at h
    subst h
    exact ⟨rfl, rfl⟩
  | q :: L, i + 1, p, h => by
    have h' : L[i]? = some p := by simpa using h
    obtain ⟨h1, h2⟩ := rowsD_get L i p h'
    rw [rowsD_cons]
    refine ⟨?_, ?_⟩
    · rw [show (i + 1) * 2 = i * 2 + 1 + 1 by omega]; simpa using h1
    · rw [show (i + 1) * 2 + 1 = i * 2 + 1 + 1 + 1 by omega]; simpa using h2
theorem rowsD_set : ∀ (L : List (Int × Int)) (i : Nat) (p : Int × Int), ((rowsD L).set (i * 2) (.int .i64 p.1)).set (i * 2 + 1) (.int .i64 p.2) = rowsD (L.set i p)
  | [], i, p => by simp [rowsD]
  | q :: L, 0, p => by simp [rowsD_cons]
  | q :: L, i + 1, p => by
    rw [rowsD_cons, List.set_cons_succ, rowsD_cons, ← rowsD_set L i p, show (i + 1) * 2 = i * 2 + 1 + 1 by omega, show i * 2 + 1 + 1 + 1 = i * 2 + 1 + 1 + 1 from rfl]
    simp
theorem rowsD_take : ∀ (L : List (Int × Int)) (n : Nat), (rowsD L).take (n * 2) = rowsD (L.take n)
  | [], n => by simp [rowsD]
  | q :: L, 0 => by simp [rowsD]
  | q :: L, n + 1 => by
    rw [rowsD_cons, List.take_succ_cons, rowsD_cons, ← rowsD_take L n, show (n + 1) * 2 = n * 2 + 1 + 1 by omega]
    simp
/-- m tells where in L the row of a key lies -/
def IX (m : Int → Option Nat) (L : List (Int × Int)) : Prop := ∀ k i, m k = some i ↔ (L[i]?).map Prod.fst = some k
/-- the block of a slice -/
def Own (ad : Option Addr) (k : Nat) : Prop := ∃ a, ad = some a ∧ k = a.block
/-- blocks of a table -/
def TS (b pm : Nat) (ra ba ma : Option Addr) (k : Nat) : Prop := k = b ∨ k = pm ∨ Own ra k ∨ Own ba k ∨ Own ma k
def mksD (M : List Nat) : List Value := M.map fun x : Nat => Value.int .i64 (x : Int)
/-- block b is a table with these rows, these calls that take changes back, these marks; its map tells what m tells -/
structure Tab0 (W : World) (b pm : Nat) (ra : Option Addr) (rc : Nat) (ba : Option Addr) (bc : Nat) (ma : Option Addr) (mc n : Nat) (m : Int → Option Nat) (L : List (Int × Int)) (U : List Value) (M : List Nat) : Prop where
  box : CBox W b 109 [.slice ra L.length rc, .map (some pm), .slice ba U.length bc, .slice ma M.length mc]
  rows : W.ownsRow 0 112 2 (.slice ra L.length rc) L.length (rowsD L)
  backs : W.ownsRow 0 1 1 (.slice ba U.length bc) U.length U
  marks : W.ownsRow 0 3 1 (.slice ma M.length mc) M.length (mksD M)
  pl : PM W pm n m
/-- .. and the map tells where the rows lie -/
structure Tab (W : World) (b pm : Nat) (ra : Option Addr) (rc : Nat) (ba : Option Addr) (bc : Nat) (ma : Option Addr) (mc : Nat) (m : Int → Option Nat) (L : List (Int × Int)) (U : List Value) (M : List Nat) : Prop extends Tab0 W b pm ra rc ba bc ma mc L.length m L U M where
  ix : IX m L
  keys : ∀ p ∈ L, I64 p.1
theorem owns_row_some {W : World} {e : TypeId} {size n cap k : Nat} {a : Addr} {xs : List Value} (h : W.ownsRow 0 e size (.slice (some a) n cap) k xs) : a = ⟨a.block, 0, none⟩ ∧ k = n ∧ ∃ cur, W.heap[a.block]? = some (.cells cur e (0, 0)) ∧ n ≤ cap ∧ cap ≤ maxLen ∧ cur.size = cap * size ∧ cur.toList.take (n * size) = xs := by
  rcases h.2 with ⟨e1, _⟩ | ⟨g, c, cur, e1, _, h2, h3, h4, h5, h6⟩
  · cases e1
  · injection e1 with e2 e3 e4
    injection e2 with e2
    subst e2 e3 e4
    exact ⟨rfl, rfl, cur, h2, h3, h4, h5, h6⟩
theorem owns_row_block {W W' : World} {e : TypeId} {size n : Nat} {v : Value} {xs : List Value} (h : W.ownsRow 0 e size v n xs) (hb : ∀ k, v.ownBlock = some k → W'.heap[k]? = W.heap[k]?) : W'.ownsRow 0 e size v n xs := by
  obtain ⟨hl, h | ⟨g, c, cur, rfl, h1, h2, h3⟩⟩ := h
  · exact ⟨hl, Or.inl h⟩
  · exact ⟨hl, Or.inr ⟨g, c, cur, rfl, h1, (hb g rfl).trans h2, h3⟩⟩
theorem row_new {W W' : World} {S : Nat → Prop} {e : TypeId} {size n cap k : Nat} {ad : Option Addr} {xs : List Value} (h : W.ownsRow 0 e size (.slice ad n cap) k xs) (hB : But S W W') (hs : ∀ j, Own ad j → ¬ S j) : W'.ownsRow 0 e size (.slice ad n cap) k xs :=
  owns_row_block h fun j hj => by
    cases ad with
    | none => cases hj
    | some a =>
      injection hj with hj
      subst hj
      exact hB.block _ (h.lt _ rfl).2 (hs _ ⟨a, rfl, rfl⟩)
theorem row_own_lt {W : World} {e : TypeId} {size n cap k : Nat} {ad : Option Addr} {xs : List Value} (h : W.ownsRow 0 e size (.slice ad n cap) k xs) {j : Nat} (hj : Own ad j) : j < W.heap.size := by
  obtain ⟨a, rfl, rfl⟩ := hj
  exact (h.lt _ rfl).2
theorem rows_apart {W : World} {e e' : TypeId} {size n cap k size' n' cap' k' : Nat} {ad ad' : Option Addr} {xs xs' : List Value} (h : W.ownsRow 0 e size (.slice ad n cap) k xs) (h' : W.ownsRow 0 e' size' (.slice ad' n' cap') k' xs') (he : e ≠ e') {j : Nat} (hj : Own ad j) : ¬ Own ad' j := by
  rintro ⟨a', rfl, rfl⟩
  obtain ⟨a, rfl, ea⟩ := hj
  obtain ⟨_, _, cur, h2, _⟩ := owns_row_some h
  obtain ⟨_, _, cur', h2', _⟩ := owns_row_some h'
  rw [ea] at h2'
  rw [h2] at h2'
  cases h2'
  exact he rfl
theorem row_box {W : World} {e t : TypeId} {size n cap k B : Nat} {ad : Option Addr} {xs l : List Value} (h : W.ownsRow 0 e size (.slice ad n cap) k xs) (h' : CBox W B t l) (he : e ≠ t) {j : Nat} (hj : Own ad j) : j ≠ B := by
  rintro rfl
  obtain ⟨a, rfl, rfl⟩ := hj
  obtain ⟨_, _, cur, h2, _⟩ := owns_row_some h
  rw [show W.heap[a.block]? = _ from h'] at h2
  cases h2
  exact he rfl
theorem row_map {W : World} {e : TypeId} {size n cap k pm nn : Nat} {ad : Option Addr} {xs : List Value} {m : Int → Option Nat} (h : W.ownsRow 0 e size (.slice ad n cap) k xs) (h' : PM W pm nn m) {j : Nat} (hj : Own ad j) : j ≠ pm := by
  obtain ⟨a, rfl, rfl⟩ := hj
  obtain ⟨_, _, cur, h2, _⟩ := owns_row_some h
  exact h'.not_cell h2
theorem Tab0.but {S : Nat → Prop} {W W' : World} {n : Nat} {b pm : Nat} {ra : Option Addr} {rc : Nat} {ba : Option Addr} {bc : Nat} {ma : Option Addr} {mc : Nat} {m : Int → Option Nat} {L : List (Int × Int)} {U : List Value} {M : List Nat} (h : Tab0 W b pm ra rc ba bc ma mc n m L U M) (k : But S W W') (hs : ∀ j, TS b pm ra ba ma j → ¬ S j) : Tab0 W' b pm ra rc ba bc ma mc n m L U M :=
  ⟨h.box.but k (hs _ (Or.inl rfl)), row_new h.rows k (fun _ hj => hs _ (Or.inr (Or.inr (Or.inl hj)))), row_new h.backs k (fun _ hj => hs _ (Or.inr (Or.inr (Or.inr (Or.inl hj))))), row_new h.marks k (fun _ hj => hs _ (Or.inr (Or.inr (Or.inr (Or.inr hj))))), h.pl.block (k.block _ h.pl.lt (hs _ (Or.inr (Or.inl rfl))))⟩
theorem Tab.but {S : Nat → Prop} {W W' : World} {b pm : Nat} {ra : Option Addr} {rc : Nat} {ba : Option Addr} {bc : Nat} {ma : Option Addr} {mc : Nat} {m : Int → Option Nat} {L : List (Int × Int)} {U : List Value} {M : List Nat} (h : Tab W b pm ra rc ba bc ma mc m L U M) (k : But S W W') (hs : ∀ j, TS b pm ra ba ma j → ¬ S j) : Tab W' b pm ra rc ba bc ma mc m L U M := ⟨h.toTab0.but k hs, h.ix, h.keys⟩
theorem Tab0.lt {W : World} {n : Nat} {b pm : Nat} {ra : Option Addr} {rc : Nat} {ba : Option Addr} {bc : Nat} {ma : Option Addr} {mc : Nat} {m : Int → Option Nat} {L : List (Int × Int)} {U : List Value} {M : List Nat} (h : Tab0 W b pm ra rc ba bc ma mc n m L U M) (j : Nat) (hj : TS b pm ra ba ma j) : j < W.heap.size := by
  rcases hj with rfl | rfl | hj | hj | hj
  · exact h.box.lt
  · exact h.pl.lt
  · exact row_own_lt h.rows hj
  · exact row_own_lt h.backs hj
  · exact row_own_lt h.marks hj
theorem Tab0.past {W W' : World} {n : Nat} {b pm : Nat} {ra : Option Addr} {rc : Nat} {ba : Option Addr} {bc : Nat} {ma : Option Addr} {mc : Nat} {m : Int → Option Nat} {L : List (Int × Int)} {U : List Value} {M : List Nat} (h : Tab0 W b pm ra rc ba bc ma mc n m L U M) (k : Below W.heap.size W W') : Tab0 W' b pm ra rc ba bc ma mc n m L U M := h.but (below_but (S := fun _ => False) k) (fun _ _ => id)
theorem Tab.past {W W' : World} {b pm : Nat} {ra : Option Addr} {rc : Nat} {ba : Option Addr} {bc : Nat} {ma : Option Addr} {mc : Nat} {m : Int → Option Nat} {L : List (Int × Int)} {U : List Value} {M : List Nat} (h : Tab W b pm ra rc ba bc ma mc m L U M) (k : Below W.heap.size W W') : Tab W' b pm ra rc ba bc ma mc m L U M := ⟨h.toTab0.past k, h.ix, h.keys⟩
theorem Tab0.bpm {W : World} {n : Nat} {b pm : Nat} {ra : Option Addr} {rc : Nat} {ba : Option Addr} {bc : Nat} {ma : Option Addr} {mc : Nat} {m : Int → Option Nat} {L : List (Int × Int)} {U : List Value} {M : List Nat} (h : Tab0 W b pm ra rc ba bc ma mc n m L U M) : b ≠ pm := h.pl.not_cell (show W.heap[b]? = _ from h.box)
/-- an address that stays, or is new -/
def Fresh (w : World) (ad ad' : Option Addr) : Prop := ad' = ad ∨ ∃ g, ad' = some ⟨g, 0, none⟩ ∧ w.heap.size ≤ g
theorem Fresh.own {w : World} {ad ad' : Option Addr} (h : Fresh w ad ad') {k : Nat} (hk : Own ad' k) : Own ad k ∨ w.heap.size ≤ k := by
  rcases h with rfl | ⟨g, rfl, hg⟩
  · exact Or.inl hk
  · obtain ⟨a, e, rfl⟩ := hk
    injection e with e
    subst e
    exact Or.inr hg
theorem Tab0.upRows {w w1 : World} {n : Nat} {b pm : Nat} {ra : Option Addr} {rc : Nat} {ba : Option Addr} {bc : Nat} {ma : Option Addr} {mc : Nat} {m : Int → Option Nat} {L : List (Int × Int)} {U : List Value} {M : List Nat} (h : Tab0 w b pm ra rc ba bc ma mc n m L U M) (hB : But (Own ra) w w1) {ra' : Option Addr} {rc' : Nat} {L' : List (Int × Int)} (hR : w1.ownsRow 0 112 2 (.slice ra' L'.length rc') L'.length (rowsD L')) (hN : Fresh w ra ra') :
    Tab0 (w1.setCell ⟨b, 0, none⟩ (.slice ra' L'.length rc')) b pm ra' rc' ba bc ma mc n m L' U M ∧ But (TS b pm ra ba ma) w (w1.setCell ⟨b, 0, none⟩ (.slice ra' L'.length rc')) ∧ Grown (TS b pm ra ba ma) (TS b pm ra' ba ma) w := by
  have hb : CBox w1 b 109 [.slice ra L.length rc, .map (some pm), .slice ba U.length bc, .slice ma M.length mc] := h.box.but hB (fun e => row_box h.rows h.box (by decide) e rfl)
  have hS : But (fun k => k = b) w1 (w1.setCell ⟨b, 0, none⟩ (.slice ra' L'.length rc')) := (But.refl _ _).setCell _ _ (Or.inl rfl)
  have hbl := hb.lt
  refine ⟨⟨hb.set 0 _, row_new hR hS ?_, row_new (row_new h.backs hB ?_) hS ?_, row_new (row_new h.marks hB ?_) hS ?_, (h.pl.block (hB.block _ h.pl.lt ?_)).block (hS.block _ ?_ (Ne.symm h.bpm))⟩, ?_, ?_⟩
  · rintro j hj rfl; exact row_box hR hb (by decide) hj rfl
  · exact fun j hj e => rows_apart h.backs h.rows (by decide) hj e
  · rintro j hj rfl; exact row_box h.backs h.box (by decide) hj rfl
  · exact fun j hj e => rows_apart h.marks h.rows (by decide) hj e
  · rintro j hj rfl; exact row_box h.marks h.box (by decide) hj rfl
  · exact fun e => row_map h.rows h.pl e rfl
  · exact Nat.lt_of_lt_of_le h.pl.lt hB.size
  · exact (hB.mono (fun i hi => Or.inr (Or.inr (Or.inl hi)))).trans (hS.mono (fun i hi => Or.inl hi))
  · rintro k (rfl | rfl | hk | hk | hk)
    · exact Or.inl (Or.inl rfl)
    · exact Or.inl (Or.inr (Or.inl rfl))
    · rcases hN.own hk with hk | hk
      · exact Or.inl (Or.inr (Or.inr (Or.inl hk)))
      · exact Or.inr hk
    · exact Or.inl (Or.inr (Or.inr (Or.inr (Or.inl hk))))
    · exact Or.inl (Or.inr (Or.inr (Or.inr (Or.inr hk))))
theorem Tab0.upBacks {w w1 : World} {n : Nat} {b pm : Nat} {ra : Option Addr} {rc : Nat} {ba : Option Addr} {bc : Nat} {ma : Option Addr} {mc : Nat} {m : Int → Option Nat} {L : List (Int × Int)} {U : List Value} {M : List Nat} (h : Tab0 w b pm ra rc ba bc ma mc n m L U M) (hB : But (Own ba) w w1) {ba' : Option Addr} {bc' : Nat} {U' : List Value} (hR : w1.ownsRow 0 1 1 (.slice ba' U'.length bc') U'.length U') (hN : Fresh w ba ba') :
    Tab0 (w1.setCell ⟨b, 2, none⟩ (.slice ba' U'.length bc')) b pm ra rc ba' bc' ma mc n m L U' M ∧ But (TS b pm ra ba ma) w (w1.setCell ⟨b, 2, none⟩ (.slice ba' U'.length bc')) ∧ Grown (TS b pm ra ba ma) (TS b pm ra ba' ma) w := by
  have hb : CBox w1 b 109 [.slice ra L.length rc, .map (some pm), .slice ba U.length bc, .slice ma M.length mc] := h.box.but hB (fun e => row_box h.backs h.box (by decide) e rfl)
  have hS : But (fun k => k = b) w1 (w1.setCell ⟨b, 2, none⟩ (.slice ba' U'.length bc')) := (But.refl _ _).setCell _ _ (Or.inl rfl)
  refine ⟨⟨hb.set 2 _, row_new (row_new h.rows hB ?_) hS ?_, row_new hR hS ?_, row_new (row_new h.marks hB ?_) hS ?_, (h.pl.block (hB.block _ h.pl.lt ?_)).block (hS.block _ ?_ (Ne.symm h.bpm))⟩, ?_, ?_⟩
  · exact fun j hj e => rows_apart h.rows h.backs (by decide) hj e
  · rintro j hj rfl; exact row_box h.rows h.box (by decide) hj rfl
  · rintro j hj rfl; exact row_box hR hb (by decide) hj rfl
  · exact fun j hj e => rows_apart h.marks h.backs (by decide) hj e
  · rintro j hj rfl; exact row_box h.marks h.box (by decide) hj rfl
  · exact fun e => row_map h.backs h.pl e rfl
  · exact Nat.lt_of_lt_of_le h.pl.lt hB.size
  · exact (hB.mono (fun i hi => Or.inr (Or.inr (Or.inr (Or.inl hi))))).trans (hS.mono (fun i hi => Or.inl hi))
  · rintro k (rfl | rfl | hk | hk | hk)
    · exact Or.inl (Or.inl rfl)
    · exact Or.inl (Or.inr (Or.inl rfl))
    · exact Or.inl (Or.inr (Or.inr (Or.inl hk)))
    · rcases hN.own hk with hk | hk
      · exact Or.inl (Or.inr (Or.inr (Or.inr (Or.inl hk))))
      · exact Or.inr hk
    · exact Or.inl (Or.inr (Or.inr (Or.inr (Or.inr hk))))
theorem Tab0.upMarks {w w1 : World} {n : Nat} {b pm : Nat} {ra : Option Addr} {rc : Nat} {ba : Option Addr} {bc : Nat} {ma : Option Addr} {mc : Nat} {m : Int → Option Nat} {L : List (Int × Int)} {U : List Value} {M : List Nat} (h : Tab0 w b pm ra rc ba bc ma mc n m L U M) (hB : But (Own ma) w w1) {ma' : Option Addr} {mc' : Nat} {M' : List Nat} (hR : w1.ownsRow 0 3 1 (.slice ma' M'.length mc') M'.length (mksD M')) (hN : Fresh w ma ma') :
    Tab0 (w1.setCell ⟨b, 3, none⟩ (.slice ma' M'.length mc')) b pm ra rc ba bc ma' mc' n m L U M' ∧ But (TS b pm ra ba ma) w (w1.setCell ⟨b, 3, none⟩ (.slice ma' M'.length mc')) ∧ Grown (TS b pm ra ba ma) (TS b pm ra ba ma') w := by
  have hb : CBox w1 b 109 [.slice ra L.length rc, .map (some pm), .slice ba U.length bc, .slice ma M.length mc] := h.box.but hB (fun e => row_box h.marks h.box (by decide) e rfl)
  have hS : But (fun k => k = b) w1 (w1.setCell ⟨b, 3, none⟩ (.slice ma' M'.length mc')) := (But.refl _ _).setCell _ _ (Or.inl rfl)
  refine ⟨⟨hb.set 3 _, row_new (row_new h.rows hB ?_) hS ?_, row_new (row_new h.backs hB ?_) hS ?_, row_new hR hS ?_, (h.pl.block (hB.block _ h.pl.lt ?_)).block (hS.block _ ?_ (Ne.symm h.bpm))⟩, ?_, ?_⟩
  · exact fun j hj e => rows_apart h.rows h.marks (by decide) hj e
  · rintro j hj rfl; exact row_box h.rows h.box (by decide) hj rfl
  · exact fun j hj e => rows_apart h.backs h.marks (by decide) hj e
  · rintro j hj rfl; exact row_box h.backs h.box (by decide) hj rfl
  · rintro j hj rfl; exact row_box hR hb (by decide) hj rfl
  · exact fun e => row_map h.marks h.pl e rfl
  · exact Nat.lt_of_lt_of_le h.pl.lt hB.size
  · exact (hB.mono (fun i hi => Or.inr (Or.inr (Or.inr (Or.inr hi))))).trans (hS.mono (fun i hi => Or.inl hi))
  · rintro k (rfl | rfl | hk | hk | hk)
    · exact Or.inl (Or.inl rfl)
    · exact Or.inl (Or.inr (Or.inl rfl))
    · exact Or.inl (Or.inr (Or.inr (Or.inl hk)))
    · exact Or.inl (Or.inr (Or.inr (Or.inr (Or.inl hk))))
    · rcases hN.own hk with hk | hk
      · exact Or.inl (Or.inr (Or.inr (Or.inr (Or.inr hk))))
      · exact Or.inr hk
end Go.Proofs.Ytohfkgfjcnldaaa
