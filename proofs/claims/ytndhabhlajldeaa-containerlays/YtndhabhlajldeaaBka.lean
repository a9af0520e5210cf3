/- Containers in memory: bytes, pieces, types; what stays when something else changes. -/
import Derived.Test.YtndhabhlajldeaaAps
import Derived.Test.YtndhabhlajldeaaUl
import Derived.Test.YtndhabhlajldeaaUo
import Derived.Deep.RegionHeld3
import Derived.Deep.MidRow
namespace Go.Proofs.Ytndhabhlajldeaa
open Go.RowKit
/-- all blocks that were there but those of S are as they were -/
structure But (S : Nat → Prop) (w w' : World) : Prop where
  os : w'.os = w.os
  tape : w'.tape = w.tape
  output : w'.output = w.output
  size : w.heap.size ≤ w'.heap.size
  block : ∀ k, k < w.heap.size → ¬ S k → w'.heap[k]? = w.heap[k]?
theorem But.refl (S : Nat → Prop) (w : World) : But S w w := ⟨rfl, rfl, rfl, Nat.le_refl _, fun _ _ _ => rfl⟩
theorem But.trans {S : Nat → Prop} {u v w : World} (h : But S u v) (k : But S v w) : But S u w :=
  ⟨k.os.trans h.os, k.tape.trans h.tape, k.output.trans h.output, Nat.le_trans h.size k.size, fun i hi hb => (k.block i (Nat.lt_of_lt_of_le hi h.size) hb).trans (h.block i hi hb)⟩
theorem below_but {S : Nat → Prop} {u v : World} (h : Below u.heap.size u v) : But S u v := ⟨h.os, h.tape, h.output, h.size, fun i hi _ => h.block i hi⟩
theorem But.cell {S : Nat → Prop} {w w' : World} (h : But S w w') {p : Addr} (hp : p.block < w.heap.size) (hb : ¬ S p.block) : w'.cell? p = w.cell? p := World.cell?_of_block (w := w) (h.block p.block hp hb)
theorem But.frozen {S : Nat → Prop} {w w' : World} (h : But S w w') {p : Addr} (hp : p.block < w.heap.size) (hb : ¬ S p.block) : w'.frozen? p = w.frozen? p := World.frozen?_of_block (w := w) (h.block p.block hp hb)
theorem But.below {S : Nat → Prop} {B : Nat} {w w' : World} (h : But S w w') (hS : ∀ k, S k → B ≤ k) (hB : B ≤ w.heap.size) : Below B w w' := ⟨h.os, h.tape, h.output, h.size, fun k hk => h.block k (by omega) (fun e => by have := hS k e; omega)⟩
theorem But.mono {S T : Nat → Prop} {u v : World} (h : But S u v) (k : ∀ i, S i → T i) : But T u v := ⟨h.os, h.tape, h.output, h.size, fun i hi hb => h.block i hi fun e => hb (k i e)⟩
theorem grown_but {w w' : World} {S : Nat → Prop} {row : Option Nat} (h : w.grownBy w' row) (hr : ∀ k, row = some k → S k) : But S w w' := ⟨h.os, h.tape, h.output, h.size, fun k hk hn => h.block k hk (fun e => hn (hr k e.symm))⟩
theorem But.drew {S : Nat → Prop} {w w' : World} (h : But S w w') : But S w w'.drew := ⟨h.os, h.tape, h.output, h.size, h.block⟩
theorem But.setCell {S : Nat → Prop} {w w' : World} (h : But S w w') (a : Addr) (u : Value) (ha : S a.block ∨ w.heap.size ≤ a.block) : But S w (w'.setCell a u) := by
  refine ⟨h.os, h.tape, h.output, ?_, fun k hk hn => ?_⟩
  · have : (w'.setCell a u).heap.size = w'.heap.size := by simp [World.setCell]
    rw [this]
    exact h.size
  · have hne : k ≠ a.block := by
      rintro rfl
      rcases ha with ha | ha
      · exact hn ha
      · omega
    exact (Below.heap_setCell w' a u k hne).trans (h.block k hk hn)
theorem But.alloc {S : Nat → Prop} {w w' : World} (h : But S w w') (o : Obj) : But S w (w'.alloc o) := ⟨h.os, h.tape, h.output, Nat.le_trans h.size (by simp), fun k hk hn => (Below.heap_alloc w' o k (Nat.lt_of_lt_of_le hk h.size)).trans (h.block k hk hn)⟩
/-- a block that holds just these cells -/
def CBox (W : World) (B : Nat) (t : TypeId) (l : List Value) : Prop := W.heap[B]? = some (.cells l.toArray t (0, 0))
theorem CBox.lt {W : World} {B : Nat} {t : TypeId} {l : List Value} (h : CBox W B t l) : B < W.heap.size := (Array.getElem?_eq_some_iff.1 h).1
theorem CBox.cell {W : World} {B : Nat} {t : TypeId} {l : List Value} (h : CBox W B t l) (j : Nat) : W.cell? ⟨B, j, none⟩ = l[j]? := by simp [World.cell?, show W.heap[B]? = _ from h]
theorem CBox.frozen {W : World} {B : Nat} {t : TypeId} {l : List Value} (h : CBox W B t l) (j : Nat) : W.frozen? ⟨B, j, none⟩ = false := by simp [World.frozen?, show W.heap[B]? = _ from h]
theorem CBox.new (W : World) (t : TypeId) (l : List Value) : CBox (W.alloc (.cells l.toArray t)) W.heap.size t l := heap_alloc_new W _
theorem CBox.but {S : Nat → Prop} {W W' : World} {B : Nat} {t : TypeId} {l : List Value} (h : CBox W B t l) (k : But S W W') (hs : ¬ S B) : CBox W' B t l := (k.block B h.lt hs).trans h
theorem CBox.set {W : World} {B : Nat} {t : TypeId} {l : List Value} (h : CBox W B t l) (j : Nat) (u : Value) : CBox (W.setCell ⟨B, j, none⟩ u) B t (l.set j u) := by
  have h' : W.heap[B]? = _ := h
  unfold CBox
  simp [World.setCell, Array.getElem?_modify, h']
/-- the block of a slice -/
def Own (ad : Option Addr) (k : Nat) : Prop := ∃ a, ad = some a ∧ k = a.block
theorem owns_row_some {W : World} {e : TypeId} {size n cap k : Nat} {a : Addr} {xs : List Value} (h : W.ownsRow 0 e size (.slice (some a) n cap) k xs) : a = ⟨a.block, 0, none⟩ ∧ k = n ∧ ∃ cur, W.heap[a.block]? = some (.cells cur e (0, 0)) ∧ n ≤ cap ∧ cap ≤ maxLen ∧ cur.size = cap * size ∧ cur.toList.take (n * size) = xs := by
  rcases h.2 with ⟨e1, _⟩ | ⟨g, c, cur, e1, _, h2, h3, h4, h5, h6⟩
  · cases e1
  · injection e1 with e2 e3 e4
    injection e2 with e2
    subst e2 e3 e4
    exact ⟨rfl, rfl, cur, h2, h3, h4, h5, h6⟩
theorem owns_row_block {W W' : World} {e : TypeId} {size n : Nat} {v : Value} {xs : List Value} (h : W.ownsRow 0 e size v n xs) (hb : ∀ k, v.ownBlock = some k → W'.heap[k]? = W.heap[k]?) : W'.ownsRow 0 e size v n xs := by
  obtain ⟨hl, h | ⟨g, c, cur, rfl, h1, h2, h3⟩⟩ := h
  · exact ⟨hl, Or.inl h⟩
  · exact ⟨hl, Or.inr ⟨g, c, cur, rfl, h1, (hb g rfl).trans h2, h3⟩⟩
theorem row_new {W W' : World} {S : Nat → Prop} {e : TypeId} {size n cap k : Nat} {ad : Option Addr} {xs : List Value} (h : W.ownsRow 0 e size (.slice ad n cap) k xs) (hB : But S W W') (hs : ∀ j, Own ad j → ¬ S j) : W'.ownsRow 0 e size (.slice ad n cap) k xs :=
  owns_row_block h fun j hj => by
    cases ad with
    | none => cases hj
    | some a =>
      injection hj with hj
      subst hj
      exact hB.block _ (h.lt _ rfl).2 (hs _ ⟨a, rfl, rfl⟩)
theorem row_own_lt {W : World} {e : TypeId} {size n cap k : Nat} {ad : Option Addr} {xs : List Value} (h : W.ownsRow 0 e size (.slice ad n cap) k xs) {j : Nat} (hj : Own ad j) : j < W.heap.size := by
  obtain ⟨a, rfl, rfl⟩ := hj
  exact (h.lt _ rfl).2
theorem rows_apart {W : World} {e e' : TypeId} {size n cap k size' n' cap' k' : Nat} {ad ad' : Option Addr} {xs xs' : List Value} (h : W.ownsRow 0 e size (.slice ad n cap) k xs) (h' : W.ownsRow 0 e' size' (.slice ad' n' cap') k' xs') (he : e ≠ e') {j : Nat} (hj : Own ad j) : ¬ Own ad' j := by
  rintro ⟨a', rfl, rfl⟩
  obtain ⟨a, rfl, ea⟩ := hj
  obtain ⟨_, _, cur, h2, _⟩ := owns_row_some h
  obtain ⟨_, _, cur', h2', _⟩ := owns_row_some h'
  rw [ea] at h2'
  rw [h2] at h2'
  cases h2'
  exact he rfl
theorem row_box {W : World} {e t : TypeId} {size n cap k B : Nat} {ad : Option Addr} {xs l : List Value} (h : W.ownsRow 0 e size (.slice ad n cap) k xs) (h' : CBox W B t l) (he : e ≠ t) {j : Nat} (hj : Own ad j) : j ≠ B := by
  rintro rfl
  obtain ⟨a, rfl, rfl⟩ := hj
  obtain ⟨_, _, cur, h2, _⟩ := owns_row_some h
  rw [show W.heap[a.block]? = _ from h'] at h2
  cases h2
  exact he rfl
/-- an address that stays, or is new -/
def Fresh (w : World) (ad ad' : Option Addr) : Prop := ad' = ad ∨ ∃ g, ad' = some ⟨g, 0, none⟩ ∧ w.heap.size ≤ g
theorem Fresh.own {w : World} {ad ad' : Option Addr} (h : Fresh w ad ad') {k : Nat} (hk : Own ad' k) : Own ad k ∨ w.heap.size ≤ k := by
  rcases h with rfl | ⟨g, rfl, hg⟩
  · exact Or.inl hk
  · obtain ⟨a, e, rfl⟩ := hk
    injection e with e
    subst e
    exact Or.inr hg
theorem grew_one {w w' : World} {ad : Option Addr} {n cap k : Nat} {v' : Value} (h : Grew w w' (.slice ad n cap) v' k) : ∃ ad' cap', v' = .slice ad' k cap' ∧ But (Own ad) w w' ∧ Fresh w ad ad' := by
  rcases h with ⟨h1, _, h3⟩ | ⟨h1, c, h2⟩
  · refine ⟨ad, cap, h3 _ _ _ rfl, grown_but h1 (fun j e => ?_), Or.inl rfl⟩
    cases ad with
    | none => cases e
    | some a => injection e with e; exact ⟨a, rfl, e.symm⟩
  · exact ⟨_, c, h2, grown_but h1 (fun j e => by cases e), Or.inr ⟨_, rfl, Nat.le_refl _⟩⟩
theorem info_parts {P : Program} {t : TypeId} {z : Value} {s b : Nat} (h : (P.info? t).map (fun i => (i.zero, i.size, i.bytes)) = some (some z, s, b)) : ∃ i, P.info? t = some i ∧ i.zero = some z ∧ i.size = s ∧ i.bytes = b := by
  cases hi : P.info? t with
  | none => rw [hi] at h; cases h
  | some i => rw [hi] at h; simp at h; exact ⟨i, rfl, h.1, h.2.1, h.2.2⟩
theorem Try.info8 : (Try.prog.info? 5).map (fun i => (i.zero, i.size, i.bytes)) = some (some (.int .u8 0), 1, 1) := by kernel_rfl
theorem Try.infoB : (Try.prog.info? 22).map (fun i => (i.zero, i.size, i.bytes)) = some (some (.slice none 0 0), 1, 24) := by kernel_rfl
theorem Try.infoU : (Try.prog.info? 73).map (fun i => (i.zero, i.size, i.bytes)) = some (some (.int .u64 0), 1, 8) := by kernel_rfl
theorem Try.infoI : (Try.prog.info? 3).map (fun i => (i.zero, i.size, i.bytes)) = some (some (.int .i64 0), 1, 8) := by kernel_rfl
theorem Try.infoT : (Try.prog.info? 77).map (fun i => (i.zero, i.size, i.bytes)) = some (some (.agg #[.int .i64 0, .int .i64 0, .int .i64 0]), 3, 24) := by kernel_rfl
theorem owns_row_blockB {W W' : World} {B : Nat} {e : TypeId} {size n : Nat} {v : Value} {xs : List Value} (h : W.ownsRow B e size v n xs) (hb : ∀ k, v.ownBlock = some k → W'.heap[k]? = W.heap[k]?) : W'.ownsRow B e size v n xs := by
  obtain ⟨hl, h | ⟨g, c, cur, rfl, h1, h2, h3⟩⟩ := h
  · exact ⟨hl, Or.inl h⟩
  · exact ⟨hl, Or.inr ⟨g, c, cur, rfl, h1, (hb g rfl).trans h2, h3⟩⟩
def I64 (x : Int) : Prop := -9223372036854775808 ≤ x ∧ x ≤ 9223372036854775807
/-- bytes as cells -/
def bV (l : List Nat) : List Value := l.map fun x : Nat => Value.int .u8 (x : Int)
theorem bV_len (l : List Nat) : (bV l).length = l.length := by simp [bV]
theorem bV_app (l m : List Nat) : bV (l ++ m) = bV l ++ bV m := by simp [bV]
theorem bV_get {l : List Nat} {i x : Nat} (h : l[i]? = some x) : (bV l)[i]? = some (.int .u8 (x : Int)) := by simp [bV, h]
theorem bV_inv {l : List Nat} {i : Nat} {v : Value} (h : (bV l)[i]? = some v) : ∃ x, l[i]? = some x ∧ v = .int .u8 (x : Int) := by
  unfold bV at h
  rw [List.getElem?_map] at h
  cases e : l[i]? with
  | none => rw [e] at h; cases h
  | some x => rw [e] at h; simp at h; exact ⟨x, rfl, h.symm⟩
theorem bV_one (l : List Nat) : ∀ u ∈ bV l, u.oneCell' = true := fun u hu => by
  obtain ⟨x, _, rfl⟩ := List.mem_map.1 hu
  rfl
/-- v is a slice whose n elements, of s cells each, are these cells; all of them lie in blocks of P -/
def SL (P : Nat → Prop) (W : World) (v : Value) (s n : Nat) (cs : List Value) : Prop := cs.length = n * s ∧ ∃ ad cap, v = .slice ad n cap ∧ n ≤ cap ∧ n ≤ 1152921504606846976 ∧ (ad = none → cap = 0) ∧ (0 < n → ∃ g a, ad = some ⟨g, a, none⟩ ∧ P g ∧ g < W.heap.size ∧ ∀ i c, cs[i]? = some c → W.cell? ⟨g, a + i, none⟩ = some c)
theorem SL.but {P S : Nat → Prop} {W W' : World} {v : Value} {s n : Nat} {cs : List Value} (h : SL P W v s n cs) (k : But S W W') (hs : ∀ g, P g → ¬ S g) : SL P W' v s n cs := by
  obtain ⟨hl, ad, cap, rfl, h0, h1, hz, h2⟩ := h
  exact ⟨hl, ad, cap, rfl, h0, h1, hz, fun hn => by
    obtain ⟨g, a, e, hp, hg, h3⟩ := h2 hn
    exact ⟨g, a, e, hp, Nat.lt_of_lt_of_le hg k.size, fun i c hc => (k.cell (p := ⟨g, a + i, none⟩) hg (hs g hp)).trans (h3 i c hc)⟩⟩
theorem SL.past {P : Nat → Prop} {W W' : World} {v : Value} {s n : Nat} {cs : List Value} (h : SL P W v s n cs) (k : Below W.heap.size W W') : SL P W' v s n cs := h.but (below_but (S := fun _ => False) k) (fun _ _ => id)
theorem SL.mono {P P' : Nat → Prop} {W : World} {v : Value} {s n : Nat} {cs : List Value} (h : SL P W v s n cs) (k : ∀ g, P g → g < W.heap.size → P' g) : SL P' W v s n cs := by
  obtain ⟨hl, ad, cap, rfl, h0, h1, hz, h2⟩ := h
  exact ⟨hl, ad, cap, rfl, h0, h1, hz, fun hn => by
    obtain ⟨g, a, e, hp, hg, h3⟩ := h2 hn
    exact ⟨g, a, e, k g hp hg, hg, h3⟩⟩
theorem SL.nil (P : Nat → Prop) (W : World) (s : Nat) : SL P W (.slice none 0 0) s 0 [] := ⟨by simp, none, 0, rfl, Nat.le_refl _, by omega, fun _ => rfl, fun h => absurd h (by omega)⟩
theorem SL.own {P : Nat → Prop} {W : World} {B : Nat} {t : TypeId} {v : Value} {s n : Nat} {cs : List Value} (h : W.ownsRow B t s v n cs) (hn : n ≤ 1152921504606846976) (hP : ∀ g, v.ownBlock = some g → P g) : SL P W v s n cs := by
  have hl := h.1
  have hlt := h.lt
  rcases h.2 with ⟨rfl, rfl⟩ | ⟨g, c, cur, rfl, hb, hh, hq, _, hz, ht⟩
  · have : cs = [] := List.eq_nil_of_length_eq_zero (by rw [hl]; omega)
    subst this
    exact SL.nil P W s
  · refine ⟨hl, _, c, rfl, hq, hn, (fun e => by cases e), fun _ => ⟨g, 0, rfl, hP g rfl, (hlt g rfl).2, fun i x hx => ?_⟩⟩
    rw [Nat.zero_add]
    have := h.cells (g := g) rfl i x hx
    simpa [Addr.add_mid] using this
theorem SL.box {P : Nat → Prop} {W : World} {B : Nat} {t : TypeId} {s n : Nat} {cs : List Value} (h : CBox W B t cs) (hl : cs.length = n * s) (hn : n ≤ 1152921504606846976) (hP : P B) : SL P W (.slice (some ⟨B, 0, none⟩) n n) s n cs :=
  ⟨hl, _, n, rfl, Nat.le_refl _, hn, (fun e => by cases e), fun _ => ⟨B, 0, rfl, hP, h.lt, fun i c hc => by rw [Nat.zero_add, h.cell]; exact hc⟩⟩
/-- bytes -/
def BL (P : Nat → Prop) (W : World) (v : Value) (l : List Nat) : Prop := SL P W v 1 l.length (bV l)
theorem BL.but {P S : Nat → Prop} {W W' : World} {v : Value} {l : List Nat} (h : BL P W v l) (k : But S W W') (hs : ∀ g, P g → ¬ S g) : BL P W' v l := SL.but h k hs
theorem BL.past {P : Nat → Prop} {W W' : World} {v : Value} {l : List Nat} (h : BL P W v l) (k : Below W.heap.size W W') : BL P W' v l := SL.past h k
theorem BL.mono {P P' : Nat → Prop} {W : World} {v : Value} {l : List Nat} (h : BL P W v l) (k : ∀ g, P g → g < W.heap.size → P' g) : BL P' W v l := SL.mono h k
theorem BL.nil (P : Nat → Prop) (W : World) : BL P W (.slice none 0 0) [] := SL.nil P W 1
theorem BL.len {P : Nat → Prop} {W : World} {v : Value} {l : List Nat} (h : BL P W v l) : ∃ ad cap, v = .slice ad l.length cap ∧ l.length ≤ cap ∧ l.length ≤ 1152921504606846976 := by
  obtain ⟨_, ad, cap, e, h0, h1, _⟩ := h
  exact ⟨ad, cap, e, h0, h1⟩
theorem BL.get {P : Nat → Prop} {W : World} {ad : Option Addr} {n cap : Nat} {l : List Nat} (h : BL P W (.slice ad n cap) l) {i x : Nat} (hi : l[i]? = some x) : ∃ g a, ad = some ⟨g, a, none⟩ ∧ W.cell? ⟨g, a + i, none⟩ = some (.int .u8 (x : Int)) := by
  obtain ⟨_, ad', cap', e, h0, h1, _, h2⟩ := h
  injection e with e1 e2 e3
  subst e1
  obtain ⟨g, a, e, _, _, h3⟩ := h2 (by have := (List.getElem?_eq_some_iff.1 hi).1; omega)
  exact ⟨g, a, e, h3 i _ (bV_get hi)⟩
/-- pieces: the values that stand there, and what each reads as -/
def PL (P : Nat → Prop) (W : World) (v : Value) (ll : List (List Nat)) : Prop := ∃ vs, SL P W v 1 ll.length vs ∧ ∀ (i : Nat) l, ll[i]? = some l → ∃ u, vs[i]? = some u ∧ BL P W u l
theorem PL.but {P S : Nat → Prop} {W W' : World} {v : Value} {ll : List (List Nat)} (h : PL P W v ll) (k : But S W W') (hs : ∀ g, P g → ¬ S g) : PL P W' v ll := by
  obtain ⟨vs, h1, h2⟩ := h
  exact ⟨vs, h1.but k hs, fun i l hi => by obtain ⟨u, h3, h4⟩ := h2 i l hi; exact ⟨u, h3, h4.but k hs⟩⟩
theorem PL.past {P : Nat → Prop} {W W' : World} {v : Value} {ll : List (List Nat)} (h : PL P W v ll) (k : Below W.heap.size W W') : PL P W' v ll := h.but (below_but (S := fun _ => False) k) (fun _ _ => id)
theorem PL.mono {P P' : Nat → Prop} {W : World} {v : Value} {ll : List (List Nat)} (h : PL P W v ll) (k : ∀ g, P g → g < W.heap.size → P' g) : PL P' W v ll := by
  obtain ⟨vs, h1, h2⟩ := h
  exact ⟨vs, h1.mono k, fun i l hi => by obtain ⟨u, h3, h4⟩ := h2 i l hi; exact ⟨u, h3, h4.mono k⟩⟩
theorem PL.nil (P : Nat → Prop) (W : World) : PL P W (.slice none 0 0) [] := ⟨[], SL.nil P W 1, fun i l hi => by cases hi⟩
theorem PL.len {P : Nat → Prop} {W : World} {v : Value} {l : List (List Nat)} (h : PL P W v l) : ∃ ad cap, v = .slice ad l.length cap ∧ l.length ≤ cap ∧ l.length ≤ 1152921504606846976 := by
  obtain ⟨_, ⟨_, ad, cap, e, h0, h1, _⟩, _⟩ := h
  exact ⟨ad, cap, e, h0, h1⟩
theorem PL.get {P : Nat → Prop} {W : World} {ad : Option Addr} {n cap : Nat} {ll : List (List Nat)} (h : PL P W (.slice ad n cap) ll) {i : Nat} {l : List Nat} (hi : ll[i]? = some l) : ∃ g a u, ad = some ⟨g, a, none⟩ ∧ W.cell? ⟨g, a + i, none⟩ = some u ∧ BL P W u l := by
  obtain ⟨vs, ⟨_, ad', cap', e, h0, h1, _, h2⟩, h4⟩ := h
  injection e with e1 e2 e3
  subst e1
  obtain ⟨g, a, e, _, _, h3⟩ := h2 (by have := (List.getElem?_eq_some_iff.1 hi).1; omega)
  obtain ⟨u, h5, h6⟩ := h4 i l hi
  exact ⟨g, a, u, e, h3 i _ h5, h6⟩
/-- a type: In, Out, Most -/
abbrev Ty := Int × Int × Int
def Ty.v (t : Ty) : Value := .agg #[.int .i64 t.1, .int .i64 t.2.1, .int .i64 t.2.2]
def tV (l : List Ty) : List Value := l.flatMap fun t => [.int .i64 t.1, .int .i64 t.2.1, .int .i64 t.2.2]
theorem tV_cons (t : Ty) (l : List Ty) : tV (t :: l) = .int .i64 t.1 :: .int .i64 t.2.1 :: .int .i64 t.2.2 :: tV l := rfl
theorem tV_app (l m : List Ty) : tV (l ++ m) = tV l ++ tV m := by simp [tV]
theorem tV_len : ∀ l : List Ty, (tV l).length = l.length * 3
  | [] => rfl
  | t :: l => by rw [tV_cons, List.length_cons, List.length_cons, List.length_cons, tV_len l, List.length_cons]; omega
theorem tV_get : ∀ (l : List Ty) (i : Nat) (t : Ty), l[i]? = some t → (tV l)[i * 3]? = some (.int .i64 t.1) ∧ (tV l)[i * 3 + 1]? = some (.int .i64 t.2.1) ∧ (tV l)[i * 3 + 2]? = some (.int .i64 t.2.2)
  | [], i, t, h => by simp at h
  | q :: l, 0, t, h => by
    simp at h
    subst h
    exact ⟨rfl, rfl, rfl⟩
  | q :: l, i + 1, t, h => by
    obtain ⟨h1, h2, h3⟩ := tV_get l i t (by simpa using h)
    rw [tV_cons, show (i + 1) * 3 = i * 3 + 1 + 1 + 1 by omega]
    exact ⟨by simpa using h1, by rw [show i * 3 + 1 + 1 + 1 + 1 = (i * 3 + 1) + 1 + 1 + 1 by omega]; simpa using h2, by rw [show i * 3 + 1 + 1 + 1 + 2 = (i * 3 + 2) + 1 + 1 + 1 by omega]; simpa using h3⟩
def TL (P : Nat → Prop) (W : World) (v : Value) (l : List Ty) : Prop := SL P W v 3 l.length (tV l)
theorem TL.but {P S : Nat → Prop} {W W' : World} {v : Value} {l : List Ty} (h : TL P W v l) (k : But S W W') (hs : ∀ g, P g → ¬ S g) : TL P W' v l := SL.but h k hs
theorem TL.past {P : Nat → Prop} {W W' : World} {v : Value} {l : List Ty} (h : TL P W v l) (k : Below W.heap.size W W') : TL P W' v l := SL.past h k
theorem TL.mono {P P' : Nat → Prop} {W : World} {v : Value} {l : List Ty} (h : TL P W v l) (k : ∀ g, P g → g < W.heap.size → P' g) : TL P' W v l := SL.mono h k
theorem TL.nil (P : Nat → Prop) (W : World) : TL P W (.slice none 0 0) [] := SL.nil P W 3
theorem TL.len {P : Nat → Prop} {W : World} {v : Value} {l : List Ty} (h : TL P W v l) : ∃ ad cap, v = .slice ad l.length cap ∧ l.length ≤ cap ∧ l.length ≤ 1152921504606846976 := by
  obtain ⟨_, ad, cap, e, h0, h1, _⟩ := h
  exact ⟨ad, cap, e, h0, h1⟩
theorem TL.get {P : Nat → Prop} {W : World} {ad : Option Addr} {n cap : Nat} {l : List Ty} (h : TL P W (.slice ad n cap) l) {i : Nat} {t : Ty} (hi : l[i]? = some t) : ∃ g a, ad = some ⟨g, a, none⟩ ∧ W.cell? ⟨g, a + i * 3, none⟩ = some (.int .i64 t.1) ∧ W.cell? ⟨g, a + i * 3 + 1, none⟩ = some (.int .i64 t.2.1) ∧ W.cell? ⟨g, a + i * 3 + 2, none⟩ = some (.int .i64 t.2.2) := by
  obtain ⟨_, ad', cap', e, h0, h1, _, h2⟩ := h
  injection e with e1 e2 e3
  subst e1
  obtain ⟨g, a, e, _, _, h3⟩ := h2 (by have := (List.getElem?_eq_some_iff.1 hi).1; omega)
  obtain ⟨k1, k2, k3⟩ := tV_get l i t hi
  exact ⟨g, a, e, h3 _ _ k1, by have := h3 _ _ k2; rwa [← Nat.add_assoc] at this, by have := h3 _ _ k3; rwa [← Nat.add_assoc] at this⟩
/-- a container -/
structure Con where
  ts : List Ty
  cs : List (List Nat)
  ss : List (List Nat)
  d : List Nat
  n : Int
/-- v is this container, its lists in blocks of P -/
def CW (P : Nat → Prop) (W : World) (v : Value) (c : Con) : Prop := ∃ tv cv sv dv, v = .agg #[tv, cv, sv, dv, .int .i64 c.n] ∧ TL P W tv c.ts ∧ PL P W cv c.cs ∧ PL P W sv c.ss ∧ BL P W dv c.d
theorem CW.but {P S : Nat → Prop} {W W' : World} {v : Value} {c : Con} (h : CW P W v c) (k : But S W W') (hs : ∀ g, P g → ¬ S g) : CW P W' v c := by
  obtain ⟨tv, cv, sv, dv, e, h1, h2, h3, h4⟩ := h
  exact ⟨tv, cv, sv, dv, e, h1.but k hs, h2.but k hs, h3.but k hs, h4.but k hs⟩
theorem CW.past {P : Nat → Prop} {W W' : World} {v : Value} {c : Con} (h : CW P W v c) (k : Below W.heap.size W W') : CW P W' v c := h.but (below_but (S := fun _ => False) k) (fun _ _ => id)
theorem CW.mono {P P' : Nat → Prop} {W : World} {v : Value} {c : Con} (h : CW P W v c) (k : ∀ g, P g → g < W.heap.size → P' g) : CW P' W v c := by
  obtain ⟨tv, cv, sv, dv, e, h1, h2, h3, h4⟩ := h
  exact ⟨tv, cv, sv, dv, e, h1.mono k, h2.mono k, h3.mono k, h4.mono k⟩
def con0 : Con := ⟨[], [], [], [], 0⟩
theorem CW.zero (P : Nat → Prop) (W : World) : CW P W (.agg #[.slice none 0 0, .slice none 0 0, .slice none 0 0, .slice none 0 0, .int .i64 0]) con0 := ⟨_, _, _, _, rfl, TL.nil P W, PL.nil P W, PL.nil P W, BL.nil P W⟩
/-- append: m elements behind a row of one's own -/
theorem wp_apps {w : World} {o : Oper} {a : Act} {K : Act → World → Prop} {Q : Exit → Act → World → Prop} (s x : Operand) (t e : TypeId)
    (ho : o.op = .call { callee := .builtin .append, args := #[s, x], argTypes := #[t, t] }) (z : Value) (size bytes : Nat) (ht : Try.prog.underlying t = some (.slice e)) (hi : (Try.prog.info? e).map (fun i => (i.zero, i.size, i.bytes)) = some (some z, size, bytes))
    (hzs : z.cells.size = size) (hsz : 0 < size) (hby : bytes ≤ 24) (B : Nat) (hB : B ≤ w.heap.size) (ad : Option Addr) (n cap : Nat) (xs : List Value) (hs : a.eval s = .slice ad n cap) (hown : w.ownsRow B e size (.slice ad n cap) n xs)
    (ad2 : Addr) (m c : Nat) (news : List Value) (hx : a.eval x = .slice (some ad2) m c) (hl : news.length = m * size) (hnews : ∀ j u, news[j]? = some u → w.cell? (ad2.add j) = some u) (h1 : ∀ u ∈ news, u.oneCell' = true) (hn : n + m ≤ 2199023255552)
    (h : ∀ ad' cap' w', w'.ownsRow B e size (.slice ad' (n + m) cap') (n + m) (xs ++ news) → But (Own ad) w w' → Fresh w ad ad' → K (a.put o.dst (.slice ad' (n + m) cap')) w') : o.wp Try.prog a w K Q := by
  obtain ⟨i, hi0, hz0, hz1, hz2⟩ := info_parts hi
  refine wp_append_strong s x t ho B e i z size bytes ht hi0 hz0 hz1 hz2 hzs hsz (.slice ad n cap) n xs hs hown ad2 m c news hx hl hnews h1 (by unfold maxLen; omega) ?_ hB ?_
  · have : (n + m) * bytes ≤ 2199023255552 * 24 := Nat.mul_le_mul hn hby
    omega
  · intro v' w' h2 _ h4
    obtain ⟨ad', cap', rfl, h5, h6⟩ := grew_one h4
    exact h ad' cap' w' h2 h5 h6
/-- behind an append what is below B is as it was -/
theorem own_below {w w' : World} {B : Nat} {e : TypeId} {size n cap k : Nat} {ad : Option Addr} {xs : List Value} (hown : w.ownsRow B e size (.slice ad n cap) k xs) (hB : B ≤ w.heap.size) (hb : But (Own ad) w w') : Below B w w' :=
  hb.below (fun j hj => by obtain ⟨a, rfl, rfl⟩ := hj; exact (hown.lt _ rfl).1) hB
end Go.Proofs.Ytndhabhlajldeaa
