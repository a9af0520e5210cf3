/- Rows that grow, and the list that they are laid into. -/
import Derived.Test.YtohfkgfjcnldaaaTxc
namespace Go.Proofs.Ytohfkgfjcnldaaa
open Go.RowKit Go.Shelf
/-- a row of numbers that grows: its block has owner o -/
def Grw (o : Nat) (ad : Option Addr) (n cap : Nat) (vs : List Value) (ow : Nat → Nat) (W : World) : Prop := W.ownsRow 0 3 1 (.slice ad n cap) n vs ∧ ∀ a, ad = some a → ow a.block = o
theorem Grw.mo {o : Nat} {ad : Option Addr} {n cap : Nat} {vs : List Value} {P : Nat → Prop} {ow ow' : Nat → Nat} {W W' : World} (h : Grw o ad n cap vs ow W) (m : Mo P ow ow' W W') (hP : ¬ P o) : Grw o ad n cap vs ow' W' := by
  refine ⟨row_new h.1 m.but (fun j hj e => ?_), fun a e => ?_⟩
  · obtain ⟨a, ea, rfl⟩ := hj
    exact hP (h.2 a ea ▸ e.1)
  · subst e
    have hl : a.block < W.heap.size := by
      obtain ⟨_, _, cur, h2, _⟩ := owns_row_some h.1
      exact (Array.getElem?_eq_some_iff.1 h2).1
    exact (m.eq _ hl).trans (h.2 a rfl)
theorem Grw.app {o : Nat} {ad ad' : Option Addr} {n n' cap cap' : Nat} {vs vs' : List Value} {ow : Nat → Nat} {W W' : World} (h : Grw o ad n cap vs ow W) (h1 : W'.ownsRow 0 3 1 (.slice ad' n' cap') n' vs') (h2 : But (Own ad) W W') (h3 : Fresh W ad ad') : Grw o ad' n' cap' vs' (grow ow W.heap.size o) W' ∧ Mo (fun x => x = o) ow (grow ow W.heap.size o) W W' := by
  have lt : ∀ a, ad = some a → a.block < W.heap.size := fun a e => by
    subst e
    obtain ⟨_, _, cur, h2, _⟩ := owns_row_some h.1
    exact (Array.getElem?_eq_some_iff.1 h2).1
  refine ⟨⟨h1, fun a e => ?_⟩, ⟨h2.mono fun x hx => ?_, fun x hx => grow_lt hx⟩⟩
  · rcases h3 with rfl | ⟨g, rfl, hg⟩
    · rw [grow_lt (lt a e)]
      exact h.2 a e
    · injection e with e
      subst e
      exact grow_ge hg
  · obtain ⟨a, ea, rfl⟩ := hx
    refine ⟨h.2 a ea, fun ⟨v, l, hv, e⟩ => ?_⟩
    obtain ⟨pd, pc, rfl⟩ := hv.form
    have hp : Own pd a.block := by
      cases pd with
      | none => cases e
      | some q => injection e with e; exact ⟨q, rfl, e.symm⟩
    subst ea
    exact rows_apart hv h.1 (by decide) hp ⟨a, rfl, rfl⟩
theorem Grw.at {o : Nat} {ad : Option Addr} {n cap : Nat} {vs : List Value} {ow : Nat → Nat} {W : World} (h : Grw o ad n cap vs ow W) {i : Nat} {v : Value} (hi : vs[i]? = some v) : ∃ g, ad = some ⟨g, 0, none⟩ ∧ W.cell? ⟨g, i, none⟩ = some v := by
  have hl : vs.length = n := by have := h.1.1; omega
  rcases h.1.2 with ⟨e, e2⟩ | ⟨g, c, cur, e, _, h2, h3, h4, h5, h6⟩
  · injection e with _ e3 _
    have := (List.getElem?_eq_some_iff.1 hi).1
    omega
  · injection e with e1 _ _
    refine ⟨g, e1, ?_⟩
    have hc : W.cell? ⟨g, i, none⟩ = cur[i]? := by simp [World.cell?, h2]
    rw [hc, ← Array.getElem?_toList]
    rw [← h6, List.getElem?_take] at hi
    split at hi
    · exact hi
    · cases hi
theorem box_owns {W : World} {g : Nat} {l : List Int} (h : CBox W g 3 (intsD l)) (hl : l.length ≤ 1000) : W.ownsRow 0 3 1 (.slice (some ⟨g, 0, none⟩) l.length l.length) l.length (intsD l) := by
  refine ⟨by simp [intsD], Or.inr ⟨g, l.length, (intsD l).toArray, rfl, Nat.zero_le _, h, Nat.le_refl _, by unfold maxLen; omega, by simp [intsD], ?_⟩⟩
  rw [List.take_of_length_le (by simp [intsD])]
/-- a row without room to spare goes into a new block when it grows -/
theorem wpList_new {w : World} {ops : Array Oper} {rest : List Oper} {o : Oper} {a : Act} {Q : Exit → Act → World → Prop} (hgd : o.guard = none) (s x : Operand)
    (ho : o.op = .call { callee := .builtin .append, args := #[s, x], argTypes := #[65, 65] }) (gi n : Nat) (xs : List Value) (hs : a.eval s = .slice (some ⟨gi, 0, none⟩) n n) (hown : w.ownsRow 0 3 1 (.slice (some ⟨gi, 0, none⟩) n n) n xs)
    (g c : Nat) (y : Int) (hx : a.eval x = .slice (some ⟨g, 0, none⟩) 1 c) (hg : CBox w g 3 [.int .i64 y]) (hn : n < 1000)
    (h : ∀ cap' w', w'.ownsRow 0 3 1 (.slice (some ⟨w.heap.size, 0, none⟩) (n + 1) cap') (n + 1) (xs ++ [.int .i64 y]) → Below w.heap.size w w' → wpList Try.prog ops Q rest (a.put o.dst (.slice (some ⟨w.heap.size, 0, none⟩) (n + 1) cap')) w') : wpList Try.prog ops Q (o :: rest) a w := by
  obtain ⟨i, hi0, hz0, hz1, hz2⟩ := info_parts info_int
  refine wpList_append_strong hgd s x 65 ho 0 3 i (.int .i64 0) 1 8 Try.underlying65 hi0 hz0 hz1 hz2 rfl (by omega) (.slice (some ⟨gi, 0, none⟩) n n) n xs hs hown ⟨g, 0, none⟩ 1 c [.int .i64 y] hx rfl ?_ (by simp [Value.oneCell']) (by unfold maxLen; omega) (by omega) (Nat.zero_le _) ?_
  · intro j u hj
    have hj0 : j = 0 := by have := (List.getElem?_eq_some_iff.1 hj).1; simpa using this
    subst hj0
    have := hg.cell 0
    rw [← this] at hj
    exact hj
  · intro v' w' h2 _ h4
    rcases h4 with ⟨_, _, h6⟩ | ⟨h5, c', rfl⟩
    · obtain rfl := h6 _ _ _ rfl
      obtain ⟨_, _, cur, _, h8, _⟩ := owns_row_some h2
      omega
    · exact h c' w' h2 ⟨h5.os, h5.tape, h5.output, h5.size, fun q hq => h5.block q hq (fun e => by cases e)⟩
/-- the grown rows: block, length, room -/
def Lng (E : List (Nat × Nat × Nat)) (ow : Nat → Nat) (W : World) : Prop := ∀ i g n c, E[i]? = some (g, n, c) → Grw (1000 + i) (some ⟨g, 0, none⟩) n c (intsD (List.replicate n (mrk i))) ow W
def lngV (e : Nat × Nat × Nat) : Value := .slice (some ⟨e.1, 0, none⟩) e.2.1 e.2.2
theorem Lng.mo {E : List (Nat × Nat × Nat)} {P : Nat → Prop} {ow ow' : Nat → Nat} {W W' : World} (h : Lng E ow W) (m : Mo P ow ow' W W') (hP : ∀ i, i < E.length → ¬ P (1000 + i)) : Lng E ow' W' := fun i g n c hi => (h i g n c hi).mo m (hP i (List.getElem?_eq_some_iff.1 hi).1)
theorem Lng.snoc {E : List (Nat × Nat × Nat)} {ow : Nat → Nat} {W : World} (h : Lng E ow W) {g n c : Nat} (hg : Grw (1000 + E.length) (some ⟨g, 0, none⟩) n c (intsD (List.replicate n (mrk E.length))) ow W) : Lng (E ++ [(g, n, c)]) ow W := fun i g' n' c' hi => by
  by_cases e : i < E.length
  · rw [List.getElem?_append_left e] at hi
    exact h i g' n' c' hi
  · rw [List.getElem?_append_right (by omega)] at hi
    have e0 : i - E.length = 0 := by
      have := (List.getElem?_eq_some_iff.1 hi).1
      simpa using this
    rw [e0] at hi
    simp at hi
    obtain ⟨rfl, rfl, rfl⟩ := hi
    have : i = E.length := by omega
    subst this
    exact hg
theorem LR.mo2 {D : List (Nat × List Int)} {ad : Option Addr} {n cap : Nat} {vs : List Value} {X : (Nat → Nat) → World → Prop} {P : Nat → Prop} {ow ow' : Nat → Nat} {W W' : World} (h : LR D ad n cap vs X ow W) (m : Mo P ow ow' W W') (hX : Stb X) (h0 : ¬ P 0) (h3 : ¬ P 3) (hD : ∀ i, i < D.length → ¬ P (100 + i)) : LR D ad n cap vs X ow' W' :=
  ⟨⟨h.1.1.mo m hD, h.1.2.mo m h3⟩, hX _ _ _ _ _ h0 m h.2⟩
/-- what the third loop holds: the rows, the grown rows, the list of these, and a row Y that grows -/
def L3 (D : List (Nat × List Int)) (ad : Option Addr) (n cap : Nat) (vs : List Value) (X : (Nat → Nat) → World → Prop) (E : List (Nat × Nat × Nat)) (ad2 : Option Addr) (n2 cap2 : Nat) (Y : (Nat → Nat) → World → Prop) (ow : Nat → Nat) (W : World) : Prop := LR D ad n cap vs X ow W ∧ (Lng E ow W ∧ Cnt 4 ad2 n2 cap2 (E.map lngV) ow W) ∧ Y ow W
section
variable {w W : World} {b c N : Nat} {A : List (Int × Int)} {H : List (List (Int × Int))} {D : List (Nat × List Int)} {ad : Option Addr} {n cap : Nat} {vs : List Value} {X : (Nat → Nat) → World → Prop} {E : List (Nat × Nat × Nat)} {ad2 : Option Addr} {n2 cap2 : Nat} {Y Y' : (Nat → Nat) → World → Prop}
theorem UO.keep3 {W' : World} (h : UO w W b c N A H (L3 D ad n cap vs X E ad2 n2 cap2 Y)) (hX : Stb X) (hB : Below W.heap.size W W') (j : Nat) (hY : ∀ ow, Y ow W → Y' (grow ow W.heap.size j) W') : UO w W' b c N A H (L3 D ad n cap vs X E ad2 n2 cap2 Y') :=
  h.past hB j fun ow r => by
    have m : Mo (fun _ => False) ow (grow ow W.heap.size j) W W' := Mo.below hB
    exact ⟨r.1.mo2 m hX id id (fun _ _ => id), ⟨r.2.1.1.mo m (fun _ _ => id), r.2.1.2.mo m id⟩, hY ow r.2.2⟩
/-- the row in the making grows -/
theorem UO.grow3 {W' : World} {o n3 n4 c3 c4 : Nat} {ad3 ad4 : Option Addr} {v3 v4 : List Value} (h : UO w W b c N A H (L3 D ad n cap vs X E ad2 n2 cap2 (Grw o ad3 n3 c3 v3))) (hX : Stb X) (ho : o = 1000 + E.length) (hD : D.length < 900) (h1 : W'.ownsRow 0 3 1 (.slice ad4 n4 c4) n4 v4) (h2 : But (Own ad3) W W') (h3 : Fresh W ad3 ad4) : UO w W' b c N A H (L3 D ad n cap vs X E ad2 n2 cap2 (Grw o ad4 n4 c4 v4)) :=
  h.law (P := fun x => x = o) (by omega) (by omega) (by omega) fun ow r => by
    obtain ⟨k1, m⟩ := r.2.2.app h1 h2 h3
    exact ⟨_, m, r.1.mo2 m hX (by omega) (by omega) (fun i hi => by omega), ⟨r.2.1.1.mo m (fun i hi => by omega), r.2.1.2.mo m (by omega)⟩, k1⟩
/-- the grown row is laid into the list -/
theorem UO.lay3 {W' : World} {g3 n3 c3 n4 cap4 : Nat} {ad4 : Option Addr} (h : UO w W b c N A H (L3 D ad n cap vs X E ad2 n2 cap2 (Grw (1000 + E.length) (some ⟨g3, 0, none⟩) n3 c3 (intsD (List.replicate n3 (mrk E.length)))))) (hX : Stb X) (h1 : W'.ownsRow 0 65 1 (.slice ad4 n4 cap4) n4 ((E ++ [(g3, n3, c3)]).map lngV)) (h2 : But (Own ad2) W W') (h3 : Fresh W ad2 ad4) : UO w W' b c N A H (L3 D ad n cap vs X (E ++ [(g3, n3, c3)]) ad4 n4 cap4 (fun _ _ => True)) :=
  h.law (P := fun x => x = 4) (by omega) (by omega) (by omega) fun ow r => by
    obtain ⟨k1, m⟩ := r.2.1.2.app h1 h2 h3
    exact ⟨_, m, r.1.mo2 m hX (by omega) (by omega) (fun i hi => by omega), ⟨(r.2.1.1.mo m (fun i hi => by omega)).snoc (r.2.2.mo m (by omega)), k1⟩, trivial⟩
theorem UO.l3 (h : UO w W b c N A H (LR D ad n cap vs X)) : UO w W b c N A H (L3 D ad n cap vs X [] none 0 0 (fun _ _ => True)) := h.imp fun ow V r => ⟨r, ⟨(fun i g n c hi => by cases hi), Cnt.nil _ _ _⟩, trivial⟩
/-- u tells the key 4 and its value, in rows that are made just now -/
theorem UO.tells4 {R : (Nat → Nat) → World → Prop} (h : UO w W b c N A H R) (hN : N < 274877906944) : Calls Try.prog 46 #[.pointer (some ⟨c, 0, none⟩), .agg #[.slice (some ⟨W.heap.size, 0, none⟩) 1 1, .slice (some ⟨W.heap.size + 1, 0, none⟩) 1 1]] ((W.alloc (.cells #[.int .i64 4] 3)).alloc (.cells #[.int .i64 4] 3)) fun e w' => e = .returned (.bool true) ∧ Below w.heap.size w w' := by
  obtain ⟨ow, _, k2, _, _⟩ := h.ex
  have h8 := h.bel
  have b1 : Below W.heap.size W (W.alloc (.cells #[.int .i64 4] 3)) := (Below.refl _ _).alloc (Nat.le_refl _) _
  have s1 : (W.alloc (.cells #[.int .i64 4] 3)).heap.size = W.heap.size + 1 := by simp
  have b2 : Below (W.alloc (.cells #[.int .i64 4] 3)).heap.size (W.alloc (.cells #[.int .i64 4] 3)) ((W.alloc (.cells #[.int .i64 4] 3)).alloc (.cells #[.int .i64 4] 3)) := (Below.refl _ _).alloc (Nat.le_refl _) _
  have c1 : CBox ((W.alloc (.cells #[.int .i64 4] 3)).alloc (.cells #[.int .i64 4] 3)) W.heap.size 3 (intsD [4]) := (CBox.new W 3 [.int .i64 4]).but (below_but (S := fun _ => False) b2) id
  have c2 : CBox ((W.alloc (.cells #[.int .i64 4] 3)).alloc (.cells #[.int .i64 4] 3)) (W.heap.size + 1) 3 (intsD [4]) := by
    rw [← s1]
    exact CBox.new (W.alloc (.cells #[.int .i64 4] 3)) 3 [.int .i64 4]
  have t2 : T1 ((W.alloc (.cells #[.int .i64 4] 3)).alloc (.cells #[.int .i64 4] 3)) (grow (grow ow W.heap.size 0) (W.alloc (.cells #[.int .i64 4] 3)).heap.size 0) 2 c N [(4, 4)] [] := (k2.past b1).past b2
  have i1 := IsI.box (ow := grow (grow ow W.heap.size 0) (W.alloc (.cells #[.int .i64 4] 3)).heap.size 0) (cap := 1) c1 (by rw [grow_lt (by rw [s1]; omega), grow_ge (Nat.le_refl _)])
  have i2 := IsI.box (ow := grow (grow ow W.heap.size 0) (W.alloc (.cells #[.int .i64 4] 3)).heap.size 0) (cap := 1) c2 (grow_ge (by rw [s1]; exact Nat.le_refl _))
  have k := tells_is _ _ 2 c N [(4, 4)] [] t2 hN (.slice (some ⟨W.heap.size, 0, none⟩) 1 1) (.slice (some ⟨W.heap.size + 1, 0, none⟩) 1 1) i1 i2
  refine k.mono ?_
  rintro e w' ⟨rfl, hB⟩
  have z1 := b1.size
  have bb := (h8.trans (b1.mono h8.size)).trans (b2.mono (by rw [s1]; have := h8.size; omega))
  exact ⟨rfl, bb.trans (hB.mono bb.size)⟩
end
end Go.Proofs.Ytohfkgfjcnldaaa
