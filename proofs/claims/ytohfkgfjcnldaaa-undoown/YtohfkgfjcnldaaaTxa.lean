/- Two tables, and rows that were told. -/
import Derived.Test.YtohfkgfjcnldaaaTyjM
import Derived.Test.YtohfkgfjcnldaaaTynM
namespace Go.Proofs.Ytohfkgfjcnldaaa
open Go.RowKit Go.Shelf
/-- tables t = b (owner 1), u = c (owner 2: the key 4 alone), and what else the law holds -/
structure UO (w W : World) (b c N : Nat) (A : List (Int × Int)) (H : List (List (Int × Int))) (R : (Nat → Nat) → World → Prop) : Prop where
  ex : ∃ ow, T1 W ow 1 b N A H ∧ T1 W ow 2 c N [(4, 4)] [] ∧ R ow W ∧ ∀ x, x < w.heap.size → ow x = 0
  bel : Below w.heap.size w W
section
variable {w W : World} {b c N : Nat} {A : List (Int × Int)} {H : List (List (Int × Int))} {R R' : (Nat → Nat) → World → Prop}
theorem UO.mono {N' : Nat} (h : UO w W b c N A H R) (hN : N ≤ N') : UO w W b c N' A H R := by
  obtain ⟨⟨ow, h1, h2, h3⟩, h8⟩ := h
  exact ⟨⟨ow, h1.mono hN, h2.mono hN, h3⟩, h8⟩
theorem UO.have (h : UO w W b c N A H R) : ∃ ow, R ow W := by
  obtain ⟨ow, _, _, h3, _⟩ := h.ex
  exact ⟨ow, h3⟩
theorem UO.imp (h : UO w W b c N A H R) (k : ∀ ow V, R ow V → R' ow V) : UO w W b c N A H R' := by
  obtain ⟨⟨ow, h1, h2, h3, h4⟩, h8⟩ := h
  exact ⟨⟨ow, h1, h2, k _ _ h3, h4⟩, h8⟩
/-- a step of the law itself: neither a table's blocks nor those of before are written -/
theorem UO.law {W' : World} {P : Nat → Prop} (h : UO w W b c N A H R) (h0 : ¬ P 0) (h1 : ¬ P 1) (h2 : ¬ P 2) (q : ∀ ow, R ow W → ∃ ow', Mo P ow ow' W W' ∧ R' ow' W') : UO w W' b c N A H R' := by
  obtain ⟨⟨ow, k1, k2, k3, k4⟩, h8⟩ := h
  obtain ⟨ow', m, k5⟩ := q ow k3
  obtain ⟨l1, l2⟩ := m.low k4 h0 h8.size
  exact ⟨⟨ow', k1.mo m h1, k2.mo m h2, k5, l2⟩, h8.trans l1⟩
/-- what is new has owner j -/
theorem UO.past {W' : World} (h : UO w W b c N A H R) (hB : Below W.heap.size W W') (j : Nat) (q : ∀ ow, R ow W → R' (grow ow W.heap.size j) W') : UO w W' b c N A H R' :=
  h.law (P := fun _ => False) id id id fun ow k => ⟨grow ow W.heap.size j, Mo.below hB, q ow k⟩
theorem UO.t {f : FuncId} {args : Array Value} {r : Value} {A' : List (Int × Int)} {H' : List (List (Int × Int))} (h : UO w W b c N A H R) (hR : ∀ ow ow' W', Mo (fun x => x = 1) ow ow' W W' → R ow W → R ow' W') (q : ∀ ow, T1 W ow 1 b N A H → Calls Try.prog f args W fun e w' => e = .returned r ∧ ∃ ow', T1 w' ow' 1 b (N + 1) A' H' ∧ Mo (fun x => x = 1) ow ow' W w') : Calls Try.prog f args W fun e w' => e = .returned r ∧ UO w w' b c (N + 1) A' H' R := by
  obtain ⟨⟨ow, h1, h2, h3, h6⟩, h8⟩ := h
  refine (q ow h1).mono ?_
  rintro e w' ⟨rfl, ow', q1, m⟩
  obtain ⟨l1, l2⟩ := m.low h6 (by omega) h8.size
  exact ⟨rfl, ⟨_, q1, (h2.mo m (by omega)).mono (by omega), hR _ _ _ m h3, l2⟩, h8.trans l1⟩
theorem UO.keysT (h : UO w W b c N A H R) (hN : N < 549755813888) : Calls Try.prog 49 #[.pointer (some ⟨b, 0, none⟩), .func (.func 54) #[] #[]] W fun e w' => e = .returned (.slice (some ⟨W.heap.size, 0, none⟩) A.length A.length) ∧ CBox w' W.heap.size 3 (intsD (A.map Prod.fst)) ∧ Below W.heap.size W w' := by
  obtain ⟨ow, h1, _⟩ := h.ex
  exact keys1 W ow 1 b N A H h1 hN
theorem UO.keysU (h : UO w W b c N A H R) (hN : N < 549755813888) : Calls Try.prog 49 #[.pointer (some ⟨c, 0, none⟩), .func (.func 54) #[] #[]] W fun e w' => e = .returned (.slice (some ⟨W.heap.size, 0, none⟩) 1 1) ∧ CBox w' W.heap.size 3 [.int .i64 4] ∧ Below W.heap.size W w' := by
  obtain ⟨ow, _, h1, _⟩ := h.ex
  exact keys1 W ow 2 c N [(4, 4)] [] h1 hN
end
/-- a row that was told: its block, its numbers -/
def rowV (p : Nat × List Int) : Value := .slice (some ⟨p.1, 0, none⟩) p.2.length p.2.length
/-- rows, each in a block of its own owner -/
def Rws (o : Nat) (D : List (Nat × List Int)) (ow : Nat → Nat) (W : World) : Prop := ∀ i g l, D[i]? = some (g, l) → CBox W g 3 (intsD l) ∧ ow g = o + i
/-- the list that holds them -/
def Cnt (o : Nat) (ad : Option Addr) (n cap : Nat) (vs : List Value) (ow : Nat → Nat) (W : World) : Prop := W.ownsRow 0 65 1 (.slice ad n cap) n vs ∧ ∀ a, ad = some a → ow a.block = o
theorem Rws.mo {o : Nat} {D : List (Nat × List Int)} {P : Nat → Prop} {ow ow' : Nat → Nat} {W W' : World} (h : Rws o D ow W) (m : Mo P ow ow' W W') (hP : ∀ i, i < D.length → ¬ P (o + i)) : Rws o D ow' W' := fun i g l hi => by
  obtain ⟨h1, h2⟩ := h i g l hi
  obtain ⟨s1, s2⟩ := m.box h1 (by rw [h2]; exact hP i (List.getElem?_eq_some_iff.1 hi).1)
  exact ⟨s1, s2.trans h2⟩
theorem Cnt.mo {o : Nat} {ad : Option Addr} {n cap : Nat} {vs : List Value} {P : Nat → Prop} {ow ow' : Nat → Nat} {W W' : World} (h : Cnt o ad n cap vs ow W) (m : Mo P ow ow' W W') (hP : ¬ P o) : Cnt o ad n cap vs ow' W' := by
  refine ⟨row_new h.1 m.but (fun j hj e => ?_), fun a e => ?_⟩
  · obtain ⟨a, ea, rfl⟩ := hj
    exact hP (h.2 a ea ▸ e.1)
  · subst e
    have hl : a.block < W.heap.size := by
      obtain ⟨_, _, cur, h2, _⟩ := owns_row_some h.1
      exact (Array.getElem?_eq_some_iff.1 h2).1
    exact (m.eq _ hl).trans (h.2 a rfl)
theorem Rws.snoc {o : Nat} {D : List (Nat × List Int)} {ow : Nat → Nat} {W : World} (h : Rws o D ow W) {g : Nat} {l : List Int} (hg : CBox W g 3 (intsD l)) (ho : ow g = o + D.length) : Rws o (D ++ [(g, l)]) ow W := fun i g' l' hi => by
  by_cases e : i < D.length
  · rw [List.getElem?_append_left e] at hi
    exact h i g' l' hi
  · rw [List.getElem?_append_right (by omega)] at hi
    have e0 : i - D.length = 0 := by
      have := (List.getElem?_eq_some_iff.1 hi).1
      simpa using this
    rw [e0] at hi
    simp at hi
    obtain ⟨rfl, rfl⟩ := hi
    have : i = D.length := by omega
    subst this
    exact ⟨hg, ho⟩
/-- append of m elements to the list -/
theorem wpList_apps {w : World} {ops : Array Oper} {rest : List Oper} {o : Oper} {a : Act} {Q : Exit → Act → World → Prop} (hgd : o.guard = none) (s x : Operand)
    (ho : o.op = .call { callee := .builtin .append, args := #[s, x], argTypes := #[80, 80] }) (ad : Option Addr) (n cap : Nat) (xs : List Value) (hs : a.eval s = .slice ad n cap) (hown : w.ownsRow 0 65 1 (.slice ad n cap) n xs)
    (g m c : Nat) (news : List Value) (hx : a.eval x = .slice (some ⟨g, 0, none⟩) m c) (hg : CBox w g 65 news) (hl : news.length = m) (h1 : ∀ u ∈ news, u.oneCell' = true) (hn : n + m < 1000000)
    (h : ∀ ad' cap' w', w'.ownsRow 0 65 1 (.slice ad' (n + m) cap') (n + m) (xs ++ news) → But (Own ad) w w' → Fresh w ad ad' → wpList Try.prog ops Q rest (a.put o.dst (.slice ad' (n + m) cap')) w') : wpList Try.prog ops Q (o :: rest) a w := by
  have hi : (Try.prog.info? 65).map (fun i => (i.zero, i.size, i.bytes)) = some (some (.slice none 0 0), 1, 24) := by kernel_rfl
  obtain ⟨i, hi0, hz0, hz1, hz2⟩ := info_parts hi
  refine wpList_append_strong hgd s x 80 ho 0 65 i (.slice none 0 0) 1 24 Try.underlying80 hi0 hz0 hz1 hz2 rfl (by omega) (.slice ad n cap) n xs hs hown ⟨g, 0, none⟩ m c news hx (by omega) ?_ h1 (by unfold maxLen; omega) (by omega) (Nat.zero_le _) ?_
  · intro j u hj
    have e2 : (⟨g, 0, none⟩ : Addr).add j = ⟨g, j, none⟩ := by
      unfold Addr.add
      by_cases e : j = 0
      · subst e; rfl
      · simp [e]
    rw [e2, hg.cell]
    exact hj
  · intro v' w' h2 _ h4
    obtain ⟨ad', cap', rfl, h5, h6⟩ := grew_one h4
    exact h ad' cap' w' h2 h5 h6
/-- the list has grown, in its block or in a new one; what else is new keeps the owners that it has been given -/
theorem Cnt.app {o : Nat} {ad ad' : Option Addr} {n n' cap cap' : Nat} {vs vs' : List Value} {ow : Nat → Nat} {W W' : World} (h : Cnt o ad n cap vs ow W) (h1 : W'.ownsRow 0 65 1 (.slice ad' n' cap') n' vs') (h2 : But (Own ad) W W') (h3 : Fresh W ad ad') : Cnt o ad' n' cap' vs' (grow ow W.heap.size o) W' ∧ Mo (fun x => x = o) ow (grow ow W.heap.size o) W W' := by
  have lt : ∀ a, ad = some a → a.block < W.heap.size := fun a e => by
    subst e
    obtain ⟨_, _, cur, h2, _⟩ := owns_row_some h.1
    exact (Array.getElem?_eq_some_iff.1 h2).1
  refine ⟨⟨h1, fun a e => ?_⟩, ⟨h2.mono fun x hx => ?_, fun x hx => grow_lt hx⟩⟩
  · rcases h3 with rfl | ⟨g, rfl, hg⟩
    · rw [grow_lt (lt a e)]
      exact h.2 a e
    · injection e with e
      subst e
      exact grow_ge hg
  · obtain ⟨a, ea, rfl⟩ := hx
    refine ⟨h.2 a ea, fun ⟨v, l, hv, e⟩ => ?_⟩
    obtain ⟨pd, pc, rfl⟩ := hv.form
    have hp : Own pd a.block := by
      cases pd with
      | none => cases e
      | some q => injection e with e; exact ⟨q, rfl, e.symm⟩
    subst ea
    exact rows_apart hv h.1 (by decide) hp ⟨a, rfl, rfl⟩
theorem Cnt.nil (o : Nat) (ow : Nat → Nat) (W : World) : Cnt o none 0 0 [] ow W := ⟨World.ownsRow_nil _ _ _ _, fun a e => by cases e⟩
theorem Cnt.at {o : Nat} {ad : Option Addr} {n cap : Nat} {vs : List Value} {ow : Nat → Nat} {W : World} (h : Cnt o ad n cap vs ow W) {i : Nat} {v : Value} (hi : vs[i]? = some v) : ∃ g, ad = some ⟨g, 0, none⟩ ∧ W.cell? ⟨g, i, none⟩ = some v := by
  have hl : vs.length = n := by have := h.1.1; omega
  rcases h.1.2 with ⟨e, e2⟩ | ⟨g, c, cur, e, _, h2, h3, h4, h5, h6⟩
  · injection e with _ e3 _
    have := (List.getElem?_eq_some_iff.1 hi).1
    omega
  · injection e with e1 _ _
    refine ⟨g, e1, ?_⟩
    have hc : W.cell? ⟨g, i, none⟩ = cur[i]? := by simp [World.cell?, h2]
    rw [hc, ← Array.getElem?_toList]
    rw [← h6, List.getElem?_take] at hi
    split at hi
    · exact hi
    · cases hi
/-- the rows and the list that holds them -/
def LR (D : List (Nat × List Int)) (ad : Option Addr) (n cap : Nat) (vs : List Value) (X : (Nat → Nat) → World → Prop) (ow : Nat → Nat) (W : World) : Prop := (Rws 100 D ow W ∧ Cnt 3 ad n cap vs ow W) ∧ X ow W
theorem LR.mo {D : List (Nat × List Int)} {ad : Option Addr} {n cap : Nat} {vs : List Value} {X : (Nat → Nat) → World → Prop} {P : Nat → Prop} {ow ow' : Nat → Nat} {W W' : World} (h : LR D ad n cap vs X ow W) (m : Mo P ow ow' W W') (hP : ∀ x, P x → x < 3) (hX : Stb X) (h0 : ¬ P 0) : LR D ad n cap vs X ow' W' :=
  ⟨⟨h.1.1.mo m (fun i _ e => by have := hP _ e; omega), h.1.2.mo m (fun e => by have := hP _ e; omega)⟩, hX _ _ _ _ _ h0 m h.2⟩
section
variable {w W : World} {b c N : Nat} {A : List (Int × Int)} {H : List (List (Int × Int))} {D : List (Nat × List Int)} {ad : Option Addr} {n cap : Nat} {vs : List Value} {X : (Nat → Nat) → World → Prop}
theorem UO.keep {W' : World} (h : UO w W b c N A H (LR D ad n cap vs X)) (hX : Stb X) (hB : Below W.heap.size W W') : UO w W' b c N A H (LR D ad n cap vs X) :=
  h.past hB 0 fun _ r => r.mo (P := fun _ => False) (Mo.below hB) (fun _ e => e.elim) hX id
/-- a row that was told just now -/
theorem UO.row {W' : World} (h : UO w W b c N A H (LR D ad n cap vs X)) (hX : Stb X) (hB : Below W.heap.size W W') {l : List Int} (hc : CBox W' W.heap.size 3 (intsD l)) : UO w W' b c N A H (LR (D ++ [(W.heap.size, l)]) ad n cap vs X) :=
  h.past hB (100 + D.length) fun ow r => by
    have m : Mo (fun _ => False) ow (grow ow W.heap.size (100 + D.length)) W W' := Mo.below hB
    exact ⟨⟨(r.1.1.mo m (fun _ _ => id)).snoc hc (grow_ge (Nat.le_refl _)), r.1.2.mo m id⟩, hX _ _ _ _ _ id m r.2⟩
/-- the list has grown -/
theorem UO.app {W' : World} {ad' : Option Addr} {n' cap' : Nat} {vs' : List Value} (h : UO w W b c N A H (LR D ad n cap vs X)) (hX : Stb X) (h1 : W'.ownsRow 0 65 1 (.slice ad' n' cap') n' vs') (h2 : But (Own ad) W W') (h3 : Fresh W ad ad') : UO w W' b c N A H (LR D ad' n' cap' vs' X) :=
  h.law (P := fun x => x = 3) (by omega) (by omega) (by omega) fun ow r => by
    obtain ⟨k1, m⟩ := r.1.2.app h1 h2 h3
    exact ⟨_, m, ⟨r.1.1.mo m (fun i _ => by omega), k1⟩, hX _ _ _ _ _ (by omega) m r.2⟩
theorem UO.doO (h : UO w W b c N A H (LR D ad n cap vs X)) (hX : Stb X) (hN : N < 274877906944) (kd : Int) (two : Bool) (k v : Int) (hk : I64 k) : Calls Try.prog 38 #[.pointer (some ⟨b, 0, none⟩), .agg #[.int .i64 kd, .bool two, .int .i64 k, .int .i64 v]] W fun e w' => e = .returned (.tuple #[]) ∧ UO w w' b c (N + 1) (nxA kd k v A H) (nxH kd k A H) (LR D ad n cap vs X) :=
  h.t (fun _ _ _ m r => r.mo m (fun _ e => by omega) hX (by omega)) fun ow ht => do_is W ow 1 b N A H ht hN kd two k v hk
theorem UO.own (h : UO w W b c N A H (LR D ad n cap vs X)) : W.ownsRow 0 65 1 (.slice ad n cap) n vs := by
  obtain ⟨ow, r⟩ := h.have
  exact r.1.2.1
theorem UO.at (h : UO w W b c N A H (LR D ad n cap vs X)) {i : Nat} {v : Value} (hi : vs[i]? = some v) : ∃ g, ad = some ⟨g, 0, none⟩ ∧ W.cell? ⟨g, i, none⟩ = some v := by
  obtain ⟨ow, r⟩ := h.have
  exact r.1.2.at hi
theorem UO.rw (h : UO w W b c N A H (LR D ad n cap vs X)) {i g : Nat} {l : List Int} (hi : D[i]? = some (g, l)) : CBox W g 3 (intsD l) := by
  obtain ⟨ow, r⟩ := h.have
  exact (r.1.1 i g l hi).1
theorem UO.seenO (h : UO w W b c N A H (LR D ad n cap vs X)) (hX : Stb X) (hN : N < 274877906944) : Calls Try.prog 40 #[.pointer (some ⟨b, 0, none⟩)] W fun e w' => ∃ ka kc va vc, e = .returned (.agg #[.slice ka A.length kc, .slice va A.length vc]) ∧ UO w (w'.alloc (.cells #[.slice ka A.length kc, .slice va A.length vc] 67)) b c N A H (LR D ad n cap vs (RV w'.heap.size (.slice ka A.length kc) (.slice va A.length vc) A)) := by
  obtain ⟨ow, k1, k2, k3, k4⟩ := h.ex
  have h8 := h.bel
  refine (seen_is W ow 1 b N A H k1 hN).mono ?_
  rintro e w' ⟨vk, vv, rfl, q1, q2, q3⟩
  obtain ⟨ka, kc, e1, q2'⟩ := q2
  obtain ⟨va, vc, e2, q3'⟩ := q3
  rw [List.length_map] at e1 e2
  subst e1 e2
  have hB : Below w'.heap.size w' (w'.alloc (.cells #[.slice ka A.length kc, .slice va A.length vc] 67)) := (Below.refl _ _).alloc (Nat.le_refl _) _
  have i2 : IsI w' (grow ow W.heap.size 0) (.slice ka A.length kc) (A.map Prod.fst) := ⟨ka, kc, by rw [List.length_map], q2'⟩
  have i3 : IsI w' (grow ow W.heap.size 0) (.slice va A.length vc) (A.map Prod.snd) := ⟨va, vc, by rw [List.length_map], q3'⟩
  have z1 := q1.size
  have z0 := h8.size
  have m1 : Mo (fun _ => False) ow (grow ow W.heap.size 0) W w' := Mo.below q1
  have m2 : Mo (fun _ => False) (grow ow W.heap.size 0) (grow (grow ow W.heap.size 0) w'.heap.size 0) w' (w'.alloc (.cells #[.slice ka A.length kc, .slice va A.length vc] 67)) := Mo.below hB
  have r2 := (k3.mo m1 (fun _ e => e.elim) hX id).mo m2 (fun _ e => e.elim) hX id
  refine ⟨ka, kc, va, vc, rfl, ⟨grow (grow ow W.heap.size 0) w'.heap.size 0, (k1.past q1).past hB, (k2.past q1).past hB, ⟨r2.1, ⟨i2.past hB, i3.past hB⟩, CBox.new w' _ [_, _], grow_ge (Nat.le_refl _)⟩, fun x hx => ?_⟩, (h8.trans (q1.mono z0)).trans (hB.mono (by omega))⟩
  rw [grow_lt (by omega), grow_lt (by omega)]
  exact k4 x hx
theorem intsD_set (l : List Int) (k : Nat) (v : Int) : (intsD l).set k (.int .i64 v) = intsD (l.set k v) := by simp [intsD, List.map_set]
/-- a number of a row is written over -/
theorem UO.put (h : UO w W b c N A H (LR D ad n cap vs X)) (hX : Stb X) {i g : Nat} {l : List Int} (hi : D[i]? = some (g, l)) (k : Nat) (v : Int) : UO w (W.setCell ⟨g, k, none⟩ (.int .i64 v)) b c N A H (LR (D.set i (g, l.set k v)) ad n cap vs X) :=
  h.law (P := fun x => x = 100 + i) (by omega) (by omega) (by omega) fun ow r => by
    have hl : i < D.length := (List.getElem?_eq_some_iff.1 hi).1
    obtain ⟨c1, c2⟩ := r.1.1 i g l hi
    have hB : But (fun q => q = g) W (W.setCell ⟨g, k, none⟩ (.int .i64 v)) := (But.refl (fun q => q = g) W).setCell ⟨g, k, none⟩ _ (Or.inl rfl)
    have hp : ¬ IsPr W g := fun ⟨v, l, hv, e⟩ => by
      obtain ⟨pd, pc, rfl⟩ := hv.form
      have ho : Own pd g := by
        cases pd with
        | none => cases e
        | some a => injection e with e; exact ⟨a, rfl, e.symm⟩
      exact row_box hv c1 (by decide) ho rfl
    have m : Mo (fun x => x = 100 + i) ow ow W (W.setCell ⟨g, k, none⟩ (.int .i64 v)) := ⟨hB.mono fun x e => by subst e; exact ⟨c2, hp⟩, fun _ _ => rfl⟩
    refine ⟨ow, m, ⟨⟨fun j g' l' hj => ?_, r.1.2.mo m (by omega)⟩, hX _ _ _ _ _ (by omega) m r.2⟩⟩
    by_cases e : j = i
    · subst e
      rw [List.getElem?_set_self hl] at hj
      injection hj with hj
      injection hj with e1 e2
      subst e1 e2
      exact ⟨by rw [← intsD_set]; exact c1.set k _, c2⟩
    · rw [List.getElem?_set_ne (Ne.symm e)] at hj
      obtain ⟨d1, d2⟩ := r.1.1 j g' l' hj
      exact ⟨(m.box d1 (by rw [d2]; omega)).1, d2⟩
theorem IsI.any {V : World} {ow : Nat → Nat} {v : Value} {l : List Int} (h : IsI V ow v l) : IsI V (fun _ => 0) v l := by
  obtain ⟨ad, cap, e, h1⟩ := h
  exact ⟨ad, cap, e, fun i x hx => by obtain ⟨g, e1, _, c⟩ := h1 i x hx; exact ⟨g, e1, rfl, c⟩⟩
/-- two rows with the same numbers -/
theorem same_rows (V : World) {g g' : Nat} {l : List Int} (h : CBox V g 3 (intsD l)) (h' : CBox V g' 3 (intsD l)) (hl : l.length < 549755813888) : Calls Try.prog 55 #[rowV (g, l), rowV (g', l)] V fun e w' => e = .returned (.bool true) ∧ Below V.heap.size V w' :=
  sameInts_is V (fun _ => 0) _ _ l (IsI.box h rfl) (IsI.box h' rfl) hl
end
theorem lst_new {P : Program} {ops : Array Oper} {Q : Exit → Act → World → Prop} {a : Act} {w w' : World} {rest : List Oper} {o : Oper} {v : Value} (hg : Region.wanted o (yielded ops a.tmps) = true) (hv : (execOp a.eval o).run P w = .ok (.value v) w') (h : wpList P ops Q rest (a.put o.dst v) w') : wpList P ops Q (o :: rest) a w :=
  wpList_step fun K hK => by
    rw [if_pos hg]
    unfold Oper.wp
    rw [hv]
    exact hK _ _ h
end Go.Proofs.Ytohfkgfjcnldaaa
