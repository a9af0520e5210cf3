/- append of one element to a row of one's own. -/
import Derived.Test.YtohfkgfjcnldaaaTd
namespace Go.Proofs.Ytohfkgfjcnldaaa
open Go.RowKit
theorem Tab0.alloc {W : World} {b pm : Nat} {ra : Option Addr} {rc : Nat} {ba : Option Addr} {bc : Nat} {ma : Option Addr} {mc n : Nat} {m : Int → Option Nat} {L : List (Int × Int)} {U : List Value} {M : List Nat} (h : Tab0 W b pm ra rc ba bc ma mc n m L U M) (o : Obj) : Tab0 (W.alloc o) b pm ra rc ba bc ma mc n m L U M := h.but (S := fun _ => False) ((But.refl _ _).alloc o) (fun _ _ => id)
theorem grew_one {w w' : World} {ad : Option Addr} {n cap k : Nat} {v' : Value} (h : Grew w w' (.slice ad n cap) v' k) : ∃ ad' cap', v' = .slice ad' k cap' ∧ But (Own ad) w w' ∧ Fresh w ad ad' := by
  rcases h with ⟨h1, _, h3⟩ | ⟨h1, c, h2⟩
  · refine ⟨ad, cap, h3 _ _ _ rfl, grown_but h1 (fun j e => ?_), Or.inl rfl⟩
    cases ad with
    | none => cases e
    | some a => injection e with e; exact ⟨a, rfl, e.symm⟩
  · exact ⟨_, c, h2, grown_but h1 (fun j e => by cases e), Or.inr ⟨_, rfl, Nat.le_refl _⟩⟩
theorem wp_app {w : World} {o : Oper} {a : Act} {K : Act → World → Prop} {Q : Exit → Act → World → Prop} (s x : Operand) (t e : TypeId)
    (ho : o.op = .call { callee := .builtin .append, args := #[s, x], argTypes := #[t, t] }) (z : Value) (size bytes : Nat) (ht : Try.prog.underlying t = some (.slice e)) (hi : (Try.prog.info? e).map (fun i => (i.zero, i.size, i.bytes)) = some (some z, size, bytes))
    (hzs : z.cells.size = size) (hsz : 0 < size) (hby : bytes ≤ 16) (ad : Option Addr) (n cap : Nat) (xs : List Value) (hs : a.eval s = .slice ad n cap) (hown : w.ownsRow 0 e size (.slice ad n cap) n xs)
    (g c : Nat) (news : List Value) (hx : a.eval x = .slice (some ⟨g, 0, none⟩) 1 c) (hg : CBox w g e news) (hl : news.length = size) (h1 : ∀ u ∈ news, u.oneCell' = true) (hn : n < 2199023255552)
    (h : ∀ ad' cap' w', w'.ownsRow 0 e size (.slice ad' (n + 1) cap') (n + 1) (xs ++ news) → But (Own ad) w w' → Fresh w ad ad' → K (a.put o.dst (.slice ad' (n + 1) cap')) w') : o.wp Try.prog a w K Q := by
  obtain ⟨i, hi0, hz0, hz1, hz2⟩ := info_parts hi
  refine wp_append_strong s x t ho 0 e i z size bytes ht hi0 hz0 hz1 hz2 hzs hsz (.slice ad n cap) n xs hs hown ⟨g, 0, none⟩ 1 c news hx (by omega) ?_ h1 (by unfold maxLen; omega) ?_ (Nat.zero_le _) ?_
  · intro j u hj
    have e2 : (⟨g, 0, none⟩ : Addr).add j = ⟨g, j, none⟩ := by
      unfold Addr.add
      by_cases e : j = 0
      · subst e; rfl
      · simp [e]
    rw [e2, hg.cell]
    exact hj
  · have : (n + 1) * bytes ≤ 2199023255552 * 16 := Nat.mul_le_mul (by omega) hby
    omega
  · intro v' w' h2 _ h4
    obtain ⟨ad', cap', rfl, h5, h6⟩ := grew_one h4
    exact h ad' cap' w' h2 h5 h6
theorem wpList_app {w : World} {ops : Array Oper} {rest : List Oper} {o : Oper} {a : Act} {Q : Exit → Act → World → Prop} (hgd : o.guard = none) (s x : Operand) (t e : TypeId)
    (ho : o.op = .call { callee := .builtin .append, args := #[s, x], argTypes := #[t, t] }) (z : Value) (size bytes : Nat) (ht : Try.prog.underlying t = some (.slice e)) (hi : (Try.prog.info? e).map (fun i => (i.zero, i.size, i.bytes)) = some (some z, size, bytes))
    (hzs : z.cells.size = size) (hsz : 0 < size) (hby : bytes ≤ 16) (ad : Option Addr) (n cap : Nat) (xs : List Value) (hs : a.eval s = .slice ad n cap) (hown : w.ownsRow 0 e size (.slice ad n cap) n xs)
    (g c : Nat) (news : List Value) (hx : a.eval x = .slice (some ⟨g, 0, none⟩) 1 c) (hg : CBox w g e news) (hl : news.length = size) (h1 : ∀ u ∈ news, u.oneCell' = true) (hn : n < 2199023255552)
    (h : ∀ ad' cap' w', w'.ownsRow 0 e size (.slice ad' (n + 1) cap') (n + 1) (xs ++ news) → But (Own ad) w w' → Fresh w ad ad' → wpList Try.prog ops Q rest (a.put o.dst (.slice ad' (n + 1) cap')) w') : wpList Try.prog ops Q (o :: rest) a w :=
  wpList_plain hgd fun _ hK => wp_app s x t e ho z size bytes ht hi hzs hsz hby ad n cap xs hs hown g c news hx hg hl h1 hn fun ad' cap' w' h2 h3 h4 => hK _ _ (h ad' cap' w' h2 h3 h4)
theorem info_row : (Try.prog.info? 112).map (fun i => (i.zero, i.size, i.bytes)) = some (some (.agg #[.int .i64 0, .int .i64 0]), 2, 16) := by kernel_rfl
theorem info_int : (Try.prog.info? 3).map (fun i => (i.zero, i.size, i.bytes)) = some (some (.int .i64 0), 1, 8) := by kernel_rfl
theorem info_fun : (Try.prog.info? 1).map (fun i => (i.zero, i.size, i.bytes)) = some (some .nilFunc, 1, 8) := by kernel_rfl
theorem und_rows : Try.prog.underlying 107 = some (.slice 112) := by kernel_rfl
theorem und_ints : Try.prog.underlying 65 = some (.slice 3) := by kernel_rfl
theorem und_funs : Try.prog.underlying 89 = some (.slice 1) := by kernel_rfl
/-- a change of rows in the midst of a statement: between the append and the store -/
theorem Tab0.alloc_but {W : World} (o : Obj) : But (fun _ => False) W (W.alloc o) := (But.refl _ _).alloc o
end Go.Proofs.Ytohfkgfjcnldaaa
