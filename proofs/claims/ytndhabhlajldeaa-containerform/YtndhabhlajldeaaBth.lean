/- What is refused: why and where; whole and open. -/
import Derived.Test.YtndhabhlajldeaaBtb
namespace Go.Proofs.Ytndhabhlajldeaa
/-- an error that tells something, at a place within the bytes -/
def Gd {α : Type} (b : List Nat) (r : Except Er α) : Prop := ∀ c a, r = .error (c, a) → 0 < c ∧ a ≤ b.length
theorem gd_ok {α : Type} (b : List Nat) (x : α) : Gd b (.ok x : Except Er α) := fun _ _ h => by cases h
theorem gd_bind {α β : Type} {b : List Nat} {x : Except Er α} {f : α → Except Er β} (h : Gd b x) (k : ∀ v, x = .ok v → Gd b (f v)) : Gd b (x.bind f) := by
  cases x with
  | error er =>
    intro c a e
    exact h c a (by
      have : (Except.error er : Except Er β) = .error (c, a) := e
      cases this
      rfl)
  | ok v => exact k v rfl
theorem gd_fld {b : List Nat} {k w why : Nat} {p : Nat → Bool} (hw : 0 < why ∨ ∀ n, p n = true) : Gd b (fld b k w why p) := by
  intro c a e
  unfold fld at e
  split at e
  · cases e
    exact ⟨by omega, by omega⟩
  · split at e
    · cases e
    · rename_i h1 h2
      cases e
      refine ⟨?_, by omega⟩
      rcases hw with h | h
      · exact h
      · exact absurd (h _) h2
theorem gd_lens {b : List Nat} {w : Nat} : ∀ (m k : Nat), Gd b (lens b w k m)
  | 0, k => gd_ok b _
  | m + 1, k => by
    rw [lens]
    exact gd_bind (gd_fld (Or.inl (by omega))) fun n _ => gd_bind (gd_lens m _) fun r _ => gd_ok b _
theorem gd_tys {b : List Nat} : ∀ (m k i : Nat), Gd b (tys b k i m)
  | 0, k, i => gd_ok b _
  | m + 1, k, i => by
    rw [tys]
    refine gd_bind ?_ fun t _ => gd_bind (gd_tys m _ _) fun r _ => gd_ok b _
    unfold tyAt
    exact gd_bind (gd_fld (Or.inl (by omega))) fun x _ => gd_bind (gd_fld (Or.inl (by omega))) fun y _ => gd_bind (gd_fld (Or.inl (by omega))) fun z _ => gd_ok b _
theorem gd_end {b : List Nat} (k : Nat) (cs ss : List Nat) : Gd b (hdEnd b k cs ss) := by
  unfold hdEnd
  exact gd_bind (gd_fld (Or.inr fun _ => rfl)) fun d _ => gd_bind (gd_fld (Or.inl (by omega))) fun _ _ => gd_ok b _
theorem gd_hdr (b : List Nat) : Gd b (hdr b) := by
  unfold hdr
  refine gd_bind (gd_fld (Or.inl (by omega))) fun _ _ => gd_bind (gd_fld (Or.inl (by omega))) fun _ _ => gd_bind (gd_fld (Or.inl (by omega))) fun _ _ => gd_bind (gd_fld (Or.inl (by omega))) fun _ _ => gd_bind (gd_fld (Or.inl (by omega))) fun t _ => gd_bind (gd_fld (Or.inl (by omega))) fun _ _ => gd_bind (gd_fld (Or.inl (by omega))) fun m _ => gd_bind (gd_lens _ _) fun cs _ => ?_
  unfold hdKind
  refine gd_bind (gd_fld (Or.inl (by omega))) fun q _ => ?_
  split
  · unfold hdSubs
    exact gd_bind (gd_fld (Or.inl (by omega))) fun s _ => gd_bind (gd_lens _ _) fun ss _ => gd_bind (gd_fld (Or.inl (by omega))) fun _ _ => gd_end _ _ _
  · exact gd_end _ _ _
theorem gd_msr {b : List Nat} {k n d : Nat} {opn : Bool} : Gd b (msr b k n d opn) := by
  by_cases q1 : b.length < (if opn then k + n else k + n + d)
  · rw [msr_cut q1]
    intro c a e
    cases e
    exact ⟨by omega, Nat.le_refl _⟩
  · by_cases q2 : k + n + d < b.length
    · rw [msr_tail q1 q2]
      intro c a e
      cases e
      exact ⟨by omega, by omega⟩
    · rw [msr_ok q1 q2]
      exact gd_ok b _
theorem gd_prs (b : List Nat) (opn : Bool) : Gd b (prs b opn) := by
  rw [prs_is]
  refine gd_bind (gd_hdr b) fun h _ => gd_bind gd_msr fun _ _ => ?_
  unfold bdy
  exact gd_bind (gd_tys _ _ _) fun ts _ => gd_ok b _
/-- what is taken open, with less data than declared, is cut as a whole one -/
theorem prs_short {b : List Nat} {c : Con} (g : prs b true = .ok c) (hn : (c.d.length : Int) ≠ c.n) : prs b false = .error (50, b.length) := by
  unfold prs at g ⊢
  cases hh : hdr b with
  | error er => rw [hh] at g; cases g
  | ok h =>
    rw [hh] at g
    simp only [Except.bind, if_true, if_false, Bool.false_eq_true] at g ⊢
    split at g
    · cases g
    · split at g
      · cases g
      · rename_i q1 q2
        cases ht : tys b h.e 0 h.cs.length with
        | error er => rw [ht] at g; cases g
        | ok ts =>
          rw [ht] at g
          cases g
          simp at hn
          rw [if_pos (by omega)]
theorem prs_whole {b : List Nat} (hb : Byt b) {c : Con} (g : prs b true = .ok c) (hn : (c.d.length : Int) = c.n) : prs b false = .ok c := by
  obtain ⟨hm, hs, _⟩ := prs_ok hb g
  rw [← hs]
  exact prs_ser hm false fun _ => hn
theorem prs_opens {b : List Nat} (hb : Byt b) {c : Con} (g : prs b false = .ok c) : prs b true = .ok c := by
  obtain ⟨hm, hs, _⟩ := prs_ok hb g
  rw [← hs]
  exact prs_ser hm true fun e => by cases e
theorem prs_total {b : List Nat} (hb : Byt b) {opn : Bool} {c : Con} (g : prs b opn = .ok c) (hl : b.length ≤ 2097152) : Small c := by
  obtain ⟨hm, hs, _⟩ := prs_ok hb g
  have h1 := congrArg List.length hs
  unfold ser at h1
  simp only [List.length_append] at h1
  have h2 := hm.nt
  have h3 := hm.n2
  have h4 := hm.ns
  unfold Small
  omega
end Go.Proofs.Ytndhabhlajldeaa
