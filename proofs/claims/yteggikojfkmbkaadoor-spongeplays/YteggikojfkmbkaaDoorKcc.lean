/- Write of whatever slice of bytes; Sum of whatever list of slices; a second sponge stays. -/
import Derived.Test.YteggikojfkmbkaaDoorKcb
import Derived.Test.YteggikojfkmbkaaDoorKi
namespace Go.Proofs.YteggikojfkmbkaaDoor
open Go.RowKit
theorem write_seg (w : World) (b : Nat) (s : KSt × Nat) (v : Value) (l : List Nat) (hT : Tabs w) (hb : 2 < b) (h : Spo w b s.1 s.2) (hp : s.2 < 136) (hv : Seg w v l) (hl : ∀ i, l.getD i 0 < 256) (hn : l.length ≤ 16777216)
    (hne : ∀ ad n cap, v = .slice (some ad) n cap → ad.block ≠ b) :
    Calls Tryd.prog 23 #[.pointer (some ⟨b, 0, none⟩), v] w fun e w' => e = .returned (.tuple #[]) ∧ Spo w' b (absL s l).1 (absL s l).2 ∧ Only b w w' := by
  obtain ⟨ad, cap, rfl, _, _, h4, _⟩ := hv
  by_cases e : l = []
  · subst e
    refine (write_nil w b ad cap).mono ?_
    rintro e w' ⟨rfl, rfl⟩
    exact ⟨rfl, h, Only.refl _ _⟩
  · obtain ⟨sb, so, rfl, hby⟩ := h4 e
    exact write_is w b sb so cap s l hT hb h hp hby (fun i _ => hl i) (hne _ _ _ rfl) (by omega)
/-- a sponge in another block stays -/
theorem Spo.only {w w' : World} {b c : Nat} {f : KSt} {p : Nat} (h : Spo w c f p) (k : Only b w w') (hc : c ≠ b) : Spo w' c f p :=
  ⟨fun i hi => ⟨(k.cell (p := ⟨c, i, none⟩) h.lt hc).trans (h.1 i hi).1, (k.frozen (p := ⟨c, i, none⟩) h.lt hc).trans (h.1 i hi).2⟩, (k.cell (p := ⟨c, 25, none⟩) h.lt hc).trans h.2.1, (k.frozen (p := ⟨c, 25, none⟩) h.lt hc).trans h.2.2⟩
theorem RowB.only {w w' : World} {b c n : Nat} {v : Nat → Int} (h : RowB w c n v) (hn : 0 < n) (k : Only b w w') (hc : c ≠ b) : RowB w' c n v := fun i hi =>
  ⟨(k.cell (p := ⟨c, i, none⟩) (h.lt hn) hc).trans (h i hi).1, (k.frozen (p := ⟨c, i, none⟩) (h.lt hn) hc).trans (h i hi).2⟩
theorem BytesAt.only {w w' : World} {b : Nat} {a : Addr} {l : List Nat} (h : BytesAt w a l) (k : Only b w w') (hc : a.block ≠ b) : BytesAt w' a l := fun i hi =>
  (k.cell (p := ⟨a.block, a.off + i, none⟩) (World.block_lt_of_cell? w _ (h i hi)) hc).trans (h i hi)
/-- in whatever pieces: the bytes one behind the other -/
theorem absL_flatten (s : KSt × Nat) (Ls : List (List Nat)) : absL s Ls.flatten = Ls.foldl absL s := by
  induction Ls generalizing s with
  | nil => rfl
  | cons x r ih => rw [List.flatten_cons, absL, List.foldl_append, List.foldl_cons]; exact ih _
theorem flat_getD (Ls : List (List Nat)) (k : Nat) (hk : k = Ls.length) : flat (fun i => Ls.getD i []) k = Ls.flatten := by
  subst hk
  rw [flat]
  congr 1
  apply List.ext_getElem?
  intro i
  by_cases h : i < Ls.length
  · simp [h, List.getD_eq_getElem?_getD]
  · simp [h]
/-- a list of the call's own, opened -/
theorem owns_slices {w : World} {B T : Nat} {v : Value} {pvs : List Value} (h : w.ownsRow B 29 1 v T pvs) (h0 : 0 < T) : ∃ g c, v = .slice (some ⟨g, 0, none⟩) T c ∧ B ≤ g ∧ g < w.heap.size ∧ ∀ i, i < T → w.cell? ⟨g, 0 + i, none⟩ = some (pvs.getD i .nilFunc) := by
  have h' := h
  obtain ⟨hlen, ⟨_, e⟩ | ⟨g, c, cur, rfl, hb, hh, _⟩⟩ := h'
  · omega
  · refine ⟨g, c, rfl, hb, (h.lt g rfl).2, fun i hi => ?_⟩
    rw [Nat.zero_add, h.cellAt i (by omega), List.getD_eq_getElem?_getD, List.getElem?_eq_getElem (show i < pvs.length by omega)]; rfl
theorem sumPieces (w : World) (hT : Tabs w) (B m : Nat) (v : Value) (Ls : List (List Nat)) (pvs : List Value) (hown : w.ownsRow B 29 1 v (m + 1) pvs) (hL : Ls.length = m + 1) (hS : ∀ i, i < m + 1 → Seg w (pvs.getD i .nilFunc) (Ls.getD i []))
    (hb : ∀ i j, (Ls.getD i []).getD j 0 < 256) (hn : ∀ i, (Ls.getD i []).length ≤ 16777216) (hm : m ≤ 4096) :
    Calls Tryd.prog 17 #[v] w fun e w' => e = .returned (.agg (rowB 32 (sumF Ls.flatten)).toArray) ∧ Below w.heap.size w w' := by
  obtain ⟨g, c, rfl, _, _, hc⟩ := owns_slices hown (by omega)
  have := sumAll_is w (some ⟨g, 0, none⟩) (m + 1) c (fun i => pvs.getD i .nilFunc) (fun i => Ls.getD i []) hT (by omega) (fun _ => ⟨g, 0, rfl, hc⟩) (fun i hi => (hS i hi).piece (hb i) (hn i))
  rw [flat_getD Ls (m + 1) hL.symm] at this
  exact this
end Go.Proofs.YteggikojfkmbkaaDoor
