/- Slices of bytes cut at a place: what they read as, and what the model makes of b[:q], b[q:]. -/
import Derived.Test.YteggikojfkmbkaaDoorKy
import Derived.Test.YteggikojfkmbkaaDoorKg
namespace Go.Proofs.YteggikojfkmbkaaDoor
open Go.RowKit
/-- the value is a slice that reads as these bytes -/
def Seg (w : World) (v : Value) (l : List Nat) : Prop := ∃ ad cap, v = .slice ad l.length cap ∧ l.length ≤ cap ∧ cap ≤ maxLen ∧ (l ≠ [] → ∃ sb so, ad = some ⟨sb, so, none⟩ ∧ BytesAt w ⟨sb, so, none⟩ l) ∧ (ad = none → cap = 0)
theorem Seg.below {w w' : World} {v : Value} {l : List Nat} (h : Seg w v l) (k : Below w.heap.size w w') : Seg w' v l := by
  obtain ⟨ad, cap, h1, h2, h3, h4, h5⟩ := h
  refine ⟨ad, cap, h1, h2, h3, fun hne => ?_, h5⟩
  obtain ⟨sb, so, e, hb⟩ := h4 hne
  exact ⟨sb, so, e, hb.below k⟩
theorem Seg.piece {w : World} {v : Value} {l : List Nat} (h : Seg w v l) (hl : ∀ i, l.getD i 0 < 256) (hn : l.length ≤ 16777216) : PieceAt w v l := by
  obtain ⟨ad, cap, h1, _, _, h4, _⟩ := h
  exact ⟨fun i _ => hl i, by omega, ad, cap, h1, h4⟩
/-- where b[q:] begins -/
def dropA (ad : Option Addr) (cap q : Nat) : Option Addr := if cap = q then ad else ad.map (·.add q)
theorem getD_take (l : List Nat) (q i : Nat) (h : i < q) : (l.take q).getD i 0 = l.getD i 0 := by simp [List.getD_eq_getElem?_getD, h]
theorem Seg.take {w : World} {ad : Option Addr} {cap : Nat} {l : List Nat} (h : Seg w (.slice ad l.length cap) l) (q : Nat) (hq : q ≤ l.length) : Seg w (.slice ad q cap) (l.take q) := by
  obtain ⟨ad', cap', h1, h2, h3, h4, h5⟩ := h
  injection h1 with e1 _ e2
  subst e1 e2
  have hl : (l.take q).length = q := by rw [List.length_take]; omega
  refine ⟨ad, cap, by rw [hl], by omega, h3, fun hne => ?_, h5⟩
  obtain ⟨sb, so, e, hb⟩ := h4 (by intro e; subst e; simp at hne)
  refine ⟨sb, so, e, fun i hi => ?_⟩
  rw [hl] at hi
  rw [getD_take l q i hi]
  exact hb i (by omega)
theorem Seg.drop {w : World} {ad : Option Addr} {cap : Nat} {l : List Nat} (h : Seg w (.slice ad l.length cap) l) (q : Nat) (hq : q ≤ l.length) : Seg w (.slice (dropA ad cap q) (l.length - q) (cap - q)) (l.drop q) := by
  obtain ⟨ad', cap', h1, h2, h3, h4, h5⟩ := h
  injection h1 with e1 _ e2
  subst e1 e2
  have hl : (l.drop q).length = l.length - q := List.length_drop
  refine ⟨dropA ad cap q, cap - q, by rw [hl], by omega, by omega, fun hne => ?_, fun he => ?_⟩
  · have hpos : 0 < l.length - q := by rw [← hl]; exact List.length_pos_iff.2 hne
    obtain ⟨sb, so, e, hb⟩ := h4 (by intro e; subst e; simp at hne)
    refine ⟨sb, so + q, ?_, fun i hi => ?_⟩
    · rw [dropA, if_neg (by omega), e]; simp [Addr.add_mid]
    · rw [hl] at hi
      show w.cell? ⟨sb, so + q + i, none⟩ = _
      rw [getD_drop, Nat.add_assoc]
      exact hb (q + i) (by omega)
  · unfold dropA at he
    split at he
    · omega
    · have : ad = none := by cases ad <;> simp_all
      have := h5 this
      omega
theorem slice_to (ad : Option Addr) (n cap q : Nat) (hq : q ≤ cap) (W : World) : Sem.run Tryd.prog (Instr.slice 29 (.slice ad n cap) none (some (.int .i64 (q : Int))) none) W = .ok (.slice ad q cap) W := by
  have e : (if cap = 0 then ad else ad.map (·.add (0 * 1))) = ad := by
    split
    · rfl
    · cases ad with
      | none => rfl
      | some a => obtain ⟨b, o, s⟩ := a; simp [Addr.add]
  simp [Instr.slice, Instr.sliceBounds, run_underlying Tryd.underlying29, run_sliceBound W .i64 (q : Int) cap _ (by omega) (by omega)]
  simpa using e
theorem slice_from (ad : Option Addr) (n cap q : Nat) (hq : q ≤ n) (W : World) : Sem.run Tryd.prog (Instr.slice 29 (.slice ad n cap) (some (.int .i64 (q : Int))) none none) W = .ok (.slice (dropA ad cap q) (n - q) (cap - q)) W := by
  simp [Instr.slice, Instr.sliceBounds, run_underlying Tryd.underlying29, run_sliceBound W .i64 (q : Int) n _ (by omega) (by omega), dropA]
end Go.Proofs.YteggikojfkmbkaaDoor
