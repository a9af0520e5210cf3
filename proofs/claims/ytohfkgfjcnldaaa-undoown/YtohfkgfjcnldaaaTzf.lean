/- A table of package undo and one of the document's: their blocks are apart. -/
import Derived.Test.YtohfkgfjcnldaaaTze
namespace Go.Proofs.Ytohfkgfjcnldaaa
open Go.RowKit Go.Shelf
theorem box_box {W : World} {B B' : Nat} {t t' : TypeId} {l l' : List Value} (h : CBox W B t l) (h' : CBox W B' t' l') (ht : t ≠ t') : B ≠ B' := by
  rintro rfl
  have e : some (Obj.cells l.toArray t (0, 0)) = some (Obj.cells l'.toArray t' (0, 0)) := (show W.heap[B]? = _ from h).symm.trans h'
  injection e with e
  injection e with _ e2
  exact ht e2
theorem RTab.noBox {W : World} {c : Nat} {lv : Value} {oa : Option Addr} {oc : Nat} {RL : List (Int × Int)} {OV : List Value} {OL : List (List (Int × Int))} (r : RTab W c lv oa oc RL OV OL) {B : Nat} {t : TypeId} {l : List Value} (h : CBox W B t l) (h1 : t ≠ 86) (h2 : 56 ≠ t) : ¬ RS c oa B := by
  rintro (e | e)
  · exact box_box h r.box h1 e
  · exact row_box r.row h h2 e rfl
theorem RTab.noRow {W : World} {c : Nat} {lv : Value} {oa : Option Addr} {oc : Nat} {RL : List (Int × Int)} {OV : List Value} {OL : List (List (Int × Int))} (r : RTab W c lv oa oc RL OV OL) {e : TypeId} {size n cap k : Nat} {ad : Option Addr} {xs : List Value} (h : W.ownsRow 0 e size (.slice ad n cap) k xs) (h1 : e ≠ 86) (h2 : e ≠ 56) {j : Nat} (hj : Own ad j) : ¬ RS c oa j := by
  rintro (e | e)
  · exact row_box h r.box h1 hj e
  · exact rows_apart h r.row h2 hj e
theorem TabU.noR {W : World} {b : Nat} {S : Nat → Prop} {L : List (Int × Int)} {V : List Un} {M : List Nat} (h : TabU W b S L V M) {c : Nat} {lv : Value} {oa : Option Addr} {oc : Nat} {RL : List (Int × Int)} {OV : List Value} {OL : List (List (Int × Int))} (r : RTab W c lv oa oc RL OV OL) : (∀ j, S j → ¬ RS c oa j) ∧ ∀ j, UB V j → ¬ RS c oa j := by
  obtain ⟨pm, ra, rc, ba, bc, ma, mc, m, h1, rfl, h2⟩ := h
  refine ⟨?_, ?_⟩
  · rintro j (rfl | rfl | hj | hj | hj)
    · exact r.noBox h1.box (by decide) (by decide)
    · rintro (e | e)
      · exact h1.pl.not_cell (show W.heap[c]? = _ from r.box) e.symm
      · exact row_map r.row h1.pl e rfl
    · exact r.noRow h1.rows (by decide) (by decide) hj
    · exact r.noRow h1.backs (by decide) (by decide) hj
    · exact r.noRow h1.marks (by decide) (by decide) hj
  · rintro j ⟨u, hu, e⟩
    have hk := h2 u hu
    rcases e with rfl | rfl | ⟨e0, rfl⟩
    · exact r.noBox hk.cx (by decide) (by decide)
    · exact r.noBox hk.cy (by decide) (by decide)
    · exact r.noBox (hk.cz e0) (by decide) (by decide)
theorem TabU.noPr {W : World} {b : Nat} {S : Nat → Prop} {L : List (Int × Int)} {V : List Un} {M : List Nat} (h : TabU W b S L V M) (v : Value) (l : List (Int × Int)) (hv : PrL W v l) (j : Nat) (hj : v.ownBlock = some j) : ¬ S j := by
  obtain ⟨pm, ra, rc, ba, bc, ma, mc, m, h1, rfl, h2⟩ := h
  obtain ⟨ad, cap, rfl⟩ := hv.form
  have ho : Own ad j := by
    cases ad with
    | none => cases hj
    | some a => injection hj with hj; exact ⟨a, rfl, hj.symm⟩
  rintro (e | e | e | e | e)
  · exact row_box hv h1.box (by decide) ho e
  · exact row_map hv h1.pl ho e
  · exact rows_apart hv h1.rows (by decide) ho e
  · exact rows_apart hv h1.backs (by decide) ho e
  · exact rows_apart hv h1.marks (by decide) ho e
/-- what is done to undo's table leaves the document's as it was -/
theorem RTab.keeps {W W' : World} {b : Nat} {S : Nat → Prop} {L : List (Int × Int)} {V : List Un} {M : List Nat} (h : TabU W b S L V M) {c : Nat} {lv : Value} {oa : Option Addr} {oc : Nat} {RL : List (Int × Int)} {OV : List Value} {OL : List (List (Int × Int))} (r : RTab W c lv oa oc RL OV OL) (hB : But S W W') : RTab W' c lv oa oc RL OV OL :=
  r.but hB (fun j hj e => (h.noR r).1 j e hj) (fun v l hv j hj => h.noPr v l hv j hj)
/-- what is done to the document's table leaves undo's as it was -/
theorem TabU.keeps {W W' : World} {b : Nat} {S : Nat → Prop} {L : List (Int × Int)} {V : List Un} {M : List Nat} (h : TabU W b S L V M) {c : Nat} {lv : Value} {oa : Option Addr} {oc : Nat} {RL : List (Int × Int)} {OV : List Value} {OL : List (List (Int × Int))} (r : RTab W c lv oa oc RL OV OL) (hB : But (RS c oa) W W') : TabU W' b S L V M :=
  h.but hB (h.noR r).1 (h.noR r).2
end Go.Proofs.Ytohfkgfjcnldaaa
