/- OpAll: what the walk wants: the list of the document's rows, places in it. -/
import Derived.Test.YtbhldmfnhlifpaaDoorOnz
import Derived.Test.YtbhldmfnhlifpaaDoorRgn
import Derived.RangeFuncBox
import Derived.RangeFuncNested
namespace Go.Proofs.YtbhldmfnhlifpaaDoor
open Go.RowKit Go.Shelf
def opsN : Nat := (opsUpto 256).length
theorem opsN_le : opsN ≤ 256 := opsUpto_len 256
theorem opsN_pos : 0 < opsN := by decide +kernel
/-- the list of the document's rows, in block g -/
def WantAt (g : Nat) (W : World) : Prop := ∀ (i : Nat) (x : OpC), (opsUpto 256)[i]? = some x → ∀ j v, (row7 x)[j]? = some v → W.cell? ⟨g, i * 7 + j, none⟩ = some v
theorem row7_len (x : OpC) : (row7 x).length = 7 := rfl
theorem rows7_at (l : List OpC) : ∀ (i : Nat) (x : OpC), l[i]? = some x → ∀ j, j < 7 → (rows7 l)[i * 7 + j]? = (row7 x)[j]? := by
  induction l with
  | nil => intro i x h; simp at h
  | cons y r ih =>
    intro i x h j hj
    have e : rows7 (y :: r) = row7 y ++ rows7 r := by simp [rows7]
    rw [e]
    cases i with
    | zero =>
      obtain rfl : y = x := by simpa using h
      rw [Nat.zero_mul, Nat.zero_add, List.getElem?_append_left (by rw [row7_len]; exact hj)]
    | succ i =>
      rw [List.getElem?_append_right (by rw [row7_len]; omega), row7_len, show (i + 1) * 7 + j - 7 = i * 7 + j by omega]
      exact ih i x (by simpa using h) j hj
theorem want_of {w W : World} {v : Value} (h : AllUp w 256 v W) : ∃ g c, v = .slice (some ⟨g, 0, none⟩) opsN c ∧ WantAt g W ∧ w.heap.size ≤ g ∧ g < W.heap.size := by
  obtain ⟨_, ⟨h0, e⟩ | ⟨g, c, cur, rfl, _⟩⟩ := id h.1
  · have := opsN_pos; unfold opsN at this; omega
  · refine ⟨g, c, rfl, fun i x hi j v hj => ?_, (h.1.lt g rfl).1, (h.1.lt g rfl).2⟩
    have hj7 : j < 7 := by have := (List.getElem?_eq_some_iff.1 hj).1; rw [row7_len] at this; exact this
    have hil : i < (opsUpto 256).length := (List.getElem?_eq_some_iff.1 hi).1
    rw [h.1.cellAt (i * 7 + j) (by have := h.1.1; omega), rows7_at _ i x hi j hj7, hj]
theorem WantAt.kept {g : Nat} {W W' : World} {row : Option Nat} (h : WantAt g W) (hg : W.grownBy W' row) (hne : some g ≠ row) : WantAt g W' := fun i x hi j v hj => hg.cell (a := ⟨g, i * 7 + j, none⟩) (h i x hi j v hj) hne
theorem qId (c c' : Int) (hc : c ≠ c') (W : World) : Sem.run Tryd.prog (Op.equalIn 9999 3 (.int .i64 c) (.int .i64 c')) W = .ok false W := by
  rw [show (9999 : Nat) = 9998 + 1 from rfl, Op.equalIn]
  simp [Sem.run_bind, run_underlying Tryd.underlying3, Result.andThen_ok, hc]
set_option maxRecDepth 100000 in
theorem eq7_diff (c c' : Int) (hc : c ≠ c') (s s' : ByteArray) (i j k g i' j' k' g' : Int) (e e' : Bool) (W : World) : Sem.run Tryd.prog (Op.equalIn 10000 55 (.agg #[.int .i64 c, .string s, .int .i64 i, .int .i64 j, .int .i64 k, .int .i64 g, .bool e]) (.agg #[.int .i64 c', .string s', .int .i64 i', .int .i64 j', .int .i64 k', .int .i64 g', .bool e'])) W = .ok false W := by
  rw [show (10000 : Nat) = 9998 + 1 + 1 from rfl, Op.equalIn]
  simp only [Sem.run_bind, run_underlying Tryd.underlying55, Result.andThen_ok]
  simp [qId c c' hc, pt0, pt1, pt2, pt3, pt4, pt5, pt6]
theorem pre_next {pre : List OpC} {x : OpC} (h : pre <+: opsUpto 256) (hx : (opsUpto 256)[pre.length]? = some x) : (pre ++ [x]) <+: opsUpto 256 := by
  obtain ⟨r, e⟩ := h
  rw [← e, List.getElem?_append_right (Nat.le_refl _), Nat.sub_self] at hx
  cases r with
  | nil => simp at hx
  | cons y r =>
    obtain rfl : y = x := by simpa using hx
    exact ⟨r, by rw [← e]; simp⟩
theorem pre_same {pre : List OpC} {x : OpC} (h : (pre ++ [x]) <+: opsUpto 256) : (opsUpto 256)[pre.length]? = some x := by
  obtain ⟨r, e⟩ := h
  rw [← e]; simp
/-- OpAll's boxes: first, second, the result, the list, the iterator, n, ok -/
structure BX (w : World) (q : Nat → Nat) (g c N : Nat) (fi se n : Int) (ok : Bool) (W : World) : Prop where
  bf : Boxed W (q 0) 3 (.int .i64 fi)
  bs : Boxed W (q 1) 3 (.int .i64 se)
  br : Boxed W (q 2) 4 (.bool false)
  bw : Boxed W (q 3) 98 (.slice (some ⟨g, 0, none⟩) N c)
  bi : Boxed W (q 4) 101 (.func (.func 102) #[] #[])
  bn : Boxed W (q 5) 3 (.int .i64 n)
  bo : Boxed W (q 6) 4 (.bool ok)
  wa : WantAt g W
  be : Below w.heap.size w W
def Apart (w : World) (q : Nat → Nat) (g : Nat) : Prop := w.heap.size ≤ q 0 ∧ q 0 < q 1 ∧ q 1 < q 2 ∧ q 2 < g ∧ g < q 3 ∧ q 3 < q 4 ∧ q 4 < q 5 ∧ q 5 < q 6
section
variable {w : World} {q : Nat → Nat} {g c N : Nat} {fi se n : Int} {ok : Bool} {W W' : World}
theorem BX.grown (h : BX w q g c N fi se n ok W) {row : Option Nat} (hg : W.grownBy W' row) (h1 : ∀ r, row = some r → w.heap.size ≤ r) (hq : ∀ j, j < 7 → some (q j) ≠ row) (hgg : some g ≠ row) : BX w q g c N fi se n ok W' :=
  ⟨h.bf.kept hg (hq 0 (by omega)), h.bs.kept hg (hq 1 (by omega)), h.br.kept hg (hq 2 (by omega)), h.bw.kept hg (hq 3 (by omega)), h.bi.kept hg (hq 4 (by omega)), h.bn.kept hg (hq 5 (by omega)), h.bo.kept hg (hq 6 (by omega)), h.wa.kept hg hgg, Below.grown h.be hg h.be.size h1⟩
theorem BX.past (h : BX w q g c N fi se n ok W) (hB : Below W.heap.size W W') : BX w q g c N fi se n ok W' :=
  h.grown (grown_of_below hB) (fun r e => by cases e) (fun j _ => by simp) (by simp)
theorem BX.other (h : BX w q g c N fi se n ok W) (ha : Apart w q g) {b : Nat} (hb : q 6 < b) (v : Value) : BX w q g c N fi se n ok (W.setCell ⟨b, 0, none⟩ v) := by
  unfold Apart at ha
  refine h.grown (grownBy_setCell' W b v) (fun r e => by cases e; omega) (fun j hj e => ?_) (fun e => by cases e; omega)
  have e2 : q j = b := by cases e; rfl
  have : j = 0 ∨ j = 1 ∨ j = 2 ∨ j = 3 ∨ j = 4 ∨ j = 5 ∨ j = 6 := by omega
  rcases this with rfl | rfl | rfl | rfl | rfl | rfl | rfl <;> omega
theorem WantAt.set (h : WantAt g W) {b : Nat} (hb : g ≠ b) (v : Value) : WantAt g (W.setCell ⟨b, 0, none⟩ v) := h.kept (grownBy_setCell' W b v) (fun e => hb (by cases e; rfl))
theorem BX.setN (h : BX w q g c N fi se n ok W) (ha : Apart w q g) (m : Int) : BX w q g c N fi se m ok (W.setCell ⟨q 5, 0, none⟩ (.int .i64 m)) := by
  unfold Apart at ha
  exact ⟨h.bf.other (by omega) _, h.bs.other (by omega) _, h.br.other (by omega) _, h.bw.other (by omega) _, h.bi.other (by omega) _, h.bn.set _, h.bo.other (by omega) _, h.wa.set (by omega) _, h.be.setCell (p := ⟨q 5, 0, none⟩) (show w.heap.size ≤ q 5 by omega) _⟩
theorem BX.setO (h : BX w q g c N fi se n ok W) (ha : Apart w q g) (m : Bool) : BX w q g c N fi se n m (W.setCell ⟨q 6, 0, none⟩ (.bool m)) := by
  unfold Apart at ha
  exact ⟨h.bf.other (by omega) _, h.bs.other (by omega) _, h.br.other (by omega) _, h.bw.other (by omega) _, h.bi.other (by omega) _, h.bn.other (by omega) _, h.bo.set _, h.wa.set (by omega) _, h.be.setCell (p := ⟨q 6, 0, none⟩) (show w.heap.size ≤ q 6 by omega) _⟩
theorem WantAt.own {β : Type} : Own (fun (_ : β) W => WantAt g W) := fun _ _ _ _ hs hg hr i x hi j v hj => cell_kept (hs i x hi j v hj) hg hr
theorem BX.own {β : Type} {B : Nat} (hB : w.heap.size ≤ B) (nf : β → Int) (kf : β → Bool) : OwnFrom B (fun s W => BX w q g c N fi se (nf s) (kf s) W) := fun s X Y row hs hg hr => by
  have hr' : ∀ r, row = some r → ∃ o : Obj, X.heap[r]? = some o ∧ o.isCells = false := fun r e => (hr r e).2
  exact ⟨boxed_own _ _ (fun _ : β => _) s X Y row hs.bf hg hr', boxed_own _ _ (fun _ : β => _) s X Y row hs.bs hg hr', boxed_own _ _ (fun _ : β => _) s X Y row hs.br hg hr', boxed_own _ _ (fun _ : β => _) s X Y row hs.bw hg hr', boxed_own _ _ (fun _ : β => _) s X Y row hs.bi hg hr', boxed_own _ _ (fun _ : β => _) s X Y row hs.bn hg hr', boxed_own _ _ (fun _ : β => _) s X Y row hs.bo hg hr', WantAt.own s X Y row hs.wa hg hr', Below.grown hs.be hg hs.be.size (fun r e => Nat.le_trans hB (hr r e).1)⟩
theorem WantAt.row (h : WantAt g W) {i : Nat} {x : OpC} (hi : (opsUpto 256)[i]? = some x) : W.cell? ⟨g, i * 7, none⟩ = some (.int .i64 (x.1 : Int)) ∧ W.cell? ⟨g, i * 7 + 1, none⟩ = some (.string (nameT x.1)) ∧ W.cell? ⟨g, i * 7 + 2, none⟩ = some (.int .i64 (immT x.1)) ∧ W.cell? ⟨g, i * 7 + 3, none⟩ = some (.int .i64 (inT x.1)) ∧ W.cell? ⟨g, i * 7 + 4, none⟩ = some (.int .i64 (outT x.1)) ∧ W.cell? ⟨g, i * 7 + 5, none⟩ = some (.int .i64 (gasT x.1)) ∧ W.cell? ⟨g, i * 7 + 6, none⟩ = some (.bool (endsT x.1)) :=
  ⟨h i x hi 0 _ rfl, h i x hi 1 _ rfl, h i x hi 2 _ rfl, h i x hi 3 _ rfl, h i x hi 4 _ rfl, h i x hi 5 _ rfl, h i x hi 6 _ rfl⟩
end
theorem pre_le {pre : List OpC} (h : pre <+: opsUpto 256) : pre.length ≤ opsN := h.length_le
theorem pre_all {pre : List OpC} (h : pre = opsUpto 256) : pre.length = opsN := by rw [h]; rfl
end Go.Proofs.YtbhldmfnhlifpaaDoor
