/- SpongeCuts: what holds between its steps. -/
import Derived.Test.YteggikojfkmbkaaDoorKcc
import Derived.Test.YteggikojfkmbkaaDoorKj
namespace Go.Proofs.YteggikojfkmbkaaDoor
open Go.RowKit
/-- Write of a slice that lay there long since -/
theorem write_old (w0 w : World) (hB : Below w0.heap.size w0 w) (b : Nat) (hb0 : w0.heap.size ≤ b) (s : KSt × Nat) (v : Value) (l : List Nat) (hT : Tabs w) (hb : 2 < b) (h : Spo w b s.1 s.2) (hp : s.2 < 136) (hv : Seg w0 v l) (hl : ∀ i, l.getD i 0 < 256) (hn : l.length ≤ 16777216) :
    Calls Tryd.prog 23 #[.pointer (some ⟨b, 0, none⟩), v] w fun e w' => e = .returned (.tuple #[]) ∧ Spo w' b (absL s l).1 (absL s l).2 ∧ Only b w w' := by
  obtain ⟨ad, cap, rfl, _, _, h4, _⟩ := hv
  by_cases e : l = []
  · subst e
    refine (write_nil w b ad cap).mono ?_
    rintro e w' ⟨rfl, rfl⟩
    exact ⟨rfl, h, Only.refl _ _⟩
  · obtain ⟨sb, so, rfl, hby⟩ := h4 e
    have hlt : sb < w0.heap.size := World.block_lt_of_cell? w0 _ (hby 0 (List.length_pos_iff.2 e))
    exact write_is w b sb so cap s l hT hb h hp (hby.below hB) (fun i _ => hl i) (by omega) (by omega)
/-- the blocks of the call's own: two sponges, two hashes, the list -/
structure Apart (B bS bT bH bA g : Nat) : Prop where
  s : B ≤ bS
  t : B ≤ bT
  st : bS ≠ bT
  hs : bH ≠ bS
  ht : bH ≠ bT
  sA : bA ≠ bS
  tA : bA ≠ bT
  gs : g ≠ bS
  gt : g ≠ bT
structure Cx (w : World) (bS bT bH bA g n : Nat) (hh ha : Nat → Int) (pvs : List Value) (s t : KSt × Nat) (W : World) : Prop where
  bel : Below w.heap.size w W
  spS : Spo W bS s.1 s.2
  spT : Spo W bT t.1 t.2
  rH : RowB W bH 32 hh
  rA : RowB W bA 32 ha
  cl : ∀ i, i < n → W.cell? ⟨g, i, none⟩ = some (pvs.getD i .nilFunc)
theorem Cx.past {w W W' : World} {bS bT bH bA g n : Nat} {hh ha : Nat → Int} {pvs : List Value} {s t : KSt × Nat} (h : Cx w bS bT bH bA g n hh ha pvs s t W) (k : Below W.heap.size W W') : Cx w bS bT bH bA g n hh ha pvs s t W' :=
  ⟨h.bel.trans (k.mono h.bel.size), h.spS.below k h.spS.lt, h.spT.below k h.spT.lt, h.rH.below k (h.rH.lt (by omega)), h.rA.below k (h.rA.lt (by omega)), fun i hi => (k.cell (p := ⟨g, i, none⟩) (World.block_lt_of_cell? W _ (h.cl i hi))).trans (h.cl i hi)⟩
theorem Cx.onS {w W W' : World} {bS bT bH bA g n : Nat} {hh ha : Nat → Int} {pvs : List Value} {s t s' : KSt × Nat} (h : Cx w bS bT bH bA g n hh ha pvs s t W) (a : Apart w.heap.size bS bT bH bA g) (hs : Spo W' bS s'.1 s'.2) (k : Only bS W W') : Cx w bS bT bH bA g n hh ha pvs s' t W' :=
  ⟨h.bel.trans (k.below a.s h.bel.size), hs, h.spT.only k a.st.symm, h.rH.only (by omega) k a.hs, h.rA.only (by omega) k a.sA, fun i hi => (k.cell (p := ⟨g, i, none⟩) (World.block_lt_of_cell? W _ (h.cl i hi)) a.gs).trans (h.cl i hi)⟩
theorem Cx.onT {w W W' : World} {bS bT bH bA g n : Nat} {hh ha : Nat → Int} {pvs : List Value} {s t t' : KSt × Nat} (h : Cx w bS bT bH bA g n hh ha pvs s t W) (a : Apart w.heap.size bS bT bH bA g) (ht : Spo W' bT t'.1 t'.2) (k : Only bT W W') : Cx w bS bT bH bA g n hh ha pvs s t' W' :=
  ⟨h.bel.trans (k.below a.t h.bel.size), h.spS.only k a.st, ht, h.rH.only (by omega) k a.ht, h.rA.only (by omega) k a.tA, fun i hi => (k.cell (p := ⟨g, i, none⟩) (World.block_lt_of_cell? W _ (h.cl i hi)) a.gt).trans (h.cl i hi)⟩
/-- another hash is laid over the first -/
theorem Cx.put {w W : World} {bS bT bH bA g n : Nat} {hh ha : Nat → Int} {pvs : List Value} {s t : KSt × Nat} (h : Cx w bS bT bH bA g n hh ha pvs s t W) (a : Apart w.heap.size bS bT bH bA g) (hb : w.heap.size ≤ bH) (hne : bA ≠ bH) (hc : Nat → Int) : Cx w bS bT bH bA g 0 hc ha [] s t (W.setCells bH 0 (rowB 32 hc)) :=
  have k : Only bH W (W.setCells bH 0 (rowB 32 hc)) := (Only.refl bH W).sets _ _
  ⟨h.bel.trans (k.below hb h.bel.size), h.spS.only k a.hs.symm, h.spT.only k a.ht.symm, h.rH.of_range, h.rA.only (by omega) k hne, fun i hi => absurd hi (by omega)⟩
/-- a sponge that took k pieces -/
def accL (Ls : List (List Nat)) : Nat → KSt × Nat
  | 0 => (zeroK, 0)
  | k + 1 => absL (accL Ls k) (Ls.getD k [])
/-- a sponge that took the same bytes k times -/
def repL (o : List Nat) : Nat → KSt × Nat
  | 0 => (zeroK, 0)
  | k + 1 => absL (repL o k) o
theorem accL_lt (Ls : List (List Nat)) : ∀ k, (accL Ls k).2 < 136
  | 0 => by show (0 : Nat) < 136; omega
  | k + 1 => by rw [accL]; exact absL_lt _ (accL_lt Ls k)
theorem repL_lt (o : List Nat) : ∀ k, (repL o k).2 < 136
  | 0 => by show (0 : Nat) < 136; omega
  | k + 1 => by rw [repL]; exact absL_lt _ (repL_lt o k)
theorem accL_take (Ls : List (List Nat)) : ∀ k, k ≤ Ls.length → accL Ls k = absL (zeroK, 0) (Ls.take k).flatten
  | 0, _ => by simp [accL, absL]
  | k + 1, h => by
    rw [accL, accL_take Ls k (by omega), List.take_add_one, List.flatten_append, List.getElem?_eq_getElem (by omega), List.getD_eq_getElem?_getD, List.getElem?_eq_getElem (show k < Ls.length by omega)]
    simp [absL, List.foldl_append]
theorem accL_all (Ls : List (List Nat)) : accL Ls Ls.length = absL (zeroK, 0) Ls.flatten := by rw [accL_take Ls _ (Nat.le_refl _), List.take_length]
theorem accL_sum (Ls : List (List Nat)) (n : Nat) (hn : n = Ls.length) (l : List Nat) (hl : Ls.flatten = l) : hashF (endF (accL Ls n).1 (accL Ls n).2) = sumF l := by rw [hn, accL_all, hl]; rfl
theorem getD_mem {l : List Nat} (h : ∀ i, l.getD i 0 < 256) : ∀ x ∈ l, x < 256 := fun x hx => by
  obtain ⟨i, hi, rfl⟩ := List.mem_iff_getElem.1 hx
  have := h i
  rwa [List.getD_eq_getElem?_getD, List.getElem?_eq_getElem hi] at this
theorem getD_of_mem {l : List Nat} (h : ∀ x ∈ l, x < 256) (i : Nat) : l.getD i 0 < 256 := by
  rw [List.getD_eq_getElem?_getD]
  by_cases hi : i < l.length
  · rw [List.getElem?_eq_getElem hi]; exact h _ (List.getElem_mem hi)
  · rw [List.getElem?_eq_none (by omega)]; decide
theorem piece_of (Ls : List (List Nat)) (l : List Nat) (hf : Ls.flatten = l) (hl : ∀ i, l.getD i 0 < 256) (i : Nat) : (∀ j, (Ls.getD i []).getD j 0 < 256) ∧ (Ls.getD i []).length ≤ l.length := by
  by_cases hi : i < Ls.length
  · have e : Ls.getD i [] = Ls[i] := by rw [List.getD_eq_getElem?_getD, List.getElem?_eq_getElem hi]; rfl
    have hm : Ls[i] ∈ Ls := List.getElem_mem hi
    rw [e]
    refine ⟨getD_of_mem fun x hx => getD_mem hl x (hf ▸ List.mem_flatten.2 ⟨_, hm, hx⟩), ?_⟩
    rw [← hf]
    exact (List.sublist_flatten_of_mem hm).length_le
  · rw [List.getD_eq_getElem?_getD, List.getElem?_eq_none (by omega)]; simp
/-- Sum of one slice -/
theorem sumSeg (w W : World) (hB : Below w.heap.size w W) (hW : Tabs W) (ad : Option Addr) (cap n : Nat) (l : List Nat) (en : n = l.length) (hv : Seg w (.slice ad l.length cap) l) (hl : ∀ i, l.getD i 0 < 256) (hn : l.length ≤ 16777216) (pb : Nat) (h0 : W.cell? ⟨pb, 0, none⟩ = some (.slice ad n cap)) :
    Calls Tryd.prog 17 #[.slice (some ⟨pb, 0, none⟩) 1 1] W fun e w' => e = .returned (.agg (rowB 32 (sumF l)).toArray) ∧ Below W.heap.size W w' := by
  obtain ⟨ad', cap', e1, _, _, h4, _⟩ := hv.below hB
  injection e1 with e1 _ e2
  subst e1 e2 en
  exact sumArg W hW pb cap ad l hl hn h4 h0
/-- Sum of the list of pieces -/
theorem sumCells (w W : World) (hB : Below w.heap.size w W) (hW : Tabs W) (g c M : Nat) (Ls : List (List Nat)) (pvs : List Value) (l : List Nat) (hf : Ls.flatten = l) (hM : M = Ls.length) (hM2 : M ≤ 4097) (hl : ∀ i, l.getD i 0 < 256) (hn : l.length ≤ 16777216)
    (hS : ∀ i, i < M → Seg w (pvs.getD i .nilFunc) (Ls.getD i [])) (hc : ∀ i, i < M → W.cell? ⟨g, i, none⟩ = some (pvs.getD i .nilFunc)) :
    Calls Tryd.prog 17 #[.slice (some ⟨g, 0, none⟩) M c] W fun e w' => e = .returned (.agg (rowB 32 (sumF l)).toArray) ∧ Below W.heap.size W w' := by
  have := sumAll_is W (some ⟨g, 0, none⟩) M c (fun i => pvs.getD i .nilFunc) (fun i => Ls.getD i []) hW (by omega) (fun _ => ⟨g, 0, rfl, fun i hi => by rw [Nat.zero_add]; exact hc i hi⟩)
    (fun i hi => ((hS i hi).below hB).piece (piece_of Ls l hf hl i).1 (Nat.le_trans (piece_of Ls l hf hl i).2 hn))
  rw [flat_getD Ls M hM, hf] at this
  exact this
/-- 'cut', its list opened -/
theorem cut_open (w0 w : World) (v0 : Value) (l : List Nat) (hv : Seg w0 v0 l) (hn : l.length ≤ 16777216) (la : Option Addr) (lc m : Nat) (zs : List Int) (hm : m ≤ 4096)
    (hc : m ≠ 0 → ∃ pb po, la = some ⟨pb, po, none⟩ ∧ ∀ i, i < m → w.cell? ⟨pb, po + i, none⟩ = some (.int .i64 (zs.getD i 0))) (M : Nat) (hM : M = m + 1) :
    Calls Tryd.prog 27 #[v0, .slice la m lc] w fun e w' => ∃ (g c : Nat) (Ls : List (List Nat)) (pvs : List Value), e = .returned (.slice (some ⟨g, 0, none⟩) M c) ∧ w.heap.size ≤ g ∧ g < w'.heap.size ∧ (∀ i, i < M → w'.cell? ⟨g, i, none⟩ = some (pvs.getD i .nilFunc)) ∧ M = Ls.length ∧ (∀ i, i < M → Seg w0 (pvs.getD i .nilFunc) (Ls.getD i [])) ∧ Ls.flatten = l ∧ Below w.heap.size w w' := by
  subst hM
  refine (cut_is w0 w v0 l hv hn la lc m zs hm hc).mono ?_
  rintro e w' ⟨v, rfl, Ls, pvs, hown, _, hL, hS, hf, hB⟩
  obtain ⟨g, c, rfl, hg, hgl, hcl⟩ := owns_slices hown (by omega)
  exact ⟨g, c, Ls, pvs, rfl, hg, hgl, fun i hi => by have := hcl i hi; rwa [Nat.zero_add] at this, hL.symm, hS, hf, hB⟩
/-- the operation at a place of a region that is written out -/
theorem op0 {x : Oper} {r : List Oper} : (x :: r).toArray[0]? = some x := rfl
theorem op1 {a x : Oper} {r : List Oper} : (a :: x :: r).toArray[1]? = some x := rfl
theorem op2 {a b x : Oper} {r : List Oper} : (a :: b :: x :: r).toArray[2]? = some x := rfl
theorem op3 {a b c x : Oper} {r : List Oper} : (a :: b :: c :: x :: r).toArray[3]? = some x := rfl
theorem op4 {a b c d x : Oper} {r : List Oper} : (a :: b :: c :: d :: x :: r).toArray[4]? = some x := rfl
theorem op5 {a b c d e x : Oper} {r : List Oper} : (a :: b :: c :: d :: e :: x :: r).toArray[5]? = some x := rfl
theorem op6 {a b c d e f x : Oper} {r : List Oper} : (a :: b :: c :: d :: e :: f :: x :: r).toArray[6]? = some x := rfl
theorem op7 {a b c d e f g x : Oper} {r : List Oper} : (a :: b :: c :: d :: e :: f :: g :: x :: r).toArray[7]? = some x := rfl
theorem op8 {a b c d e f g h x : Oper} {r : List Oper} : (a :: b :: c :: d :: e :: f :: g :: h :: x :: r).toArray[8]? = some x := rfl
end Go.Proofs.YteggikojfkmbkaaDoor
