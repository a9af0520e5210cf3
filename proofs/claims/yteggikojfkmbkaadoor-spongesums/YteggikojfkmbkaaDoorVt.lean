/- What is handed on reads as the pieces; its sums. -/
import Derived.Test.YteggikojfkmbkaaDoorVr
namespace Go.Proofs.YteggikojfkmbkaaDoor
open Go.RowKit
/-- the loans begin with these bytes -/
def Has (Ls : Nat → List Nat) (n : Nat) (xs : List Lo) : Prop := xs.length = n ∧ ∀ i, i < n → ∃ x, xs[i]? = some x ∧ x.2.2.1 = (Ls i).length ∧ ∃ tl, x.2.2.2 = Ls i ++ tl
def Loz : Lo := (0, 0, 0, [])
theorem seg_lo {W : World} {B : Nat} {x : Lo} {l tl : List Nat} (h : W.ownsRow B 5 1 (sF x) (x.2.2.1 + 40) (bytesL x.2.2.2)) (hl : x.2.2.1 = l.length) (ht : x.2.2.2 = l ++ tl) : Seg W (sB x) l := by
  obtain ⟨g, c, n, F⟩ := x
  dsimp only at hl ht
  subst hl ht
  obtain ⟨_, ⟨h0, _⟩ | ⟨g', c', cur, h0, _, _, h1, h2, _⟩⟩ := id h
  · simp [sF] at h0
  · simp only [sF, Value.slice.injEq, Option.some.injEq, Addr.mk.injEq, and_true, true_and] at h0
    obtain ⟨rfl, rfl⟩ := h0
    refine ⟨some ⟨g, 0, none⟩, c, rfl, by dsimp only at h1; omega, h2, fun _ => ⟨g, 0, rfl, fun i hi => ?_⟩, fun e => by cases e⟩
    show W.cell? ⟨g, 0 + i, none⟩ = _
    have hh : W.ownsRow B 5 1 (.slice (some ⟨g, 0, none⟩) (l.length + 40) c) (l.length + 40) (bytesL (l ++ tl)) := h
    rw [Nat.zero_add, hh.cellAt i (by omega)]
    rw [bytesL_app, List.getElem?_append_left (by rw [bytesL_len]; exact hi)]
    simp [bytesL, hi, List.getD_eq_getElem?_getD]
theorem has_pc {w W : World} {xs : List Lo} {vl : Value} {gh ch n kh : Nat} {tl : List Value} {Ls : Nat → List Nat} (h : SI w xs vl (.slice (some ⟨gh, 0, none⟩) kh ch) kh (xs.map sB ++ tl) W) (hx : Has Ls n xs) (hk : n ≤ kh) :
    (∀ i, i < n → W.cell? ⟨gh, 0 + i, none⟩ = some (sB (xs.getD i Loz))) ∧ ∀ i, i < n → Seg W (sB (xs.getD i Loz)) (Ls i) := by
  refine ⟨fun i hi => ?_, fun i hi => ?_⟩
  · obtain ⟨x, h1, _⟩ := hx.2 i hi
    rw [Nat.zero_add, h.2.2.1.cellAt i (by omega), List.getElem?_append_left (by rw [List.length_map, hx.1]; exact hi), List.getElem?_map, h1, List.getD_eq_getElem?_getD, h1]; rfl
  · obtain ⟨x, h1, h2, t, h3⟩ := hx.2 i hi
    rw [List.getD_eq_getElem?_getD, h1]
    exact seg_lo (h.2.2.2.1 x (List.mem_of_getElem? h1)) h2 h3
theorem handed_sum {w W : World} {xs : List Lo} {vl : Value} {gh ch n kh : Nat} {tl : List Value} {Ls : Nat → List Nat} (hT : Tabs W) (h : SI w xs vl (.slice (some ⟨gh, 0, none⟩) kh ch) kh (xs.map sB ++ tl) W) (hx : Has Ls n xs) (hk : n ≤ kh) (hb : ∀ i j, (Ls i).getD j 0 < 256) (hl : ∀ i, i < n → (Ls i).length ≤ 16777216) (hn : n ≤ 16777216) :
    Calls Tryd.prog 17 #[.slice (some ⟨gh, 0, none⟩) n ch] W fun e w' => e = .returned (.agg (rowB 32 (sumF (flat Ls n))).toArray) ∧ Below W.heap.size W w' := by
  obtain ⟨h1, h2⟩ := has_pc h hx hk
  exact sumAll_is W (some ⟨gh, 0, none⟩) n ch (fun i => sB (xs.getD i Loz)) Ls hT (by omega) (fun _ => ⟨gh, 0, rfl, h1⟩) (fun i hi => (h2 i hi).piece (hb i) (hl i hi))
theorem slice_toS (ad : Option Addr) (n cap q : Nat) (hq : q ≤ cap) (W : World) : Sem.run Tryd.prog (Instr.slice 26 (.slice ad n cap) none (some (.int .i64 (q : Int))) none) W = .ok (.slice ad q cap) W := by
  have e : (if cap = 0 then ad else ad.map (·.add (0 * 1))) = ad := by
    split
    · rfl
    · cases ad with
      | none => rfl
      | some a => obtain ⟨b, o, s⟩ := a; simp [Addr.add]
  simp [Instr.slice, Instr.sliceBounds, run_underlying Tryd.underlying26, run_sliceBound W .i64 (q : Int) cap _ (by omega) (by omega)]
  simpa using e
theorem append_lit2 {ops : Array Oper} {rest : List Oper} {o : Oper} {a : Act} {w : World} {Q : Exit → Act → World → Prop} {t e : TypeId} {z : Value} {size bytes : Nat} (hinf : (Tryd.prog.info? e).map (fun i => (i.zero, i.size, i.bytes)) = some (some z, size, bytes)) (ht : Tryd.prog.underlying t = some (.slice e)) (hzs : z.cells.size = size) (hpos : 0 < size)
    (hgd : o.guard = none) (s x : Operand) (ho : o.op = .call { callee := .builtin .append, args := #[s, x], argTypes := #[t, t] }) (base : Nat) (v : Value) (n : Nat) (xs : List Value) (hs : a.eval s = v) (hown : w.ownsRow base e size v n xs)
    (m : Nat) (cs : List Value) (hcs : cs.length = m * size) (h1 : ∀ u ∈ cs, u.oneCell' = true) (bx : Nat) (hbx : bx = w.heap.size) (hx : a.eval x = .slice (some ⟨bx, 0, none⟩) m m) (hlen : n + m ≤ 1000000000) (hby : bytes ≤ 1000) (hbase : base ≤ w.heap.size)
    (h : ∀ v' w', w'.ownsRow base e size v' (n + m) (xs ++ cs) → (w.alloc (.cells cs.toArray e)).grownBy w' v.ownBlock → wpList Tryd.prog ops Q rest (a.put o.dst v') w') : wpList Tryd.prog ops Q (o :: rest) a (w.alloc (.cells cs.toArray e)) :=
  append_lit hinf ht hzs hpos hgd s x ho base v n xs hs hown m cs hcs h1 (by rw [← hbx]; exact hx) hlen hby hbase h
/-- all that is lent and handed on, the two marks behind it too -/
def KI (w : World) (xs : List Lo) (vl : Value) (gh ch k b1 b2 : Nat) (W : World) : Prop :=
  SI w xs vl (.slice (some ⟨gh, 0, none⟩) (k + 2) ch) (k + 2) (xs.map sB ++ [.slice (some ⟨b1, 0, none⟩) 1 1, .slice (some ⟨b2, 0, none⟩) 1 1]) W ∧ W.cell? ⟨b1, 0, none⟩ = some (.int .u8 201) ∧ W.cell? ⟨b2, 0, none⟩ = some (.int .u8 202)
theorem KI.past {w : World} {xs : List Lo} {vl : Value} {gh ch k b1 b2 : Nat} {W W' : World} (h : KI w xs vl gh ch k b1 b2 W) (q : Below W.heap.size W W') : KI w xs vl gh ch k b1 b2 W' :=
  ⟨h.1.past q, (q.cell (p := ⟨b1, 0, none⟩) (World.block_lt_of_cell? W _ h.2.1)).trans h.2.1, (q.cell (p := ⟨b2, 0, none⟩) (World.block_lt_of_cell? W _ h.2.2)).trans h.2.2⟩
theorem Seg.alloc {w : World} {v : Value} {l : List Nat} (h : Seg w v l) (o : Obj) : Seg (w.alloc o) v l := h.below ((Below.refl _ _).alloc (Nat.le_refl _) o)
theorem SI.loan {w : World} {xs : List Lo} {gl cl kh i : Nat} {vh : Value} {hs : List Value} {W : World} {x : Lo} (h : SI w xs (.slice (some ⟨gl, 0, none⟩) xs.length cl) vh kh hs W) (hx : xs[i]? = some x) : W.cell? ⟨gl, i * 2, none⟩ = some (sB x) ∧ W.cell? ⟨gl, i * 2 + 1, none⟩ = some (sF x) := by
  have hi : i < xs.length := (List.getElem?_eq_some_iff.1 hx).1
  obtain ⟨h1, h2⟩ := lnL_get xs i x hx
  exact ⟨by rw [h.2.1.cellAt (i * 2) (by omega), h1], by rw [h.2.1.cellAt (i * 2 + 1) (by omega), h2]⟩
theorem SI.bytes {w : World} {xs : List Lo} {kh i g c n : Nat} {vl vh : Value} {hs : List Value} {F : List Nat} {W : World} (h : SI w xs vl vh kh hs W) (hx : xs[i]? = some (g, c, n, F)) : BytesAt W ⟨g, 0, none⟩ F ∧ F.length = n + 40 := by
  have ho := h.2.2.2.1 _ (List.mem_of_getElem? hx)
  have ho' : W.ownsRow w.heap.size 5 1 (.slice (some ⟨g, 0, none⟩) (n + 40) c) (n + 40) (bytesL F) := ho
  have hl : F.length = n + 40 := by have := ho'.1; rw [bytesL_len] at this; omega
  refine ⟨fun j hj => ?_, hl⟩
  show W.cell? ⟨g, 0 + j, none⟩ = _
  rw [Nat.zero_add, ho'.cellAt j (by omega)]
  simp [bytesL, hj, List.getD_eq_getElem?_getD]
/-- the first i loans are written over -/
def Mid (Ls : Nat → List Nat) (k i : Nat) (xs xs' : List Lo) : Prop := xs'.length = k ∧ xs'.map sB = xs.map sB ∧ ∀ j, j < k → ∃ g c, xs'[j]? = some (g, c, (Ls j).length, if j < i then wpU (Ls j ++ mkL (j % 256) 40) ((Ls j).length + 40) else Ls j ++ mkL (j % 256) 40)
theorem map_set_same (xs : List Lo) (i : Nat) (x y : Lo) (hx : xs[i]? = some x) (h : sB y = sB x) : (xs.set i y).map sB = xs.map sB := by
  apply List.ext_getElem?
  intro j
  rw [List.getElem?_map, List.getElem?_map]
  by_cases e : i = j
  · subst e; rw [List.getElem?_set_self (List.getElem?_eq_some_iff.1 hx).1, hx]; simp [h]
  · rw [List.getElem?_set_ne e]
theorem Mid.set {Ls : Nat → List Nat} {k i : Nat} {xs xs' : List Lo} (h : Mid Ls k i xs xs') (hi : i < k) {g c : Nat} (hx : xs'[i]? = some (g, c, (Ls i).length, Ls i ++ mkL (i % 256) 40)) : Mid Ls k (i + 1) xs (xs'.set i (g, c, (Ls i).length, wpU (Ls i ++ mkL (i % 256) 40) ((Ls i).length + 40))) := by
  refine ⟨by rw [List.length_set]; exact h.1, (map_set_same xs' i _ (g, c, (Ls i).length, wpU (Ls i ++ mkL (i % 256) 40) ((Ls i).length + 40)) hx rfl).trans h.2.1, fun j hj => ?_⟩
  by_cases e : i = j
  · subst e; exact ⟨g, c, by rw [List.getElem?_set_self (by rw [h.1]; exact hi), if_pos (by omega)]⟩
  · obtain ⟨g', c', h'⟩ := h.2.2 j hj
    refine ⟨g', c', ?_⟩
    rw [List.getElem?_set_ne e, h']
    by_cases h2 : j < i
    · rw [if_pos h2, if_pos (by omega)]
    · rw [if_neg h2, if_neg (by omega)]
/-- what a piece reads as, written over -/
def wpP (Ls : Nat → List Nat) (j : Nat) : List Nat := (wpU (Ls j ++ mkL (j % 256) 40) ((Ls j).length + 40)).take (Ls j).length
theorem wpP_len (Ls : Nat → List Nat) (j : Nat) : (wpP Ls j).length = (Ls j).length := by rw [wpP, List.length_take, wpU_len, List.length_append]; omega
theorem wpP_byte (Ls : Nat → List Nat) (i j : Nat) : (wpP Ls i).getD j 0 < 256 := by
  by_cases hj : j < (Ls i).length
  · rw [wpP, getD_take _ _ _ hj, wpU_get _ _ _ (by rw [List.length_append]; omega), if_pos (by omega)]
    exact Nat.mod_lt _ (by decide)
  · rw [List.getD_eq_getElem?_getD, List.getElem?_eq_none (by rw [wpP_len]; omega)]; decide
theorem Mid.has {Ls : Nat → List Nat} {k : Nat} {xs xs' : List Lo} (h : Mid Ls k k xs xs') : Has (wpP Ls) k xs' := by
  refine ⟨h.1, fun j hj => ?_⟩
  obtain ⟨g, c, h'⟩ := h.2.2 j hj
  rw [if_pos hj] at h'
  exact ⟨_, h', (wpP_len Ls j).symm, _, (List.take_append_drop _ _).symm⟩
end Go.Proofs.YteggikojfkmbkaaDoor
