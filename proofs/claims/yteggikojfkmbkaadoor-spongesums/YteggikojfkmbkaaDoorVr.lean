/- What is lent, and the lists of it: SpongeSums' memory. -/
import Derived.Test.YteggikojfkmbkaaDoorVq
import Derived.Test.YteggikojfkmbkaaDoorVn
import Derived.Test.YteggikojfkmbkaaDoorKcc
namespace Go.Proofs.YteggikojfkmbkaaDoor
open Go.RowKit
theorem row_apart {W W' : World} {b1 b2 s1 s2 k1 k2 : Nat} {e1 e2 : TypeId} {v1 v2 : Value} {l1 l2 : List Value} (h1 : W.ownsRow b1 e1 s1 v1 k1 l1) (h2 : W.ownsRow b2 e2 s2 v2 k2 l2) (he : e1 ≠ e2) (hg : W.grownBy W' v2.ownBlock) : W'.ownsRow b1 e1 s1 v1 k1 l1 := by
  refine ⟨h1.1, h1.2.imp id fun ⟨g, c, cur, a1, a2, a3, a4⟩ => ⟨g, c, cur, a1, a2, ?_, a4⟩⟩
  refine (hg.block g (Array.getElem?_eq_some_iff.1 a3).1 fun e => ?_).trans a3
  rcases h2.2 with ⟨rfl, _⟩ | ⟨g', c', cur', rfl, _, b3, _⟩
  · simp [Value.ownBlock] at e
  · obtain rfl : g = g' := by simpa [Value.ownBlock] using e
    rw [a3] at b3; cases b3; exact he rfl
theorem row_past2 {w w' : World} {B n s : Nat} {T : TypeId} {v : Value} {xs : List Value} (h : w.ownsRow B T s v n xs) (k : Below w.heap.size w w') : w'.ownsRow B T s v n xs :=
  h.kept (row := none) ⟨k.os, k.tape, k.output, k.size, fun i hi _ => k.block i hi⟩ (by cases hv : v.ownBlock <;> simp)
/-- an append of what is listed in the call -/
theorem append_lit {ops : Array Oper} {rest : List Oper} {o : Oper} {a : Act} {w : World} {Q : Exit → Act → World → Prop} {t e : TypeId} {z : Value} {size bytes : Nat} (hinf : (Tryd.prog.info? e).map (fun i => (i.zero, i.size, i.bytes)) = some (some z, size, bytes)) (ht : Tryd.prog.underlying t = some (.slice e)) (hzs : z.cells.size = size) (hpos : 0 < size)
    (hgd : o.guard = none) (s x : Operand) (ho : o.op = .call { callee := .builtin .append, args := #[s, x], argTypes := #[t, t] }) (base : Nat) (v : Value) (n : Nat) (xs : List Value) (hs : a.eval s = v) (hown : w.ownsRow base e size v n xs)
    (m : Nat) (cs : List Value) (hcs : cs.length = m * size) (h1 : ∀ u ∈ cs, u.oneCell' = true) (hx : a.eval x = .slice (some ⟨w.heap.size, 0, none⟩) m m) (hlen : n + m ≤ 1000000000) (hby : bytes ≤ 1000) (hbase : base ≤ w.heap.size)
    (h : ∀ v' w', w'.ownsRow base e size v' (n + m) (xs ++ cs) → (w.alloc (.cells cs.toArray e)).grownBy w' v.ownBlock → wpList Tryd.prog ops Q rest (a.put o.dst v') w') : wpList Tryd.prog ops Q (o :: rest) a (w.alloc (.cells cs.toArray e)) := by
  obtain ⟨i0, hi, hz0, hz1, hz2⟩ := info_parts hinf
  refine wpList_append_own _ hgd s x t ho base e i0 z size bytes ht hi hz0 hz1 hz2 hzs hpos v n xs hs (World.ownsRow.alloc hown _) ⟨w.heap.size, 0, none⟩ m m cs hx hcs (fun j u hj => by
    rw [Addr.add_mid, Nat.zero_add, World.cell?_alloc_at _ _ _ _ rfl]; simpa using hj) h1 (by unfold maxLen; omega) ?_ (by simp; omega) (fun v' w' q1 q2 _ => h v' w' q1 q2)
  calc (n + m) * bytes ≤ 1000000000 * 1000 := Nat.mul_le_mul hlen hby
    _ ≤ 140737488355328 := by decide
theorem infLoan : (Tryd.prog.info? 31).map (fun i => (i.zero, i.size, i.bytes)) = some (some (.agg #[.slice none 0 0, .slice none 0 0]), 2, 48) := by kernel_rfl
theorem infSl : (Tryd.prog.info? 29).map (fun i => (i.zero, i.size, i.bytes)) = some (some (.slice none 0 0), 1, 24) := by kernel_rfl
/-- one loan: its block, capacity, length and all its bytes -/
abbrev Lo := Nat × Nat × Nat × List Nat
def sB (x : Lo) : Value := .slice (some ⟨x.1, 0, none⟩) x.2.2.1 x.2.1
def sF (x : Lo) : Value := .slice (some ⟨x.1, 0, none⟩) (x.2.2.1 + 40) x.2.1
def lnL : List Lo → List Value
  | [] => []
  | x :: r => sB x :: sF x :: lnL r
theorem lnL_len : ∀ xs : List Lo, (lnL xs).length = xs.length * 2
  | [] => rfl
  | x :: r => by rw [lnL, List.length_cons, List.length_cons, lnL_len r, List.length_cons]; omega
theorem lnL_snoc (y : Lo) : ∀ xs : List Lo, lnL (xs ++ [y]) = lnL xs ++ [sB y, sF y]
  | [] => rfl
  | x :: r => by rw [List.cons_append, lnL, lnL_snoc y r, lnL]; rfl
theorem lnL_get : ∀ (xs : List Lo) (i : Nat) (x : Lo), xs[i]? = some x → (lnL xs)[i * 2]? = some (sB x) ∧ (lnL xs)[i * 2 + 1]? = some (sF x)
  | [], i, x, h => by simp at h
  | y :: r, 0, x, h => by
    simp at h; subst h; exact ⟨rfl, rfl⟩
  | y :: r, i + 1, x, h => by
    rw [List.getElem?_cons_succ] at h
    have := lnL_get r i x h
    rw [show (i + 1) * 2 = i * 2 + 1 + 1 by omega, lnL]
    exact this
theorem lnL_set (xs : List Lo) (i : Nat) (x y : Lo) (hx : xs[i]? = some x) (hb : sB y = sB x) (hf : sF y = sF x) : lnL (xs.set i y) = lnL xs := by
  induction xs generalizing i with
  | nil => rfl
  | cons z r ih =>
    rcases i with _ | i
    · simp at hx; subst hx; rw [List.set_cons_zero, lnL, lnL, hb, hf]
    · rw [List.getElem?_cons_succ] at hx
      rw [List.set_cons_succ, lnL, lnL, ih i hx]
/-- all loans lie there, in blocks of their own -/
def LnAt (B : Nat) (xs : List Lo) (W : World) : Prop := (∀ x ∈ xs, W.ownsRow B 5 1 (sF x) (x.2.2.1 + 40) (bytesL x.2.2.2)) ∧ xs.Pairwise fun x y => x.1 < y.1
theorem LnAt.past {B : Nat} {xs : List Lo} {W W' : World} (h : LnAt B xs W) (k : Below W.heap.size W W') : LnAt B xs W' := ⟨fun x hx => row_past2 (h.1 x hx) k, h.2⟩
theorem LnAt.apart {B b2 s2 k2 : Nat} {e2 : TypeId} {v2 : Value} {l2 : List Value} {xs : List Lo} {W W' : World} (h : LnAt B xs W) (h2 : W.ownsRow b2 e2 s2 v2 k2 l2) (he : 5 ≠ e2) (hg : W.grownBy W' v2.ownBlock) : LnAt B xs W' := ⟨fun x hx => row_apart (h.1 x hx) h2 he hg, h.2⟩
theorem LnAt.snoc {B : Nat} {xs : List Lo} {W W' : World} {y : Lo} (h : LnAt B xs W) (k : Below W.heap.size W W') (hy : W'.ownsRow (W.heap.size + 1) 5 1 (sF y) (y.2.2.1 + 40) (bytesL y.2.2.2)) (hB : B ≤ W.heap.size) : LnAt B (xs ++ [y]) W' := by
  refine ⟨fun x hx => ?_, ?_⟩
  · rcases List.mem_append.1 hx with hx | hx
    · exact row_past2 (h.1 x hx) k
    · obtain rfl := List.mem_singleton.1 hx
      exact ⟨hy.1, hy.2.imp id fun ⟨g, c, cur, a1, a2, a3⟩ => ⟨g, c, cur, a1, by omega, a3⟩⟩
  · refine List.pairwise_append.2 ⟨h.2, List.pairwise_singleton _ _, fun x hx z hz => ?_⟩
    obtain rfl := List.mem_singleton.1 hz
    have h1 := ((h.1 x hx).lt x.1 rfl).2
    have h2 := (hy.lt z.1 rfl).1
    omega
/-- the loans, their list, and the list of what is handed on -/
def SI (w : World) (xs : List Lo) (vl vh : Value) (kh : Nat) (hs : List Value) (W : World) : Prop :=
  Below w.heap.size w W ∧ W.ownsRow w.heap.size 31 2 vl xs.length (lnL xs) ∧ W.ownsRow w.heap.size 29 1 vh kh hs ∧ LnAt w.heap.size xs W
theorem SI.past {w : World} {xs : List Lo} {vl vh : Value} {kh : Nat} {hs : List Value} {W W' : World} (h : SI w xs vl vh kh hs W) (k : Below W.heap.size W W') : SI w xs vl vh kh hs W' :=
  ⟨h.1.trans (k.mono h.1.size), row_past2 h.2.1 k, row_past2 h.2.2.1 k, h.2.2.2.past k⟩
theorem SI.alloc {w : World} {xs : List Lo} {vl vh : Value} {kh : Nat} {hs : List Value} {W : World} (h : SI w xs vl vh kh hs W) (o : Obj) : SI w xs vl vh kh hs (W.alloc o) := h.past ((Below.refl _ _).alloc (Nat.le_refl _) o)
/-- with one loan more, which the lists do not have yet -/
def SJ (w : World) (xs : List Lo) (y : Lo) (vl vh : Value) (kh : Nat) (hs : List Value) (W : World) : Prop :=
  Below w.heap.size w W ∧ W.ownsRow w.heap.size 31 2 vl xs.length (lnL xs) ∧ W.ownsRow w.heap.size 29 1 vh kh hs ∧ LnAt w.heap.size (xs ++ [y]) W
theorem SJ.past {w : World} {xs : List Lo} {y : Lo} {vl vh : Value} {kh : Nat} {hs : List Value} {W W' : World} (h : SJ w xs y vl vh kh hs W) (k : Below W.heap.size W W') : SJ w xs y vl vh kh hs W' :=
  ⟨h.1.trans (k.mono h.1.size), row_past2 h.2.1 k, row_past2 h.2.2.1 k, h.2.2.2.past k⟩
theorem SI.more {w : World} {xs : List Lo} {y : Lo} {vl vh : Value} {kh : Nat} {hs : List Value} {W W' : World} (h : SI w xs vl vh kh hs W) (k : Below W.heap.size W W') (hy : W'.ownsRow (W.heap.size + 1) 5 1 (sF y) (y.2.2.1 + 40) (bytesL y.2.2.2)) : SJ w xs y vl vh kh hs W' :=
  ⟨h.1.trans (k.mono h.1.size), row_past2 h.2.1 k, row_past2 h.2.2.1 k, h.2.2.2.snoc k hy h.1.size⟩
/-- the loan is put on the list -/
theorem SJ.listed {w : World} {xs : List Lo} {y : Lo} {vl vh vl' : Value} {kh : Nat} {hs : List Value} {W W' : World} {o : Obj} (h : SJ w xs y vl vh kh hs W) (hg : (W.alloc o).grownBy W' vl.ownBlock) (hv : W'.ownsRow w.heap.size 31 2 vl' (xs.length + 1) (lnL xs ++ [sB y, sF y])) : SI w (xs ++ [y]) vl' vh kh hs W' := by
  have h' := h.past ((Below.refl _ _).alloc (Nat.le_refl _) o)
  refine ⟨Below.grown h'.1 hg h'.1.size (fun q hq => (h'.2.1.lt q hq).1), ?_, row_apart h'.2.2.1 h'.2.1 (by decide) hg, h'.2.2.2.apart h'.2.1 (by decide) hg⟩
  rw [lnL_snoc, List.length_append]; exact hv
/-- something is put on the list of what is handed on -/
theorem SI.handed {w : World} {xs : List Lo} {vl vh vh' : Value} {kh m : Nat} {hs cs : List Value} {W W' : World} {o : Obj} (h : SI w xs vl vh kh hs W) (hg : (W.alloc o).grownBy W' vh.ownBlock) (hv : W'.ownsRow w.heap.size 29 1 vh' (kh + m) (hs ++ cs)) : SI w xs vl vh' (kh + m) (hs ++ cs) W' := by
  have h' := h.alloc o
  exact ⟨Below.grown h'.1 hg h'.1.size (fun q hq => (h'.2.2.1.lt q hq).1), row_apart h'.2.1 h'.2.2.1 (by decide) hg, hv, h'.2.2.2.apart h'.2.2.1 (by decide) hg⟩
theorem Only.grownBy {g : Nat} {w w' : World} (h : Only g w w') : w.grownBy w' (some g) := ⟨h.os, h.tape, h.output, h.size, fun k hk hne => h.block k hk (fun e => hne (by rw [e]))⟩
/-- a loan is written over -/
theorem SI.wiped {w : World} {xs : List Lo} {x y : Lo} {vl vh : Value} {kh i : Nat} {hs : List Value} {W W' : World} (h : SI w xs vl vh kh hs W) (hx : xs[i]? = some x) (h1 : y.1 = x.1) (hb : sB y = sB x) (hf : sF y = sF x) (hl : y.2.2.1 = x.2.2.1)
    (ho : Only x.1 W W') (hy : W'.ownsRow w.heap.size 5 1 (sF x) (x.2.2.1 + 40) (bytesL y.2.2.2)) : SI w (xs.set i y) vl vh kh hs W' := by
  have hm : x ∈ xs := List.mem_of_getElem? hx
  have hx0 := h.2.2.2.1 x hm
  have hlt := hx0.lt x.1 rfl
  have hg : W.grownBy W' (sF x).ownBlock := ho.grownBy
  refine ⟨h.1.trans (ho.below hlt.1 h.1.size), ?_, row_apart h.2.2.1 hx0 (by decide) hg, fun z hz => ?_, ?_⟩
  · rw [lnL_set xs i x y hx hb hf, List.length_set]; exact row_apart h.2.1 hx0 (by decide) hg
  · obtain ⟨j, hj⟩ := List.getElem?_of_mem hz
    by_cases e : i = j
    · subst e
      rw [List.getElem?_set_self (List.getElem?_eq_some_iff.1 hx).1] at hj
      obtain rfl := Option.some.inj hj
      rw [hf, hl]; exact hy
    · rw [List.getElem?_set_ne e] at hj
      have hz0 := h.2.2.2.1 z (List.mem_of_getElem? hj)
      refine hz0.kept hg (Or.inr fun e2 => ?_)
      have e3 : z.1 = x.1 := by simpa [sF, Value.ownBlock] using e2
      have hp := List.pairwise_iff_getElem.1 h.2.2.2.2
      obtain ⟨hi', hx'⟩ := List.getElem?_eq_some_iff.1 hx
      obtain ⟨hj', hz'⟩ := List.getElem?_eq_some_iff.1 hj
      rcases Nat.lt_or_gt_of_ne e with hlt2 | hlt2
      · have := hp i j hi' hj' hlt2; rw [hx', hz'] at this; omega
      · have := hp j i hj' hi' hlt2; rw [hx', hz'] at this; omega
  · have hp := h.2.2.2.2
    rw [List.pairwise_iff_getElem] at hp ⊢
    intro a b ha hb' hab
    rw [List.length_set] at ha hb'
    obtain ⟨hi', hx'⟩ := List.getElem?_eq_some_iff.1 hx
    have key : ∀ k (hk : k < (xs.set i y).length) (hk2 : k < xs.length), ((xs.set i y)[k]).1 = (xs[k]).1 := fun k hk hk2 => by
      by_cases e : i = k
      · subst e; rw [List.getElem_set_self, h1, ← hx']
      · rw [List.getElem_set_ne e]
    rw [key a _ ha, key b _ hb']; exact hp a b ha hb' hab
end Go.Proofs.YteggikojfkmbkaaDoor
