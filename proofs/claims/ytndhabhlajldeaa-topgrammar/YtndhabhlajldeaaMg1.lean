/- append, in full: it stays in its block, or goes into a new one and leaves the old one as it was. -/
import Derived.Test.YtndhabhlajldeaaRows
import Derived.Laws.AppendOwn
import Derived.Laws.OwnMore
import Derived.OwnWalk
import Derived.WalkKit
import Derived.WalkSpells
import Derived.WalkLawsBesides
import Derived.Deep.QuietTactic
import Derived.BigQuiet
import Derived.BigRegion
import Derived.Deep.CutRange
import Derived.Deep.CutBlock
import Derived.Deep.DeepCutAuto
import Derived.LoopTactic
import Derived.LoopN
import Derived.WalkMore
import Derived.Deep.RegionHeld3
import Derived.Deep.MidRow
import Derived.ProofKit
import Derived.OpenShut
import Derived.ChangeOld
import Derived.ChangeSlices
import Derived.Lib.SmallJoins
import Derived.SizedLaws
import Derived.Laws.EntriesVeiled
namespace Go.Proofs.Ytndhabhlajldeaa
/-- what an append has done -/
def Grew (w w' : World) (v v' : Value) (k : Nat) : Prop := (w.grownBy w' v.ownBlock ∧ v'.ownBlock = v.ownBlock ∧ (∀ q n c, v = .slice q n c → v' = .slice q k c)) ∨ (w.grownBy w' none ∧ ∃ c, v' = .slice (some ⟨w.heap.size, 0, none⟩) k c)
theorem grown_alloc (w : World) (o : Obj) : w.grownBy (w.drew.alloc o) none := ⟨rfl, rfl, rfl, by simp, fun k hk _ => (by first | exact heap_alloc_old w.drew o k hk | exact heap_alloc_old w.drew o hk)⟩
theorem run_append_strong {P : Program} (w : World) (base : Nat) (t ty e : TypeId) (i : TypeInfo) (z : Value) (size bytes : Nat) (ht : P.underlying t = some (.slice e)) (hi : P.info? e = some i) (hz : i.zero = some z)
    (hsize : i.size = size) (hby : i.bytes = bytes) (hzs : z.cells.size = size) (hsz : 0 < size) (v : Value) (n : Nat) (xs : List Value) (hown : w.ownsRow base e size v n xs)
    (a : Addr) (m c : Nat) (news : List Value) (hl : news.length = m * size) (hnews : ∀ j u, news[j]? = some u → w.cell? (a.add j) = some u) (h1 : ∀ u ∈ news, u.oneCell' = true)
    (h63 : n + m ≤ maxLen) (hbytes : (n + m) * bytes ≤ 140737488355328) (hbase : base ≤ w.heap.size) :
    ∃ v' w', (Builtin.append_ #[t, t] ty #[v, .slice (some a) m c]).run P w = .ok v' w' ∧ w'.ownsRow base e size v' (n + m) (xs ++ news) ∧ (v' = .slice none 0 0 ↔ v = .slice none 0 0 ∧ m = 0) ∧ Grew w w' v v' (n + m) := by
  obtain ⟨v', w', hr, h2, h3, h4⟩ := run_append_own (P := P) w base t ty e i z size bytes ht hi hz hsize hby hzs hsz v n xs hown a m c news hl hnews h1 h63 hbytes hbase
  refine ⟨v', w', hr, h2, h4, ?_⟩
  subst hsize hby
  have hsmall : n + m ≤ 9223372036854775807 := by simp only [maxLen] at h63; omega
  rcases hown.2 with ⟨rfl, rfl⟩ | ⟨g, cap, cur, rfl, hbg, hg, hnc, hcm, hcs, htake⟩
  · by_cases hm : m = 0
    · subst hm
      obtain rfl := h4.2 ⟨rfl, rfl⟩
      exact Or.inl ⟨h3, rfl, fun q n c e => by cases e; rfl⟩
    · have hn := run_append_nil (P := P) w t ty e i z ht hi hz a m c news hl hnews (by omega) (by omega) (by have hb := hbytes; simp only [Nat.zero_add] at hb; omega)
      rw [hr] at hn
      injection hn with e1 e2
      subst e1 e2
      exact Or.inr ⟨grown_alloc w _, _, by rw [Nat.zero_add]⟩
  · by_cases hroom : n + m ≤ cap
    · have hfit : n * i.size + news.length ≤ cur.size := by rw [hl, hcs, ← Nat.add_mul]; exact Nat.mul_le_mul_right _ hroom
      have hn := run_append_room (P := P) w t ty e i ht hi g n cap cur hg a m c news hl hnews h1 hroom hfit
      rw [hr] at hn
      injection hn with e1 e2
      subst e1 e2
      exact Or.inl ⟨h3, rfl, fun q n c e => by cases e; rfl⟩
    · have holds : ∀ j u, xs[j]? = some u → w.cell? ((⟨g, 0, none⟩ : Addr).add j) = some u := hown.cells (g := g) rfl
      have hn := run_append_grow (P := P) w t ty e i z ht hi hz ⟨g, 0, none⟩ n cap xs hown.1 holds a m c news hl hnews (by omega) (by omega) (growslice_fits (by omega) hbytes)
      rw [hr] at hn
      injection hn with e1 e2
      subst e1 e2
      exact Or.inr ⟨grown_alloc w _, _, rfl⟩
/-- the law of one operation -/
theorem wp_append_strong {P : Program} {w : World} {o : Oper} {a : Act} {K : Act → World → Prop} {Q : Exit → Act → World → Prop} (s x : Operand) (t : TypeId)
    (ho : o.op = .call { callee := .builtin .append, args := #[s, x], argTypes := #[t, t] })
    (base : Nat) (e : TypeId) (i : TypeInfo) (z : Value) (size bytes : Nat) (ht : P.underlying t = some (.slice e)) (hi : P.info? e = some i) (hz : i.zero = some z)
    (hsize : i.size = size) (hby : i.bytes = bytes) (hzs : z.cells.size = size) (hsz : 0 < size)
    (v : Value) (n : Nat) (xs : List Value) (hs : a.eval s = v) (hown : w.ownsRow base e size v n xs)
    (ad : Addr) (m c : Nat) (news : List Value) (hx : a.eval x = .slice (some ad) m c) (hl : news.length = m * size) (hnews : ∀ j u, news[j]? = some u → w.cell? (ad.add j) = some u) (h1 : ∀ u ∈ news, u.oneCell' = true)
    (h63 : n + m ≤ maxLen) (hbytes : (n + m) * bytes ≤ 140737488355328) (hbase : base ≤ w.heap.size)
    (h : ∀ v' w', w'.ownsRow base e size v' (n + m) (xs ++ news) → (v' = .slice none 0 0 ↔ v = .slice none 0 0 ∧ m = 0) → Grew w w' v v' (n + m) → K (a.put o.dst v') w') : o.wp P a w K Q := by
  obtain ⟨v', w', hr, h2, h3, h4⟩ := run_append_strong (P := P) w base t o.type e i z size bytes ht hi hz hsize hby hzs hsz v n xs hown ad m c news hl hnews h1 h63 hbytes hbase
  unfold Oper.wp execOp
  simp only [ho, resolve, invoke, builtin, Sem.run_bind, Sem.run_pure, Result.andThen_ok, List.map_toArray, List.map_cons, List.map_nil, hs, hx, hr]
  exact h v' w' h2 h3 h4
/-- the place of a member of a list that is written out -/
theorem mm0 {α : Type} {x : α} {l : List α} : x ∈ x :: l := List.Mem.head _
theorem mm1 {α : Type} {a0 x : α} {l : List α} : x ∈ a0 :: x :: l := List.Mem.tail _ (List.Mem.head _)
theorem mm2 {α : Type} {a0 a1 x : α} {l : List α} : x ∈ a0 :: a1 :: x :: l := List.Mem.tail _ (List.Mem.tail _ (List.Mem.head _))
theorem mm3 {α : Type} {a0 a1 a2 x : α} {l : List α} : x ∈ a0 :: a1 :: a2 :: x :: l := List.Mem.tail _ (List.Mem.tail _ (List.Mem.tail _ (List.Mem.head _)))
theorem mm4 {α : Type} {a0 a1 a2 a3 x : α} {l : List α} : x ∈ a0 :: a1 :: a2 :: a3 :: x :: l := List.Mem.tail _ (List.Mem.tail _ (List.Mem.tail _ (List.Mem.tail _ (List.Mem.head _))))
theorem mm5 {α : Type} {a0 a1 a2 a3 a4 x : α} {l : List α} : x ∈ a0 :: a1 :: a2 :: a3 :: a4 :: x :: l := List.Mem.tail _ (List.Mem.tail _ (List.Mem.tail _ (List.Mem.tail _ (List.Mem.tail _ (List.Mem.head _)))))
theorem mm6 {α : Type} {a0 a1 a2 a3 a4 a5 x : α} {l : List α} : x ∈ a0 :: a1 :: a2 :: a3 :: a4 :: a5 :: x :: l := List.Mem.tail _ (List.Mem.tail _ (List.Mem.tail _ (List.Mem.tail _ (List.Mem.tail _ (List.Mem.tail _ (List.Mem.head _))))))
theorem mm7 {α : Type} {a0 a1 a2 a3 a4 a5 a6 x : α} {l : List α} : x ∈ a0 :: a1 :: a2 :: a3 :: a4 :: a5 :: a6 :: x :: l := List.Mem.tail _ (List.Mem.tail _ (List.Mem.tail _ (List.Mem.tail _ (List.Mem.tail _ (List.Mem.tail _ (List.Mem.tail _ (List.Mem.head _)))))))
theorem mm8 {α : Type} {a0 a1 a2 a3 a4 a5 a6 a7 x : α} {l : List α} : x ∈ a0 :: a1 :: a2 :: a3 :: a4 :: a5 :: a6 :: a7 :: x :: l := List.Mem.tail _ (List.Mem.tail _ (List.Mem.tail _ (List.Mem.tail _ (List.Mem.tail _ (List.Mem.tail _ (List.Mem.tail _ (List.Mem.tail _ (List.Mem.head _))))))))
end Go.Proofs.Ytndhabhlajldeaa
/- A region whose operations come in their order, one by one. -/
namespace Go.Proofs.Ytndhabhlajldeaa
open Go.RowKit
theorem lst_val {P : Program} {ops : Array Oper} {Q : Exit → Act → World → Prop} {a : Act} {w : World} {rest : List Oper} {o : Oper} {v : Value} (hg : Region.wanted o (yielded ops a.tmps) = true) (hv : (execOp a.eval o).run P w = .ok (.value v) w) (h : wpList P ops Q rest (a.put o.dst v) w) : wpList P ops Q (o :: rest) a w :=
  wpList_step fun K hK => by
    rw [if_pos hg]
    unfold Oper.wp
    rw [hv]
    exact hK _ _ h
theorem lst_call {P : Program} {ops : Array Oper} {Q : Exit → Act → World → Prop} {a : Act} {w : World} {rest : List Oper} {o : Oper} {f : FuncId} {args : Array Value} {R : Ending → World → Prop} (hg : Region.wanted o (yielded ops a.tmps) = true) (hv : (execOp a.eval o).run P w = .ok (.enter f args) w) (hc : Calls P f args w R) (h : ∀ e w', R e w' → ∃ v, e = .returned v ∧ wpList P ops Q rest (a.put o.dst v) w') : wpList P ops Q (o :: rest) a w :=
  wpList_step fun K hK => by
    rw [if_pos hg]
    unfold Oper.wp
    rw [hv, Oper.upon_enter]
    refine Calls.mono hc fun e w' hr => ?_
    obtain ⟨v, rfl, hh⟩ := h e w' hr
    exact hK _ _ hh
end Go.Proofs.Ytndhabhlajldeaa
/- The operation number i of a list, found by Lean. -/
namespace Go.Proofs.Ytndhabhlajldeaa
theorem ov0 {x : Oper} {r : List Oper} : (x :: r).toArray[0]? = some x := rfl
theorem ov1 {o0 x : Oper} {r : List Oper} : (o0 :: x :: r).toArray[1]? = some x := rfl
theorem ov2 {o0 o1 x : Oper} {r : List Oper} : (o0 :: o1 :: x :: r).toArray[2]? = some x := rfl
theorem ov3 {o0 o1 o2 x : Oper} {r : List Oper} : (o0 :: o1 :: o2 :: x :: r).toArray[3]? = some x := rfl
theorem ov4 {o0 o1 o2 o3 x : Oper} {r : List Oper} : (o0 :: o1 :: o2 :: o3 :: x :: r).toArray[4]? = some x := rfl
theorem ov5 {o0 o1 o2 o3 o4 x : Oper} {r : List Oper} : (o0 :: o1 :: o2 :: o3 :: o4 :: x :: r).toArray[5]? = some x := rfl
theorem ov6 {o0 o1 o2 o3 o4 o5 x : Oper} {r : List Oper} : (o0 :: o1 :: o2 :: o3 :: o4 :: o5 :: x :: r).toArray[6]? = some x := rfl
theorem ov7 {o0 o1 o2 o3 o4 o5 o6 x : Oper} {r : List Oper} : (o0 :: o1 :: o2 :: o3 :: o4 :: o5 :: o6 :: x :: r).toArray[7]? = some x := rfl
theorem ov8 {o0 o1 o2 o3 o4 o5 o6 o7 x : Oper} {r : List Oper} : (o0 :: o1 :: o2 :: o3 :: o4 :: o5 :: o6 :: o7 :: x :: r).toArray[8]? = some x := rfl
theorem ov9 {o0 o1 o2 o3 o4 o5 o6 o7 o8 x : Oper} {r : List Oper} : (o0 :: o1 :: o2 :: o3 :: o4 :: o5 :: o6 :: o7 :: o8 :: x :: r).toArray[9]? = some x := rfl
theorem ov10 {o0 o1 o2 o3 o4 o5 o6 o7 o8 o9 x : Oper} {r : List Oper} : (o0 :: o1 :: o2 :: o3 :: o4 :: o5 :: o6 :: o7 :: o8 :: o9 :: x :: r).toArray[10]? = some x := rfl
theorem ov11 {o0 o1 o2 o3 o4 o5 o6 o7 o8 o9 o10 x : Oper} {r : List Oper} : (o0 :: o1 :: o2 :: o3 :: o4 :: o5 :: o6 :: o7 :: o8 :: o9 :: o10 :: x :: r).toArray[11]? = some x := rfl
theorem ov12 {o0 o1 o2 o3 o4 o5 o6 o7 o8 o9 o10 o11 x : Oper} {r : List Oper} : (o0 :: o1 :: o2 :: o3 :: o4 :: o5 :: o6 :: o7 :: o8 :: o9 :: o10 :: o11 :: x :: r).toArray[12]? = some x := rfl
theorem ov13 {o0 o1 o2 o3 o4 o5 o6 o7 o8 o9 o10 o11 o12 x : Oper} {r : List Oper} : (o0 :: o1 :: o2 :: o3 :: o4 :: o5 :: o6 :: o7 :: o8 :: o9 :: o10 :: o11 :: o12 :: x :: r).toArray[13]? = some x := rfl
theorem ov14 {o0 o1 o2 o3 o4 o5 o6 o7 o8 o9 o10 o11 o12 o13 x : Oper} {r : List Oper} : (o0 :: o1 :: o2 :: o3 :: o4 :: o5 :: o6 :: o7 :: o8 :: o9 :: o10 :: o11 :: o12 :: o13 :: x :: r).toArray[14]? = some x := rfl
theorem ov15 {o0 o1 o2 o3 o4 o5 o6 o7 o8 o9 o10 o11 o12 o13 o14 x : Oper} {r : List Oper} : (o0 :: o1 :: o2 :: o3 :: o4 :: o5 :: o6 :: o7 :: o8 :: o9 :: o10 :: o11 :: o12 :: o13 :: o14 :: x :: r).toArray[15]? = some x := rfl
theorem ov16 {o0 o1 o2 o3 o4 o5 o6 o7 o8 o9 o10 o11 o12 o13 o14 o15 x : Oper} {r : List Oper} : (o0 :: o1 :: o2 :: o3 :: o4 :: o5 :: o6 :: o7 :: o8 :: o9 :: o10 :: o11 :: o12 :: o13 :: o14 :: o15 :: x :: r).toArray[16]? = some x := rfl
theorem ov17 {o0 o1 o2 o3 o4 o5 o6 o7 o8 o9 o10 o11 o12 o13 o14 o15 o16 x : Oper} {r : List Oper} : (o0 :: o1 :: o2 :: o3 :: o4 :: o5 :: o6 :: o7 :: o8 :: o9 :: o10 :: o11 :: o12 :: o13 :: o14 :: o15 :: o16 :: x :: r).toArray[17]? = some x := rfl
theorem ov18 {o0 o1 o2 o3 o4 o5 o6 o7 o8 o9 o10 o11 o12 o13 o14 o15 o16 o17 x : Oper} {r : List Oper} : (o0 :: o1 :: o2 :: o3 :: o4 :: o5 :: o6 :: o7 :: o8 :: o9 :: o10 :: o11 :: o12 :: o13 :: o14 :: o15 :: o16 :: o17 :: x :: r).toArray[18]? = some x := rfl
theorem ov19 {o0 o1 o2 o3 o4 o5 o6 o7 o8 o9 o10 o11 o12 o13 o14 o15 o16 o17 o18 x : Oper} {r : List Oper} : (o0 :: o1 :: o2 :: o3 :: o4 :: o5 :: o6 :: o7 :: o8 :: o9 :: o10 :: o11 :: o12 :: o13 :: o14 :: o15 :: o16 :: o17 :: o18 :: x :: r).toArray[19]? = some x := rfl
theorem ov20 {o0 o1 o2 o3 o4 o5 o6 o7 o8 o9 o10 o11 o12 o13 o14 o15 o16 o17 o18 o19 x : Oper} {r : List Oper} : (o0 :: o1 :: o2 :: o3 :: o4 :: o5 :: o6 :: o7 :: o8 :: o9 :: o10 :: o11 :: o12 :: o13 :: o14 :: o15 :: o16 :: o17 :: o18 :: o19 :: x :: r).toArray[20]? = some x := rfl
theorem ov21 {o0 o1 o2 o3 o4 o5 o6 o7 o8 o9 o10 o11 o12 o13 o14 o15 o16 o17 o18 o19 o20 x : Oper} {r : List Oper} : (o0 :: o1 :: o2 :: o3 :: o4 :: o5 :: o6 :: o7 :: o8 :: o9 :: o10 :: o11 :: o12 :: o13 :: o14 :: o15 :: o16 :: o17 :: o18 :: o19 :: o20 :: x :: r).toArray[21]? = some x := rfl
theorem ov22 {o0 o1 o2 o3 o4 o5 o6 o7 o8 o9 o10 o11 o12 o13 o14 o15 o16 o17 o18 o19 o20 o21 x : Oper} {r : List Oper} : (o0 :: o1 :: o2 :: o3 :: o4 :: o5 :: o6 :: o7 :: o8 :: o9 :: o10 :: o11 :: o12 :: o13 :: o14 :: o15 :: o16 :: o17 :: o18 :: o19 :: o20 :: o21 :: x :: r).toArray[22]? = some x := rfl
theorem ov23 {o0 o1 o2 o3 o4 o5 o6 o7 o8 o9 o10 o11 o12 o13 o14 o15 o16 o17 o18 o19 o20 o21 o22 x : Oper} {r : List Oper} : (o0 :: o1 :: o2 :: o3 :: o4 :: o5 :: o6 :: o7 :: o8 :: o9 :: o10 :: o11 :: o12 :: o13 :: o14 :: o15 :: o16 :: o17 :: o18 :: o19 :: o20 :: o21 :: o22 :: x :: r).toArray[23]? = some x := rfl
theorem ov24 {o0 o1 o2 o3 o4 o5 o6 o7 o8 o9 o10 o11 o12 o13 o14 o15 o16 o17 o18 o19 o20 o21 o22 o23 x : Oper} {r : List Oper} : (o0 :: o1 :: o2 :: o3 :: o4 :: o5 :: o6 :: o7 :: o8 :: o9 :: o10 :: o11 :: o12 :: o13 :: o14 :: o15 :: o16 :: o17 :: o18 :: o19 :: o20 :: o21 :: o22 :: o23 :: x :: r).toArray[24]? = some x := rfl
theorem ov25 {o0 o1 o2 o3 o4 o5 o6 o7 o8 o9 o10 o11 o12 o13 o14 o15 o16 o17 o18 o19 o20 o21 o22 o23 o24 x : Oper} {r : List Oper} : (o0 :: o1 :: o2 :: o3 :: o4 :: o5 :: o6 :: o7 :: o8 :: o9 :: o10 :: o11 :: o12 :: o13 :: o14 :: o15 :: o16 :: o17 :: o18 :: o19 :: o20 :: o21 :: o22 :: o23 :: o24 :: x :: r).toArray[25]? = some x := rfl
theorem ov26 {o0 o1 o2 o3 o4 o5 o6 o7 o8 o9 o10 o11 o12 o13 o14 o15 o16 o17 o18 o19 o20 o21 o22 o23 o24 o25 x : Oper} {r : List Oper} : (o0 :: o1 :: o2 :: o3 :: o4 :: o5 :: o6 :: o7 :: o8 :: o9 :: o10 :: o11 :: o12 :: o13 :: o14 :: o15 :: o16 :: o17 :: o18 :: o19 :: o20 :: o21 :: o22 :: o23 :: o24 :: o25 :: x :: r).toArray[26]? = some x := rfl
theorem ov27 {o0 o1 o2 o3 o4 o5 o6 o7 o8 o9 o10 o11 o12 o13 o14 o15 o16 o17 o18 o19 o20 o21 o22 o23 o24 o25 o26 x : Oper} {r : List Oper} : (o0 :: o1 :: o2 :: o3 :: o4 :: o5 :: o6 :: o7 :: o8 :: o9 :: o10 :: o11 :: o12 :: o13 :: o14 :: o15 :: o16 :: o17 :: o18 :: o19 :: o20 :: o21 :: o22 :: o23 :: o24 :: o25 :: o26 :: x :: r).toArray[27]? = some x := rfl
theorem ov28 {o0 o1 o2 o3 o4 o5 o6 o7 o8 o9 o10 o11 o12 o13 o14 o15 o16 o17 o18 o19 o20 o21 o22 o23 o24 o25 o26 o27 x : Oper} {r : List Oper} : (o0 :: o1 :: o2 :: o3 :: o4 :: o5 :: o6 :: o7 :: o8 :: o9 :: o10 :: o11 :: o12 :: o13 :: o14 :: o15 :: o16 :: o17 :: o18 :: o19 :: o20 :: o21 :: o22 :: o23 :: o24 :: o25 :: o26 :: o27 :: x :: r).toArray[28]? = some x := rfl
theorem ov29 {o0 o1 o2 o3 o4 o5 o6 o7 o8 o9 o10 o11 o12 o13 o14 o15 o16 o17 o18 o19 o20 o21 o22 o23 o24 o25 o26 o27 o28 x : Oper} {r : List Oper} : (o0 :: o1 :: o2 :: o3 :: o4 :: o5 :: o6 :: o7 :: o8 :: o9 :: o10 :: o11 :: o12 :: o13 :: o14 :: o15 :: o16 :: o17 :: o18 :: o19 :: o20 :: o21 :: o22 :: o23 :: o24 :: o25 :: o26 :: o27 :: o28 :: x :: r).toArray[29]? = some x := rfl
theorem ov30 {o0 o1 o2 o3 o4 o5 o6 o7 o8 o9 o10 o11 o12 o13 o14 o15 o16 o17 o18 o19 o20 o21 o22 o23 o24 o25 o26 o27 o28 o29 x : Oper} {r : List Oper} : (o0 :: o1 :: o2 :: o3 :: o4 :: o5 :: o6 :: o7 :: o8 :: o9 :: o10 :: o11 :: o12 :: o13 :: o14 :: o15 :: o16 :: o17 :: o18 :: o19 :: o20 :: o21 :: o22 :: o23 :: o24 :: o25 :: o26 :: o27 :: o28 :: o29 :: x :: r).toArray[30]? = some x := rfl
theorem ov31 {o0 o1 o2 o3 o4 o5 o6 o7 o8 o9 o10 o11 o12 o13 o14 o15 o16 o17 o18 o19 o20 o21 o22 o23 o24 o25 o26 o27 o28 o29 o30 x : Oper} {r : List Oper} : (o0 :: o1 :: o2 :: o3 :: o4 :: o5 :: o6 :: o7 :: o8 :: o9 :: o10 :: o11 :: o12 :: o13 :: o14 :: o15 :: o16 :: o17 :: o18 :: o19 :: o20 :: o21 :: o22 :: o23 :: o24 :: o25 :: o26 :: o27 :: o28 :: o29 :: o30 :: x :: r).toArray[31]? = some x := rfl
theorem ov32 {o0 o1 o2 o3 o4 o5 o6 o7 o8 o9 o10 o11 o12 o13 o14 o15 o16 o17 o18 o19 o20 o21 o22 o23 o24 o25 o26 o27 o28 o29 o30 o31 x : Oper} {r : List Oper} : (o0 :: o1 :: o2 :: o3 :: o4 :: o5 :: o6 :: o7 :: o8 :: o9 :: o10 :: o11 :: o12 :: o13 :: o14 :: o15 :: o16 :: o17 :: o18 :: o19 :: o20 :: o21 :: o22 :: o23 :: o24 :: o25 :: o26 :: o27 :: o28 :: o29 :: o30 :: o31 :: x :: r).toArray[32]? = some x := rfl
theorem ov33 {o0 o1 o2 o3 o4 o5 o6 o7 o8 o9 o10 o11 o12 o13 o14 o15 o16 o17 o18 o19 o20 o21 o22 o23 o24 o25 o26 o27 o28 o29 o30 o31 o32 x : Oper} {r : List Oper} : (o0 :: o1 :: o2 :: o3 :: o4 :: o5 :: o6 :: o7 :: o8 :: o9 :: o10 :: o11 :: o12 :: o13 :: o14 :: o15 :: o16 :: o17 :: o18 :: o19 :: o20 :: o21 :: o22 :: o23 :: o24 :: o25 :: o26 :: o27 :: o28 :: o29 :: o30 :: o31 :: o32 :: x :: r).toArray[33]? = some x := rfl
theorem ov34 {o0 o1 o2 o3 o4 o5 o6 o7 o8 o9 o10 o11 o12 o13 o14 o15 o16 o17 o18 o19 o20 o21 o22 o23 o24 o25 o26 o27 o28 o29 o30 o31 o32 o33 x : Oper} {r : List Oper} : (o0 :: o1 :: o2 :: o3 :: o4 :: o5 :: o6 :: o7 :: o8 :: o9 :: o10 :: o11 :: o12 :: o13 :: o14 :: o15 :: o16 :: o17 :: o18 :: o19 :: o20 :: o21 :: o22 :: o23 :: o24 :: o25 :: o26 :: o27 :: o28 :: o29 :: o30 :: o31 :: o32 :: o33 :: x :: r).toArray[34]? = some x := rfl
theorem ov35 {o0 o1 o2 o3 o4 o5 o6 o7 o8 o9 o10 o11 o12 o13 o14 o15 o16 o17 o18 o19 o20 o21 o22 o23 o24 o25 o26 o27 o28 o29 o30 o31 o32 o33 o34 x : Oper} {r : List Oper} : (o0 :: o1 :: o2 :: o3 :: o4 :: o5 :: o6 :: o7 :: o8 :: o9 :: o10 :: o11 :: o12 :: o13 :: o14 :: o15 :: o16 :: o17 :: o18 :: o19 :: o20 :: o21 :: o22 :: o23 :: o24 :: o25 :: o26 :: o27 :: o28 :: o29 :: o30 :: o31 :: o32 :: o33 :: o34 :: x :: r).toArray[35]? = some x := rfl
theorem ov36 {o0 o1 o2 o3 o4 o5 o6 o7 o8 o9 o10 o11 o12 o13 o14 o15 o16 o17 o18 o19 o20 o21 o22 o23 o24 o25 o26 o27 o28 o29 o30 o31 o32 o33 o34 o35 x : Oper} {r : List Oper} : (o0 :: o1 :: o2 :: o3 :: o4 :: o5 :: o6 :: o7 :: o8 :: o9 :: o10 :: o11 :: o12 :: o13 :: o14 :: o15 :: o16 :: o17 :: o18 :: o19 :: o20 :: o21 :: o22 :: o23 :: o24 :: o25 :: o26 :: o27 :: o28 :: o29 :: o30 :: o31 :: o32 :: o33 :: o34 :: o35 :: x :: r).toArray[36]? = some x := rfl
theorem ov37 {o0 o1 o2 o3 o4 o5 o6 o7 o8 o9 o10 o11 o12 o13 o14 o15 o16 o17 o18 o19 o20 o21 o22 o23 o24 o25 o26 o27 o28 o29 o30 o31 o32 o33 o34 o35 o36 x : Oper} {r : List Oper} : (o0 :: o1 :: o2 :: o3 :: o4 :: o5 :: o6 :: o7 :: o8 :: o9 :: o10 :: o11 :: o12 :: o13 :: o14 :: o15 :: o16 :: o17 :: o18 :: o19 :: o20 :: o21 :: o22 :: o23 :: o24 :: o25 :: o26 :: o27 :: o28 :: o29 :: o30 :: o31 :: o32 :: o33 :: o34 :: o35 :: o36 :: x :: r).toArray[37]? = some x := rfl
theorem ov38 {o0 o1 o2 o3 o4 o5 o6 o7 o8 o9 o10 o11 o12 o13 o14 o15 o16 o17 o18 o19 o20 o21 o22 o23 o24 o25 o26 o27 o28 o29 o30 o31 o32 o33 o34 o35 o36 o37 x : Oper} {r : List Oper} : (o0 :: o1 :: o2 :: o3 :: o4 :: o5 :: o6 :: o7 :: o8 :: o9 :: o10 :: o11 :: o12 :: o13 :: o14 :: o15 :: o16 :: o17 :: o18 :: o19 :: o20 :: o21 :: o22 :: o23 :: o24 :: o25 :: o26 :: o27 :: o28 :: o29 :: o30 :: o31 :: o32 :: o33 :: o34 :: o35 :: o36 :: o37 :: x :: r).toArray[38]? = some x := rfl
theorem ov39 {o0 o1 o2 o3 o4 o5 o6 o7 o8 o9 o10 o11 o12 o13 o14 o15 o16 o17 o18 o19 o20 o21 o22 o23 o24 o25 o26 o27 o28 o29 o30 o31 o32 o33 o34 o35 o36 o37 o38 x : Oper} {r : List Oper} : (o0 :: o1 :: o2 :: o3 :: o4 :: o5 :: o6 :: o7 :: o8 :: o9 :: o10 :: o11 :: o12 :: o13 :: o14 :: o15 :: o16 :: o17 :: o18 :: o19 :: o20 :: o21 :: o22 :: o23 :: o24 :: o25 :: o26 :: o27 :: o28 :: o29 :: o30 :: o31 :: o32 :: o33 :: o34 :: o35 :: o36 :: o37 :: o38 :: x :: r).toArray[39]? = some x := rfl
theorem ov40 {o0 o1 o2 o3 o4 o5 o6 o7 o8 o9 o10 o11 o12 o13 o14 o15 o16 o17 o18 o19 o20 o21 o22 o23 o24 o25 o26 o27 o28 o29 o30 o31 o32 o33 o34 o35 o36 o37 o38 o39 x : Oper} {r : List Oper} : (o0 :: o1 :: o2 :: o3 :: o4 :: o5 :: o6 :: o7 :: o8 :: o9 :: o10 :: o11 :: o12 :: o13 :: o14 :: o15 :: o16 :: o17 :: o18 :: o19 :: o20 :: o21 :: o22 :: o23 :: o24 :: o25 :: o26 :: o27 :: o28 :: o29 :: o30 :: o31 :: o32 :: o33 :: o34 :: o35 :: o36 :: o37 :: o38 :: o39 :: x :: r).toArray[40]? = some x := rfl
theorem ov41 {o0 o1 o2 o3 o4 o5 o6 o7 o8 o9 o10 o11 o12 o13 o14 o15 o16 o17 o18 o19 o20 o21 o22 o23 o24 o25 o26 o27 o28 o29 o30 o31 o32 o33 o34 o35 o36 o37 o38 o39 o40 x : Oper} {r : List Oper} : (o0 :: o1 :: o2 :: o3 :: o4 :: o5 :: o6 :: o7 :: o8 :: o9 :: o10 :: o11 :: o12 :: o13 :: o14 :: o15 :: o16 :: o17 :: o18 :: o19 :: o20 :: o21 :: o22 :: o23 :: o24 :: o25 :: o26 :: o27 :: o28 :: o29 :: o30 :: o31 :: o32 :: o33 :: o34 :: o35 :: o36 :: o37 :: o38 :: o39 :: o40 :: x :: r).toArray[41]? = some x := rfl
theorem ov42 {o0 o1 o2 o3 o4 o5 o6 o7 o8 o9 o10 o11 o12 o13 o14 o15 o16 o17 o18 o19 o20 o21 o22 o23 o24 o25 o26 o27 o28 o29 o30 o31 o32 o33 o34 o35 o36 o37 o38 o39 o40 o41 x : Oper} {r : List Oper} : (o0 :: o1 :: o2 :: o3 :: o4 :: o5 :: o6 :: o7 :: o8 :: o9 :: o10 :: o11 :: o12 :: o13 :: o14 :: o15 :: o16 :: o17 :: o18 :: o19 :: o20 :: o21 :: o22 :: o23 :: o24 :: o25 :: o26 :: o27 :: o28 :: o29 :: o30 :: o31 :: o32 :: o33 :: o34 :: o35 :: o36 :: o37 :: o38 :: o39 :: o40 :: o41 :: x :: r).toArray[42]? = some x := rfl
theorem ov43 {o0 o1 o2 o3 o4 o5 o6 o7 o8 o9 o10 o11 o12 o13 o14 o15 o16 o17 o18 o19 o20 o21 o22 o23 o24 o25 o26 o27 o28 o29 o30 o31 o32 o33 o34 o35 o36 o37 o38 o39 o40 o41 o42 x : Oper} {r : List Oper} : (o0 :: o1 :: o2 :: o3 :: o4 :: o5 :: o6 :: o7 :: o8 :: o9 :: o10 :: o11 :: o12 :: o13 :: o14 :: o15 :: o16 :: o17 :: o18 :: o19 :: o20 :: o21 :: o22 :: o23 :: o24 :: o25 :: o26 :: o27 :: o28 :: o29 :: o30 :: o31 :: o32 :: o33 :: o34 :: o35 :: o36 :: o37 :: o38 :: o39 :: o40 :: o41 :: o42 :: x :: r).toArray[43]? = some x := rfl
end Go.Proofs.Ytndhabhlajldeaa
/- Containers in memory: bytes, pieces, types; what stays when something else changes. -/
namespace Go.Proofs.Ytndhabhlajldeaa
open Go.RowKit
/-- all blocks that were there but those of S are as they were -/
structure But (S : Nat → Prop) (w w' : World) : Prop where
  os : w'.os = w.os
  tape : w'.tape = w.tape
  output : w'.output = w.output
  size : w.heap.size ≤ w'.heap.size
  block : ∀ k, k < w.heap.size → ¬ S k → w'.heap[k]? = w.heap[k]?
theorem But.refl (S : Nat → Prop) (w : World) : But S w w := ⟨rfl, rfl, rfl, Nat.le_refl _, fun _ _ _ => rfl⟩
theorem But.trans {S : Nat → Prop} {u v w : World} (h : But S u v) (k : But S v w) : But S u w :=
  ⟨k.os.trans h.os, k.tape.trans h.tape, k.output.trans h.output, Nat.le_trans h.size k.size, fun i hi hb => (k.block i (Nat.lt_of_lt_of_le hi h.size) hb).trans (h.block i hi hb)⟩
theorem below_but {S : Nat → Prop} {u v : World} (h : Below u.heap.size u v) : But S u v := ⟨h.os, h.tape, h.output, h.size, fun i hi _ => h.block i hi⟩
theorem But.cell {S : Nat → Prop} {w w' : World} (h : But S w w') {p : Addr} (hp : p.block < w.heap.size) (hb : ¬ S p.block) : w'.cell? p = w.cell? p := World.cell?_of_block (w := w) (h.block p.block hp hb)
theorem But.frozen {S : Nat → Prop} {w w' : World} (h : But S w w') {p : Addr} (hp : p.block < w.heap.size) (hb : ¬ S p.block) : w'.frozen? p = w.frozen? p := World.frozen?_of_block (w := w) (h.block p.block hp hb)
theorem But.below {S : Nat → Prop} {B : Nat} {w w' : World} (h : But S w w') (hS : ∀ k, S k → B ≤ k) (hB : B ≤ w.heap.size) : Below B w w' := ⟨h.os, h.tape, h.output, h.size, fun k hk => h.block k (by omega) (fun e => by have := hS k e; omega)⟩
theorem But.mono {S T : Nat → Prop} {u v : World} (h : But S u v) (k : ∀ i, S i → T i) : But T u v := ⟨h.os, h.tape, h.output, h.size, fun i hi hb => h.block i hi fun e => hb (k i e)⟩
theorem grown_but {w w' : World} {S : Nat → Prop} {row : Option Nat} (h : w.grownBy w' row) (hr : ∀ k, row = some k → S k) : But S w w' := ⟨h.os, h.tape, h.output, h.size, fun k hk hn => h.block k hk (fun e => hn (hr k e.symm))⟩
theorem But.drew {S : Nat → Prop} {w w' : World} (h : But S w w') : But S w w'.drew := ⟨h.os, h.tape, h.output, h.size, h.block⟩
theorem But.setCell {S : Nat → Prop} {w w' : World} (h : But S w w') (a : Addr) (u : Value) (ha : S a.block ∨ w.heap.size ≤ a.block) : But S w (w'.setCell a u) := by
  refine ⟨h.os, h.tape, h.output, ?_, fun k hk hn => ?_⟩
  · have : (w'.setCell a u).heap.size = w'.heap.size := by simp [World.setCell]
    rw [this]
    exact h.size
  · have hne : k ≠ a.block := by
      rintro rfl
      rcases ha with ha | ha
      · exact hn ha
      · omega
    exact (Below.heap_setCell w' a u k hne).trans (h.block k hk hn)
theorem But.alloc {S : Nat → Prop} {w w' : World} (h : But S w w') (o : Obj) : But S w (w'.alloc o) := ⟨h.os, h.tape, h.output, Nat.le_trans h.size (by simp), fun k hk hn => (Below.heap_alloc w' o k (Nat.lt_of_lt_of_le hk h.size)).trans (h.block k hk hn)⟩
/-- a block that holds just these cells -/
def CBox (W : World) (B : Nat) (t : TypeId) (l : List Value) : Prop := W.heap[B]? = some (.cells l.toArray t (0, 0))
theorem CBox.lt {W : World} {B : Nat} {t : TypeId} {l : List Value} (h : CBox W B t l) : B < W.heap.size := (Array.getElem?_eq_some_iff.1 h).1
theorem CBox.cell {W : World} {B : Nat} {t : TypeId} {l : List Value} (h : CBox W B t l) (j : Nat) : W.cell? ⟨B, j, none⟩ = l[j]? := by simp [World.cell?, show W.heap[B]? = _ from h]
theorem CBox.frozen {W : World} {B : Nat} {t : TypeId} {l : List Value} (h : CBox W B t l) (j : Nat) : W.frozen? ⟨B, j, none⟩ = false := by simp [World.frozen?, show W.heap[B]? = _ from h]
theorem CBox.new (W : World) (t : TypeId) (l : List Value) : CBox (W.alloc (.cells l.toArray t)) W.heap.size t l := heap_alloc_new W _
theorem CBox.but {S : Nat → Prop} {W W' : World} {B : Nat} {t : TypeId} {l : List Value} (h : CBox W B t l) (k : But S W W') (hs : ¬ S B) : CBox W' B t l := (k.block B h.lt hs).trans h
theorem CBox.set {W : World} {B : Nat} {t : TypeId} {l : List Value} (h : CBox W B t l) (j : Nat) (u : Value) : CBox (W.setCell ⟨B, j, none⟩ u) B t (l.set j u) := by
  have h' : W.heap[B]? = _ := h
  unfold CBox
  simp [World.setCell, Array.getElem?_modify, h']
/-- the block of a slice -/
def Own (ad : Option Addr) (k : Nat) : Prop := ∃ a, ad = some a ∧ k = a.block
/-- an address that stays, or is new -/
def Fresh (w : World) (ad ad' : Option Addr) : Prop := ad' = ad ∨ ∃ g, ad' = some ⟨g, 0, none⟩ ∧ w.heap.size ≤ g
theorem Fresh.own {w : World} {ad ad' : Option Addr} (h : Fresh w ad ad') {k : Nat} (hk : Own ad' k) : Own ad k ∨ w.heap.size ≤ k := by
  rcases h with rfl | ⟨g, rfl, hg⟩
  · exact Or.inl hk
  · obtain ⟨a, e, rfl⟩ := hk
    injection e with e
    subst e
    exact Or.inr hg
theorem grew_one {w w' : World} {ad : Option Addr} {n cap k : Nat} {v' : Value} (h : Grew w w' (.slice ad n cap) v' k) : ∃ ad' cap', v' = .slice ad' k cap' ∧ But (Own ad) w w' ∧ Fresh w ad ad' := by
  rcases h with ⟨h1, _, h3⟩ | ⟨h1, c, h2⟩
  · refine ⟨ad, cap, h3 _ _ _ rfl, grown_but h1 (fun j e => ?_), Or.inl rfl⟩
    cases ad with
    | none => cases e
    | some a => injection e with e; exact ⟨a, rfl, e.symm⟩
  · exact ⟨_, c, h2, grown_but h1 (fun j e => by cases e), Or.inr ⟨_, rfl, Nat.le_refl _⟩⟩
theorem info_parts {P : Program} {t : TypeId} {z : Value} {s b : Nat} (h : (P.info? t).map (fun i => (i.zero, i.size, i.bytes)) = some (some z, s, b)) : ∃ i, P.info? t = some i ∧ i.zero = some z ∧ i.size = s ∧ i.bytes = b := by
  cases hi : P.info? t with
  | none => rw [hi] at h; cases h
  | some i => rw [hi] at h; simp at h; exact ⟨i, rfl, h.1, h.2.1, h.2.2⟩
theorem Try.info8 : (Try.prog.info? 5).map (fun i => (i.zero, i.size, i.bytes)) = some (some (.int .u8 0), 1, 1) := by kernel_rfl
theorem Try.infoB : (Try.prog.info? 22).map (fun i => (i.zero, i.size, i.bytes)) = some (some (.slice none 0 0), 1, 24) := by kernel_rfl
theorem Try.infoU : (Try.prog.info? 73).map (fun i => (i.zero, i.size, i.bytes)) = some (some (.int .u64 0), 1, 8) := by kernel_rfl
theorem Try.infoI : (Try.prog.info? 3).map (fun i => (i.zero, i.size, i.bytes)) = some (some (.int .i64 0), 1, 8) := by kernel_rfl
theorem Try.infoT : (Try.prog.info? 77).map (fun i => (i.zero, i.size, i.bytes)) = some (some (.agg #[.int .i64 0, .int .i64 0, .int .i64 0]), 3, 24) := by kernel_rfl
theorem owns_row_blockB {W W' : World} {B : Nat} {e : TypeId} {size n : Nat} {v : Value} {xs : List Value} (h : W.ownsRow B e size v n xs) (hb : ∀ k, v.ownBlock = some k → W'.heap[k]? = W.heap[k]?) : W'.ownsRow B e size v n xs := by
  obtain ⟨hl, h | ⟨g, c, cur, rfl, h1, h2, h3⟩⟩ := h
  · exact ⟨hl, Or.inl h⟩
  · exact ⟨hl, Or.inr ⟨g, c, cur, rfl, h1, (hb g rfl).trans h2, h3⟩⟩
/-- bytes as cells -/
def bV (l : List Nat) : List Value := l.map fun x : Nat => Value.int .u8 (x : Int)
theorem bV_len (l : List Nat) : (bV l).length = l.length := by simp [bV]
theorem bV_app (l m : List Nat) : bV (l ++ m) = bV l ++ bV m := by simp [bV]
theorem bV_get {l : List Nat} {i x : Nat} (h : l[i]? = some x) : (bV l)[i]? = some (.int .u8 (x : Int)) := by simp [bV, h]
theorem bV_inv {l : List Nat} {i : Nat} {v : Value} (h : (bV l)[i]? = some v) : ∃ x, l[i]? = some x ∧ v = .int .u8 (x : Int) := by
  unfold bV at h
  rw [List.getElem?_map] at h
  cases e : l[i]? with
  | none => rw [e] at h; cases h
  | some x => rw [e] at h; simp at h; exact ⟨x, rfl, h.symm⟩
theorem bV_one (l : List Nat) : ∀ u ∈ bV l, u.oneCell' = true := fun u hu => by
  obtain ⟨x, _, rfl⟩ := List.mem_map.1 hu
  rfl
/-- v is a slice whose n elements, of s cells each, are these cells; all of them lie in blocks of P -/
def SL (P : Nat → Prop) (W : World) (v : Value) (s n : Nat) (cs : List Value) : Prop := cs.length = n * s ∧ ∃ ad cap, v = .slice ad n cap ∧ n ≤ cap ∧ n ≤ 1152921504606846976 ∧ (ad = none → cap = 0) ∧ (0 < n → ∃ g a, ad = some ⟨g, a, none⟩ ∧ P g ∧ g < W.heap.size ∧ ∀ i c, cs[i]? = some c → W.cell? ⟨g, a + i, none⟩ = some c)
theorem SL.but {P S : Nat → Prop} {W W' : World} {v : Value} {s n : Nat} {cs : List Value} (h : SL P W v s n cs) (k : But S W W') (hs : ∀ g, P g → ¬ S g) : SL P W' v s n cs := by
  obtain ⟨hl, ad, cap, rfl, h0, h1, hz, h2⟩ := h
  exact ⟨hl, ad, cap, rfl, h0, h1, hz, fun hn => by
    obtain ⟨g, a, e, hp, hg, h3⟩ := h2 hn
    exact ⟨g, a, e, hp, Nat.lt_of_lt_of_le hg k.size, fun i c hc => (k.cell (p := ⟨g, a + i, none⟩) hg (hs g hp)).trans (h3 i c hc)⟩⟩
theorem SL.past {P : Nat → Prop} {W W' : World} {v : Value} {s n : Nat} {cs : List Value} (h : SL P W v s n cs) (k : Below W.heap.size W W') : SL P W' v s n cs := h.but (below_but (S := fun _ => False) k) (fun _ _ => id)
theorem SL.mono {P P' : Nat → Prop} {W : World} {v : Value} {s n : Nat} {cs : List Value} (h : SL P W v s n cs) (k : ∀ g, P g → g < W.heap.size → P' g) : SL P' W v s n cs := by
  obtain ⟨hl, ad, cap, rfl, h0, h1, hz, h2⟩ := h
  exact ⟨hl, ad, cap, rfl, h0, h1, hz, fun hn => by
    obtain ⟨g, a, e, hp, hg, h3⟩ := h2 hn
    exact ⟨g, a, e, k g hp hg, hg, h3⟩⟩
theorem SL.nil (P : Nat → Prop) (W : World) (s : Nat) : SL P W (.slice none 0 0) s 0 [] := ⟨by simp, none, 0, rfl, Nat.le_refl _, by omega, fun _ => rfl, fun h => absurd h (by omega)⟩
theorem SL.own {P : Nat → Prop} {W : World} {B : Nat} {t : TypeId} {v : Value} {s n : Nat} {cs : List Value} (h : W.ownsRow B t s v n cs) (hn : n ≤ 1152921504606846976) (hP : ∀ g, v.ownBlock = some g → P g) : SL P W v s n cs := by
  have hl := h.1
  have hlt := h.lt
  rcases h.2 with ⟨rfl, rfl⟩ | ⟨g, c, cur, rfl, hb, hh, hq, _, hz, ht⟩
  · have : cs = [] := List.eq_nil_of_length_eq_zero (by rw [hl]; omega)
    subst this
    exact SL.nil P W s
  · refine ⟨hl, _, c, rfl, hq, hn, (fun e => by cases e), fun _ => ⟨g, 0, rfl, hP g rfl, (hlt g rfl).2, fun i x hx => ?_⟩⟩
    rw [Nat.zero_add]
    have := h.cells (g := g) rfl i x hx
    simpa [Addr.add_mid] using this
theorem SL.box {P : Nat → Prop} {W : World} {B : Nat} {t : TypeId} {s n : Nat} {cs : List Value} (h : CBox W B t cs) (hl : cs.length = n * s) (hn : n ≤ 1152921504606846976) (hP : P B) : SL P W (.slice (some ⟨B, 0, none⟩) n n) s n cs :=
  ⟨hl, _, n, rfl, Nat.le_refl _, hn, (fun e => by cases e), fun _ => ⟨B, 0, rfl, hP, h.lt, fun i c hc => by rw [Nat.zero_add, h.cell]; exact hc⟩⟩
/-- bytes -/
def BL (P : Nat → Prop) (W : World) (v : Value) (l : List Nat) : Prop := SL P W v 1 l.length (bV l)
theorem BL.but {P S : Nat → Prop} {W W' : World} {v : Value} {l : List Nat} (h : BL P W v l) (k : But S W W') (hs : ∀ g, P g → ¬ S g) : BL P W' v l := SL.but h k hs
theorem BL.past {P : Nat → Prop} {W W' : World} {v : Value} {l : List Nat} (h : BL P W v l) (k : Below W.heap.size W W') : BL P W' v l := SL.past h k
theorem BL.mono {P P' : Nat → Prop} {W : World} {v : Value} {l : List Nat} (h : BL P W v l) (k : ∀ g, P g → g < W.heap.size → P' g) : BL P' W v l := SL.mono h k
theorem BL.nil (P : Nat → Prop) (W : World) : BL P W (.slice none 0 0) [] := SL.nil P W 1
theorem BL.len {P : Nat → Prop} {W : World} {v : Value} {l : List Nat} (h : BL P W v l) : ∃ ad cap, v = .slice ad l.length cap ∧ l.length ≤ cap ∧ l.length ≤ 1152921504606846976 := by
  obtain ⟨_, ad, cap, e, h0, h1, _⟩ := h
  exact ⟨ad, cap, e, h0, h1⟩
theorem BL.get {P : Nat → Prop} {W : World} {ad : Option Addr} {n cap : Nat} {l : List Nat} (h : BL P W (.slice ad n cap) l) {i x : Nat} (hi : l[i]? = some x) : ∃ g a, ad = some ⟨g, a, none⟩ ∧ W.cell? ⟨g, a + i, none⟩ = some (.int .u8 (x : Int)) := by
  obtain ⟨_, ad', cap', e, h0, h1, _, h2⟩ := h
  injection e with e1 e2 e3
  subst e1
  obtain ⟨g, a, e, _, _, h3⟩ := h2 (by have := (List.getElem?_eq_some_iff.1 hi).1; omega)
  exact ⟨g, a, e, h3 i _ (bV_get hi)⟩
/-- pieces: the values that stand there, and what each reads as -/
def PL (P : Nat → Prop) (W : World) (v : Value) (ll : List (List Nat)) : Prop := ∃ vs, SL P W v 1 ll.length vs ∧ ∀ (i : Nat) l, ll[i]? = some l → ∃ u, vs[i]? = some u ∧ BL P W u l
theorem PL.but {P S : Nat → Prop} {W W' : World} {v : Value} {ll : List (List Nat)} (h : PL P W v ll) (k : But S W W') (hs : ∀ g, P g → ¬ S g) : PL P W' v ll := by
  obtain ⟨vs, h1, h2⟩ := h
  exact ⟨vs, h1.but k hs, fun i l hi => by obtain ⟨u, h3, h4⟩ := h2 i l hi; exact ⟨u, h3, h4.but k hs⟩⟩
theorem PL.past {P : Nat → Prop} {W W' : World} {v : Value} {ll : List (List Nat)} (h : PL P W v ll) (k : Below W.heap.size W W') : PL P W' v ll := h.but (below_but (S := fun _ => False) k) (fun _ _ => id)
theorem PL.mono {P P' : Nat → Prop} {W : World} {v : Value} {ll : List (List Nat)} (h : PL P W v ll) (k : ∀ g, P g → g < W.heap.size → P' g) : PL P' W v ll := by
  obtain ⟨vs, h1, h2⟩ := h
  exact ⟨vs, h1.mono k, fun i l hi => by obtain ⟨u, h3, h4⟩ := h2 i l hi; exact ⟨u, h3, h4.mono k⟩⟩
theorem PL.nil (P : Nat → Prop) (W : World) : PL P W (.slice none 0 0) [] := ⟨[], SL.nil P W 1, fun i l hi => by cases hi⟩
theorem PL.len {P : Nat → Prop} {W : World} {v : Value} {l : List (List Nat)} (h : PL P W v l) : ∃ ad cap, v = .slice ad l.length cap ∧ l.length ≤ cap ∧ l.length ≤ 1152921504606846976 := by
  obtain ⟨_, ⟨_, ad, cap, e, h0, h1, _⟩, _⟩ := h
  exact ⟨ad, cap, e, h0, h1⟩
theorem PL.get {P : Nat → Prop} {W : World} {ad : Option Addr} {n cap : Nat} {ll : List (List Nat)} (h : PL P W (.slice ad n cap) ll) {i : Nat} {l : List Nat} (hi : ll[i]? = some l) : ∃ g a u, ad = some ⟨g, a, none⟩ ∧ W.cell? ⟨g, a + i, none⟩ = some u ∧ BL P W u l := by
  obtain ⟨vs, ⟨_, ad', cap', e, h0, h1, _, h2⟩, h4⟩ := h
  injection e with e1 e2 e3
  subst e1
  obtain ⟨g, a, e, _, _, h3⟩ := h2 (by have := (List.getElem?_eq_some_iff.1 hi).1; omega)
  obtain ⟨u, h5, h6⟩ := h4 i l hi
  exact ⟨g, a, u, e, h3 i _ h5, h6⟩
/-- a type: In, Out, Most -/
abbrev Ty := Int × Int × Int
def Ty.v (t : Ty) : Value := .agg #[.int .i64 t.1, .int .i64 t.2.1, .int .i64 t.2.2]
def tV (l : List Ty) : List Value := l.flatMap fun t => [.int .i64 t.1, .int .i64 t.2.1, .int .i64 t.2.2]
theorem tV_cons (t : Ty) (l : List Ty) : tV (t :: l) = .int .i64 t.1 :: .int .i64 t.2.1 :: .int .i64 t.2.2 :: tV l := rfl
theorem tV_app (l m : List Ty) : tV (l ++ m) = tV l ++ tV m := by simp [tV]
theorem tV_len : ∀ l : List Ty, (tV l).length = l.length * 3
  | [] => rfl
  | t :: l => by rw [tV_cons, List.length_cons, List.length_cons, List.length_cons, tV_len l, List.length_cons]; omega
theorem tV_get : ∀ (l : List Ty) (i : Nat) (t : Ty), l[i]? = some t → (tV l)[i * 3]? = some (.int .i64 t.1) ∧ (tV l)[i * 3 + 1]? = some (.int .i64 t.2.1) ∧ (tV l)[i * 3 + 2]? = some (.int .i64 t.2.2)
  | [], i, t, h => by simp at h
  | q :: l, 0, t, h => by
    simp at h
    subst h
    exact ⟨rfl, rfl, rfl⟩
  | q :: l, i + 1, t, h => by
    obtain ⟨h1, h2, h3⟩ := tV_get l i t (by simpa using h)
    rw [tV_cons, show (i + 1) * 3 = i * 3 + 1 + 1 + 1 by omega]
    exact ⟨by simpa using h1, by rw [show i * 3 + 1 + 1 + 1 + 1 = (i * 3 + 1) + 1 + 1 + 1 by omega]; simpa using h2, by rw [show i * 3 + 1 + 1 + 1 + 2 = (i * 3 + 2) + 1 + 1 + 1 by omega]; simpa using h3⟩
def TL (P : Nat → Prop) (W : World) (v : Value) (l : List Ty) : Prop := SL P W v 3 l.length (tV l)
theorem TL.but {P S : Nat → Prop} {W W' : World} {v : Value} {l : List Ty} (h : TL P W v l) (k : But S W W') (hs : ∀ g, P g → ¬ S g) : TL P W' v l := SL.but h k hs
theorem TL.past {P : Nat → Prop} {W W' : World} {v : Value} {l : List Ty} (h : TL P W v l) (k : Below W.heap.size W W') : TL P W' v l := SL.past h k
theorem TL.mono {P P' : Nat → Prop} {W : World} {v : Value} {l : List Ty} (h : TL P W v l) (k : ∀ g, P g → g < W.heap.size → P' g) : TL P' W v l := SL.mono h k
theorem TL.nil (P : Nat → Prop) (W : World) : TL P W (.slice none 0 0) [] := SL.nil P W 3
theorem TL.len {P : Nat → Prop} {W : World} {v : Value} {l : List Ty} (h : TL P W v l) : ∃ ad cap, v = .slice ad l.length cap ∧ l.length ≤ cap ∧ l.length ≤ 1152921504606846976 := by
  obtain ⟨_, ad, cap, e, h0, h1, _⟩ := h
  exact ⟨ad, cap, e, h0, h1⟩
theorem TL.get {P : Nat → Prop} {W : World} {ad : Option Addr} {n cap : Nat} {l : List Ty} (h : TL P W (.slice ad n cap) l) {i : Nat} {t : Ty} (hi : l[i]? = some t) : ∃ g a, ad = some ⟨g, a, none⟩ ∧ W.cell? ⟨g, a + i * 3, none⟩ = some (.int .i64 t.1) ∧ W.cell? ⟨g, a + i * 3 + 1, none⟩ = some (.int .i64 t.2.1) ∧ W.cell? ⟨g, a + i * 3 + 2, none⟩ = some (.int .i64 t.2.2) := by
  obtain ⟨_, ad', cap', e, h0, h1, _, h2⟩ := h
  injection e with e1 e2 e3
  subst e1
  obtain ⟨g, a, e, _, _, h3⟩ := h2 (by have := (List.getElem?_eq_some_iff.1 hi).1; omega)
  obtain ⟨k1, k2, k3⟩ := tV_get l i t hi
  exact ⟨g, a, e, h3 _ _ k1, by have := h3 _ _ k2; rwa [← Nat.add_assoc] at this, by have := h3 _ _ k3; rwa [← Nat.add_assoc] at this⟩
/-- a container -/
structure Con where
  ts : List Ty
  cs : List (List Nat)
  ss : List (List Nat)
  d : List Nat
  n : Int
/-- v is this container, its lists in blocks of P -/
def CW (P : Nat → Prop) (W : World) (v : Value) (c : Con) : Prop := ∃ tv cv sv dv, v = .agg #[tv, cv, sv, dv, .int .i64 c.n] ∧ TL P W tv c.ts ∧ PL P W cv c.cs ∧ PL P W sv c.ss ∧ BL P W dv c.d
theorem CW.but {P S : Nat → Prop} {W W' : World} {v : Value} {c : Con} (h : CW P W v c) (k : But S W W') (hs : ∀ g, P g → ¬ S g) : CW P W' v c := by
  obtain ⟨tv, cv, sv, dv, e, h1, h2, h3, h4⟩ := h
  exact ⟨tv, cv, sv, dv, e, h1.but k hs, h2.but k hs, h3.but k hs, h4.but k hs⟩
theorem CW.past {P : Nat → Prop} {W W' : World} {v : Value} {c : Con} (h : CW P W v c) (k : Below W.heap.size W W') : CW P W' v c := h.but (below_but (S := fun _ => False) k) (fun _ _ => id)
theorem CW.mono {P P' : Nat → Prop} {W : World} {v : Value} {c : Con} (h : CW P W v c) (k : ∀ g, P g → g < W.heap.size → P' g) : CW P' W v c := by
  obtain ⟨tv, cv, sv, dv, e, h1, h2, h3, h4⟩ := h
  exact ⟨tv, cv, sv, dv, e, h1.mono k, h2.mono k, h3.mono k, h4.mono k⟩
def con0 : Con := ⟨[], [], [], [], 0⟩
theorem CW.zero (P : Nat → Prop) (W : World) : CW P W (.agg #[.slice none 0 0, .slice none 0 0, .slice none 0 0, .slice none 0 0, .int .i64 0]) con0 := ⟨_, _, _, _, rfl, TL.nil P W, PL.nil P W, PL.nil P W, BL.nil P W⟩
/-- append: m elements behind a row of one's own -/
theorem wp_apps {w : World} {o : Oper} {a : Act} {K : Act → World → Prop} {Q : Exit → Act → World → Prop} (s x : Operand) (t e : TypeId)
    (ho : o.op = .call { callee := .builtin .append, args := #[s, x], argTypes := #[t, t] }) (z : Value) (size bytes : Nat) (ht : Try.prog.underlying t = some (.slice e)) (hi : (Try.prog.info? e).map (fun i => (i.zero, i.size, i.bytes)) = some (some z, size, bytes))
    (hzs : z.cells.size = size) (hsz : 0 < size) (hby : bytes ≤ 24) (B : Nat) (hB : B ≤ w.heap.size) (ad : Option Addr) (n cap : Nat) (xs : List Value) (hs : a.eval s = .slice ad n cap) (hown : w.ownsRow B e size (.slice ad n cap) n xs)
    (ad2 : Addr) (m c : Nat) (news : List Value) (hx : a.eval x = .slice (some ad2) m c) (hl : news.length = m * size) (hnews : ∀ j u, news[j]? = some u → w.cell? (ad2.add j) = some u) (h1 : ∀ u ∈ news, u.oneCell' = true) (hn : n + m ≤ 2199023255552)
    (h : ∀ ad' cap' w', w'.ownsRow B e size (.slice ad' (n + m) cap') (n + m) (xs ++ news) → But (Own ad) w w' → Fresh w ad ad' → K (a.put o.dst (.slice ad' (n + m) cap')) w') : o.wp Try.prog a w K Q := by
  obtain ⟨i, hi0, hz0, hz1, hz2⟩ := info_parts hi
  refine wp_append_strong s x t ho B e i z size bytes ht hi0 hz0 hz1 hz2 hzs hsz (.slice ad n cap) n xs hs hown ad2 m c news hx hl hnews h1 (by unfold maxLen; omega) ?_ hB ?_
  · have : (n + m) * bytes ≤ 2199023255552 * 24 := Nat.mul_le_mul hn hby
    omega
  · intro v' w' h2 _ h4
    obtain ⟨ad', cap', rfl, h5, h6⟩ := grew_one h4
    exact h ad' cap' w' h2 h5 h6
end Go.Proofs.Ytndhabhlajldeaa
/- What the document says of containers, as functions on lists: numbers in bytes, Check, Serialize, the header, Parse, Lay. -/
namespace Go.Proofs.Ytndhabhlajldeaa
/-- the number that bytes are -/
def num (l : List Nat) : Nat := l.foldl (fun n b => 256 * n + b) 0
theorem num_snoc (l : List Nat) (x : Nat) : num (l ++ [x]) = 256 * num l + x := by simp [num]
def Byt (l : List Nat) : Prop := ∀ x ∈ l, x < 256
theorem num_lt (l : List Nat) (h : Byt l) : num l < 256 ^ l.length := by
  have key : ∀ (r : List Nat) (n : Nat), Byt r → r.foldl (fun n b => 256 * n + b) n < (n + 1) * 256 ^ r.length := by
    intro r
    induction r with
    | nil => intro n _; simp
    | cons x r ih =>
      intro n hr
      have h1 := ih (256 * n + x) (fun y hy => hr y (List.mem_cons_of_mem _ hy))
      have h2 := hr x (List.mem_cons_self ..)
      rw [List.foldl_cons, List.length_cons, Nat.pow_succ]
      refine Nat.lt_of_lt_of_le h1 ?_
      have : 256 * n + x + 1 ≤ (n + 1) * 256 := by omega
      have e : ((n + 1) * 256) * 256 ^ r.length = (n + 1) * (256 ^ r.length * 256) := by rw [Nat.mul_assoc, Nat.mul_comm 256]
      rw [← e]
      exact Nat.mul_le_mul_right _ this
  simpa [num] using key l 0 h
/-- the bytes of a number, the highest first -/
def dig : Nat → Nat → List Nat
  | 0, _ => []
  | w + 1, n => dig w (n / 256) ++ [n % 256]
theorem dig_len : ∀ w n, (dig w n).length = w
  | 0, _ => rfl
  | w + 1, n => by rw [dig, List.length_append, dig_len w]; rfl
theorem num_dig : ∀ w n, num (dig w n) = n % 256 ^ w
  | 0, n => by simp [dig, num, Nat.mod_one]
  | w + 1, n => by
    rw [dig, num_snoc, num_dig w, Nat.pow_succ, Nat.mul_comm (256 ^ w), Nat.mod_mul]
    omega
theorem dig_num : ∀ (w : Nat) (l : List Nat), l.length = w → Byt l → dig w (num l) = l
  | 0, l, hl, _ => by rw [List.eq_nil_of_length_eq_zero hl]; rfl
  | w + 1, l, hl, hb => by
    have hne : l ≠ [] := by intro e; subst e; simp at hl
    obtain ⟨r, x, rfl⟩ : ∃ r x, l = r ++ [x] := ⟨l.dropLast, l.getLast hne, (List.dropLast_concat_getLast hne).symm⟩
    have hx : x < 256 := hb x (by simp)
    rw [num_snoc, dig, show (256 * num r + x) / 256 = num r by omega, show (256 * num r + x) % 256 = x by omega, dig_num w r (by simpa using hl) (fun y hy => hb y (List.mem_append_left _ hy))]
/-- which of a type's numbers may not be: 0 In, 1 Out, 2 Most; 3: all may -/
def okIn (i : Nat) (x : Int) : Bool := x == 0 || (decide (0 < i) && (decide (0 < x) && decide (x ≤ 127)))
def okOut (i : Nat) (x : Int) : Bool := x == 128 || (decide (0 < i) && (decide (0 ≤ x) && decide (x < 128)))
def okMost (x : Int) : Bool := decide (0 ≤ x) && decide (x ≤ 1023)
def tyBad (i : Nat) (t : Ty) : Nat := if okIn i t.1 = false then 0 else if okOut i t.2.1 = false then 1 else if okMost t.2.2 = false then 2 else 3
/-- pieces: each has a byte, none too many -/
def chkP (most : Nat) : List (List Nat) → Int
  | [] => 0
  | l :: r => if l.length = 0 then 56 else if most < l.length then 2 else chkP most r
def chkT : Nat → List Ty → Int
  | _, [] => 0
  | i, t :: r => if tyBad i t < 3 then 59 else chkT (i + 1) r
/-- 5.1 -/
def chk (c : Con) : Int :=
  if c.cs.length = 0 ∨ 1024 < c.cs.length then 55 else if c.ts.length ≠ c.cs.length then 54
  else if chkP 65535 c.cs ≠ 0 then chkP 65535 c.cs else if 256 < c.ss.length then 57
  else if chkP 4294967295 c.ss ≠ 0 then chkP 4294967295 c.ss else if 65535 < c.n then 2
  else if c.n < (c.d.length : Int) then 1 else chkT 0 c.ts
/-- the header's bytes -/
def hd (cs ss : List Nat) (n : Nat) : List Nat :=
  [239, 0, 1] ++ ([1] ++ dig 2 (4 * cs.length)) ++ ([2] ++ dig 2 cs.length ++ cs.flatMap (dig 2)) ++ (if ss.length = 0 then [] else [3] ++ dig 2 ss.length ++ ss.flatMap (dig 4)) ++ ([255] ++ dig 2 n) ++ [0]
def tyb (t : Ty) : List Nat := dig 1 t.1.toNat ++ dig 1 t.2.1.toNat ++ dig 2 t.2.2.toNat
def lns (l : List (List Nat)) : List Nat := l.map List.length
/-- 5.2 -/
def ser (c : Con) : List Nat := hd (lns c.cs) (lns c.ss) c.n.toNat ++ c.ts.flatMap tyb ++ c.cs.flatten ++ c.ss.flatten ++ c.d
/-- a number of w bytes at place k -/
def rd (b : List Nat) (k w : Nat) : Nat := num ((b.drop k).take w)
/-- what is wrong, and where -/
abbrev Er := Nat × Nat
/-- a field of w bytes at place k -/
def fld (b : List Nat) (k w why : Nat) (p : Nat → Bool) : Except Er Nat :=
  if b.length < k + w then .error (50, b.length) else if p (rd b k w) then .ok (rd b k w) else .error (why, k)
/-- m lengths of w bytes each -/
def lens (b : List Nat) (w : Nat) : Nat → Nat → Except Er (List Nat)
  | _, 0 => .ok []
  | k, m + 1 => (fld b k w 56 (fun n => decide (0 < n))).bind fun n => (lens b w (k + w) m).bind fun r => .ok (n :: r)
def pT (n : Nat) : Bool := decide (0 < n) && (n % 4 == 0 && decide (n ≤ 4096))
def pK (n : Nat) : Bool := n == 3 || n == 255
def pS (n : Nat) : Bool := decide (0 < n) && decide (n ≤ 256)
/-- what a header says: lengths, the declared length, where it ends -/
structure Hd where
  cs : List Nat
  ss : List Nat
  d : Nat
  e : Nat
def hdEnd (b : List Nat) (k : Nat) (cs ss : List Nat) : Except Er Hd := (fld b k 2 0 (fun _ => true)).bind fun d => (fld b (k + 2) 1 53 (fun n => n == 0)).bind fun _ => .ok ⟨cs, ss, d, k + 3⟩
def hdSubs (b : List Nat) (k : Nat) (cs : List Nat) : Except Er Hd :=
  (fld b k 2 57 pS).bind fun s => (lens b 4 (k + 2) s).bind fun ss => (fld b (k + 2 + 4 * s) 1 53 (fun n => n == 255)).bind fun _ => hdEnd b (k + 2 + 4 * s + 1) cs ss
def hdKind (b : List Nat) (k : Nat) (cs : List Nat) : Except Er Hd := (fld b k 1 53 pK).bind fun q => if q = 3 then hdSubs b (k + 1) cs else hdEnd b (k + 1) cs []
def hdr (b : List Nat) : Except Er Hd :=
  (fld b 0 1 51 (fun n => n == 239)).bind fun _ => (fld b 1 1 51 (fun n => n == 0)).bind fun _ => (fld b 2 1 52 (fun n => n == 1)).bind fun _ => (fld b 3 1 53 (fun n => n == 1)).bind fun _ =>
  (fld b 4 2 54 pT).bind fun t => (fld b 6 1 53 (fun n => n == 2)).bind fun _ => (fld b 7 2 55 (fun n => n == t / 4)).bind fun m => (lens b 2 9 m).bind fun cs => hdKind b (9 + 2 * m) cs
def sumL (l : List Nat) : Nat := l.foldl (· + ·) 0
/-- the types, from section i on -/
def tyAt (b : List Nat) (k i : Nat) : Except Er Ty :=
  (fld b k 1 59 (fun n => okIn i n)).bind fun x => (fld b (k + 1) 1 59 (fun n => okOut i n)).bind fun y => (fld b (k + 2) 2 59 (fun n => okMost n)).bind fun z => .ok ((x : Int), (y : Int), (z : Int))
def tys (b : List Nat) : Nat → Nat → Nat → Except Er (List Ty)
  | _, _, 0 => .ok []
  | k, i, m + 1 => (tyAt b k i).bind fun t => (tys b (k + 4) (i + 1) m).bind fun r => .ok (t :: r)
/-- pieces of these lengths, from a place on -/
def cuts (b : List Nat) : Nat → List Nat → List (List Nat)
  | _, [] => []
  | k, n :: r => (b.drop k).take n :: cuts b (k + n) r
/-- 5.3 -/
def prs (b : List Nat) (opn : Bool) : Except Er Con := (hdr b).bind fun h =>
  let body := h.e + 4 * h.cs.length
  let data := body + sumL h.cs + sumL h.ss
  if b.length < (if opn then data else data + h.d) then .error (50, b.length) else if data + h.d < b.length then .error (58, data + h.d)
  else (tys b h.e 0 h.cs.length).bind fun ts => .ok ⟨ts, cuts b body h.cs, cuts b (body + sumL h.cs) h.ss, b.drop data, (h.d : Int)⟩
end Go.Proofs.Ytndhabhlajldeaa
/- How arguments read: numbers, bools, bytes. -/
namespace Go.Proofs.Ytndhabhlajldeaa
open Go.ChangeShapes Go.WideShapes Go.ChangeAt Go.RowKit
theorem Try.own : ownKnob Try.prog.godebug = none := by kernel_rfl
theorem Try.laidOut : laidOutB Try.prog = true := by kernel_rfl
set_option maxRecDepth 100000 in
theorem openBo {W : World} {b0 : Nat} {r : Reach} {v : Value} (hv : Value.okWide Try.prog W r b0 4 v) : ∃ o : Bool, v = .bool o := okWide_bool Try.underlying4 hv
theorem c8b : Try.prog.cellsOf 5 = 1 := by kernel_rfl
/-- a row of bytes in memory -/
theorem ints_bl {W : World} {a : Addr} {len cap : Nat} {zs : List Int} (hl : len ≤ cap) (hm : len ≤ 140737488355328) (hcell : ∀ i, i < len → W.cell? (a.add i) = some (.int .u8 (zs.getD i 0))) (h8 : ∀ i, 0 ≤ zs.getD i 0 ∧ zs.getD i 0 < 256) :
    ∃ l : List Nat, BL (fun _ => True) W (.slice (some a) len cap) l ∧ Byt l ∧ l.length ≤ 140737488355328 := by
  refine ⟨(List.range len).map fun i => (zs.getD i 0).toNat, ⟨by rw [bV_len, Nat.mul_one], some a, cap, by simp, by simpa using hl, by simp; omega, fun e => (by cases e), fun hn => ?_⟩, fun x hx => ?_, by simp; omega⟩
  · simp at hn
    obtain ⟨ab, ao, spot⟩ := a
    have hspot : spot = none := by simpa [Addr.add] using World.cell?_spot (hcell 0 (by omega))
    subst hspot
    have h0 := hcell 0 hn
    rw [Addr.add_mid] at h0
    refine ⟨ab, ao, rfl, trivial, World.block_lt_of_cell? W _ h0, fun i c hc => ?_⟩
    obtain ⟨x, hx, rfl⟩ := bV_inv hc
    have hi : i < len := by have := (List.getElem?_eq_some_iff.1 hx).1; simpa using this
    rw [List.getElem?_map, List.getElem?_range hi] at hx
    simp at hx
    have hc := hcell i hi
    rw [Addr.add_mid] at hc
    rw [hc, ← hx]
    have := h8 i
    rw [List.getD_eq_getElem?_getD] at this ⊢
    rw [Int.toNat_of_nonneg this.1]
  · obtain ⟨i, _, rfl⟩ := List.mem_map.1 hx
    have := h8 i
    omega
set_option maxRecDepth 100000 in
theorem openBL {H : Type} {enc : TypeId × Value → H} {W : World} {base b0 : Nat} {r : Reach} {held : Bool} {v : Value} {d : DataW H} {ps : List MemPlace}
    (hv : Value.okWide Try.prog W r b0 22 v) (h : DataW.Trod enc Try.prog W base (fun _ => true) held 22 v d ps) (hs : ∀ k ∈ d.weights Try.prog 22, k ≤ reachBytes) :
    ∃ l : List Nat, BL (fun _ => True) W v l ∧ Byt l ∧ l.length ≤ 140737488355328 := by
  obtain ⟨a1, len, cap, rfl⟩ := okWide_slice Try.underlying22 hv
  obtain ⟨fuel, hf⟩ := h
  have hln : len ≤ 140737488355328 := by
    rcases DataW.trod_slice Try.underlying22 hf with ⟨hcs, hx⟩ | ⟨a, len', cap', elems, rest, n, _, hcs, hx, hb, hl, hm, hlen, hel, _, _⟩
    · simp [Value.cells] at hcs
      obtain ⟨rfl, rfl, rfl⟩ := hcs
      omega
    · simp [Value.cells] at hcs
      obtain ⟨rfl, rfl, rfl⟩ := hcs
      have hd : d = .slice (elems.map (·.1)) (rest.map (·.1)) := congrArg Prod.fst hx
      have hk := hs (elems.length * Try.prog.bytesOf 5 + rest.length * Try.prog.bytesOf 5) (by
        rw [hd]
        simp only [DataW.weights, Try.underlying22, List.mem_cons, List.mem_append]
        left
        simp [Nat.add_mul])
      have hb8 : Try.prog.bytesOf 5 = 1 := by kernel_rfl
      rw [hb8] at hk
      unfold reachBytes at hk
      omega
  rcases open_ints Try.underlying22 Try.underlying5 c8b hf with ⟨hcs, hx⟩ | ⟨a, len', cap', zs, hcs, _, hl, hm, hz, hx, hcell, hwz⟩
  · simp [Value.cells] at hcs
    obtain ⟨rfl, rfl, rfl⟩ := hcs
    exact ⟨[], BL.nil _ _, (fun x hx => by cases hx), by simp⟩
  · simp [Value.cells] at hcs
    obtain ⟨rfl, rfl, rfl⟩ := hcs
    simp only [if_true] at hz
    have h8 : ∀ i, 0 ≤ zs.getD i 0 ∧ zs.getD i 0 < 256 := fun i => by
      have := range_u8 hwz i; rw [← List.getD_eq_getElem?_getD] at this; omega
    exact ints_bl hl hln (fun i hi => hcell i (by omega)) h8
end Go.Proofs.Ytndhabhlajldeaa
/- Package container: checkPieces, the parts of a type, checkTypes, Check. -/
namespace Go.Proofs.Ytndhabhlajldeaa
open Go.RowKit
theorem drop_at {α : Type} {l : List α} {k : Nat} {x : α} (h : l[k]? = some x) : l.drop k = x :: l.drop (k + 1) := by
  obtain ⟨hk, rfl⟩ := List.getElem?_eq_some_iff.1 h
  exact List.drop_eq_getElem_cons hk
set_option maxHeartbeats 2000000 in
set_option maxRecDepth 100000 in
theorem checkPieces_is {P : Nat → Prop} (w : World) (v : Value) (ll : List (List Nat)) (m : Nat) (h : PL P w v ll) (hm : m ≤ 4294967295) : Calls Try.prog 56 #[v, .int .u64 (m : Int)] w fun e w' => e = .returned (.int .i64 (chkP m ll)) ∧ w' = w := by
  obtain ⟨ad, cap, rfl, hc0, hc1⟩ := h.len
  have HP : Hid (PL P w (.slice ad ll.length cap) ll) := h
  have HD : Hid (chkP m ll = chkP m (ll.drop 0)) := by unfold Hid; rw [List.drop_zero]
  have nI : (ll.length : Int) ≤ 1152921504606846976 := by omega
  have HM : Hid (m ≤ 4294967295) := hm
  generalize hn : ll.length = n at *
  have HN : Hid (ll.length = n) := hn
  clear h hc0 hc1 hm hn
  generalize hr : chkP m ll = r at *
  clear hr
  go_enter Try.func56, Try.ntmps56
  go_wp2
  go_loopw [9] (fun s9 wr => ∃ k : Nat, s9 = .int .i64 (k : Int) ∧ k ≤ n ∧ wr = w ∧ r = chkP m (ll.drop k)) (fun s9 _ => n - (intOf s9).toNat)
  case atStart => exact ⟨0, rfl, by omega, rfl, HD.out⟩
  case round =>
    obtain ⟨k, rfl, hk, rfl, hr⟩ := hrel
    have HR : Hid (r = chkP m (ll.drop k)) := hr
    clear hr HD
    by_cases e : k = n
    · subst e
      have E0 : Hid (r = 0) := by unfold Hid; rw [HR.out, List.drop_eq_nil_of_le (by have := HN.out; omega)]; rfl
      go_wp2
      go_ret
      exact ⟨by rw [E0.out]; rfl, rfl⟩
    · have kn : k < n := by omega
      have knI : (k : Int) < (n : Int) := by omega
      obtain ⟨l, hl⟩ : ∃ l, ll[k]? = some l := ⟨ll[k]'(by have := HN.out; omega), List.getElem?_eq_getElem _⟩
      obtain ⟨g, a, u, rfl, hcell, hb⟩ := HP.out.get hl
      obtain ⟨ad2, cap2, rfl, _, hl1⟩ := hb.len
      have HL : Hid (ll[k]? = some l) := hl
      have mI : (l.length : Int) ≤ 1152921504606846976 := by omega
      have EL : Hid (chkP m (ll.drop k) = if l.length = 0 then 56 else if m < l.length then 2 else chkP m (ll.drop (k + 1))) := by unfold Hid; rw [drop_at HL.out]; rfl
      clear hl hb hl1
      generalize hq : l.length = q at *
      clear hq
      by_cases e0 : q = 0
      · subst e0
        have E0 : Hid (r = 56) := by unfold Hid; rw [HR.out, EL.out, if_pos rfl]
        go_wp2
        go_ret
        exact ⟨by rw [E0.out]; rfl, rfl⟩
      · have wq : IntKind.u64.wrap (q : Int) = (q : Int) := by rw [IntKind.wrap_u64]; omega
        have q0 : ((q : Int) == 0) = false := by simp; omega
        by_cases e1 : m < q
        · have E0 : Hid (r = 2) := by unfold Hid; rw [HR.out, EL.out, if_neg e0, if_pos e1]
          have c1 : (m : Int) < (q : Int) := by omega
          clear e0
          go_wp2
          go_ret
          exact ⟨by rw [E0.out]; rfl, rfl⟩
        · have E0 : Hid (r = chkP m (ll.drop (k + 1))) := by unfold Hid; rw [HR.out, EL.out, if_neg e0, if_neg e1]
          have c1 : ¬ (m : Int) < (q : Int) := by omega
          clear e0 e1
          go_wp2
          go_roundw
          case rel => exact ⟨k + 1, by first | rfl | go_num, by omega, by first | rfl | trivial, E0.out⟩
          case measure => simp [intOf]; omega
theorem of0_is (w : World) (b o : Nat) : Calls Try.prog 106 #[.pointer (some ⟨b, o, none⟩)] w fun e w' => e = .returned (.pointer (some ⟨b, o, none⟩)) ∧ w' = w := by
  go_enter Try.func106, Try.ntmps106
  go_wp2
  go_ret
  exact ⟨rfl, rfl⟩
theorem of1_is (w : World) (b o : Nat) : Calls Try.prog 108 #[.pointer (some ⟨b, o, none⟩)] w fun e w' => e = .returned (.pointer (some ⟨b, o + 1, none⟩)) ∧ w' = w := by
  go_enter Try.func108, Try.ntmps108
  go_wp2
  go_ret
  exact ⟨rfl, rfl⟩
theorem of2_is (w : World) (b o : Nat) : Calls Try.prog 110 #[.pointer (some ⟨b, o, none⟩)] w fun e w' => e = .returned (.pointer (some ⟨b, o + 2, none⟩)) ∧ w' = w := by
  go_enter Try.func110, Try.ntmps110
  go_wp2
  go_ret
  exact ⟨rfl, rfl⟩
set_option maxHeartbeats 1000000 in
theorem right0_is (w : World) (i : Nat) (x : Int) : Calls Try.prog 107 #[.int .i64 (i : Int), .int .i64 x] w fun e w' => e = .returned (.bool (okIn i x)) ∧ w' = w := by
  by_cases e0 : x = 0
  · subst e0
    go_enter Try.func107, Try.ntmps107
    go_wp2
    go_ret
    exact ⟨by simp [okIn], rfl⟩
  have c0 : (x == 0) = false := by simpa using e0
  by_cases e1 : i = 0
  · subst e1
    have E : Hid (okIn 0 x = false) := by unfold Hid okIn; simp [e0]
    clear e0
    generalize okIn 0 x = r at *
    go_enter Try.func107, Try.ntmps107
    go_wp2
    go_ret
    exact ⟨by rw [E.out]; rfl, rfl⟩
  have c1 : (0 : Int) < (i : Int) := by omega
  have E : Hid (okIn i x = (decide (0 < x) && decide (x ≤ 127))) := by unfold Hid okIn; rw [c0, Bool.false_or, decide_eq_true (show 0 < i by omega), Bool.true_and]
  generalize okIn i x = r at *
  clear e0 e1
  by_cases e2 : 0 < x
  · by_cases e3 : x ≤ 127
    · go_enter Try.func107, Try.ntmps107
      go_wp2
      go_ret
      exact ⟨by rw [E.out]; simp [e2, e3], rfl⟩
    · go_enter Try.func107, Try.ntmps107
      go_wp2
      go_ret
      exact ⟨by rw [E.out]; simp [e2, e3], rfl⟩
  · go_enter Try.func107, Try.ntmps107
    go_wp2
    go_ret
    exact ⟨by rw [E.out, decide_eq_false (show ¬ 0 < x by omega)]; rfl, rfl⟩
set_option maxHeartbeats 1000000 in
theorem right1_is (w : World) (i : Nat) (x : Int) : Calls Try.prog 109 #[.int .i64 (i : Int), .int .i64 x] w fun e w' => e = .returned (.bool (okOut i x)) ∧ w' = w := by
  by_cases e0 : x = 128
  · subst e0
    go_enter Try.func109, Try.ntmps109
    go_wp2
    go_ret
    exact ⟨by simp [okOut], rfl⟩
  have c0 : (x == 128) = false := by simpa using e0
  by_cases e1 : i = 0
  · subst e1
    have E : Hid (okOut 0 x = false) := by unfold Hid okOut; simp [e0]
    clear e0
    generalize okOut 0 x = r at *
    go_enter Try.func109, Try.ntmps109
    go_wp2
    go_ret
    exact ⟨by rw [E.out]; rfl, rfl⟩
  have c1 : (0 : Int) < (i : Int) := by omega
  have E : Hid (okOut i x = (decide (0 ≤ x) && decide (x < 128))) := by unfold Hid okOut; rw [c0, Bool.false_or, decide_eq_true (show 0 < i by omega), Bool.true_and]
  generalize okOut i x = r at *
  clear e0 e1
  by_cases e2 : 0 ≤ x
  · by_cases e3 : x < 128
    · go_enter Try.func109, Try.ntmps109
      go_wp2
      go_ret
      exact ⟨by rw [E.out]; simp [e2, e3], rfl⟩
    · go_enter Try.func109, Try.ntmps109
      go_wp2
      go_ret
      exact ⟨by rw [E.out]; simp [e2, e3], rfl⟩
  · go_enter Try.func109, Try.ntmps109
    go_wp2
    go_ret
    exact ⟨by rw [E.out, decide_eq_false (show ¬ 0 ≤ x by omega)]; rfl, rfl⟩
set_option maxHeartbeats 1000000 in
theorem right2_is (w : World) (i : Nat) (x : Int) : Calls Try.prog 111 #[.int .i64 (i : Int), .int .i64 x] w fun e w' => e = .returned (.bool (okMost x)) ∧ w' = w := by
  by_cases e2 : 0 ≤ x
  · by_cases e3 : x ≤ 1023
    · go_enter Try.func111, Try.ntmps111
      go_wp2
      go_ret
      exact ⟨by simp [okMost, e2, e3], rfl⟩
    · go_enter Try.func111, Try.ntmps111
      go_wp2
      go_ret
      exact ⟨by simp [okMost, e2, e3], rfl⟩
  · go_enter Try.func111, Try.ntmps111
    go_wp2
    go_ret
    exact ⟨by rw [okMost, decide_eq_false (show ¬ 0 ≤ x by omega)]; rfl, rfl⟩
def pF (n : Nat) : Value := .func (.func n) #[] #[]
def partsL : List Value := [.int .i64 1, pF 106, pF 107, .int .i64 1, pF 108, pF 109, .int .i64 2, pF 110, pF 111]
def partsV : Value := .agg partsL.toArray
set_option maxHeartbeats 1000000 in
theorem typeParts_is (w : World) : Calls Try.prog 87 #[] w fun e w' => e = .returned partsV ∧ Below w.heap.size w w' := by
  have B0 : Hid (Below w.heap.size w (w.alloc (.cells partsL.toArray 109))) := (Below.refl _ _).alloc (Nat.le_refl _) _
  go_enter Try.func87, Try.ntmps87
  go_wp2
  exact bodyPost_ret (v := partsV) (by simp [results, Try.results87, go_sem, partsV, partsL, pF]) rfl ⟨rfl, B0.out⟩
end Go.Proofs.Ytndhabhlajldeaa
/- Package container: checkTypes, Check. -/
namespace Go.Proofs.Ytndhabhlajldeaa
open Go.RowKit
/-- the boxes of checkTypes: the parts, and the type that is looked at -/
structure CkT (w V : World) (bp bt : Nat) (t : Ty) : Prop where
  bel : Below w.heap.size w V
  cp : CBox V bp 109 partsL
  ct : CBox V bt 77 [.int .i64 t.1, .int .i64 t.2.1, .int .i64 t.2.2]
theorem CBox.past {W W' : World} {B : Nat} {t : TypeId} {l : List Value} (h : CBox W B t l) (k : Below W.heap.size W W') : CBox W' B t l := h.but (below_but (S := fun _ => False) k) id
theorem CkT.past {w V V' : World} {bp bt : Nat} {t : Ty} (h : CkT w V bp bt t) (k : Below V.heap.size V V') : CkT w V' bp bt t := ⟨h.bel.trans (k.mono h.bel.size), h.cp.past k, h.ct.past k⟩
theorem below_drew {V : World} : Below V.heap.size V V.drew := (Below.refl _ _).drew
theorem below_alloc (V : World) (o : Obj) : Below V.heap.size V (V.alloc o) := (Below.refl _ _).alloc (Nat.le_refl _) _
/-- a box with a part -/
theorem tyBad_of {i : Nat} {t : Ty} (h0 : okIn i t.1 = true) (h1 : okOut i t.2.1 = true) (h2 : okMost t.2.2 = true) : tyBad i t = 3 := by unfold tyBad; simp [h0, h1, h2]
theorem ixp0 (W : World) : Sem.run Try.prog (Instr.index 109 (.agg #[.int .i64 1, .func (.func 106) #[] #[], .func (.func 107) #[] #[], .int .i64 1, .func (.func 108) #[] #[], .func (.func 109) #[] #[], .int .i64 2, .func (.func 110) #[] #[], .func (.func 111) #[] #[]]) (.int .i64 0)) W = .ok (.agg #[.int .i64 1, .func (.func 106) #[] #[], .func (.func 107) #[] #[]]) W := by kernel_rfl
theorem ixp1 (W : World) : Sem.run Try.prog (Instr.index 109 (.agg #[.int .i64 1, .func (.func 106) #[] #[], .func (.func 107) #[] #[], .int .i64 1, .func (.func 108) #[] #[], .func (.func 109) #[] #[], .int .i64 2, .func (.func 110) #[] #[], .func (.func 111) #[] #[]]) (.int .i64 1)) W = .ok (.agg #[.int .i64 1, .func (.func 108) #[] #[], .func (.func 109) #[] #[]]) W := by kernel_rfl
theorem ixp2 (W : World) : Sem.run Try.prog (Instr.index 109 (.agg #[.int .i64 1, .func (.func 106) #[] #[], .func (.func 107) #[] #[], .int .i64 1, .func (.func 108) #[] #[], .func (.func 109) #[] #[], .int .i64 2, .func (.func 110) #[] #[], .func (.func 111) #[] #[]]) (.int .i64 2)) W = .ok (.agg #[.int .i64 2, .func (.func 110) #[] #[], .func (.func 111) #[] #[]]) W := by kernel_rfl
set_option maxHeartbeats 4000000 in
set_option maxRecDepth 100000 in
theorem checkTypes_is {P : Nat → Prop} (w : World) (v : Value) (ts : List Ty) (h : TL P w v ts) : Calls Try.prog 57 #[v] w fun e w' => e = .returned (.int .i64 (chkT 0 ts)) ∧ Below w.heap.size w w' := by
  obtain ⟨ad, cap, rfl, hc0, hc1⟩ := h.len
  have HP : Hid (TL P w (.slice ad ts.length cap) ts) := h
  have HD : Hid (chkT 0 ts = chkT 0 (ts.drop 0)) := by unfold Hid; rw [List.drop_zero]
  have nI : (ts.length : Int) ≤ 1152921504606846976 := by omega
  generalize hn : ts.length = n at *
  have HN : Hid (ts.length = n) := hn
  clear h hc0 hc1 hn
  generalize hr : chkT 0 ts = r at *
  clear hr
  go_enter Try.func57, Try.ntmps57
  go_upto_region 2 with (go_at_call 87; refine (typeParts_is _).mono ?_; rintro e w1 ⟨rfl, hB1⟩; unfold partsV partsL pF)
  have C0 : Hid (Below w.heap.size w (w1.alloc (.cells partsL.toArray 109)) ∧ CBox (w1.alloc (.cells partsL.toArray 109)) w1.heap.size 109 partsL) := ⟨hB1.trans ((below_alloc _ _).mono hB1.size), CBox.new _ _ _⟩
  unfold partsL pF at C0
  clear hB1
  generalize w1.alloc _ = V0 at C0 ⊢
  generalize w1.heap.size = bp at C0 ⊢
  go_wp2
  go_loopw [11] (fun s11 wr => ∃ k : Nat, s11 = .int .i64 (k : Int) ∧ k ≤ n ∧ r = chkT k (ts.drop k) ∧ Below w.heap.size w wr ∧ CBox wr bp 109 partsL) (fun s11 _ => n - (intOf s11).toNat)
  case atStart => exact ⟨0, rfl, by omega, HD.out, C0.out⟩
  case round =>
    obtain ⟨k, rfl, hk, hr, hB, hC⟩ := hrel
    have HR : Hid (r = chkT k (ts.drop k)) := hr
    have HB : Hid (Below w.heap.size w wr ∧ CBox wr bp 109 partsL) := ⟨hB, hC⟩
    clear hr HD C0 hB hC
    by_cases e : k = n
    · subst e
      have E0 : Hid (r = 0) := by unfold Hid; rw [HR.out, List.drop_eq_nil_of_le (by have := HN.out; omega)]; rfl
      go_wp2
      go_ret
      exact ⟨by rw [E0.out]; rfl, HB.out.1⟩
    · have kn : k < n := by omega
      have knI : (k : Int) < (n : Int) := by omega
      obtain ⟨⟨t1, t2, t3⟩, hl⟩ : ∃ t, ts[k]? = some t := ⟨ts[k]'(by have := HN.out; omega), List.getElem?_eq_getElem _⟩
      obtain ⟨g, a, rfl, d0, d1, d2⟩ := HP.out.get hl
      have EL : Hid (chkT k (ts.drop k) = if tyBad k (t1, t2, t3) < 3 then 59 else chkT (k + 1) (ts.drop (k + 1))) := by unfold Hid; rw [drop_at hl]; rfl
      have f0 := (HB.out.1.cell (p := ⟨g, a + k * 3, none⟩) (World.block_lt_of_cell? w _ d0)).trans d0
      have f1 := (HB.out.1.cell (p := ⟨g, a + k * 3 + 1, none⟩) (World.block_lt_of_cell? w _ d1)).trans d1
      have f2 := (HB.out.1.cell (p := ⟨g, a + k * 3 + 2, none⟩) (World.block_lt_of_cell? w _ d2)).trans d2
      have CT : Hid (CkT w (wr.alloc (.cells #[.int .i64 t1, .int .i64 t2, .int .i64 t3] 77)) bp wr.heap.size (t1, t2, t3)) := ⟨HB.out.1.trans ((below_alloc _ _).mono HB.out.1.size), HB.out.2.past (below_alloc _ _), CBox.new _ _ [_, _, _]⟩
      clear hl d0 d1 d2
      go_upto_region 5 with fail
      generalize wr.alloc _ = V1 at CT ⊢
      generalize wr.heap.size = bt at CT ⊢
      clear f0 f1 f2
      have p0 : V1.cell? ⟨bp, 0, none⟩ = some (.int .i64 1) := CT.out.cp.cell 0
      have p1 : V1.cell? ⟨bp, 1, none⟩ = some (.func (.func 106) #[] #[]) := CT.out.cp.cell 1
      have p2 : V1.cell? ⟨bp, 2, none⟩ = some (.func (.func 107) #[] #[]) := CT.out.cp.cell 2
      have p3 : V1.cell? ⟨bp, 3, none⟩ = some (.int .i64 1) := CT.out.cp.cell 3
      have p4 : V1.cell? ⟨bp, 4, none⟩ = some (.func (.func 108) #[] #[]) := CT.out.cp.cell 4
      have p5 : V1.cell? ⟨bp, 5, none⟩ = some (.func (.func 109) #[] #[]) := CT.out.cp.cell 5
      have p6 : V1.cell? ⟨bp, 6, none⟩ = some (.int .i64 2) := CT.out.cp.cell 6
      have p7 : V1.cell? ⟨bp, 7, none⟩ = some (.func (.func 110) #[] #[]) := CT.out.cp.cell 7
      have p8 : V1.cell? ⟨bp, 8, none⟩ = some (.func (.func 111) #[] #[]) := CT.out.cp.cell 8
      go_wp2
      clear p0 p1 p2 p3 p4 p5 p6 p7 p8
      go_loopw [17] (fun s17 wq => ∃ j : Nat, s17 = .int .i64 (j : Int) ∧ j ≤ 3 ∧ CkT w wq bp bt (t1, t2, t3) ∧ (0 < j → okIn k t1 = true) ∧ (1 < j → okOut k t2 = true) ∧ (2 < j → okMost t3 = true)) (fun s17 _ => 3 - (intOf s17).toNat)
      case atStart => exact ⟨0, rfl, by omega, CT.out, fun h => absurd h (by omega), fun h => absurd h (by omega), fun h => absurd h (by omega)⟩
      case round =>
        obtain ⟨j, rfl, hj, hC, q0, q1, q2⟩ := hrel
        rename_i wr0 _ _ _ _ _ _
        have HC : Hid (CkT w wr bp bt (t1, t2, t3)) := hC
        have Q0 : Hid ((0 < j → okIn k t1 = true) ∧ (1 < j → okOut k t2 = true) ∧ (2 < j → okMost t3 = true)) := ⟨q0, q1, q2⟩
        clear hC q0 q1 q2 CT
        obtain rfl | rfl | rfl | rfl : j = 3 ∨ j = 0 ∨ j = 1 ∨ j = 2 := by omega
        · have E0 : Hid (r = chkT (k + 1) (ts.drop (k + 1))) := by unfold Hid; rw [HR.out, EL.out, tyBad_of (Q0.out.1 (by omega)) (Q0.out.2.1 (by omega)) (Q0.out.2.2 (by omega)), if_neg (by omega)]
          go_wp2
          go_roundw
          case rel => exact ⟨k + 1, by first | rfl | go_num, by omega, E0.out, HC.out.bel, HC.out.cp⟩
          case measure => simp [intOf]; omega
        · have C7 : Hid (CkT w (wr.alloc (.cells #[.int .i64 1, .func (.func 106) #[] #[], .func (.func 107) #[] #[]] 108)) bp bt (t1, t2, t3) ∧ CBox (wr.alloc (.cells #[.int .i64 1, .func (.func 106) #[] #[], .func (.func 107) #[] #[]] 108)) wr.heap.size 108 [.int .i64 1, .func (.func 106) #[] #[], .func (.func 107) #[] #[]]) := ⟨HC.out.past (below_alloc _ _), CBox.new _ _ [_, _, _]⟩
          have ix := ixp0 wr
          go_upto_region 8 with fail
          clear ix
          generalize wr.alloc _ = V7 at C7 ⊢
          generalize wr.heap.size = b7 at C7 ⊢
          have S7 : CkT w V7.drew bp bt (t1, t2, t3) ∧ CBox V7.drew b7 108 [.int .i64 1, .func (.func 106) #[] #[], .func (.func 107) #[] #[]] := ⟨C7.out.1.past below_drew, C7.out.2.past below_drew⟩
          cases ev : okIn k t1 with
          | true =>
            have EV : Hid (okIn k t1 = true) := ev
            clear ev
            refine wp_region_held_drew (S := fun V' => CkT w V' bp bt (t1, t2, t3) ∧ CBox V' b7 108 [.int .i64 1, pF 106, pF 107]) (by kernel_rfl) S7 (fun hHeld => ?_)
            generalize V7.drew = z0 at hHeld ⊢
            refine wpAnyH_take (i := 0) (v := .pointer (some ⟨b7, 2, none⟩)) ov0 (by kernel_rfl) (by kernel_rfl) (by kernel_rfl) (fun _ _ _ h => h) (Or.inl ⟨by rfl, fun V' hS => ?_⟩) hHeld ?_
            · go_simp
            simp only [Act.put, List.setIfInBounds_toArray, List.set_cons_zero, List.set_cons_succ]
            refine wpAnyH_take (i := 1) (v := .func (.func 107) #[] #[]) ov1 (by kernel_rfl) (by kernel_rfl) (by kernel_rfl) (fun _ _ _ h => h) (Or.inl ⟨by rfl, fun V' hS => ?_⟩) hHeld ?_
            · have c2 : V'.cell? ⟨b7, 2, none⟩ = some (.func (.func 107) #[] #[]) := hS.2.cell 2
              go_simp
            simp only [Act.put, List.setIfInBounds_toArray, List.set_cons_zero, List.set_cons_succ]
            refine wpAnyH_take (i := 2) (v := .int .i64 (k : Int)) ov2 (by kernel_rfl) (by kernel_rfl) (by kernel_rfl) (fun _ _ _ h => h) (Or.inl ⟨by rfl, fun V' hS => ?_⟩) hHeld ?_
            · go_simp
            simp only [Act.put, List.setIfInBounds_toArray, List.set_cons_zero, List.set_cons_succ]
            refine wpAnyH_take (i := 3) (v := .pointer (some ⟨b7, 1, none⟩)) ov3 (by kernel_rfl) (by kernel_rfl) (by kernel_rfl) (fun _ _ _ h => h) (Or.inl ⟨by rfl, fun V' hS => ?_⟩) hHeld ?_
            · go_simp
            simp only [Act.put, List.setIfInBounds_toArray, List.set_cons_zero, List.set_cons_succ]
            refine wpAnyH_take (i := 4) (v := .func (.func 106) #[] #[]) ov4 (by kernel_rfl) (by kernel_rfl) (by kernel_rfl) (fun _ _ _ h => h) (Or.inl ⟨by rfl, fun V' hS => ?_⟩) hHeld ?_
            · have c1 : V'.cell? ⟨b7, 1, none⟩ = some (.func (.func 106) #[] #[]) := hS.2.cell 1
              go_simp
            simp only [Act.put, List.setIfInBounds_toArray, List.set_cons_zero, List.set_cons_succ]
            refine wpAnyH_ready (rs := [5]) (by kernel_rfl) (by simp) ?_
            refine AllReadyH.cons ov5 (fun K hK => ?_) AllReadyH.nil
            rw [if_pos (by rfl)]
            go_simp
            refine (of0_is _ bt 0).mono ?_
            rintro e w' ⟨rfl, hw⟩
            have hw2 := hw.symm
            clear hw
            subst hw2
            (try go_wp2_with fail)
            refine hK.out _ _ hHeld (fun _ => ?_)
            clear hK K
            (try simp only [Act.put, List.setIfInBounds_toArray, List.set_cons_zero, List.set_cons_succ])
            refine wpAnyH_take (i := 6) (v := .pointer (some ⟨bt, 0, none⟩)) ov6 (by kernel_rfl) (by kernel_rfl) (by kernel_rfl) (fun _ _ _ h => h) (Or.inl ⟨by rfl, fun V' hS => ?_⟩) hHeld ?_
            · go_simp
            simp only [Act.put, List.setIfInBounds_toArray, List.set_cons_zero, List.set_cons_succ]
            refine wpAnyH_take (i := 7) (v := .int .i64 t1) ov7 (by kernel_rfl) (by kernel_rfl) (by kernel_rfl) (fun _ _ _ h => h) (Or.inl ⟨by rfl, fun V' hS => ?_⟩) hHeld ?_
            · have ct : V'.cell? ⟨bt, 0, none⟩ = some (.int .i64 t1) := hS.1.ct.cell 0
              go_simp
            simp only [Act.put, List.setIfInBounds_toArray, List.set_cons_zero, List.set_cons_succ]
            refine wpAnyH_ready (rs := [8]) (by kernel_rfl) (by simp) ?_
            refine AllReadyH.cons ov8 (fun K hK => ?_) AllReadyH.nil
            rw [if_pos (by rfl)]
            go_simp
            refine (right0_is _ k t1).mono ?_
            rintro e w' ⟨rfl, hw⟩
            have hw2 := hw.symm
            clear hw
            subst hw2
            rw [EV.out]
            (try go_wp2_with fail)
            refine hK.out _ _ hHeld (fun _ => ?_)
            clear hK K
            (try simp only [Act.put, List.setIfInBounds_toArray, List.set_cons_zero, List.set_cons_succ])
            refine wpAnyH_take (i := 9) (v := .bool false) ov9 (by kernel_rfl) (by kernel_rfl) (by kernel_rfl) (fun _ _ _ h => h) (Or.inl ⟨by rfl, fun V' hS => ?_⟩) hHeld ?_
            · go_simp
            simp only [Act.put, List.setIfInBounds_toArray, List.set_cons_zero, List.set_cons_succ]
            refine wpAnyH_done (by kernel_rfl) ?_ _
            go_wp2
            go_roundw
            case rel => exact ⟨1, by first | rfl | go_num, by omega, hHeld.1, fun _ => EV.out, fun h => absurd h (by omega), fun h => absurd h (by omega)⟩
            case measure => simp [intOf]
          | false =>
            have EV : Hid (okIn k t1 = false) := ev
            clear ev
            have E0 : Hid (r = 59) := by unfold Hid; rw [HR.out, EL.out, if_pos (by unfold tyBad; simp [EV.out])]
            refine wp_region_held_drew (S := fun V' => CkT w V' bp bt (t1, t2, t3) ∧ CBox V' b7 108 [.int .i64 1, pF 106, pF 107]) (by kernel_rfl) S7 (fun hHeld => ?_)
            generalize V7.drew = z0 at hHeld ⊢
            refine wpAnyH_take (i := 0) (v := .pointer (some ⟨b7, 2, none⟩)) ov0 (by kernel_rfl) (by kernel_rfl) (by kernel_rfl) (fun _ _ _ h => h) (Or.inl ⟨by rfl, fun V' hS => ?_⟩) hHeld ?_
            · go_simp
            simp only [Act.put, List.setIfInBounds_toArray, List.set_cons_zero, List.set_cons_succ]
            refine wpAnyH_take (i := 1) (v := .func (.func 107) #[] #[]) ov1 (by kernel_rfl) (by kernel_rfl) (by kernel_rfl) (fun _ _ _ h => h) (Or.inl ⟨by rfl, fun V' hS => ?_⟩) hHeld ?_
            · have c2 : V'.cell? ⟨b7, 2, none⟩ = some (.func (.func 107) #[] #[]) := hS.2.cell 2
              go_simp
            simp only [Act.put, List.setIfInBounds_toArray, List.set_cons_zero, List.set_cons_succ]
            refine wpAnyH_take (i := 2) (v := .int .i64 (k : Int)) ov2 (by kernel_rfl) (by kernel_rfl) (by kernel_rfl) (fun _ _ _ h => h) (Or.inl ⟨by rfl, fun V' hS => ?_⟩) hHeld ?_
            · go_simp
            simp only [Act.put, List.setIfInBounds_toArray, List.set_cons_zero, List.set_cons_succ]
            refine wpAnyH_take (i := 3) (v := .pointer (some ⟨b7, 1, none⟩)) ov3 (by kernel_rfl) (by kernel_rfl) (by kernel_rfl) (fun _ _ _ h => h) (Or.inl ⟨by rfl, fun V' hS => ?_⟩) hHeld ?_
            · go_simp
            simp only [Act.put, List.setIfInBounds_toArray, List.set_cons_zero, List.set_cons_succ]
            refine wpAnyH_take (i := 4) (v := .func (.func 106) #[] #[]) ov4 (by kernel_rfl) (by kernel_rfl) (by kernel_rfl) (fun _ _ _ h => h) (Or.inl ⟨by rfl, fun V' hS => ?_⟩) hHeld ?_
            · have c1 : V'.cell? ⟨b7, 1, none⟩ = some (.func (.func 106) #[] #[]) := hS.2.cell 1
              go_simp
            simp only [Act.put, List.setIfInBounds_toArray, List.set_cons_zero, List.set_cons_succ]
            refine wpAnyH_ready (rs := [5]) (by kernel_rfl) (by simp) ?_
            refine AllReadyH.cons ov5 (fun K hK => ?_) AllReadyH.nil
            rw [if_pos (by rfl)]
            go_simp
            refine (of0_is _ bt 0).mono ?_
            rintro e w' ⟨rfl, hw⟩
            have hw2 := hw.symm
            clear hw
            subst hw2
            (try go_wp2_with fail)
            refine hK.out _ _ hHeld (fun _ => ?_)
            clear hK K
            (try simp only [Act.put, List.setIfInBounds_toArray, List.set_cons_zero, List.set_cons_succ])
            refine wpAnyH_take (i := 6) (v := .pointer (some ⟨bt, 0, none⟩)) ov6 (by kernel_rfl) (by kernel_rfl) (by kernel_rfl) (fun _ _ _ h => h) (Or.inl ⟨by rfl, fun V' hS => ?_⟩) hHeld ?_
            · go_simp
            simp only [Act.put, List.setIfInBounds_toArray, List.set_cons_zero, List.set_cons_succ]
            refine wpAnyH_take (i := 7) (v := .int .i64 t1) ov7 (by kernel_rfl) (by kernel_rfl) (by kernel_rfl) (fun _ _ _ h => h) (Or.inl ⟨by rfl, fun V' hS => ?_⟩) hHeld ?_
            · have ct : V'.cell? ⟨bt, 0, none⟩ = some (.int .i64 t1) := hS.1.ct.cell 0
              go_simp
            simp only [Act.put, List.setIfInBounds_toArray, List.set_cons_zero, List.set_cons_succ]
            refine wpAnyH_ready (rs := [8]) (by kernel_rfl) (by simp) ?_
            refine AllReadyH.cons ov8 (fun K hK => ?_) AllReadyH.nil
            rw [if_pos (by rfl)]
            go_simp
            refine (right0_is _ k t1).mono ?_
            rintro e w' ⟨rfl, hw⟩
            have hw2 := hw.symm
            clear hw
            subst hw2
            rw [EV.out]
            (try go_wp2_with fail)
            refine hK.out _ _ hHeld (fun _ => ?_)
            clear hK K
            (try simp only [Act.put, List.setIfInBounds_toArray, List.set_cons_zero, List.set_cons_succ])
            refine wpAnyH_take (i := 9) (v := .bool true) ov9 (by kernel_rfl) (by kernel_rfl) (by kernel_rfl) (fun _ _ _ h => h) (Or.inl ⟨by rfl, fun V' hS => ?_⟩) hHeld ?_
            · go_simp
            simp only [Act.put, List.setIfInBounds_toArray, List.set_cons_zero, List.set_cons_succ]
            refine wpAnyH_done (by kernel_rfl) ?_ _
            go_wp2
            go_ret
            exact ⟨by rw [E0.out]; rfl, hHeld.1.bel⟩
        · have C7 : Hid (CkT w (wr.alloc (.cells #[.int .i64 1, .func (.func 108) #[] #[], .func (.func 109) #[] #[]] 108)) bp bt (t1, t2, t3) ∧ CBox (wr.alloc (.cells #[.int .i64 1, .func (.func 108) #[] #[], .func (.func 109) #[] #[]] 108)) wr.heap.size 108 [.int .i64 1, .func (.func 108) #[] #[], .func (.func 109) #[] #[]]) := ⟨HC.out.past (below_alloc _ _), CBox.new _ _ [_, _, _]⟩
          have ix := ixp1 wr
          go_upto_region 8 with fail
          clear ix
          generalize wr.alloc _ = V7 at C7 ⊢
          generalize wr.heap.size = b7 at C7 ⊢
          have S7 : CkT w V7.drew bp bt (t1, t2, t3) ∧ CBox V7.drew b7 108 [.int .i64 1, .func (.func 108) #[] #[], .func (.func 109) #[] #[]] := ⟨C7.out.1.past below_drew, C7.out.2.past below_drew⟩
          cases ev : okOut k t2 with
          | true =>
            have EV : Hid (okOut k t2 = true) := ev
            clear ev
            refine wp_region_held_drew (S := fun V' => CkT w V' bp bt (t1, t2, t3) ∧ CBox V' b7 108 [.int .i64 1, pF 108, pF 109]) (by kernel_rfl) S7 (fun hHeld => ?_)
            generalize V7.drew = z0 at hHeld ⊢
            refine wpAnyH_take (i := 0) (v := .pointer (some ⟨b7, 2, none⟩)) ov0 (by kernel_rfl) (by kernel_rfl) (by kernel_rfl) (fun _ _ _ h => h) (Or.inl ⟨by rfl, fun V' hS => ?_⟩) hHeld ?_
            · go_simp
            simp only [Act.put, List.setIfInBounds_toArray, List.set_cons_zero, List.set_cons_succ]
            refine wpAnyH_take (i := 1) (v := .func (.func 109) #[] #[]) ov1 (by kernel_rfl) (by kernel_rfl) (by kernel_rfl) (fun _ _ _ h => h) (Or.inl ⟨by rfl, fun V' hS => ?_⟩) hHeld ?_
            · have c2 : V'.cell? ⟨b7, 2, none⟩ = some (.func (.func 109) #[] #[]) := hS.2.cell 2
              go_simp
            simp only [Act.put, List.setIfInBounds_toArray, List.set_cons_zero, List.set_cons_succ]
            refine wpAnyH_take (i := 2) (v := .int .i64 (k : Int)) ov2 (by kernel_rfl) (by kernel_rfl) (by kernel_rfl) (fun _ _ _ h => h) (Or.inl ⟨by rfl, fun V' hS => ?_⟩) hHeld ?_
            · go_simp
            simp only [Act.put, List.setIfInBounds_toArray, List.set_cons_zero, List.set_cons_succ]
            refine wpAnyH_take (i := 3) (v := .pointer (some ⟨b7, 1, none⟩)) ov3 (by kernel_rfl) (by kernel_rfl) (by kernel_rfl) (fun _ _ _ h => h) (Or.inl ⟨by rfl, fun V' hS => ?_⟩) hHeld ?_
            · go_simp
            simp only [Act.put, List.setIfInBounds_toArray, List.set_cons_zero, List.set_cons_succ]
            refine wpAnyH_take (i := 4) (v := .func (.func 108) #[] #[]) ov4 (by kernel_rfl) (by kernel_rfl) (by kernel_rfl) (fun _ _ _ h => h) (Or.inl ⟨by rfl, fun V' hS => ?_⟩) hHeld ?_
            · have c1 : V'.cell? ⟨b7, 1, none⟩ = some (.func (.func 108) #[] #[]) := hS.2.cell 1
              go_simp
            simp only [Act.put, List.setIfInBounds_toArray, List.set_cons_zero, List.set_cons_succ]
            refine wpAnyH_ready (rs := [5]) (by kernel_rfl) (by simp) ?_
            refine AllReadyH.cons ov5 (fun K hK => ?_) AllReadyH.nil
            rw [if_pos (by rfl)]
            go_simp
            refine (of1_is _ bt 0).mono ?_
            rintro e w' ⟨rfl, hw⟩
            have hw2 := hw.symm
            clear hw
            subst hw2
            (try go_wp2_with fail)
            refine hK.out _ _ hHeld (fun _ => ?_)
            clear hK K
            (try simp only [Act.put, List.setIfInBounds_toArray, List.set_cons_zero, List.set_cons_succ])
            refine wpAnyH_take (i := 6) (v := .pointer (some ⟨bt, 1, none⟩)) ov6 (by kernel_rfl) (by kernel_rfl) (by kernel_rfl) (fun _ _ _ h => h) (Or.inl ⟨by rfl, fun V' hS => ?_⟩) hHeld ?_
            · go_simp
            simp only [Act.put, List.setIfInBounds_toArray, List.set_cons_zero, List.set_cons_succ]
            refine wpAnyH_take (i := 7) (v := .int .i64 t2) ov7 (by kernel_rfl) (by kernel_rfl) (by kernel_rfl) (fun _ _ _ h => h) (Or.inl ⟨by rfl, fun V' hS => ?_⟩) hHeld ?_
            · have ct : V'.cell? ⟨bt, 1, none⟩ = some (.int .i64 t2) := hS.1.ct.cell 1
              go_simp
            simp only [Act.put, List.setIfInBounds_toArray, List.set_cons_zero, List.set_cons_succ]
            refine wpAnyH_ready (rs := [8]) (by kernel_rfl) (by simp) ?_
            refine AllReadyH.cons ov8 (fun K hK => ?_) AllReadyH.nil
            rw [if_pos (by rfl)]
            go_simp
            refine (right1_is _ k t2).mono ?_
            rintro e w' ⟨rfl, hw⟩
            have hw2 := hw.symm
            clear hw
            subst hw2
            rw [EV.out]
            (try go_wp2_with fail)
            refine hK.out _ _ hHeld (fun _ => ?_)
            clear hK K
            (try simp only [Act.put, List.setIfInBounds_toArray, List.set_cons_zero, List.set_cons_succ])
            refine wpAnyH_take (i := 9) (v := .bool false) ov9 (by kernel_rfl) (by kernel_rfl) (by kernel_rfl) (fun _ _ _ h => h) (Or.inl ⟨by rfl, fun V' hS => ?_⟩) hHeld ?_
            · go_simp
            simp only [Act.put, List.setIfInBounds_toArray, List.set_cons_zero, List.set_cons_succ]
            refine wpAnyH_done (by kernel_rfl) ?_ _
            go_wp2
            go_roundw
            case rel => exact ⟨2, by first | rfl | go_num, by omega, hHeld.1, fun _ => Q0.out.1 (by omega), fun _ => EV.out, fun h => absurd h (by omega)⟩
            case measure => simp [intOf]
          | false =>
            have EV : Hid (okOut k t2 = false) := ev
            clear ev
            have E0 : Hid (r = 59) := by unfold Hid; rw [HR.out, EL.out, if_pos (by unfold tyBad; simp [Q0.out.1 (by omega), EV.out])]
            refine wp_region_held_drew (S := fun V' => CkT w V' bp bt (t1, t2, t3) ∧ CBox V' b7 108 [.int .i64 1, pF 108, pF 109]) (by kernel_rfl) S7 (fun hHeld => ?_)
            generalize V7.drew = z0 at hHeld ⊢
            refine wpAnyH_take (i := 0) (v := .pointer (some ⟨b7, 2, none⟩)) ov0 (by kernel_rfl) (by kernel_rfl) (by kernel_rfl) (fun _ _ _ h => h) (Or.inl ⟨by rfl, fun V' hS => ?_⟩) hHeld ?_
            · go_simp
            simp only [Act.put, List.setIfInBounds_toArray, List.set_cons_zero, List.set_cons_succ]
            refine wpAnyH_take (i := 1) (v := .func (.func 109) #[] #[]) ov1 (by kernel_rfl) (by kernel_rfl) (by kernel_rfl) (fun _ _ _ h => h) (Or.inl ⟨by rfl, fun V' hS => ?_⟩) hHeld ?_
            · have c2 : V'.cell? ⟨b7, 2, none⟩ = some (.func (.func 109) #[] #[]) := hS.2.cell 2
              go_simp
            simp only [Act.put, List.setIfInBounds_toArray, List.set_cons_zero, List.set_cons_succ]
            refine wpAnyH_take (i := 2) (v := .int .i64 (k : Int)) ov2 (by kernel_rfl) (by kernel_rfl) (by kernel_rfl) (fun _ _ _ h => h) (Or.inl ⟨by rfl, fun V' hS => ?_⟩) hHeld ?_
            · go_simp
            simp only [Act.put, List.setIfInBounds_toArray, List.set_cons_zero, List.set_cons_succ]
            refine wpAnyH_take (i := 3) (v := .pointer (some ⟨b7, 1, none⟩)) ov3 (by kernel_rfl) (by kernel_rfl) (by kernel_rfl) (fun _ _ _ h => h) (Or.inl ⟨by rfl, fun V' hS => ?_⟩) hHeld ?_
            · go_simp
            simp only [Act.put, List.setIfInBounds_toArray, List.set_cons_zero, List.set_cons_succ]
            refine wpAnyH_take (i := 4) (v := .func (.func 108) #[] #[]) ov4 (by kernel_rfl) (by kernel_rfl) (by kernel_rfl) (fun _ _ _ h => h) (Or.inl ⟨by rfl, fun V' hS => ?_⟩) hHeld ?_
            · have c1 : V'.cell? ⟨b7, 1, none⟩ = some (.func (.func 108) #[] #[]) := hS.2.cell 1
              go_simp
            simp only [Act.put, List.setIfInBounds_toArray, List.set_cons_zero, List.set_cons_succ]
            refine wpAnyH_ready (rs := [5]) (by kernel_rfl) (by simp) ?_
            refine AllReadyH.cons ov5 (fun K hK => ?_) AllReadyH.nil
            rw [if_pos (by rfl)]
            go_simp
            refine (of1_is _ bt 0).mono ?_
            rintro e w' ⟨rfl, hw⟩
            have hw2 := hw.symm
            clear hw
            subst hw2
            (try go_wp2_with fail)
            refine hK.out _ _ hHeld (fun _ => ?_)
            clear hK K
            (try simp only [Act.put, List.setIfInBounds_toArray, List.set_cons_zero, List.set_cons_succ])
            refine wpAnyH_take (i := 6) (v := .pointer (some ⟨bt, 1, none⟩)) ov6 (by kernel_rfl) (by kernel_rfl) (by kernel_rfl) (fun _ _ _ h => h) (Or.inl ⟨by rfl, fun V' hS => ?_⟩) hHeld ?_
            · go_simp
            simp only [Act.put, List.setIfInBounds_toArray, List.set_cons_zero, List.set_cons_succ]
            refine wpAnyH_take (i := 7) (v := .int .i64 t2) ov7 (by kernel_rfl) (by kernel_rfl) (by kernel_rfl) (fun _ _ _ h => h) (Or.inl ⟨by rfl, fun V' hS => ?_⟩) hHeld ?_
            · have ct : V'.cell? ⟨bt, 1, none⟩ = some (.int .i64 t2) := hS.1.ct.cell 1
              go_simp
            simp only [Act.put, List.setIfInBounds_toArray, List.set_cons_zero, List.set_cons_succ]
            refine wpAnyH_ready (rs := [8]) (by kernel_rfl) (by simp) ?_
            refine AllReadyH.cons ov8 (fun K hK => ?_) AllReadyH.nil
            rw [if_pos (by rfl)]
            go_simp
            refine (right1_is _ k t2).mono ?_
            rintro e w' ⟨rfl, hw⟩
            have hw2 := hw.symm
            clear hw
            subst hw2
            rw [EV.out]
            (try go_wp2_with fail)
            refine hK.out _ _ hHeld (fun _ => ?_)
            clear hK K
            (try simp only [Act.put, List.setIfInBounds_toArray, List.set_cons_zero, List.set_cons_succ])
            refine wpAnyH_take (i := 9) (v := .bool true) ov9 (by kernel_rfl) (by kernel_rfl) (by kernel_rfl) (fun _ _ _ h => h) (Or.inl ⟨by rfl, fun V' hS => ?_⟩) hHeld ?_
            · go_simp
            simp only [Act.put, List.setIfInBounds_toArray, List.set_cons_zero, List.set_cons_succ]
            refine wpAnyH_done (by kernel_rfl) ?_ _
            go_wp2
            go_ret
            exact ⟨by rw [E0.out]; rfl, hHeld.1.bel⟩
        · have C7 : Hid (CkT w (wr.alloc (.cells #[.int .i64 2, .func (.func 110) #[] #[], .func (.func 111) #[] #[]] 108)) bp bt (t1, t2, t3) ∧ CBox (wr.alloc (.cells #[.int .i64 2, .func (.func 110) #[] #[], .func (.func 111) #[] #[]] 108)) wr.heap.size 108 [.int .i64 2, .func (.func 110) #[] #[], .func (.func 111) #[] #[]]) := ⟨HC.out.past (below_alloc _ _), CBox.new _ _ [_, _, _]⟩
          have ix := ixp2 wr
          go_upto_region 8 with fail
          clear ix
          generalize wr.alloc _ = V7 at C7 ⊢
          generalize wr.heap.size = b7 at C7 ⊢
          have S7 : CkT w V7.drew bp bt (t1, t2, t3) ∧ CBox V7.drew b7 108 [.int .i64 2, .func (.func 110) #[] #[], .func (.func 111) #[] #[]] := ⟨C7.out.1.past below_drew, C7.out.2.past below_drew⟩
          cases ev : okMost t3 with
          | true =>
            have EV : Hid (okMost t3 = true) := ev
            clear ev
            refine wp_region_held_drew (S := fun V' => CkT w V' bp bt (t1, t2, t3) ∧ CBox V' b7 108 [.int .i64 2, pF 110, pF 111]) (by kernel_rfl) S7 (fun hHeld => ?_)
            generalize V7.drew = z0 at hHeld ⊢
            refine wpAnyH_take (i := 0) (v := .pointer (some ⟨b7, 2, none⟩)) ov0 (by kernel_rfl) (by kernel_rfl) (by kernel_rfl) (fun _ _ _ h => h) (Or.inl ⟨by rfl, fun V' hS => ?_⟩) hHeld ?_
            · go_simp
            simp only [Act.put, List.setIfInBounds_toArray, List.set_cons_zero, List.set_cons_succ]
            refine wpAnyH_take (i := 1) (v := .func (.func 111) #[] #[]) ov1 (by kernel_rfl) (by kernel_rfl) (by kernel_rfl) (fun _ _ _ h => h) (Or.inl ⟨by rfl, fun V' hS => ?_⟩) hHeld ?_
            · have c2 : V'.cell? ⟨b7, 2, none⟩ = some (.func (.func 111) #[] #[]) := hS.2.cell 2
              go_simp
            simp only [Act.put, List.setIfInBounds_toArray, List.set_cons_zero, List.set_cons_succ]
            refine wpAnyH_take (i := 2) (v := .int .i64 (k : Int)) ov2 (by kernel_rfl) (by kernel_rfl) (by kernel_rfl) (fun _ _ _ h => h) (Or.inl ⟨by rfl, fun V' hS => ?_⟩) hHeld ?_
            · go_simp
            simp only [Act.put, List.setIfInBounds_toArray, List.set_cons_zero, List.set_cons_succ]
            refine wpAnyH_take (i := 3) (v := .pointer (some ⟨b7, 1, none⟩)) ov3 (by kernel_rfl) (by kernel_rfl) (by kernel_rfl) (fun _ _ _ h => h) (Or.inl ⟨by rfl, fun V' hS => ?_⟩) hHeld ?_
            · go_simp
            simp only [Act.put, List.setIfInBounds_toArray, List.set_cons_zero, List.set_cons_succ]
            refine wpAnyH_take (i := 4) (v := .func (.func 110) #[] #[]) ov4 (by kernel_rfl) (by kernel_rfl) (by kernel_rfl) (fun _ _ _ h => h) (Or.inl ⟨by rfl, fun V' hS => ?_⟩) hHeld ?_
            · have c1 : V'.cell? ⟨b7, 1, none⟩ = some (.func (.func 110) #[] #[]) := hS.2.cell 1
              go_simp
            simp only [Act.put, List.setIfInBounds_toArray, List.set_cons_zero, List.set_cons_succ]
            refine wpAnyH_ready (rs := [5]) (by kernel_rfl) (by simp) ?_
            refine AllReadyH.cons ov5 (fun K hK => ?_) AllReadyH.nil
            rw [if_pos (by rfl)]
            go_simp
            refine (of2_is _ bt 0).mono ?_
            rintro e w' ⟨rfl, hw⟩
            have hw2 := hw.symm
            clear hw
            subst hw2
            (try go_wp2_with fail)
            refine hK.out _ _ hHeld (fun _ => ?_)
            clear hK K
            (try simp only [Act.put, List.setIfInBounds_toArray, List.set_cons_zero, List.set_cons_succ])
            refine wpAnyH_take (i := 6) (v := .pointer (some ⟨bt, 2, none⟩)) ov6 (by kernel_rfl) (by kernel_rfl) (by kernel_rfl) (fun _ _ _ h => h) (Or.inl ⟨by rfl, fun V' hS => ?_⟩) hHeld ?_
            · go_simp
            simp only [Act.put, List.setIfInBounds_toArray, List.set_cons_zero, List.set_cons_succ]
            refine wpAnyH_take (i := 7) (v := .int .i64 t3) ov7 (by kernel_rfl) (by kernel_rfl) (by kernel_rfl) (fun _ _ _ h => h) (Or.inl ⟨by rfl, fun V' hS => ?_⟩) hHeld ?_
            · have ct : V'.cell? ⟨bt, 2, none⟩ = some (.int .i64 t3) := hS.1.ct.cell 2
              go_simp
            simp only [Act.put, List.setIfInBounds_toArray, List.set_cons_zero, List.set_cons_succ]
            refine wpAnyH_ready (rs := [8]) (by kernel_rfl) (by simp) ?_
            refine AllReadyH.cons ov8 (fun K hK => ?_) AllReadyH.nil
            rw [if_pos (by rfl)]
            go_simp
            refine (right2_is _ k t3).mono ?_
            rintro e w' ⟨rfl, hw⟩
            have hw2 := hw.symm
            clear hw
            subst hw2
            rw [EV.out]
            (try go_wp2_with fail)
            refine hK.out _ _ hHeld (fun _ => ?_)
            clear hK K
            (try simp only [Act.put, List.setIfInBounds_toArray, List.set_cons_zero, List.set_cons_succ])
            refine wpAnyH_take (i := 9) (v := .bool false) ov9 (by kernel_rfl) (by kernel_rfl) (by kernel_rfl) (fun _ _ _ h => h) (Or.inl ⟨by rfl, fun V' hS => ?_⟩) hHeld ?_
            · go_simp
            simp only [Act.put, List.setIfInBounds_toArray, List.set_cons_zero, List.set_cons_succ]
            refine wpAnyH_done (by kernel_rfl) ?_ _
            go_wp2
            go_roundw
            case rel => exact ⟨3, by first | rfl | go_num, by omega, hHeld.1, fun _ => Q0.out.1 (by omega), fun _ => Q0.out.2.1 (by omega), fun _ => EV.out⟩
            case measure => simp [intOf]
          | false =>
            have EV : Hid (okMost t3 = false) := ev
            clear ev
            have E0 : Hid (r = 59) := by unfold Hid; rw [HR.out, EL.out, if_pos (by unfold tyBad; simp [Q0.out.1 (by omega), Q0.out.2.1 (by omega), EV.out])]
            refine wp_region_held_drew (S := fun V' => CkT w V' bp bt (t1, t2, t3) ∧ CBox V' b7 108 [.int .i64 2, pF 110, pF 111]) (by kernel_rfl) S7 (fun hHeld => ?_)
            generalize V7.drew = z0 at hHeld ⊢
            refine wpAnyH_take (i := 0) (v := .pointer (some ⟨b7, 2, none⟩)) ov0 (by kernel_rfl) (by kernel_rfl) (by kernel_rfl) (fun _ _ _ h => h) (Or.inl ⟨by rfl, fun V' hS => ?_⟩) hHeld ?_
            · go_simp
            simp only [Act.put, List.setIfInBounds_toArray, List.set_cons_zero, List.set_cons_succ]
            refine wpAnyH_take (i := 1) (v := .func (.func 111) #[] #[]) ov1 (by kernel_rfl) (by kernel_rfl) (by kernel_rfl) (fun _ _ _ h => h) (Or.inl ⟨by rfl, fun V' hS => ?_⟩) hHeld ?_
            · have c2 : V'.cell? ⟨b7, 2, none⟩ = some (.func (.func 111) #[] #[]) := hS.2.cell 2
              go_simp
            simp only [Act.put, List.setIfInBounds_toArray, List.set_cons_zero, List.set_cons_succ]
            refine wpAnyH_take (i := 2) (v := .int .i64 (k : Int)) ov2 (by kernel_rfl) (by kernel_rfl) (by kernel_rfl) (fun _ _ _ h => h) (Or.inl ⟨by rfl, fun V' hS => ?_⟩) hHeld ?_
            · go_simp
            simp only [Act.put, List.setIfInBounds_toArray, List.set_cons_zero, List.set_cons_succ]
            refine wpAnyH_take (i := 3) (v := .pointer (some ⟨b7, 1, none⟩)) ov3 (by kernel_rfl) (by kernel_rfl) (by kernel_rfl) (fun _ _ _ h => h) (Or.inl ⟨by rfl, fun V' hS => ?_⟩) hHeld ?_
            · go_simp
            simp only [Act.put, List.setIfInBounds_toArray, List.set_cons_zero, List.set_cons_succ]
            refine wpAnyH_take (i := 4) (v := .func (.func 110) #[] #[]) ov4 (by kernel_rfl) (by kernel_rfl) (by kernel_rfl) (fun _ _ _ h => h) (Or.inl ⟨by rfl, fun V' hS => ?_⟩) hHeld ?_
            · have c1 : V'.cell? ⟨b7, 1, none⟩ = some (.func (.func 110) #[] #[]) := hS.2.cell 1
              go_simp
            simp only [Act.put, List.setIfInBounds_toArray, List.set_cons_zero, List.set_cons_succ]
            refine wpAnyH_ready (rs := [5]) (by kernel_rfl) (by simp) ?_
            refine AllReadyH.cons ov5 (fun K hK => ?_) AllReadyH.nil
            rw [if_pos (by rfl)]
            go_simp
            refine (of2_is _ bt 0).mono ?_
            rintro e w' ⟨rfl, hw⟩
            have hw2 := hw.symm
            clear hw
            subst hw2
            (try go_wp2_with fail)
            refine hK.out _ _ hHeld (fun _ => ?_)
            clear hK K
            (try simp only [Act.put, List.setIfInBounds_toArray, List.set_cons_zero, List.set_cons_succ])
            refine wpAnyH_take (i := 6) (v := .pointer (some ⟨bt, 2, none⟩)) ov6 (by kernel_rfl) (by kernel_rfl) (by kernel_rfl) (fun _ _ _ h => h) (Or.inl ⟨by rfl, fun V' hS => ?_⟩) hHeld ?_
            · go_simp
            simp only [Act.put, List.setIfInBounds_toArray, List.set_cons_zero, List.set_cons_succ]
            refine wpAnyH_take (i := 7) (v := .int .i64 t3) ov7 (by kernel_rfl) (by kernel_rfl) (by kernel_rfl) (fun _ _ _ h => h) (Or.inl ⟨by rfl, fun V' hS => ?_⟩) hHeld ?_
            · have ct : V'.cell? ⟨bt, 2, none⟩ = some (.int .i64 t3) := hS.1.ct.cell 2
              go_simp
            simp only [Act.put, List.setIfInBounds_toArray, List.set_cons_zero, List.set_cons_succ]
            refine wpAnyH_ready (rs := [8]) (by kernel_rfl) (by simp) ?_
            refine AllReadyH.cons ov8 (fun K hK => ?_) AllReadyH.nil
            rw [if_pos (by rfl)]
            go_simp
            refine (right2_is _ k t3).mono ?_
            rintro e w' ⟨rfl, hw⟩
            have hw2 := hw.symm
            clear hw
            subst hw2
            rw [EV.out]
            (try go_wp2_with fail)
            refine hK.out _ _ hHeld (fun _ => ?_)
            clear hK K
            (try simp only [Act.put, List.setIfInBounds_toArray, List.set_cons_zero, List.set_cons_succ])
            refine wpAnyH_take (i := 9) (v := .bool true) ov9 (by kernel_rfl) (by kernel_rfl) (by kernel_rfl) (fun _ _ _ h => h) (Or.inl ⟨by rfl, fun V' hS => ?_⟩) hHeld ?_
            · go_simp
            simp only [Act.put, List.setIfInBounds_toArray, List.set_cons_zero, List.set_cons_succ]
            refine wpAnyH_done (by kernel_rfl) ?_ _
            go_wp2
            go_ret
            exact ⟨by rw [E0.out]; rfl, hHeld.1.bel⟩
end Go.Proofs.Ytndhabhlajldeaa
/- Package container: Check. -/
namespace Go.Proofs.Ytndhabhlajldeaa
open Go.RowKit
theorem chkP_cases (m : Nat) : ∀ ll, chkP m ll = 0 ∨ chkP m ll = 56 ∨ chkP m ll = 2
  | [] => Or.inl rfl
  | l :: r => by
    unfold chkP
    split
    · exact Or.inr (Or.inl rfl)
    · split
      · exact Or.inr (Or.inr rfl)
      · exact chkP_cases m r
set_option maxHeartbeats 4000000 in
set_option maxRecDepth 100000 in
theorem check_is {P : Nat → Prop} (w : World) (v : Value) (c : Con) (h : CW P w v c) : Calls Try.prog 20 #[v] w fun e w' => e = .returned (.int .i64 (chk c)) ∧ Below w.heap.size w w' := by
  obtain ⟨tv, cv, sv, dv, rfl, hT, hC, hS, hD⟩ := h
  have CT : Hid (∀ W, Below w.heap.size w W → Calls Try.prog 57 #[tv] W fun e w' => e = .returned (.int .i64 (chkT 0 c.ts)) ∧ Below W.heap.size W w') := fun W hW => checkTypes_is W tv c.ts (hT.past hW)
  have CC : Hid (∀ W, Below w.heap.size w W → Calls Try.prog 56 #[cv, .int .u64 65535] W fun e w' => e = .returned (.int .i64 (chkP 65535 c.cs)) ∧ w' = W) := fun W hW => checkPieces_is W cv c.cs 65535 (hC.past hW) (by omega)
  have CS : Hid (∀ W, Below w.heap.size w W → Calls Try.prog 56 #[sv, .int .u64 4294967295] W fun e w' => e = .returned (.int .i64 (chkP 4294967295 c.ss)) ∧ w' = W) := fun W hW => checkPieces_is W sv c.ss 4294967295 (hS.past hW) (by omega)
  obtain ⟨ta, tc, rfl, _, ht1⟩ := hT.len
  obtain ⟨ca, cc, rfl, _, hc1⟩ := hC.len
  obtain ⟨sa, sc, rfl, _, hs1⟩ := hS.len
  obtain ⟨da, dc, rfl, _, hd1⟩ := hD.len
  have EK : Hid (chk c = if c.cs.length = 0 ∨ 1024 < c.cs.length then 55 else if c.ts.length ≠ c.cs.length then 54 else if chkP 65535 c.cs ≠ 0 then chkP 65535 c.cs else if 256 < c.ss.length then 57 else if chkP 4294967295 c.ss ≠ 0 then chkP 4294967295 c.ss else if 65535 < c.n then 2 else if c.n < (c.d.length : Int) then 1 else chkT 0 c.ts) := rfl
  have p1 := chkP_cases 65535 c.cs
  have p2 := chkP_cases 4294967295 c.ss
  clear hT hC hS hD
  generalize chk c = r at *
  generalize chkT 0 c.ts = rt at *
  generalize chkP 65535 c.cs = rc at *
  generalize chkP 4294967295 c.ss = rs at *
  generalize c.ts.length = nt at *
  generalize c.cs.length = nc at *
  generalize c.ss.length = ns at *
  generalize c.d.length = nd at *
  generalize c.n = z at *
  have tI : (nt : Int) ≤ 1152921504606846976 := by omega
  have cI : (nc : Int) ≤ 1152921504606846976 := by omega
  have sI : (ns : Int) ≤ 1152921504606846976 := by omega
  have dI : (nd : Int) ≤ 1152921504606846976 := by omega
  have B0 : Hid (Below w.heap.size w (w.alloc (.cells #[.slice ta nt tc, .slice ca nc cc, .slice sa ns sc, .slice da nd dc, .int .i64 z] 28)) ∧ CBox (w.alloc (.cells #[.slice ta nt tc, .slice ca nc cc, .slice sa ns sc, .slice da nd dc, .int .i64 z] 28)) w.heap.size 28 [.slice ta nt tc, .slice ca nc cc, .slice sa ns sc, .slice da nd dc, .int .i64 z]) := ⟨below_alloc _ _, CBox.new _ _ [_, _, _, _, _]⟩
  clear ht1 hc1 hs1 hd1
  go_enter Try.func20, Try.ntmps20
  go_upto_region 1 with fail
  generalize w.alloc _ = W0 at B0 ⊢
  generalize hbx : w.heap.size = bx at B0 ⊢
  have B1 : Hid (Below w.heap.size w W0) := hbx ▸ B0.out.1
  have c0 : W0.cell? ⟨bx, 0, none⟩ = some (.slice ta nt tc) := B0.out.2.cell 0
  have c1 : W0.cell? ⟨bx, 1, none⟩ = some (.slice ca nc cc) := B0.out.2.cell 1
  have c2 : W0.cell? ⟨bx, 2, none⟩ = some (.slice sa ns sc) := B0.out.2.cell 2
  have c3 : W0.cell? ⟨bx, 3, none⟩ = some (.slice da nd dc) := B0.out.2.cell 3
  have c4 : W0.cell? ⟨bx, 4, none⟩ = some (.int .i64 z) := B0.out.2.cell 4
  clear B0
  rw [hbx] at B1
  have B1 : Hid (Below w.heap.size w W0) := hbx ▸ B1
  by_cases e0 : nc = 0
  · subst e0
    have E0 : Hid (r = 55) := by unfold Hid; rw [EK.out, if_pos (Or.inl rfl)]
    clear hbx
    go_wp2
    go_ret
    exact ⟨by rw [E0.out]; rfl, B1.out⟩
  have q0 : ((nc : Int) == 0) = false := by simp; omega
  by_cases e1 : 1024 < nc
  · have E0 : Hid (r = 55) := by unfold Hid; rw [EK.out, if_pos (Or.inr e1)]
    have q1 : (1024 : Int) < (nc : Int) := by omega
    clear hbx e0 e1
    go_wp2
    go_ret
    exact ⟨by rw [E0.out]; rfl, B1.out⟩
  have q1 : ¬ (1024 : Int) < (nc : Int) := by omega
  have EK : Hid (r = if nt ≠ nc then 54 else if rc ≠ 0 then rc else if 256 < ns then 57 else if rs ≠ 0 then rs else if 65535 < z then 2 else if z < (nd : Int) then 1 else rt) := by unfold Hid; rw [EK.out, if_neg (by omega)]
  clear e0 e1 hbx
  go_upto_region 3 with fail
  by_cases e2 : nt = nc
  rotate_left
  · have E0 : Hid (r = 54) := by unfold Hid; rw [EK.out, if_pos e2]
    have q2 : ((nt : Int) == (nc : Int)) = false := by simp; omega
    have q3 : ((nt : Int) != (nc : Int)) = true := by simp; omega
    clear e2
    go_wp2
    go_ret
    exact ⟨by rw [E0.out]; rfl, B1.out⟩
  subst e2
  have EK : Hid (r = if rc ≠ 0 then rc else if 256 < ns then 57 else if rs ≠ 0 then rs else if 65535 < z then 2 else if z < (nd : Int) then 1 else rt) := by unfold Hid; rw [EK.out, if_neg (by simp)]
  go_upto_region 6 with (go_at_call 56; refine (CC.out _ B1.out).mono ?_; rintro e w' ⟨rfl, hw⟩; (have hw2 := hw.symm); clear hw; subst hw2)
  by_cases e3 : rc = 0
  rotate_left
  · have E0 : Hid (r = rc) := by unfold Hid; rw [EK.out, if_pos e3]
    have q2 : (rc == 0) = false := by simpa using e3
    have q3 : (rc != 0) = true := by simpa using e3
    clear e3 p1
    go_wp2
    go_ret
    exact ⟨by rw [E0.out]; rfl, B1.out⟩
  subst e3
  have EK : Hid (r = if 256 < ns then 57 else if rs ≠ 0 then rs else if 65535 < z then 2 else if z < (nd : Int) then 1 else rt) := by unfold Hid; rw [EK.out, if_neg (by simp)]
  clear p1
  go_upto_region 8 with fail
  by_cases e4 : 256 < ns
  · have E0 : Hid (r = 57) := by unfold Hid; rw [EK.out, if_pos e4]
    have q2 : (256 : Int) < (ns : Int) := by omega
    clear e4
    go_wp2
    go_ret
    exact ⟨by rw [E0.out]; rfl, B1.out⟩
  have q4 : ¬ (256 : Int) < (ns : Int) := by omega
  have EK : Hid (r = if rs ≠ 0 then rs else if 65535 < z then 2 else if z < (nd : Int) then 1 else rt) := by unfold Hid; rw [EK.out, if_neg e4]
  clear e4
  go_upto_region 11 with (go_at_call 56; refine (CS.out _ B1.out).mono ?_; rintro e w' ⟨rfl, hw⟩; (have hw2 := hw.symm); clear hw; subst hw2)
  by_cases e5 : rs = 0
  rotate_left
  · have E0 : Hid (r = rs) := by unfold Hid; rw [EK.out, if_pos e5]
    have q2 : (rs == 0) = false := by simpa using e5
    have q3 : (rs != 0) = true := by simpa using e5
    clear e5 p2
    go_wp2
    go_ret
    exact ⟨by rw [E0.out]; rfl, B1.out⟩
  subst e5
  have EK : Hid (r = if 65535 < z then 2 else if z < (nd : Int) then 1 else rt) := by unfold Hid; rw [EK.out, if_neg (by simp)]
  clear p2
  go_upto_region 13 with fail
  by_cases e6 : 65535 < z
  · have E0 : Hid (r = 2) := by unfold Hid; rw [EK.out, if_pos e6]
    go_wp2
    go_ret
    exact ⟨by rw [E0.out]; rfl, B1.out⟩
  by_cases e7 : z < (nd : Int)
  · have E0 : Hid (r = 1) := by unfold Hid; rw [EK.out, if_neg e6, if_pos e7]
    go_wp2
    go_ret
    exact ⟨by rw [E0.out]; rfl, B1.out⟩
  have E0 : Hid (r = rt) := by unfold Hid; rw [EK.out, if_neg e6, if_neg e7]
  go_wp2_with (go_at_call 57; refine (CT.out _ B1.out).mono ?_; rintro e w1 ⟨rfl, hB⟩)
  go_ret
  exact ⟨by rw [E0.out]; rfl, B1.out.trans (hB.mono B1.out.size)⟩
end Go.Proofs.Ytndhabhlajldeaa
