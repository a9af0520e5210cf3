/- Bytes in a list: a list that reads so; a row of one's own; the law's 'laid' and 'stands'. -/
import Derived.Test.YtbjijbgjnammhaaDoorQa
import Derived.Test.YtbjijbgjnammhaaDoorUl
import Derived.Test.YtbjijbgjnammhaaDoorUo
namespace Go.Proofs.YtbjijbgjnammhaaDoor.Wds
open Go.RowKit
theorem Tryd.info8 : (Tryd.prog.info? 5).map (fun i => (i.zero, i.size, i.bytes)) = some (some (.int .u8 0), 1, 1) := by kernel_rfl
theorem info_partsB {P : Program} {t : TypeId} {z : Value} {s b : Nat} (h : (P.info? t).map (fun i => (i.zero, i.size, i.bytes)) = some (some z, s, b)) : ∃ i, P.info? t = some i ∧ i.zero = some z ∧ i.size = s ∧ i.bytes = b := by
  cases hi : P.info? t with
  | none => rw [hi] at h; cases h
  | some i => rw [hi] at h; simp at h; exact ⟨i, rfl, h.1, h.2.1, h.2.2⟩
def bD (u : Nat → Nat) (n : Nat) : List Value := (List.range n).map fun i => .int .u8 (u i : Int)
theorem bD_snoc (u : Nat → Nat) (n : Nat) : bD u (n + 1) = bD u n ++ [.int .u8 (u n : Int)] := by simp [bD, List.range_succ]
theorem bD_at (u : Nat → Nat) (n i : Nat) (h : i < n) : (bD u n)[i]? = some (.int .u8 (u i : Int)) := by simp [bD, h]
theorem bD_len (u : Nat → Nat) (n : Nat) : (bD u n).length = n := by simp [bD]
theorem bD_ext {u v : Nat → Nat} {n : Nat} (h : ∀ i, i < n → u i = v i) : bD u n = bD v n := by
  unfold bD; apply List.map_congr_left; intro i hi; rw [h i (List.mem_range.1 hi)]
/-- these cells hold these bytes -/
def ByC (W : World) (g a n : Nat) (u : Nat → Nat) : Prop := ∀ i, i < n → W.cell? ⟨g, a + i, none⟩ = some (.int .u8 (u i : Int))
/-- v is a list of these n bytes -/
def By (W : World) (v : Value) (n : Nat) (u : Nat → Nat) : Prop := ∃ ad cap, v = .slice ad n cap ∧ n ≤ cap ∧ n ≤ 1152921504606846976 ∧ (0 < n → ∃ g a, ad = some ⟨g, a, none⟩ ∧ ByC W g a n u)
theorem ByC.past {W W' : World} {g a n : Nat} {u : Nat → Nat} (h : ByC W g a n u) (k : Below W.heap.size W W') : ByC W' g a n u := fun i hi => (k.cell (p := ⟨g, a + i, none⟩) (World.block_lt_of_cell? W _ (h i hi))).trans (h i hi)
theorem By.past {W W' : World} {v : Value} {n : Nat} {u : Nat → Nat} (h : By W v n u) (k : Below W.heap.size W W') : By W' v n u := by
  obtain ⟨ad, cap, rfl, h0, h1, h2⟩ := h
  exact ⟨ad, cap, rfl, h0, h1, fun hn => by obtain ⟨g, a, e, h3⟩ := h2 hn; exact ⟨g, a, e, h3.past k⟩⟩
theorem append_one {ops : Array Oper} {rest : List Oper} {o : Oper} {a : Act} {w : World} {Q : Exit → Act → World → Prop} (hgd : o.guard = none) (s x : Operand)
    (ho : o.op = .call { callee := .builtin .append, args := #[s, x], argTypes := #[33, 33] }) (base : Nat) (v : Value) (n : Nat) (u : Nat → Nat) (hs : a.eval s = v)
    (y : Int) (hy : y = (u n : Int)) (hown : w.ownsRow base 5 1 v n (bD u n)) (hx : a.eval x = .slice (some ⟨w.heap.size, 0, none⟩) 1 1) (hlen : n + 1 ≤ 1000000000) (hbase : base ≤ w.heap.size)
    (h : ∀ v' w', w'.ownsRow base 5 1 v' (n + 1) (bD u (n + 1)) → Below base w w' → wpList Tryd.prog ops Q rest (a.put o.dst v') w') : wpList Tryd.prog ops Q (o :: rest) a (w.alloc (.cells #[.int .u8 y] 5)) := by
  obtain ⟨i0, hi, hz0, hz1, hz2⟩ := info_partsB Tryd.info8
  refine wpList_append_own _ hgd s x 33 ho base 5 i0 (.int .u8 0) 1 1 Tryd.underlying33 hi hz0 hz1 hz2 rfl (by decide) v n (bD u n) hs (World.ownsRow.alloc hown _) ⟨w.heap.size, 0, none⟩ 1 1 [.int .u8 y] hx rfl (fun j u hj => by
    have : j = 0 := by have := (List.getElem?_eq_some_iff.1 hj).1; simpa using this
    subst this
    simp at hj
    subst hj
    simp [Addr.add]) (fun u hu => by rw [List.mem_singleton.1 hu]; rfl) (by unfold maxLen; omega) (by omega) (by simp; omega) (fun v' w' q1 q2 _ => h v' w' (by rw [bD_snoc, ← hy]; exact q1) (Below.grown ((Below.refl base w).alloc hbase _) q2 (by simp; omega) (fun q h => (hown.lt q h).1)))
/-- what is laid: the bytes, and room behind them with marks -/
def lay (u : Nat → Nat) (K i : Nat) : Nat := if i < K then u i else 201 + (i - K) % 5
theorem lay_lo {u : Nat → Nat} {K i : Nat} (h : i < K) : lay u K i = u i := if_pos h
theorem lay_hi (u : Nat → Nat) (K j : Nat) : lay u K (K + j) = 201 + j % 5 := by unfold lay; rw [if_neg (by omega), show K + j - K = j by omega]
theorem owns_slice {W : World} {B n : Nat} {v : Value} {xs : List Value} (hn : 0 < n) (h : W.ownsRow B 5 1 v n xs) : ∃ g c, v = .slice (some ⟨g, 0, none⟩) n c ∧ B ≤ g ∧ n ≤ c := by
  have h' := h
  obtain ⟨_, ⟨rfl, rfl⟩ | ⟨g, c, cur, rfl, hb, hh, hq, _⟩⟩ := h'
  · omega
  · exact ⟨g, c, rfl, hb, by omega⟩
theorem slice_toC (ad : Option Addr) (n cap q : Nat) (hq : q ≤ cap) (W : World) : Sem.run Tryd.prog (Instr.slice 33 (.slice ad n cap) none (some (.int .i64 (q : Int))) none) W = .ok (.slice ad q cap) W := by
  have e : (if cap = 0 then ad else ad.map (·.add (0 * 1))) = ad := by
    split
    · rfl
    · cases ad with
      | none => rfl
      | some a => obtain ⟨b, o, s⟩ := a; simp [Addr.add]
  simp [Instr.slice, Instr.sliceBounds, run_underlying Tryd.underlying33, run_sliceBound W .i64 (q : Int) cap _ (by omega) (by omega)]
  simpa using e
theorem owns_any {W : World} {B n : Nat} {v : Value} {xs : List Value} (h : W.ownsRow B 5 1 v n xs) : ∃ ad c, v = .slice ad n c := by
  have h' := h
  obtain ⟨_, ⟨rfl, rfl⟩ | ⟨g, c, cur, rfl, hb, hh, hq, _⟩⟩ := h'
  · exact ⟨_, _, rfl⟩
  · exact ⟨_, _, rfl⟩
end Go.Proofs.YtbjijbgjnammhaaDoor.Wds
