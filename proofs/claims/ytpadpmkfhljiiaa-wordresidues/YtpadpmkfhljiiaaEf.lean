/- divide: the quotient of eight parts by four, and what is left. -/
import Derived.Test.YtpadpmkfhljiiaaEc
import Derived.Test.YtpadpmkfhljiiaaEd
import Derived.Test.YtpadpmkfhljiiaaEe
import Derived.Test.YtpadpmkfhljiiaaWu
import Derived.WalkMore
namespace Go.Proofs.Ytpadpmkfhljiiaa
open Go.RowKit
/-- what divide answers: by 0 both are 0 -/
def DivRes (u : Nat → Int) (v0 v1 v2 v3 : Int) (e : Ending) : Prop := ∃ (q : Nat → Int) (l0 l1 l2 l3 : Int), e = .returned (.tuple #[.agg (rowL 8 q).toArray, .agg #[.int .u64 l0, .int .u64 l1, .int .u64 l2, .int .u64 l3]]) ∧ (∀ i, U64 (q i)) ∧ nv q 8 = nv u 8 / V v0 v1 v2 v3 ∧ IsW (if V v0 v1 v2 v3 = 0 then 0 else nv u 8 % V v0 v1 v2 v3) l0 l1 l2 l3
/-- what lies there while it is divided: the number, and the two results -/
structure Dq (w : World) (u : Nat → Int) (W : World) : Prop where
  bel : Below w.heap.size w W
  ru : Row W w.heap.size 8 u
  z8 : Row W (w.heap.size + 1 + 1) 8 (fun _ => 0)
  z4 : Box W (w.heap.size + 1 + 1 + 1) 0 0 0 0
theorem Dq.past {w W W' : World} {u : Nat → Int} (h : Dq w u W) (k : Below W.heap.size W W') : Dq w u W' :=
  ⟨h.bel.trans (k.mono h.bel.size), h.ru.below k (h.ru.lt (by omega)), h.z8.below k (h.z8.lt (by omega)), h.z4.below k h.z4.lt⟩
theorem Dq.alloc {w W : World} {u : Nat → Int} (h : Dq w u W) (o : Obj) : Dq w u (W.alloc o) := ⟨h.bel.alloc h.bel.size _, h.ru.alloc _, h.z8.alloc _, h.z4.alloc _⟩
theorem Dq.cells {w W : World} {u : Nat → Int} (h : Dq w u W) (b o : Nat) (vs : List Value) (hb : w.heap.size + 1 + 1 + 1 < b) : Dq w u (W.setCells b o vs) :=
  ⟨below_setCells b (by omega) vs o W h.bel, Row.set_others (by omega) vs o h.ru, Row.set_others (by omega) vs o h.z8, Box.set_others (by omega) vs o h.z4⟩
theorem Dq.cell {w W : World} {u : Nat → Int} (h : Dq w u W) (b o : Nat) (x : Value) (hb : w.heap.size + 1 + 1 + 1 < b) : Dq w u (W.setCell ⟨b, o, none⟩ x) := h.cells b o [x] hb
/-- the blocks while it is divided -/
structure Dv (w : World) (u : Nat → Int) (d0 d1 d2 d3 : Int) (bd br bq : Nat) (r q : Nat → Int) (W : World) : Prop where
  bas : Dq w u W
  bd : Box W bd d0 d1 d2 d3
  rr : Row W br 9 r
  rq : Row W bq 8 q
theorem Dv.past {w W W' : World} {u : Nat → Int} {d0 d1 d2 d3 : Int} {bd br bq : Nat} {r q : Nat → Int} (h : Dv w u d0 d1 d2 d3 bd br bq r q W) (k : Below W.heap.size W W') : Dv w u d0 d1 d2 d3 bd br bq r q W' :=
  ⟨h.bas.past k, h.bd.below k h.bd.lt, h.rr.below k (h.rr.lt (by omega)), h.rq.below k (h.rq.lt (by omega))⟩
theorem Dv.drew {w W : World} {u : Nat → Int} {d0 d1 d2 d3 : Int} {bd br bq : Nat} {r q : Nat → Int} (h : Dv w u d0 d1 d2 d3 bd br bq r q W) : Dv w u d0 d1 d2 d3 bd br bq r q W.drew := ⟨⟨h.bas.bel.drew, h.bas.ru.drew, h.bas.z8.drew, h.bas.z4.drew⟩, h.bd.drew, h.rr.drew, h.rq.drew⟩
theorem Dv.alloc {w W : World} {u : Nat → Int} {d0 d1 d2 d3 : Int} {bd br bq : Nat} {r q : Nat → Int} (h : Dv w u d0 d1 d2 d3 bd br bq r q W) (o : Obj) : Dv w u d0 d1 d2 d3 bd br bq r q (W.alloc o) := ⟨h.bas.alloc _, h.bd.alloc _, h.rr.alloc _, h.rq.alloc _⟩
/-- another block is written -/
theorem Dv.cells {w W : World} {u : Nat → Int} {d0 d1 d2 d3 : Int} {bd br bq : Nat} {r q : Nat → Int} (h : Dv w u d0 d1 d2 d3 bd br bq r q W) (b o : Nat) (vs : List Value) (hb : w.heap.size + 1 + 1 + 1 < b) (h1 : b ≠ bd) (h2 : b ≠ br) (h3 : b ≠ bq) : Dv w u d0 d1 d2 d3 bd br bq r q (W.setCells b o vs) :=
  ⟨h.bas.cells b o vs hb, Box.set_others h1 vs o h.bd, Row.set_others h2 vs o h.rr, Row.set_others h3 vs o h.rq⟩
/-- a digit is laid down -/
theorem Dv.putq {w W : World} {u : Nat → Int} {d0 d1 d2 d3 : Int} {bd br bq : Nat} {r q : Nat → Int} (h : Dv w u d0 d1 d2 d3 bd br bq r q W) (hb : w.heap.size + 1 + 1 + 1 < bq) (h1 : bq ≠ bd) (h2 : bq ≠ br) (a : Nat) (k : Int) : Dv w u d0 d1 d2 d3 bd br bq r (fun i => if i = a then k else q i) (W.setCell ⟨bq, a, none⟩ (.int .u64 k)) :=
  ⟨h.bas.cell bq a _ hb, h.bd.other _ _ h1, h.rr.set_other _ _ h2, h.rq.set a k⟩
/-- what is left is laid down -/
theorem Dv.putr {w W : World} {u : Nat → Int} {d0 d1 d2 d3 : Int} {bd br bq : Nat} {r q : Nat → Int} (h : Dv w u d0 d1 d2 d3 bd br bq r q W) (hb : w.heap.size + 1 + 1 + 1 < br) (h1 : br ≠ bd) (h2 : br ≠ bq) (z : Nat → Int) : Dv w u d0 d1 d2 d3 bd br bq z q (W.setCells br 0 (rowL 9 z)) :=
  ⟨h.bas.cells br 0 _ hb, Box.set_others h1 _ 0 h.bd, Row.of_range h.rr, Row.set_others h2 _ 0 h.rq⟩
/-- the numbers while it is divided: k columns are still to be done -/
structure Dn (u d : Nat → Int) (P : Int) (n k : Nat) (r q : Nat → Int) : Prop where
  ur : ∀ i, U64 (r i)
  uq : ∀ i, U64 (q i)
  low : ∀ i, i < k → q i = 0
  eq : nv u 8 * P = nv q 8 * nv d n + nv r 9
  lt : nv r 9 < nv d n * Bd ^ k
  d0 : 0 < nv d n
  dn : nv d n < Bd ^ n
  fits : k + n ≤ 9 ∨ k = 0
theorem Dn.col {u d : Nat → Int} {P : Int} {n a : Nat} {r q : Nat → Int} (h : Dn u d P n (a + 1) r q) : Col r n a (nv d n) := ⟨h.ur, h.d0, h.dn, h.lt, by have := h.fits; omega⟩
/-- a digit was found -/
theorem Dn.step {u d : Nat → Int} {P : Int} {n a : Nat} {r q s : Nat → Int} {k : Int} (h : Dn u d P n (a + 1) r q) (o : Off r d n a k s true) (hk : k = nv (sh r a) (n + 1) / nv d n) (ha : a < 8) (hu : U64 k) : Dn u d P n a s (fun i => if i = a then k else q i) := by
  obtain ⟨e1, e2⟩ := o.left h.col rfl hk
  refine ⟨o.u, fun i => ?_, fun i hi => ?_, ?_, e2, h.d0, h.dn, by have := h.fits; omega⟩
  · split
    · exact hu
    · exact h.uq i
  · rw [if_neg (by omega)]; exact h.low i (by omega)
  · rw [nv_set q a k 8 ha (h.low a (by omega)), h.eq, e1, Int.add_mul, Int.mul_assoc k, Int.mul_comm (Bd ^ a)]; omega
/-- no digit -/
theorem Dn.skip {u d : Nat → Int} {P : Int} {n a : Nat} {r q : Nat → Int} (h : Dn u d P n (a + 1) r q) (hk : nv (sh r a) (n + 1) / nv d n ≤ 0) : Dn u d P n a r q := by
  have h1 := h.col.digit.1
  exact ⟨h.ur, h.uq, fun i hi => h.low i (by omega), h.eq, h.col.none (by omega), h.d0, h.dn, by have := h.fits; omega⟩
theorem there_row {W : World} {b n : Nat} {v g : Nat → Int} (h : Row W b n v) : W.there b 0 (rowL n g).toArray.size := by rw [List.size_toArray, rowL_len]; exact h.there
/-- a new row of nine, and what is laid into it -/
theorem new9 {ops : Array Oper} {rest : List Oper} {op1 op2 : Oper} {a : Act} {w : World} {Q : Exit → Act → World → Prop} (z : Nat → Int) (p : Tmp) (y : Operand) (hg1 : op1.guard = none) (ho1 : op1.op = .alloc 90) (hd : op1.dst = some p) (hg2 : op2.guard = none) (ho2 : op2.op = .store 90 (.tmp p) y)
    (hx : (a.put (some p) (.pointer (some ⟨w.heap.size, 0, none⟩))).eval (.tmp p) = .pointer (some ⟨w.heap.size, 0, none⟩)) (hy : (a.put (some p) (.pointer (some ⟨w.heap.size, 0, none⟩))).eval y = .agg (rowL 9 z).toArray)
    (h : ∀ W', Below w.heap.size w W' → Row W' w.heap.size 9 z → wpList Try.prog ops Q rest ((a.put (some p) (.pointer (some ⟨w.heap.size, 0, none⟩))).put op2.dst undef) W') : wpList Try.prog ops Q (op1 :: op2 :: rest) a w := by
  have hr : (execOp a.eval op1).run Try.prog w = .ok (.value (.pointer (some ⟨w.heap.size, 0, none⟩))) (w.alloc (.cells (rowL 9 fun _ => 0).toArray 90)) := by
    unfold execOp
    simp only [ho1]
    kernel_rfl
  refine wpList_plain hg1 fun K hK => ?_
  unfold Oper.wp
  rw [hr, Oper.upon_value, hd]
  refine hK _ _ ?_
  have hR := Row.new w 90 9 (fun _ => 0)
  refine store9 z w.heap.size hg2 _ _ ho2 hx hy hR.there ?_
  exact h _ (below_setCells _ (Nat.le_refl _) _ _ _ ((Below.refl _ _).alloc (Nat.le_refl _) _)) (Row.of_range hR)
theorem Bd_le (m : Nat) (h : m ≤ 4) : Bd ^ m ≤ MM := by
  rw [← Bd4]
  obtain ⟨k, hk⟩ := Nat.exists_eq_add_of_le h
  have h9 := Int.mul_le_mul_of_nonneg_left (show 1 ≤ Bd ^ k by have := Bp k; omega) (Int.le_of_lt (Bp m))
  rw [← Int.pow_add, ← hk, Int.mul_one] at h9
  exact h9
/-- the end: nothing is left to be done -/
theorem Dn.fin {u d : Nat → Int} {P W : Int} {n : Nat} {r q : Nat → Int} (h : Dn u d P n 0 r q) (hP : 0 < P) (e : nv d n = W * P) (h0 : 0 < W) (hn : n ≤ 4) : nv q 8 = nv u 8 / W ∧ nv r 9 = (nv u 8 % W) * P ∧ nv r 9 < MM := by
  have h1 := h.eq
  have h2 := h.lt
  have h3 := h.dn
  have h4 := Bd_le n hn
  rw [e] at h1 h2 h3
  rw [Int.pow_zero, Int.mul_one] at h2
  obtain ⟨e1, e2⟩ := div_end hP h0 h1 (nv_range h.ur 9).1 h2
  exact ⟨e1, e2, by omega⟩
theorem nv_up {r : Nat → Int} (h : ∀ i, U64 (r i)) (n m : Nat) (hn : n ≤ m) (hl : nv r m < Bd ^ n) : nv r n = nv r m := by
  obtain ⟨k, rfl⟩ := Nat.exists_eq_add_of_le hn
  rw [nv_split, nv_top h n k hl]; simp
/-- the divisor with its highest bit at the top -/
theorem norm_facts {v0 v1 v2 v3 d0 d1 d2 d3 : Int} (hv : IsW (V v0 v1 v2 v3) v0 v1 v2 v3) (n s : Nat) (hn : n < 4) (hs : s < 64) (hne : limb v0 v1 v2 v3 n ≠ 0) (hz : ∀ i, n + 1 ≤ i → i < 4 → limb v0 v1 v2 v3 i = 0)
    (hb : limb v0 v1 v2 v3 n < 2 ^ (64 - s)) (hd : IsW (V v0 v1 v2 v3 * 2 ^ s) d0 d1 d2 d3) :
    nv (limb d0 d1 d2 d3) (n + 1) = V v0 v1 v2 v3 * 2 ^ s ∧ nv (limb v0 v1 v2 v3) (n + 1) = V v0 v1 v2 v3 ∧ 0 < V v0 v1 v2 v3 ∧ V v0 v1 v2 v3 * 2 ^ s < Bd ^ (n + 1) := by
  have hu := limb_u64 hv.u0 hv.u1 hv.u2 hv.u3
  have e1 : nv (limb v0 v1 v2 v3) (n + 1) = V v0 v1 v2 v3 := by rw [← nv4]; exact (nv_more (n + 1) 4 (by omega) hz).symm
  have hP := two_pos s
  have hB := Bp n
  have hr := nv_range hu n
  have hy0 := (hu n).1
  have e2 := e1
  rw [nv] at e2
  generalize limb v0 v1 v2 v3 n = y at hne hb hy0 e2
  have h1 : y * Bd ^ n ≥ 1 * Bd ^ n := Int.mul_le_mul_of_nonneg_right (by omega) (Int.le_of_lt hB)
  have h2 : (y + 1) * 2 ^ s ≤ Bd := by
    have : (y + 1) * 2 ^ s ≤ 2 ^ (64 - s) * 2 ^ s := Int.mul_le_mul_of_nonneg_right (by omega) (Int.le_of_lt hP)
    rw [← Int.pow_add, show 64 - s + s = 64 by omega] at this
    exact this
  have h3 : V v0 v1 v2 v3 * 2 ^ s < Bd ^ (n + 1) := by
    have h4 : V v0 v1 v2 v3 < (y + 1) * Bd ^ n := by rw [Int.add_mul, Int.one_mul]; omega
    have h5 := Int.mul_lt_mul_of_pos_right h4 hP
    have h6 := Int.mul_le_mul_of_nonneg_right h2 (Int.le_of_lt hB)
    rw [Int.pow_succ, Int.mul_comm (Bd ^ n) Bd]
    rw [Int.mul_assoc, Int.mul_comm (Bd ^ n), ← Int.mul_assoc] at h5
    omega
  have h7 : Bd ^ (n + 1) ≤ MM := by
    rw [← Bd4]
    obtain ⟨k, hk⟩ := Nat.exists_eq_add_of_le (show n + 1 ≤ 4 by omega)
    have h9 := Int.mul_le_mul_of_nonneg_left (show 1 ≤ Bd ^ k by have := Bp k; omega) (Int.le_of_lt (Bp (n + 1)))
    rw [← Int.pow_add, ← hk, Int.mul_one] at h9
    exact h9
  have h0 : 0 < V v0 v1 v2 v3 := by omega
  have h8 := hd.small (Int.mul_nonneg (by omega) (by omega)) (by omega)
  refine ⟨?_, e1, h0, h3⟩
  rw [← h8, ← nv4]
  exact nv_up (limb_u64 hd.u0 hd.u1 hd.u2 hd.u3) (n + 1) 4 (by omega) (by rw [nv4, h8]; exact h3)
theorem Dn.start {u d v : Nat → Int} {P W : Int} {n m : Nat} {r : Nat → Int} (hu : ∀ i, U64 (u i)) (hv : ∀ i, U64 (v i)) (hr : ∀ i, U64 (r i)) (hP : 0 < P) (hne : v n ≠ 0) (hm : m ≤ 8) (hz : ∀ i, m ≤ i → i < 8 → u i = 0) (e : nv r 9 = nv u 8 * P)
    (e1 : nv d (n + 1) = W * P) (e2 : nv v (n + 1) = W) (h0 : 0 < W) (hlt : W * P < Bd ^ (n + 1)) (hn : n < 4) : Dn u d P (n + 1) (m - n) r (fun _ => 0) := by
  have hs := div_start (k := m - n) hu hv hP hne hm hz (by omega)
  refine ⟨hr, fun i => ⟨by simp, by unfold Bd; simp⟩, fun _ _ => rfl, ?_, ?_, ?_, ?_, by omega⟩
  · rw [nv_zero 8 (r := fun _ => (0 : Int)) (fun _ _ => rfl), Int.zero_mul, Int.zero_add, e]
  · rw [e, e1, ← e2]; exact hs
  · rw [e1]; exact Int.mul_pos h0 hP
  · rw [e1]; exact hlt
theorem Box.range {W : World} {b : Nat} {a0 a1 a2 a3 : Int} (h : Box W b a0 a1 a2 a3) : W.rangeAt b 0 [.int .u64 a0, .int .u64 a1, .int .u64 a2, .int .u64 a3] := fun j x hx => by
  obtain ⟨c0, c1, c2, c3, _⟩ := h.facts
  rw [Nat.zero_add]
  rcases j with _ | _ | _ | _ | j
  · rw [c0]; exact hx
  · rw [c1]; exact hx
  · rw [c2]; exact hx
  · rw [c3]; exact hx
  · simp at hx
theorem loadVar4 {W : World} {b : Nat} {a0 a1 a2 a3 : Int} (h : Box W b a0 a1 a2 a3) : (loadVar 24 ⟨b, 0, none⟩).run Try.prog W = .ok (.agg #[.int .u64 a0, .int .u64 a1, .int .u64 a2, .int .u64 a3]) W :=
  run_loadVar_mid W b 0 24 [.int .u64 a0, .int .u64 a1, .int .u64 a2, .int .u64 a3] _ h.range Try.underlying24 rfl (by kernel_rfl)
theorem slice4 (g : Nat) (W : World) : Sem.run Try.prog (Instr.sliceAt 24 (.pointer (some ⟨g, 0, none⟩)) none none none) W = .ok (.slice (some ⟨g, 0, none⟩) 4 4) W := by
  have h4 : Try.prog.arrayLen 24 = 4 := by kernel_rfl
  have sz : Sem.run Try.prog (sizeOf (Try.prog.elem 24)) W = .ok 1 W := by kernel_rfl
  rw [run_sliceAt_array_all W 24 ⟨g, 0, none⟩ (by kernel_rfl), sz, h4, Result.andThen_ok]
  rfl
theorem slice8 (g : Nat) (W : World) : Sem.run Try.prog (Instr.sliceAt 69 (.pointer (some ⟨g, 0, none⟩)) none none none) W = .ok (.slice (some ⟨g, 0, none⟩) 8 8) W := by
  have h8 : Try.prog.arrayLen 69 = 8 := by kernel_rfl
  have sz : Sem.run Try.prog (sizeOf (Try.prog.elem 69)) W = .ok 1 W := by kernel_rfl
  rw [run_sliceAt_array_all W 69 ⟨g, 0, none⟩ (by kernel_rfl), sz, h8, Result.andThen_ok]
  rfl
end Go.Proofs.Ytpadpmkfhljiiaa
