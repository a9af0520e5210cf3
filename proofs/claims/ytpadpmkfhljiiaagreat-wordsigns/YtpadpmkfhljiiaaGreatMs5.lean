/- divide: the quotient of eight parts by four, and what is left. -/
import Derived.Test.YtpadpmkfhljiiaaGreatMs4
import Derived.WalkMore
import Derived.Test.YtpadpmkfhljiiaaGreatMs3
namespace Go.Proofs.YtpadpmkfhljiiaaGreat
open Go.RowKit
/-- what divide answers: by 0 both are 0 -/
def DivRes (u : Nat → Int) (v0 v1 v2 v3 : Int) (e : Ending) : Prop := ∃ (q : Nat → Int) (l0 l1 l2 l3 : Int), e = .returned (.tuple #[.agg (rowL 8 q).toArray, .agg #[.int .u64 l0, .int .u64 l1, .int .u64 l2, .int .u64 l3]]) ∧ (∀ i, U64 (q i)) ∧ nv q 8 = nv u 8 / V v0 v1 v2 v3 ∧ IsW (if V v0 v1 v2 v3 = 0 then 0 else nv u 8 % V v0 v1 v2 v3) l0 l1 l2 l3
/-- what lies there while it is divided: the number, and the two results -/
structure Dq (w : World) (u : Nat → Int) (W : World) : Prop where
  bel : Below w.heap.size w W
  ru : Row W w.heap.size 8 u
  z8 : Row W (w.heap.size + 1 + 1) 8 (fun _ => 0)
  z4 : Box W (w.heap.size + 1 + 1 + 1) 0 0 0 0
theorem Dq.past {w W W' : World} {u : Nat → Int} (h : Dq w u W) (k : Below W.heap.size W W') : Dq w u W' :=
  ⟨h.bel.trans (k.mono h.bel.size), h.ru.below k (h.ru.lt (by omega)), h.z8.below k (h.z8.lt (by omega)), h.z4.below k h.z4.lt⟩
theorem Dq.alloc {w W : World} {u : Nat → Int} (h : Dq w u W) (o : Obj) : Dq w u (W.alloc o) := ⟨h.bel.alloc h.bel.size _, h.ru.alloc _, h.z8.alloc _, h.z4.alloc _⟩
theorem Dq.cells {w W : World} {u : Nat → Int} (h : Dq w u W) (b o : Nat) (vs : List Value) (hb : w.heap.size + 1 + 1 + 1 < b) : Dq w u (W.setCells b o vs) :=
  ⟨below_setCells b (by omega) vs o W h.bel, Row.set_others (by omega) vs o h.ru, Row.set_others (by omega) vs o h.z8, Box.set_others (by omega) vs o h.z4⟩
theorem Dq.cell {w W : World} {u : Nat → Int} (h : Dq w u W) (b o : Nat) (x : Value) (hb : w.heap.size + 1 + 1 + 1 < b) : Dq w u (W.setCell ⟨b, o, none⟩ x) := h.cells b o [x] hb
/-- the blocks while it is divided -/
structure Dv (w : World) (u : Nat → Int) (d0 d1 d2 d3 : Int) (bd br bq : Nat) (r q : Nat → Int) (W : World) : Prop where
  bas : Dq w u W
  bd : Box W bd d0 d1 d2 d3
  rr : Row W br 9 r
  rq : Row W bq 8 q
theorem Dv.past {w W W' : World} {u : Nat → Int} {d0 d1 d2 d3 : Int} {bd br bq : Nat} {r q : Nat → Int} (h : Dv w u d0 d1 d2 d3 bd br bq r q W) (k : Below W.heap.size W W') : Dv w u d0 d1 d2 d3 bd br bq r q W' :=
  ⟨h.bas.past k, h.bd.below k h.bd.lt, h.rr.below k (h.rr.lt (by omega)), h.rq.below k (h.rq.lt (by omega))⟩
theorem Dv.drew {w W : World} {u : Nat → Int} {d0 d1 d2 d3 : Int} {bd br bq : Nat} {r q : Nat → Int} (h : Dv w u d0 d1 d2 d3 bd br bq r q W) : Dv w u d0 d1 d2 d3 bd br bq r q W.drew := ⟨⟨h.bas.bel.drew, h.bas.ru.drew, h.bas.z8.drew, h.bas.z4.drew⟩, h.bd.drew, h.rr.drew, h.rq.drew⟩
theorem Dv.alloc {w W : World} {u : Nat → Int} {d0 d1 d2 d3 : Int} {bd br bq : Nat} {r q : Nat → Int} (h : Dv w u d0 d1 d2 d3 bd br bq r q W) (o : Obj) : Dv w u d0 d1 d2 d3 bd br bq r q (W.alloc o) := ⟨h.bas.alloc _, h.bd.alloc _, h.rr.alloc _, h.rq.alloc _⟩
/-- another block is written -/
theorem Dv.cells {w W : World} {u : Nat → Int} {d0 d1 d2 d3 : Int} {bd br bq : Nat} {r q : Nat → Int} (h : Dv w u d0 d1 d2 d3 bd br bq r q W) (b o : Nat) (vs : List Value) (hb : w.heap.size + 1 + 1 + 1 < b) (h1 : b ≠ bd) (h2 : b ≠ br) (h3 : b ≠ bq) : Dv w u d0 d1 d2 d3 bd br bq r q (W.setCells b o vs) :=
  ⟨h.bas.cells b o vs hb, Box.set_others h1 vs o h.bd, Row.set_others h2 vs o h.rr, Row.set_others h3 vs o h.rq⟩
/-- a digit is laid down -/
theorem Dv.putq {w W : World} {u : Nat → Int} {d0 d1 d2 d3 : Int} {bd br bq : Nat} {r q : Nat → Int} (h : Dv w u d0 d1 d2 d3 bd br bq r q W) (hb : w.heap.size + 1 + 1 + 1 < bq) (h1 : bq ≠ bd) (h2 : bq ≠ br) (a : Nat) (k : Int) : Dv w u d0 d1 d2 d3 bd br bq r (fun i => if i = a then k else q i) (W.setCell ⟨bq, a, none⟩ (.int .u64 k)) :=
  ⟨h.bas.cell bq a _ hb, h.bd.other _ _ h1, h.rr.set_other _ _ h2, h.rq.set a k⟩
/-- what is left is laid down -/
theorem Dv.putr {w W : World} {u : Nat → Int} {d0 d1 d2 d3 : Int} {bd br bq : Nat} {r q : Nat → Int} (h : Dv w u d0 d1 d2 d3 bd br bq r q W) (hb : w.heap.size + 1 + 1 + 1 < br) (h1 : br ≠ bd) (h2 : br ≠ bq) (z : Nat → Int) : Dv w u d0 d1 d2 d3 bd br bq z q (W.setCells br 0 (rowL 9 z)) :=
  ⟨h.bas.cells br 0 _ hb, Box.set_others h1 _ 0 h.bd, Row.of_range h.rr, Row.set_others h2 _ 0 h.rq⟩
/-- the numbers while it is divided: k columns are still to be done -/
structure Dn (u d : Nat → Int) (P : Int) (n k : Nat) (r q : Nat → Int) : Prop where
  ur : ∀ i, U64 (r i)
  uq : ∀ i, U64 (q i)
  low : ∀ i, i < k → q i = 0
  eq : nv u 8 * P = nv q 8 * nv d n + nv r 9
  lt : nv r 9 < nv d n * Bd ^ k
  d0 : 0 < nv d n
  dn : nv d n < Bd ^ n
  fits : k + n ≤ 9 ∨ k = 0
theorem Dn.col {u d : Nat → Int} {P : Int} {n a : Nat} {r q : Nat → Int} (h : Dn u d P n (a + 1) r q) : Col r n a (nv d n) := ⟨h.ur, h.d0, h.dn, h.lt, by have := h.fits; omega⟩
/-- a digit was found -/
theorem Dn.step {u d : Nat → Int} {P : Int} {n a : Nat} {r q s : Nat → Int} {k : Int} (h : Dn u d P n (a + 1) r q) (o : Off r d n a k s true) (hk : k = nv (sh r a) (n + 1) / nv d n) (ha : a < 8) (hu : U64 k) : Dn u d P n a s (fun i => if i = a then k else q i) := by
  obtain ⟨e1, e2⟩ := o.left h.col rfl hk
  refine ⟨o.u, fun i => ?_, fun i hi => ?_, ?_, e2, h.d0, h.dn, by have := h.fits; omega⟩
  · split
    · exact hu
    · exact h.uq i
  · rw [if_neg (by omega)]; exact h.low i (by omega)
  · rw [nv_set q a k 8 ha (h.low a (by omega)), h.eq, e1, Int.add_mul, Int.mul_assoc k, Int.mul_comm (Bd ^ a)]; omega
/-- no digit -/
theorem Dn.skip {u d : Nat → Int} {P : Int} {n a : Nat} {r q : Nat → Int} (h : Dn u d P n (a + 1) r q) (hk : nv (sh r a) (n + 1) / nv d n ≤ 0) : Dn u d P n a r q := by
  have h1 := h.col.digit.1
  exact ⟨h.ur, h.uq, fun i hi => h.low i (by omega), h.eq, h.col.none (by omega), h.d0, h.dn, by have := h.fits; omega⟩
theorem there_row {W : World} {b n : Nat} {v g : Nat → Int} (h : Row W b n v) : W.there b 0 (rowL n g).toArray.size := by rw [List.size_toArray, rowL_len]; exact h.there
/-- a new row of nine, and what is laid into it -/
theorem new9 {ops : Array Oper} {rest : List Oper} {op1 op2 : Oper} {a : Act} {w : World} {Q : Exit → Act → World → Prop} (z : Nat → Int) (p : Tmp) (y : Operand) (hg1 : op1.guard = none) (ho1 : op1.op = .alloc 110) (hd : op1.dst = some p) (hg2 : op2.guard = none) (ho2 : op2.op = .store 110 (.tmp p) y)
    (hx : (a.put (some p) (.pointer (some ⟨w.heap.size, 0, none⟩))).eval (.tmp p) = .pointer (some ⟨w.heap.size, 0, none⟩)) (hy : (a.put (some p) (.pointer (some ⟨w.heap.size, 0, none⟩))).eval y = .agg (rowL 9 z).toArray)
    (h : ∀ W', Below w.heap.size w W' → Row W' w.heap.size 9 z → wpList Tryz.prog ops Q rest ((a.put (some p) (.pointer (some ⟨w.heap.size, 0, none⟩))).put op2.dst undef) W') : wpList Tryz.prog ops Q (op1 :: op2 :: rest) a w := by
  have hr : (execOp a.eval op1).run Tryz.prog w = .ok (.value (.pointer (some ⟨w.heap.size, 0, none⟩))) (w.alloc (.cells (rowL 9 fun _ => 0).toArray 110)) := by
    unfold execOp
    simp only [ho1]
    kernel_rfl
  refine wpList_plain hg1 fun K hK => ?_
  unfold Oper.wp
  rw [hr, Oper.upon_value, hd]
  refine hK _ _ ?_
  have hR := Row.new w 110 9 (fun _ => 0)
  refine store9 z w.heap.size hg2 _ _ ho2 hx hy hR.there ?_
  exact h _ (below_setCells _ (Nat.le_refl _) _ _ _ ((Below.refl _ _).alloc (Nat.le_refl _) _)) (Row.of_range hR)
theorem Bd_le (m : Nat) (h : m ≤ 4) : Bd ^ m ≤ MM := by
  rw [← Bd4]
  obtain ⟨k, hk⟩ := Nat.exists_eq_add_of_le h
  have h9 := Int.mul_le_mul_of_nonneg_left (show 1 ≤ Bd ^ k by have := Bp k; omega) (Int.le_of_lt (Bp m))
  rw [← Int.pow_add, ← hk, Int.mul_one] at h9
  exact h9
/-- the end: nothing is left to be done -/
theorem Dn.fin {u d : Nat → Int} {P W : Int} {n : Nat} {r q : Nat → Int} (h : Dn u d P n 0 r q) (hP : 0 < P) (e : nv d n = W * P) (h0 : 0 < W) (hn : n ≤ 4) : nv q 8 = nv u 8 / W ∧ nv r 9 = (nv u 8 % W) * P ∧ nv r 9 < MM := by
  have h1 := h.eq
  have h2 := h.lt
  have h3 := h.dn
  have h4 := Bd_le n hn
  rw [e] at h1 h2 h3
  rw [Int.pow_zero, Int.mul_one] at h2
  obtain ⟨e1, e2⟩ := div_end hP h0 h1 (nv_range h.ur 9).1 h2
  exact ⟨e1, e2, by omega⟩
theorem nv_up {r : Nat → Int} (h : ∀ i, U64 (r i)) (n m : Nat) (hn : n ≤ m) (hl : nv r m < Bd ^ n) : nv r n = nv r m := by
  obtain ⟨k, rfl⟩ := Nat.exists_eq_add_of_le hn
  rw [nv_split, nv_top h n k hl]; simp
/-- the divisor with its highest bit at the top -/
theorem norm_facts {v0 v1 v2 v3 d0 d1 d2 d3 : Int} (hv : IsW (V v0 v1 v2 v3) v0 v1 v2 v3) (n s : Nat) (hn : n < 4) (hs : s < 64) (hne : limb v0 v1 v2 v3 n ≠ 0) (hz : ∀ i, n + 1 ≤ i → i < 4 → limb v0 v1 v2 v3 i = 0)
    (hb : limb v0 v1 v2 v3 n < 2 ^ (64 - s)) (hd : IsW (V v0 v1 v2 v3 * 2 ^ s) d0 d1 d2 d3) :
    nv (limb d0 d1 d2 d3) (n + 1) = V v0 v1 v2 v3 * 2 ^ s ∧ nv (limb v0 v1 v2 v3) (n + 1) = V v0 v1 v2 v3 ∧ 0 < V v0 v1 v2 v3 ∧ V v0 v1 v2 v3 * 2 ^ s < Bd ^ (n + 1) := by
  have hu := limb_u64 hv.u0 hv.u1 hv.u2 hv.u3
  have e1 : nv (limb v0 v1 v2 v3) (n + 1) = V v0 v1 v2 v3 := by rw [← nv4]; exact (nv_more (n + 1) 4 (by omega) hz).symm
  have hP := two_pos s
  have hB := Bp n
  have hr := nv_range hu n
  have hy0 := (hu n).1
  have e2 := e1
  rw [nv] at e2
  generalize limb v0 v1 v2 v3 n = y at hne hb hy0 e2
  have h1 : y * Bd ^ n ≥ 1 * Bd ^ n := Int.mul_le_mul_of_nonneg_right (by omega) (Int.le_of_lt hB)
  have h2 : (y + 1) * 2 ^ s ≤ Bd := by
    have : (y + 1) * 2 ^ s ≤ 2 ^ (64 - s) * 2 ^ s := Int.mul_le_mul_of_nonneg_right (by omega) (Int.le_of_lt hP)
    rw [← Int.pow_add, show 64 - s + s = 64 by omega] at this
    exact this
  have h3 : V v0 v1 v2 v3 * 2 ^ s < Bd ^ (n + 1) := by
    have h4 : V v0 v1 v2 v3 < (y + 1) * Bd ^ n := by rw [Int.add_mul, Int.one_mul]; omega
    have h5 := Int.mul_lt_mul_of_pos_right h4 hP
    have h6 := Int.mul_le_mul_of_nonneg_right h2 (Int.le_of_lt hB)
    rw [Int.pow_succ, Int.mul_comm (Bd ^ n) Bd]
    rw [Int.mul_assoc, Int.mul_comm (Bd ^ n), ← Int.mul_assoc] at h5
    omega
  have h7 : Bd ^ (n + 1) ≤ MM := by
    rw [← Bd4]
    obtain ⟨k, hk⟩ := Nat.exists_eq_add_of_le (show n + 1 ≤ 4 by omega)
    have h9 := Int.mul_le_mul_of_nonneg_left (show 1 ≤ Bd ^ k by have := Bp k; omega) (Int.le_of_lt (Bp (n + 1)))
    rw [← Int.pow_add, ← hk, Int.mul_one] at h9
    exact h9
  have h0 : 0 < V v0 v1 v2 v3 := by omega
  have h8 := hd.small (Int.mul_nonneg (by omega) (by omega)) (by omega)
  refine ⟨?_, e1, h0, h3⟩
  rw [← h8, ← nv4]
  exact nv_up (limb_u64 hd.u0 hd.u1 hd.u2 hd.u3) (n + 1) 4 (by omega) (by rw [nv4, h8]; exact h3)
theorem Dn.start {u d v : Nat → Int} {P W : Int} {n m : Nat} {r : Nat → Int} (hu : ∀ i, U64 (u i)) (hv : ∀ i, U64 (v i)) (hr : ∀ i, U64 (r i)) (hP : 0 < P) (hne : v n ≠ 0) (hm : m ≤ 8) (hz : ∀ i, m ≤ i → i < 8 → u i = 0) (e : nv r 9 = nv u 8 * P)
    (e1 : nv d (n + 1) = W * P) (e2 : nv v (n + 1) = W) (h0 : 0 < W) (hlt : W * P < Bd ^ (n + 1)) (hn : n < 4) : Dn u d P (n + 1) (m - n) r (fun _ => 0) := by
  have hs := div_start (k := m - n) hu hv hP hne hm hz (by omega)
  refine ⟨hr, fun i => ⟨by simp, by unfold Bd; simp⟩, fun _ _ => rfl, ?_, ?_, ?_, ?_, by omega⟩
  · rw [nv_zero 8 (r := fun _ => (0 : Int)) (fun _ _ => rfl), Int.zero_mul, Int.zero_add, e]
  · rw [e, e1, ← e2]; exact hs
  · rw [e1]; exact Int.mul_pos h0 hP
  · rw [e1]; exact hlt
theorem Box.range {W : World} {b : Nat} {a0 a1 a2 a3 : Int} (h : Box W b a0 a1 a2 a3) : W.rangeAt b 0 [.int .u64 a0, .int .u64 a1, .int .u64 a2, .int .u64 a3] := fun j x hx => by
  obtain ⟨c0, c1, c2, c3, _⟩ := h.facts
  rw [Nat.zero_add]
  rcases j with _ | _ | _ | _ | j
  · rw [c0]; exact hx
  · rw [c1]; exact hx
  · rw [c2]; exact hx
  · rw [c3]; exact hx
  · simp at hx
theorem loadVar4 {W : World} {b : Nat} {a0 a1 a2 a3 : Int} (h : Box W b a0 a1 a2 a3) : (loadVar 24 ⟨b, 0, none⟩).run Tryz.prog W = .ok (.agg #[.int .u64 a0, .int .u64 a1, .int .u64 a2, .int .u64 a3]) W :=
  run_loadVar_mid W b 0 24 [.int .u64 a0, .int .u64 a1, .int .u64 a2, .int .u64 a3] _ h.range Tryz.underlying24 rfl (by kernel_rfl)
theorem slice4 (g : Nat) (W : World) : Sem.run Tryz.prog (Instr.sliceAt 24 (.pointer (some ⟨g, 0, none⟩)) none none none) W = .ok (.slice (some ⟨g, 0, none⟩) 4 4) W := by
  have h4 : Tryz.prog.arrayLen 24 = 4 := by kernel_rfl
  have sz : Sem.run Tryz.prog (sizeOf (Tryz.prog.elem 24)) W = .ok 1 W := by kernel_rfl
  rw [run_sliceAt_array_all W 24 ⟨g, 0, none⟩ (by kernel_rfl), sz, h4, Result.andThen_ok]
  rfl
theorem slice8 (g : Nat) (W : World) : Sem.run Tryz.prog (Instr.sliceAt 69 (.pointer (some ⟨g, 0, none⟩)) none none none) W = .ok (.slice (some ⟨g, 0, none⟩) 8 8) W := by
  have h8 : Tryz.prog.arrayLen 69 = 8 := by kernel_rfl
  have sz : Sem.run Tryz.prog (sizeOf (Tryz.prog.elem 69)) W = .ok 1 W := by kernel_rfl
  rw [run_sliceAt_array_all W 69 ⟨g, 0, none⟩ (by kernel_rfl), sz, h8, Result.andThen_ok]
  rfl
end Go.Proofs.YtpadpmkfhljiiaaGreat
/- The document's rows as numbers, and what each of its functions makes of them. -/
namespace Go.Proofs.YtpadpmkfhljiiaaGreat
open Go.RowKit
/-- a row of at most n digits whose number is N -/
def RowIs (W : World) (v : Value) (n N : Nat) : Prop := ∃ (k : Nat) (d : Nat → Nat), k ≤ n ∧ RowAt W v k d ∧ dsum d k = N
theorem RowIs.below {W W' : World} {v : Value} {n N : Nat} (h : RowIs W v n N) (k : Below W.heap.size W W') : RowIs W' v n N := by
  obtain ⟨q, d, h1, h2, h3⟩ := h
  exact ⟨q, d, h1, h2.below k, h3⟩
theorem RowIs.lt {W : World} {v : Value} {n N : Nat} (h : RowIs W v n N) : N < 256 ^ n := by
  obtain ⟨q, d, h1, h2, h3⟩ := h
  rw [← h3]
  exact Nat.lt_of_lt_of_le (dsum_lt h2.2.1 q) (Nat.pow_le_pow_right (by decide) h1)
/-- boxes of words and rows -/
structure Bw (w : World) (l : List (Nat × Int × Int × Int × Int)) (rs : List (Value × Nat × Nat)) (W : World) : Prop where
  bx : Bx w l W
  rows : ∀ p ∈ rs, RowIs W p.1 p.2.1 p.2.2
theorem Bw.of {w W : World} {l : List (Nat × Int × Int × Int × Int)} (h : Bx w l W) : Bw w l [] W := ⟨h, fun _ hp => by cases hp⟩
theorem Bw.past {w W W' : World} {l : List (Nat × Int × Int × Int × Int)} {rs : List (Value × Nat × Nat)} (h : Bw w l rs W) (k : Below W.heap.size W W') : Bw w l rs W' := ⟨h.bx.past k, fun p hp => (h.rows p hp).below k⟩
theorem Bw.drew {w W : World} {l : List (Nat × Int × Int × Int × Int)} {rs : List (Value × Nat × Nat)} (h : Bw w l rs W) : Bw w l rs W.drew := h.past (Below.refl _ _).drew
theorem Bw.row {w W : World} {l : List (Nat × Int × Int × Int × Int)} {rs : List (Value × Nat × Nat)} {v : Value} {n N : Nat} (h : Bw w l rs W) (k : RowIs W v n N) : Bw w l ((v, n, N) :: rs) W := ⟨h.bx, fun p hp => by
  rcases List.mem_cons.1 hp with rfl | hp
  · exact k
  · exact h.rows p hp⟩
theorem Bw.at {w W : World} {l : List (Nat × Int × Int × Int × Int)} {rs : List (Value × Nat × Nat)} {v : Value} {n N : Nat} (h : Bw w l rs W) (hp : (v, n, N) ∈ rs) : RowIs W v n N := h.rows _ hp
/-- what a call gives that gives a row -/
def GivesR (P : Program) (f : Nat) (args : Array Value) (W : World) (n N : Nat) : Prop := Calls P f args W fun e w' => ∃ v, e = .returned v ∧ RowIs w' v n N ∧ Below W.heap.size W w'
theorem V_lt {x a0 a1 a2 a3 : Int} {X : Nat} (ha : IsW x a0 a1 a2 a3) (hX : V a0 a1 a2 a3 = (X : Int)) : X < 256 ^ 32 := by
  obtain ⟨X', h1, _, h3⟩ := mod_nat ha
  have : X = X' := by rw [hX] at h1; omega
  omega
theorem ri_of {x : Int} {a0 a1 a2 a3 : Int} (ha : IsW x a0 a1 a2 a3) {X : Nat} (hX : V a0 a1 a2 a3 = (X : Int)) (W : World) :
    Calls Tryz.prog 79 #[.agg #[.int .u64 a0, .int .u64 a1, .int .u64 a2, .int .u64 a3]] W fun e w' => ∃ v, e = .returned v ∧ RowIs w' v 32 X ∧ Below W.heap.size W w' := by
  refine (of_is x a0 a1 a2 a3 W ha X hX).mono ?_
  rintro e w' ⟨v, rfl, h1, h2⟩
  exact ⟨v, rfl, ⟨32, _, Nat.le_refl _, h1, dig_all X (V_lt ha hX)⟩, h2⟩
theorem ri_plus {W : World} {v u : Value} {n m A B : Nat} (h1 : RowIs W v n A) (h2 : RowIs W u m B) (q : Nat) (hq : max n m + 1 ≤ q) (hl : q ≤ 1000) :
    Calls Tryz.prog 78 #[v, u] W fun e w' => ∃ x, e = .returned x ∧ RowIs w' x q (A + B) ∧ Below W.heap.size W w' := by
  obtain ⟨k, d, a1, a2, a3⟩ := h1
  obtain ⟨j, c, b1, b2, b3⟩ := h2
  refine Calls.mono (plus_is W v u k j d c a2 b2 (by omega) (by omega) (max k j) rfl) ?_
  rintro e w' ⟨x, f, rfl, x1, x2, x3⟩
  rw [a2.more (max k j) (by omega), b2.more (max k j) (by omega), a3, b3] at x2
  exact ⟨x, rfl, ⟨_, f, by omega, x1, x2⟩, x3⟩
theorem ri_minus {W : World} {v u : Value} {n m A B : Nat} (h1 : RowIs W v n A) (h2 : RowIs W u m B) (hle : B ≤ A) (q : Nat) (hq : max n m ≤ q) (hl : q ≤ 1000) :
    Calls Tryz.prog 81 #[v, u] W fun e w' => ∃ x, e = .returned x ∧ RowIs w' x q (A - B) ∧ Below W.heap.size W w' := by
  obtain ⟨k, d, a1, a2, a3⟩ := h1
  obtain ⟨j, c, b1, b2, b3⟩ := h2
  refine Calls.mono (minus_is W v u k j d c a2 b2 (by omega) (by omega) (max k j) rfl (by rw [a2.more (max k j) (by omega), b2.more (max k j) (by omega), a3, b3]; exact hle)) ?_
  rintro e w' ⟨x, f, rfl, x1, x2, _, x3⟩
  rw [a2.more (max k j) (by omega), b2.more (max k j) (by omega), a3, b3] at x2
  exact ⟨x, rfl, ⟨_, f, by omega, x1, by omega⟩, x3⟩
theorem ri_times {W : World} {v u : Value} {n m A B : Nat} (h1 : RowIs W v n A) (h2 : RowIs W u m B) (q : Nat) (hq : n + m + 1 ≤ q) (hl : q ≤ 1000) :
    Calls Tryz.prog 85 #[v, u] W fun e w' => ∃ x, e = .returned x ∧ RowIs w' x q (A * B) ∧ Below W.heap.size W w' := by
  obtain ⟨k, d, a1, a2, a3⟩ := h1
  obtain ⟨j, c, b1, b2, b3⟩ := h2
  refine (times_is W v u k j d c a2 b2 (by omega) (by omega)).mono ?_
  rintro e w' ⟨x, f, rfl, x1, x2, x3⟩
  rw [a3, b3] at x2
  exact ⟨x, rfl, ⟨_, f, by omega, x1, x2⟩, x3⟩
theorem ri_div {W : World} {v u : Value} {n m A B : Nat} (h1 : RowIs W v n A) (h2 : RowIs W u m B) (hB : 0 < B) (q : Nat) (hq : m + 2 ≤ q) (hn : n ≤ 100) (hm : m ≤ 100) :
    Calls Tryz.prog 89 #[v, u] W fun e w' => ∃ x y, e = .returned (.tuple #[x, y]) ∧ RowIs w' x n (A / B) ∧ RowIs w' y q (A % B) ∧ Below W.heap.size W w' := by
  obtain ⟨k, d, a1, a2, a3⟩ := h1
  obtain ⟨j, c, b1, b2, b3⟩ := h2
  refine Calls.mono (rdivide_is W v u k j d c a2 b2 (by omega) (by omega) A B a3 b3 hB) ?_
  rintro e w' ⟨x, y, f, g, L, rfl, x1, x2, y1, y2, y3, x3⟩
  exact ⟨x, y, rfl, ⟨_, f, by omega, x1, x2⟩, ⟨_, g, by omega, y1, y3⟩, x3⟩
theorem ri_none {W : World} {v : Value} {n N : Nat} (h1 : RowIs W v n N) (r : Bool) (hr : decide (N = 0) = r) :
    Calls Tryz.prog 88 #[v] W fun e w' => e = .returned (.bool r) ∧ Below W.heap.size W w' := by
  obtain ⟨k, d, a1, a2, a3⟩ := h1
  refine (none_is W v k d a2 r (by rw [a3]; exact hr)).mono ?_
  rintro e w' ⟨rfl, rfl⟩
  exact ⟨rfl, Below.refl _ _⟩
theorem ri_compare {W : World} {v u : Value} {n m A B : Nat} (h1 : RowIs W v n A) (h2 : RowIs W u m B) (r : Int) (hr : cmpv (A : Int) (B : Int) = r) :
    Calls Tryz.prog 118 #[v, u] W fun e w' => e = .returned (.int .i64 r) ∧ Below W.heap.size W w' := by
  obtain ⟨k, d, a1, a2, a3⟩ := h1
  obtain ⟨j, c, b1, b2, b3⟩ := h2
  refine (compare_is W v u k j d c a2 b2 (max k j) (Nat.le_refl _)).mono ?_
  rintro e w' ⟨rfl, rfl⟩
  rw [a2.more (max k j) (by omega), b2.more (max k j) (by omega), a3, b3, hr]
  exact ⟨rfl, Below.refl _ _⟩
theorem ri_word {W : World} {v : Value} {n N : Nat} (h1 : RowIs W v n N) {p0 p1 p2 p3 : Int} (hp : IsW (N : Int) p0 p1 p2 p3) :
    Calls Tryz.prog 77 #[v] W fun e w' => e = .returned (.agg #[.int .u64 p0, .int .u64 p1, .int .u64 p2, .int .u64 p3]) ∧ Below W.heap.size W w' := by
  obtain ⟨k, d, a1, a2, a3⟩ := h1
  refine (word_is W v k d a2).mono ?_
  rintro e w' ⟨s0, s1, s2, s3, rfl, hs, hB⟩
  have h : (dsum d 32 : Int) % MM = (N : Int) % MM := by
    rw [← MM_nat, ← a3]
    by_cases hk : k ≤ 32
    · rw [a2.more 32 hk]
    · have h1 := dsum_mod a2.2.1 k 32
      have h2 := dsum_lt a2.2.1 32
      have h3 : dsum (cutD d 32) k = dsum d 32 := by
        rw [dsum_more (n := 32) (fun i hi => by rw [cutD, if_neg (by omega)]) k (by omega)]
        exact dsum_ext 32 (fun i hi => by rw [cutD, if_pos hi])
      rw [← Int.natCast_emod, ← Int.natCast_emod, Nat.mod_eq_of_lt h2, ← h3, ← cutD_sum a2.2.1]
  obtain ⟨rfl, rfl, rfl, rfl⟩ := hs.eq hp h
  exact ⟨rfl, hB⟩
theorem ri_full (W : World) : Calls Tryz.prog 82 #[] W fun e w' => ∃ x, e = .returned x ∧ RowIs w' x 33 (256 ^ 32) ∧ Below W.heap.size W w' := by
  refine (full_is W).mono ?_
  rintro e w' ⟨x, rfl, x1, x3⟩
  exact ⟨x, rfl, ⟨33, _, Nat.le_refl _, x1, dsum_full⟩, x3⟩
end Go.Proofs.YtpadpmkfhljiiaaGreat
/- Bits and their number; the document's 'joined'. -/
namespace Go.Proofs.YtpadpmkfhljiiaaGreat
open Go.RowKit
/-- the number of bits -/
def bsum (f : Nat → Nat) : Nat → Nat
  | 0 => 0
  | n + 1 => bsum f n + f n * 2 ^ n
theorem bsum_ext {f g : Nat → Nat} : ∀ n, (∀ i, i < n → f i = g i) → bsum f n = bsum g n
  | 0, _ => rfl
  | n + 1, h => by rw [bsum, bsum, bsum_ext n (fun i hi => h i (by omega)), h n (by omega)]
theorem bsum_split (f : Nat → Nat) (m : Nat) : ∀ n, bsum f (m + n) = bsum f m + 2 ^ m * bsum (fun r => f (m + r)) n
  | 0 => by simp [bsum]
  | n + 1 => by
    rw [← Nat.add_assoc, bsum, bsum_split f m n, bsum, Nat.pow_add, Nat.mul_add, Nat.mul_left_comm, Nat.add_assoc]
theorem bsum_front (f : Nat → Nat) (n : Nat) : bsum f (n + 1) = f 0 + 2 * bsum (fun r => f (1 + r)) n := by
  rw [Nat.add_comm n 1, bsum_split]; simp [bsum]
theorem bsum_lt {f : Nat → Nat} (hf : ∀ i, f i ≤ 1) : ∀ n, bsum f n < 2 ^ n
  | 0 => by simp [bsum]
  | n + 1 => by
    have h1 := bsum_lt hf n
    have h2 : f n * 2 ^ n ≤ 1 * 2 ^ n := Nat.mul_le_mul_right _ (hf n)
    rw [bsum, Nat.pow_succ]; omega
theorem bsum_bitf (X : Nat) : ∀ n, bsum (bitf X) n = X % 2 ^ n
  | 0 => by simp [bsum, Nat.mod_one]
  | n + 1 => by rw [bsum, bsum_bitf X n, bitf, Nat.pow_succ, Nat.mod_mul, Nat.mul_comm (2 ^ n)]
/-- what digit q holds while the bits from j on are laid -/
def jw (f : Nat → Nat) (j q : Nat) : Nat := if 8 * q + 8 ≤ j then 0 else if j ≤ 8 * q then bsum (fun r => f (8 * q + r)) 8 else bsum (fun r => f (j + r)) (8 * q + 8 - j)
theorem jw_step (f : Nat → Nat) (j : Nat) : jw f j (j / 8) = 2 * jw f (j + 1) (j / 8) + f j := by
  obtain ⟨q, eq⟩ : ∃ q, q = j / 8 := ⟨_, rfl⟩
  rw [← eq]
  have e0 : ∀ k, bsum (fun r => f (j + r)) (k + 1) = 2 * bsum (fun r => f (j + 1 + r)) k + f j := fun k => by
    rw [bsum_front, Nat.add_zero, Nat.add_comm]
    congr 2
    apply congrFun
    apply congrArg
    funext r; rw [Nat.add_assoc]
  unfold jw
  rw [if_neg (by omega)]
  by_cases h1 : 8 * q + 8 ≤ j + 1
  · rw [if_pos h1]
    by_cases h2 : j ≤ 8 * q
    · omega
    · rw [if_neg h2, show 8 * q + 8 - j = 0 + 1 by omega, e0]; simp [bsum]
  · rw [if_neg h1, if_neg (show ¬ (j + 1 ≤ 8 * q) by omega)]
    by_cases h2 : j ≤ 8 * q
    · rw [if_pos h2]
      obtain rfl : j = 8 * q := by omega
      rw [show 8 * q + 8 - (8 * q + 1) = 7 by omega]; exact e0 7
    · rw [if_neg h2, show 8 * q + 8 - j = (8 * q + 8 - (j + 1)) + 1 by omega, e0]
theorem jw_other (f : Nat → Nat) (j i : Nat) (h : i ≠ j / 8) : jw f j i = jw f (j + 1) i := by
  unfold jw
  by_cases h1 : 8 * i + 8 ≤ j
  · rw [if_pos h1, if_pos (show 8 * i + 8 ≤ j + 1 by omega)]
  · have h1' : ¬ (8 * i + 8 ≤ j + 1) := by omega
    by_cases h2 : j ≤ 8 * i
    · have h2' : j + 1 ≤ 8 * i := by omega
      rw [if_neg h1, if_pos h2, if_neg h1', if_pos h2']
    · omega
theorem jw_lt {f : Nat → Nat} (hf : ∀ i, f i ≤ 1) (j q : Nat) : jw f j q < 256 := by
  unfold jw
  split
  · omega
  · split
    · exact bsum_lt (fun i => hf _) 8
    · have h := bsum_lt (f := fun r => f (j + r)) (fun i => hf _) (8 * q + 8 - j)
      have h2 : 2 ^ (8 * q + 8 - j) ≤ 2 ^ 8 := Nat.pow_le_pow_right (by omega) (by omega)
      have h3 : (2 : Nat) ^ 8 = 256 := by decide
      omega
theorem jw_set (f : Nat → Nat) (j : Nat) : setD (jw f (j + 1)) (j / 8) (jw f j (j / 8)) = jw f j := by
  funext i
  unfold setD
  by_cases h : i = j / 8
  · rw [if_pos h, h]
  · rw [if_neg h, jw_other f j i h]
theorem jw_sum (f : Nat → Nat) : ∀ n, dsum (jw f 0) n = bsum f (8 * n)
  | 0 => by simp [dsum, bsum]
  | n + 1 => by
    have e : jw f 0 n = bsum (fun r => f (8 * n + r)) 8 := by unfold jw; rw [if_neg (by omega), if_pos (by omega)]
    rw [dsum, jw_sum f n, e, show 8 * (n + 1) = 8 * n + 8 by omega, bsum_split, show (256 : Nat) = 2 ^ 8 by decide, ← Nat.pow_mul, Nat.mul_comm (bsum _ 8)]
set_option maxHeartbeats 2000000 in
set_option maxRecDepth 100000 in
theorem joined_is (f : Nat → Nat) (hf : ∀ i, f i ≤ 1) (w : World) (p0 p1 p2 p3 : Int) (hp : IsW (bsum f 256 : Int) p0 p1 p2 p3) :
    Calls Tryz.prog 107 #[.agg (intsD f 256).toArray] w fun e w' => e = .returned (.agg #[.int .u64 p0, .int .u64 p1, .int .u64 p2, .int .u64 p3]) ∧ Below w.heap.size w w' := by
  obtain ⟨i0, hi, hz0, hz1, hz2⟩ := info_parts Tryz.infoI
  have HP : Hid (IsW (bsum f 256 : Int) p0 p1 p2 p3) := hp
  have HF : Hid (∀ i, f i ≤ 1) := hf
  clear hp hf
  go_enter Tryz.func107, Tryz.ntmps107
  go_upto_region 1 with (refine box256 f rfl _ rfl rfl ?_; intro W0 hW0)
  have K0 : Hid (Below w.heap.size w (W0.alloc (.cells #[.int .u64 0, .int .u64 0, .int .u64 0, .int .u64 0] 24)) ∧ RowI (W0.alloc (.cells #[.int .u64 0, .int .u64 0, .int .u64 0, .int .u64 0] 24)) w.heap.size 256 f ∧ Box (W0.alloc (.cells #[.int .u64 0, .int .u64 0, .int .u64 0, .int .u64 0] 24)) (w.heap.size + 1) 0 0 0 0) :=
    ⟨hW0.bel.alloc hW0.bel.size _, hW0.row.past ((Below.refl _ _).alloc (Nat.le_refl _) _), by rw [← hW0.siz]; exact Box.new W0 24 0 0 0 0⟩
  have e0 := hW0.siz
  (try rw [e0])
  clear hW0 e0
  generalize W0.alloc (.cells #[.int .u64 0, .int .u64 0, .int .u64 0, .int .u64 0] 24) = W1 at K0 ⊢
  go_upto_region 2 with (at_make; refine wpList_make_full _ rfl _ _ 61 rfl W1.heap.size 3 i0 (.int .i64 0) 1 Tryz.underlying61 hi hz0 hz1 .i64 .i64 _ _ 32 rfl rfl rfl rfl (by rw [hz2]; omega) (by unfold maxLen; omega) (Nat.le_refl _) ?_; intro v1 hown hgrow; (have R1 : Hid (RowI v1 W1.heap.size 32 (fun _ => 0)) := RowI.made hown); (have B1 : Hid (Below W1.heap.size W1 v1) := Below.grown (Below.refl _ _) hgrow (Nat.le_refl _) (fun k h => by cases h)); clear hown hgrow)
  obtain ⟨g, eg⟩ : ∃ g, W1.heap.size = g := ⟨_, rfl⟩
  have EG : Hid (W1.heap.size = g) := eg
  rw [eg] at R1 B1 ⊢
  clear eg
  go_wp2
  go_loopw [4] (fun s wr => ∃ j : Nat, s = .int .i64 ((j : Int) - 1) ∧ j ≤ 256 ∧ RowI wr g 32 (jw f j) ∧ Below g W1 wr) (fun s _ => (intOf s + 1).toNat)
  case atStart => exact ⟨256, rfl, by omega, R1.out.ext (fun i hi => by unfold jw; rw [if_pos (by omega)]), B1.out⟩
  case round =>
    obtain ⟨j, rfl, hj, hR, hB⟩ := hrel
    clear R1 B1
    have HR : Hid (RowI wr g 32 (jw f j)) := hR
    have HB : Hid (Below g W1 wr) := hB
    clear hR hB
    rcases j with _ | j
    · have RI : Hid (RowIs wr (.slice (some ⟨g, 0, none⟩) 32 32) 32 (bsum f 256)) := ⟨32, _, Nat.le_refl _, RowAt.ofRowI HR.out (jw_lt HF.out 0) (by omega), by rw [cutD_same, jw_sum]⟩
      have BX : Hid (Box wr (w.heap.size + 1) 0 0 0 0 ∧ Below w.heap.size w wr) := by
        have h := EG.out
        exact ⟨K0.out.2.2.below (by rw [h]; exact HB.out) K0.out.2.2.lt, K0.out.1.trans (HB.out.mono (by rw [← h]; exact K0.out.1.size))⟩
      have WD : Hid _ := ri_word RI.out HP.out
      clear HR HB K0 RI
      go_wp2_with fail
      refine Calls.mono WD.out ?_
      rintro e x1 ⟨rfl, hB⟩
      have B2 : Hid (Box x1 (w.heap.size + 1) 0 0 0 0 ∧ Below w.heap.size w x1) := ⟨BX.out.1.below hB BX.out.1.lt, BX.out.2.trans (hB.mono BX.out.2.size)⟩
      clear hB WD BX
      obtain ⟨r0, r1, r2, r3, f0, f1, f2, f3⟩ := Box.facts B2.out.1
      go_wp2
      exact bodyPost_ret (v := .agg #[.int .u64 p0, .int .u64 p1, .int .u64 p2, .int .u64 p3]) (by simp [results, Tryz.results107, go_sem, r0, r1, r2, r3]) rfl ⟨rfl, below_put B2.out.2 (by omega) _ _ _ _⟩
    · rw [show ((j + 1 : Nat) : Int) - 1 = (j : Int) by omega]
      obtain ⟨q, eq⟩ : ∃ q : Nat, q = j / 8 := ⟨_, rfl⟩
      have t1 : Int.tdiv (j : Int) 8 = (q : Int) := by rw [Int.tdiv_eq_ediv_of_nonneg (by omega)]; omega
      have w1 : IntKind.i64.wrap (q : Int) = (q : Int) := by rw [IntKind.wrap_i64]; omega
      have jI : (0 : Int) ≤ (j : Int) := by omega
      have jL : (j : Int) < 256 := by omega
      have qI : (q : Int) < 32 := by omega
      have q4 : q < 32 := by omega
      have c1 := (HR.out q q4).1
      have f1 := (HR.out q q4).2
      have c2 := (K0.out.2.1.below HB.out (by rw [← EG.out]; exact RowI.lt K0.out.2.1 (by omega)) j (by omega)).1
      have st := jw_step f j
      have lt := jw_lt HF.out (j + 1) q
      have hfj := HF.out j
      have se := jw_set f j
      rw [← eq] at st se
      obtain ⟨y, ey⟩ : ∃ y, y = f j := ⟨_, rfl⟩
      obtain ⟨z, ez⟩ : ∃ z, z = jw f (j + 1) q := ⟨_, rfl⟩
      obtain ⟨u, eu⟩ : ∃ u, u = jw f j q := ⟨_, rfl⟩
      rw [← ey] at st hfj c2
      rw [← ez] at st lt c1
      rw [← eu] at st se
      obtain ⟨z2, ez2⟩ : ∃ z2, z2 = 2 * z := ⟨_, rfl⟩
      have m1 : (2 : Int) * (z : Int) = (z2 : Int) := by omega
      have m2 : IntKind.i64.wrap (z2 : Int) = (z2 : Int) := by rw [IntKind.wrap_i64]; omega
      have m3 : (z2 : Int) + (y : Int) = (u : Int) := by omega
      have m4 : IntKind.i64.wrap (u : Int) = (u : Int) := by rw [IntKind.wrap_i64]; omega
      have N1 : Hid (RowI (wr.setCell ⟨g, q, none⟩ (.int .i64 (u : Int))).drew g 32 (jw f j) ∧ Below g W1 (wr.setCell ⟨g, q, none⟩ (.int .i64 (u : Int))).drew) := by
        refine ⟨?_, (HB.out.setCell (Nat.le_refl _) _).drew⟩
        rw [← se]
        exact (RowI.set HR.out q u).past (Below.refl _ _).drew
      clear st lt hfj se ey ez eu ez2 eq
      go_wp2
      go_region
      generalize (wr.setCell ⟨g, q, none⟩ (.int .i64 (u : Int))).drew = x1 at N1 ⊢
      go_wp2
      go_roundw
      case rel => exact ⟨j, by go_num, by omega, N1.out.1, N1.out.2⟩
      case measure => simp [intOf]
end Go.Proofs.YtpadpmkfhljiiaaGreat
/- The document's 'small' and 'upTo'. -/
namespace Go.Proofs.YtpadpmkfhljiiaaGreat
open Go.RowKit
theorem div_pow_succ (n k : Nat) : n / 256 ^ k / 256 = n / 256 ^ (k + 1) := by rw [Nat.pow_succ, Nat.div_div_eq_div_mul]
set_option maxHeartbeats 2000000 in
set_option maxRecDepth 100000 in
theorem small_is (n : Nat) (hn : n < 65536) (w : World) :
    Calls Tryz.prog 108 #[.int .i64 (n : Int)] w fun e w' => ∃ v, e = .returned v ∧ RowIs w' v 2 n ∧ Below w.heap.size w w' := by
  obtain ⟨i0, hi, hz0, hz1, hz2⟩ := info_parts Tryz.infoI
  have HN : Hid (n < 65536) := hn
  have DE : Hid (∀ k, n / 256 ^ k = 0 → ∀ i, k ≤ i → n / 256 ^ i = 0) := fun k h i hi => by
    have h1 : n < 256 ^ k := by
      rcases Nat.lt_or_ge n (256 ^ k) with h2 | h2
      · exact h2
      · have := Nat.div_pos h2 (Nat.pow_pos (by omega)); omega
    exact Nat.div_eq_of_lt (Nat.lt_of_lt_of_le h1 (Nat.pow_le_pow_right (by decide) hi))
  clear hn
  go_enter Tryz.func108, Tryz.ntmps108
  go_wp2
  go_loopw [0, 3] (fun s0 s3 wr => ∃ k m : Nat, k ≤ 2 ∧ m = n / 256 ^ k ∧ s0 = .int .i64 (m : Int) ∧ wr.ownsRow w.heap.size 3 1 s3 k (intsD (dig n) k) ∧ Below w.heap.size w wr) (fun s0 _ _ => (intOf s0).toNat)
  case atStart => exact ⟨0, n, by omega, by simp, rfl, World.ownsRow_nil _ _ _ _, Below.refl _ _⟩
  case round =>
    obtain ⟨k, m, hk, hm, rfl, hown, hB⟩ := hrel
    have HOW : Hid _ := hown
    have HB : Hid (Below w.heap.size w wr) := hB
    have HM : Hid (m = n / 256 ^ k) := hm
    have b0 := hB.size
    by_cases h0 : 0 < m
    · have mI : (0 : Int) < (m : Int) := by omega
      have mL : (m : Int) < 65536 := by
        have h2 := HN.out
        have h3 := Nat.div_le_self n (256 ^ k)
        omega
      have k2 : k < 2 := by
        rcases Nat.lt_or_ge k 2 with h | h
        · exact h
        · obtain rfl : k = 2 := by omega
          have := HN.out
          rw [Nat.div_eq_of_lt (by omega)] at hm; omega
      obtain ⟨r, er⟩ : ∃ r, r = m % 256 := ⟨_, rfl⟩
      obtain ⟨c, ec⟩ : ∃ c, c = m / 256 := ⟨_, rfl⟩
      have b6 : Int.tmod (m : Int) 256 = (r : Int) := by rw [Int.tmod_eq_emod_of_nonneg (by omega)]; omega
      have b7 : Int.tdiv (m : Int) 256 = (c : Int) := by rw [Int.tdiv_eq_ediv_of_nonneg (by omega)]; omega
      have t4 : (m : Int) % 256 = (r : Int) := by omega
      have b8 : IntKind.i64.wrap (r : Int) = (r : Int) := by rw [IntKind.wrap_i64]; omega
      have b9 : IntKind.i64.wrap (c : Int) = (c : Int) := by rw [IntKind.wrap_i64]; omega
      have r256 : r < 256 := by omega
      have ED : Hid (r = dig n k ∧ c = n / 256 ^ (k + 1) ∧ c < m) := ⟨by rw [er, hm, dig, if_pos (by omega)], by rw [ec, hm, div_pow_succ], by omega⟩
      clear er ec hown hB hm
      go_wp2_with (at_builtin; refine wpList_append_own _ rfl _ _ 61 rfl w.heap.size 3 i0 (.int .i64 0) 1 8 Tryz.underlying61 hi hz0 hz1 hz2 rfl (by decide) _ _ _ rfl (World.ownsRow.alloc HOW.out _) ⟨wr.heap.size, 0, none⟩ 1 1 [.int .i64 (r : Int)] rfl rfl (fun j u hj => (by have hj0 : j = 0 := (by have := (List.getElem?_eq_some_iff.1 hj).1; simpa using this); subst hj0; simp at hj; subst hj; (first | (simp [Addr.add]; done) | (simp [Addr.add]; first | exact t4 | omega)))) (fun u hu => (by rw [List.mem_singleton.1 hu]; rfl)) (by unfold maxLen; omega) (by omega) (by simp; omega) ?_; intro v' w1 hown' hgrow _)
      have R : Hid _ := of_step (ED.out.1) HOW.out HB.out hown' hgrow
      clear hown' hgrow
      go_wp2
      go_roundw
      case rel => exact ⟨k + 1, c, by omega, ED.out.2.1, rfl, R.out⟩
      case measure => have := ED.out.2.2; simp [intOf]; omega
    · obtain rfl : m = 0 := by omega
      clear hm hown hB
      go_wp2
      go_ret
      have hz := DE.out k HM.out.symm
      exact ⟨_, rfl, ⟨k, dig n, hk, RowAt.own HOW.out (dig_lt n) (fun i hi => by rw [dig]; split; rw [hz i hi]; rfl) (by omega), by rw [dig_sum n k (by omega)]; exact Nat.mod_eq_of_lt (by rcases Nat.lt_or_ge n (256 ^ k) with h2 | h2; exact h2; have := Nat.div_pos h2 (Nat.pow_pos (by omega)); have := HM.out; omega)⟩, HB.out⟩
set_option maxHeartbeats 2000000 in
set_option maxRecDepth 100000 in
theorem upTo_is (x : Int) (a0 a1 a2 a3 : Int) (w : World) (ha : IsW x a0 a1 a2 a3) (X : Nat) (hX : V a0 a1 a2 a3 = (X : Int)) (M : Nat) (hM : M < 65536) (r : Nat) (hr : r = min X M) :
    Calls Tryz.prog 106 #[.agg #[.int .u64 a0, .int .u64 a1, .int .u64 a2, .int .u64 a3], .int .i64 (M : Int)] w fun e w' => e = .returned (.int .i64 (r : Int)) ∧ Below w.heap.size w w' := by
  have OA : Hid (∀ W, Calls Tryz.prog 79 #[.agg #[.int .u64 a0, .int .u64 a1, .int .u64 a2, .int .u64 a3]] W fun e w' => ∃ v, e = .returned v ∧ RowAt w' v 32 (dig X) ∧ Below W.heap.size W w') := fun W => of_is x a0 a1 a2 a3 W ha X hX
  have LX : Hid (X < 256 ^ 32) := V_lt ha hX
  have HR : Hid (r = min X M ∧ M < 65536) := ⟨hr, hM⟩
  have SM : Hid (∀ W, Calls Tryz.prog 108 #[.int .i64 (M : Int)] W fun e w' => ∃ v, e = .returned v ∧ RowIs w' v 2 M ∧ Below W.heap.size W w') := small_is M hM
  have K0 : Hid (Bx w [(w.heap.size, a0, a1, a2, a3)] (w.alloc (.cells #[.int .u64 a0, .int .u64 a1, .int .u64 a2, .int .u64 a3] 24))) := (Bx.start w).alloc a0 a1 a2 a3
  clear ha hX hM hr
  go_enter Tryz.func106, Tryz.ntmps106
  go_upto_region 1 with fail
  generalize w.alloc (.cells #[.int .u64 a0, .int .u64 a1, .int .u64 a2, .int .u64 a3] 24) = W0 at K0 ⊢
  obtain ⟨c0, c1, c2, c3, _⟩ := K0.out.f0 (List.Mem.head _)
  go_upto_region 2 with (go_at_call 79; refine (OA.out _).mono ?_; rintro e v1 ⟨rv, rfl, hrow, hB⟩)
  have K1 : Hid (Below w.heap.size w v1 ∧ RowAt v1 rv 32 (dig X)) := ⟨K0.out.bel.trans (hB.mono K0.out.bel.size), hrow⟩
  clear K0 hrow hB c0 c1 c2 c3 OA
  go_wp2_with fail
  refine (SM.out _).mono ?_
  rintro e v2 ⟨sv, rfl, hs, hB⟩
  have K2 : Hid (Below w.heap.size w v2 ∧ RowAt v2 rv 32 (dig X)) := ⟨K1.out.1.trans (hB.mono K1.out.1.size), K1.out.2.below hB⟩
  obtain ⟨cv, ecv⟩ : ∃ cv, cmpv (X : Int) (M : Int) = cv := ⟨_, rfl⟩
  have CM : Hid (Calls Tryz.prog 118 #[rv, sv] v2 fun e w' => e = .returned (.int .i64 cv) ∧ Below v2.heap.size v2 w') := ri_compare ⟨32, _, Nat.le_refl _, K2.out.2, dig_all X LX.out⟩ hs cv ecv
  clear K1 hs hB SM
  by_cases hge : M ≤ X
  · have hcv : (0 : Int) ≤ cv := by rw [← ecv]; unfold cmpv; rw [if_neg (by omega)]; split <;> omega
    have er : r = M := by have := HR.out; omega
    subst er
    clear ecv
    go_wp2_with (go_at_call 118; refine Calls.mono CM.out ?_; rintro e v3 ⟨rfl, hB⟩; (have K3 : Hid (Below w.heap.size w v3) := K2.out.1.trans (hB.mono K2.out.1.size)); clear hB)
    go_ret
    exact ⟨rfl, K3.out⟩
  · have hcv : ¬ (0 : Int) ≤ cv := by rw [← ecv]; unfold cmpv; rw [if_pos (by omega)]; omega
    have er : r = X := by have := HR.out; omega
    have XL : X < 65536 := by have := HR.out; omega
    subst er
    clear ecv hge
    go_wp2_with (go_at_call 118; refine Calls.mono CM.out ?_; rintro e v3 ⟨rfl, hB⟩; (have K3 : Hid (Below w.heap.size w v3 ∧ RowAt v3 rv 32 (dig r)) := ⟨K2.out.1.trans (hB.mono K2.out.1.size), K2.out.2.below hB⟩); clear hB)
    have K4 := K3.out.2
    obtain ⟨_, _, _, ad, cap, rfl, hc⟩ := K4
    obtain ⟨g, o, rfl, hc2⟩ := hc (by decide)
    have HC : Hid (∀ i, i < 32 → v3.cell? ⟨g, o + i, none⟩ = some (.int .i64 (dig r i : Int))) := hc2
    clear hc hc2 CM K2 hcv
    go_loopw [6, 7] (fun s6 s7 wr => ∃ j m : Nat, s7 = .int .i64 ((j : Int) - 1) ∧ s6 = .int .i64 (m : Int) ∧ m = r / 256 ^ j ∧ j ≤ 32 ∧ wr = v3) (fun _ s7 _ => (intOf s7 + 1).toNat)
    case atStart => exact ⟨32, 0, rfl, rfl, (Nat.div_eq_of_lt LX.out).symm, by omega, rfl⟩
    case round =>
      obtain ⟨j, m, rfl, rfl, hm, hj, hw⟩ := hrel
      have hw2 := hw.symm
      clear hw
      subst hw2
      rcases j with _ | j
      · obtain rfl : m = r := by rw [hm]; simp
        go_wp2
        go_ret
        exact ⟨rfl, K3.out.1⟩
      · rw [show ((j + 1 : Nat) : Int) - 1 = (j : Int) by omega]
        have jI : (0 : Int) ≤ (j : Int) := by omega
        have jL : (j : Int) < 32 := by omega
        have cz := HC.out j (by omega)
        obtain ⟨y, ey⟩ : ∃ y, y = dig r j := ⟨_, rfl⟩
        rw [← ey] at cz
        obtain ⟨u, eu⟩ : ∃ u, u = r / 256 ^ j := ⟨_, rfl⟩
        have hu : 256 * m + y = u := by
          rw [hm, ey, eu, dig, if_pos (by omega), ← div_pow_succ]; omega
        have ul : u ≤ r := by rw [eu]; exact Nat.div_le_self _ _
        obtain ⟨m2, em2⟩ : ∃ m2, m2 = 256 * m := ⟨_, rfl⟩
        have q1 : (256 : Int) * (m : Int) = (m2 : Int) := by omega
        have q2 : IntKind.i64.wrap (m2 : Int) = (m2 : Int) := by rw [IntKind.wrap_i64]; omega
        have q3 : (m2 : Int) + (y : Int) = (u : Int) := by omega
        have q4 : IntKind.i64.wrap (u : Int) = (u : Int) := by rw [IntKind.wrap_i64]; omega
        have EU : Hid (u = r / 256 ^ j) := eu
        clear hm ey eu hu ul em2
        go_wp2
        go_roundw
        case rel => exact ⟨j, u, by go_num, rfl, EU.out, by omega, trivial⟩
        case measure => simp [intOf]
end Go.Proofs.YtpadpmkfhljiiaaGreat
/- The document's And, Or, Xor, Not by its arrays of bits. -/
namespace Go.Proofs.YtpadpmkfhljiiaaGreat
open Go.RowKit
/-- the first k are f's, the others h's -/
def mixd (f h : Nat → Nat) (k i : Nat) : Nat := if i < k then f i else h i
theorem mixd_set (f h : Nat → Nat) (k : Nat) : setD (mixd f h k) k (f k) = mixd f h (k + 1) := by
  funext j
  unfold setD mixd
  by_cases h1 : j = k
  · subst h1; rw [if_pos rfl, if_pos (by omega)]
  · rw [if_neg h1]
    by_cases h2 : j < k
    · rw [if_pos h2, if_pos (by omega)]
    · rw [if_neg h2, if_neg (by omega)]
theorem bit_cases (x y : Nat) (hx : x ≤ 1) (hy : y ≤ 1) : (x = 0 ∨ x = 1) ∧ (y = 0 ∨ y = 1) := by omega
set_option maxHeartbeats 4000000 in
set_option maxRecDepth 100000 in
theorem rand_r (a0 a1 a2 a3 b0 b1 b2 b3 p0 p1 p2 p3 : Int) (X Y : Nat) (BA : ∀ W : World, Calls Tryz.prog 103 #[.agg #[.int .u64 a0, .int .u64 a1, .int .u64 a2, .int .u64 a3]] W fun e w' => e = .returned (.agg (intsD (bitf X) 256).toArray) ∧ Below W.heap.size W w') (BB : ∀ W : World, Calls Tryz.prog 103 #[.agg #[.int .u64 b0, .int .u64 b1, .int .u64 b2, .int .u64 b3]] W fun e w' => e = .returned (.agg (intsD (bitf Y) 256).toArray) ∧ Below W.heap.size W w') (f : Nat → Nat) (hf : ∀ i, f i = bitf X i * bitf Y i) (JO : ∀ W : World, Calls Tryz.prog 107 #[.agg (intsD f 256).toArray] W fun e w' => e = .returned (.agg #[.int .u64 p0, .int .u64 p1, .int .u64 p2, .int .u64 p3]) ∧ Below W.heap.size W w') (w : World) :
    Calls Tryz.prog 39 #[.agg #[.int .u64 a0, .int .u64 a1, .int .u64 a2, .int .u64 a3], .agg #[.int .u64 b0, .int .u64 b1, .int .u64 b2, .int .u64 b3]] w fun e w' => e = .returned (.agg #[.int .u64 p0, .int .u64 p1, .int .u64 p2, .int .u64 p3]) ∧ Below w.heap.size w w' := by
  have HBA : Hid (∀ W : World, Calls Tryz.prog 103 #[.agg #[.int .u64 a0, .int .u64 a1, .int .u64 a2, .int .u64 a3]] W fun e w' => e = .returned (.agg (intsD (bitf X) 256).toArray) ∧ Below W.heap.size W w') := BA
  have HBB : Hid (∀ W : World, Calls Tryz.prog 103 #[.agg #[.int .u64 b0, .int .u64 b1, .int .u64 b2, .int .u64 b3]] W fun e w' => e = .returned (.agg (intsD (bitf Y) 256).toArray) ∧ Below W.heap.size W w') := BB
  have HJO : Hid (∀ W : World, Calls Tryz.prog 107 #[.agg (intsD f 256).toArray] W fun e w' => e = .returned (.agg #[.int .u64 p0, .int .u64 p1, .int .u64 p2, .int .u64 p3]) ∧ Below W.heap.size W w') := JO
  have HF : Hid (∀ i, f i = bitf X i * bitf Y i) := hf
  clear BA BB JO hf
  go_enter Tryz.func39, Tryz.ntmps39
  go_upto_region 1 with fail
  have K0 : Hid (Bx w [(w.heap.size + 1 + 1, 0, 0, 0, 0), (w.heap.size + 1, b0, b1, b2, b3), (w.heap.size, a0, a1, a2, a3)] (((w.alloc (.cells #[.int .u64 a0, .int .u64 a1, .int .u64 a2, .int .u64 a3] 24)).alloc (.cells #[.int .u64 b0, .int .u64 b1, .int .u64 b2, .int .u64 b3] 24)).alloc (.cells #[.int .u64 0, .int .u64 0, .int .u64 0, .int .u64 0] 24))) := by
    have h := (((Bx.start w).alloc a0 a1 a2 a3).alloc b0 b1 b2 b3).alloc 0 0 0 0
    (try simp only [World.size_alloc] at h)
    exact h
  generalize (((w.alloc (.cells #[.int .u64 a0, .int .u64 a1, .int .u64 a2, .int .u64 a3] 24)).alloc (.cells #[.int .u64 b0, .int .u64 b1, .int .u64 b2, .int .u64 b3] 24)).alloc (.cells #[.int .u64 0, .int .u64 0, .int .u64 0, .int .u64 0] 24)) = W0 at K0 ⊢
  obtain ⟨c0, c1, c2, c3, _⟩ := K0.out.f0 (List.Mem.tail _ (List.Mem.tail _ (List.Mem.head _)))
  go_upto_region 2 with (first
    | (go_at_call 103; refine (HBA.out _).mono ?_; rintro e g1 ⟨rfl, hB⟩; (have K1 : Hid (Bx w [(w.heap.size + 1 + 1, 0, 0, 0, 0), (w.heap.size + 1, b0, b1, b2, b3), (w.heap.size, a0, a1, a2, a3)] g1) := K0.out.past hB); clear hB c0 c1 c2 c3 K0)
    | (refine new256 (bitf X) rfl rfl _ rfl rfl _ rfl rfl rfl rfl ?_; intro W1 hW1))
  obtain ⟨bx, ebx⟩ : ∃ bx, g1.heap.size = bx := ⟨_, rfl⟩
  have X1 : Hid (RowI W1 bx 256 (bitf X) ∧ Below bx g1 W1 ∧ Bx w [(w.heap.size + 1 + 1, 0, 0, 0, 0), (w.heap.size + 1, b0, b1, b2, b3), (w.heap.size, a0, a1, a2, a3)] W1) := ⟨by rw [← ebx]; exact hW1.row, by rw [← ebx]; exact hW1.bel, K1.out.past hW1.bel⟩
  have EBX : Hid (g1.heap.size = bx) := ebx
  rw [ebx]
  clear hW1 ebx
  obtain ⟨c0, c1, c2, c3, _⟩ := X1.out.2.2.f0 (List.Mem.tail _ (List.Mem.head _))
  go_upto_region 3 with (first
    | (go_at_call 103; refine (HBB.out _).mono ?_; rintro e g2 ⟨rfl, hB⟩; (have X2 : Hid (RowI g2 bx 256 (bitf X) ∧ Below bx g1 g2) := ⟨X1.out.1.past hB, X1.out.2.1.trans (hB.mono (Nat.le_of_lt (RowI.lt X1.out.1 (by omega))))⟩); clear hB c0 c1 c2 c3 X1)
    | (refine new256 (bitf Y) rfl rfl _ rfl rfl _ rfl rfl rfl rfl ?_; intro W2 hW2))
  obtain ⟨bY, eby⟩ : ∃ bY, g2.heap.size = bY := ⟨_, rfl⟩
  have hxy : bx < bY := by rw [← eby]; exact RowI.lt X2.out.1 (by omega)
  have X3 : Hid (RowI W2 bx 256 (mixd f (bitf X) 0) ∧ RowI W2 bY 256 (bitf Y) ∧ Below bx g1 W2) := ⟨(X2.out.1.past hW2.bel).ext (fun i _ => by unfold mixd; rw [if_neg (by omega)]), by rw [← eby]; exact hW2.row, X2.out.2.trans (hW2.bel.mono (by omega))⟩
  rw [eby]
  clear hW2 eby X2
  go_wp2
  go_loopw [7] (fun s wr => ∃ k : Nat, s = .int .i64 (k : Int) ∧ k ≤ 256 ∧ RowI wr bx 256 (mixd f (bitf X) k) ∧ RowI wr bY 256 (bitf Y) ∧ Below bx g1 wr) (fun s _ => 256 - (intOf s).toNat)
  case atStart => exact ⟨0, rfl, by omega, X3.out.1, X3.out.2.1, X3.out.2.2⟩
  case round =>
    obtain ⟨k, rfl, hk, hR, hS, hB⟩ := hrel
    clear X3
    have HR : Hid (RowI wr bx 256 (mixd f (bitf X) k)) := hR
    have HS : Hid (RowI wr bY 256 (bitf Y)) := hS
    have HB : Hid (Below bx g1 wr) := hB
    clear hR hS hB
    by_cases hk5 : k < 256
    · have kI : (k : Int) < 256 := by omega
      have c1 := (HR.out k hk5).1
      have f1 := (HR.out k hk5).2
      have c2 := (HS.out k hk5).1
      rw [show mixd f (bitf X) k k = bitf X k by unfold mixd; rw [if_neg (by omega)]] at c1
      obtain ⟨x, ex⟩ : ∃ x, x = bitf X k := ⟨_, rfl⟩
      obtain ⟨y, ey⟩ : ∃ y, y = bitf Y k := ⟨_, rfl⟩
      obtain ⟨u, eu⟩ : ∃ u, u = f k := ⟨_, rfl⟩
      have hu := HF.out k
      have hx1 := bitf_le X k
      have hy1 := bitf_le Y k
      rw [← ex, ← ey, ← eu] at hu
      rw [← ex] at c1 hx1
      rw [← ey] at c2 hy1
      have m1 : (x : Int) * (y : Int) = (u : Int) := by rw [hu]; exact (Int.natCast_mul x y).symm
      have m0 : u ≤ 1 := by rw [hu]; exact Nat.mul_le_mul hx1 hy1
      have m2 : IntKind.i64.wrap (u : Int) = (u : Int) := by rw [IntKind.wrap_i64]; omega
      clear m0 hx1 hy1
      have N1 : Hid (RowI (wr.setCell ⟨bx, k, none⟩ (.int .i64 (u : Int))).drew bx 256 (mixd f (bitf X) (k + 1)) ∧ RowI (wr.setCell ⟨bx, k, none⟩ (.int .i64 (u : Int))).drew bY 256 (bitf Y) ∧ Below bx g1 (wr.setCell ⟨bx, k, none⟩ (.int .i64 (u : Int))).drew) := by
        refine ⟨?_, (HS.out.set_other _ _ (Nat.ne_of_lt hxy)).past (Below.refl _ _).drew, (HB.out.setCell (Nat.le_refl _) _).drew⟩
        rw [← mixd_set, ← eu]
        exact (RowI.set HR.out k u).past (Below.refl _ _).drew
      clear ex ey eu hu
      go_wp2
      go_region
      generalize (wr.setCell ⟨bx, k, none⟩ (.int .i64 (u : Int))).drew = x1 at N1 ⊢
      go_wp2
      go_roundw
      case rel => exact ⟨k + 1, by go_num, by omega, N1.out.1, N1.out.2.1, N1.out.2.2⟩
      case measure => simp [intOf]; omega
    · obtain rfl : k = 256 := by omega
      have R1 : Hid (RowI wr bx 256 f) := HR.out.ext (fun i hi => by unfold mixd; rw [if_pos hi])
      have K5 : Hid (Bx w [(w.heap.size + 1 + 1, 0, 0, 0, 0), (w.heap.size + 1, b0, b1, b2, b3), (w.heap.size, a0, a1, a2, a3)] wr) := K1.out.past (by rw [EBX.out]; exact HB.out)
      clear HR HS HB K1
      obtain ⟨r0, r1, r2, r3, f0, f1, f2, f3⟩ := K5.out.f0 (List.Mem.head _)
      go_wp2_with (first
        | (go_at_call 107; refine (HJO.out _).mono ?_; rintro e x9 ⟨rfl, hB⟩; (have K9 : Hid (Bx w [(w.heap.size + 1 + 1, 0, 0, 0, 0), (w.heap.size + 1, b0, b1, b2, b3), (w.heap.size, a0, a1, a2, a3)] x9) := K5.out.past hB); clear hB r0 r1 r2 r3 f0 f1 f2 f3; obtain ⟨r0, r1, r2, r3, f0, f1, f2, f3⟩ := K9.out.f0 (List.Mem.head _))
        | (refine load256 f bx rfl _ rfl rfl R1.out ?_))
      exact bodyPost_ret (v := .agg #[.int .u64 p0, .int .u64 p1, .int .u64 p2, .int .u64 p3]) (by simp [results, Tryz.results39, go_sem, r0, r1, r2, r3]) rfl ⟨rfl, below_put K9.out.bel (by omega) _ _ _ _⟩
set_option maxHeartbeats 4000000 in
set_option maxRecDepth 100000 in
theorem ror_r (a0 a1 a2 a3 b0 b1 b2 b3 p0 p1 p2 p3 : Int) (X Y : Nat) (BA : ∀ W : World, Calls Tryz.prog 103 #[.agg #[.int .u64 a0, .int .u64 a1, .int .u64 a2, .int .u64 a3]] W fun e w' => e = .returned (.agg (intsD (bitf X) 256).toArray) ∧ Below W.heap.size W w') (BB : ∀ W : World, Calls Tryz.prog 103 #[.agg #[.int .u64 b0, .int .u64 b1, .int .u64 b2, .int .u64 b3]] W fun e w' => e = .returned (.agg (intsD (bitf Y) 256).toArray) ∧ Below W.heap.size W w') (f : Nat → Nat) (hf : ∀ i, f i = bitf X i + bitf Y i - bitf X i * bitf Y i) (JO : ∀ W : World, Calls Tryz.prog 107 #[.agg (intsD f 256).toArray] W fun e w' => e = .returned (.agg #[.int .u64 p0, .int .u64 p1, .int .u64 p2, .int .u64 p3]) ∧ Below W.heap.size W w') (w : World) :
    Calls Tryz.prog 41 #[.agg #[.int .u64 a0, .int .u64 a1, .int .u64 a2, .int .u64 a3], .agg #[.int .u64 b0, .int .u64 b1, .int .u64 b2, .int .u64 b3]] w fun e w' => e = .returned (.agg #[.int .u64 p0, .int .u64 p1, .int .u64 p2, .int .u64 p3]) ∧ Below w.heap.size w w' := by
  have HBA : Hid (∀ W : World, Calls Tryz.prog 103 #[.agg #[.int .u64 a0, .int .u64 a1, .int .u64 a2, .int .u64 a3]] W fun e w' => e = .returned (.agg (intsD (bitf X) 256).toArray) ∧ Below W.heap.size W w') := BA
  have HBB : Hid (∀ W : World, Calls Tryz.prog 103 #[.agg #[.int .u64 b0, .int .u64 b1, .int .u64 b2, .int .u64 b3]] W fun e w' => e = .returned (.agg (intsD (bitf Y) 256).toArray) ∧ Below W.heap.size W w') := BB
  have HJO : Hid (∀ W : World, Calls Tryz.prog 107 #[.agg (intsD f 256).toArray] W fun e w' => e = .returned (.agg #[.int .u64 p0, .int .u64 p1, .int .u64 p2, .int .u64 p3]) ∧ Below W.heap.size W w') := JO
  have HF : Hid (∀ i, f i = bitf X i + bitf Y i - bitf X i * bitf Y i) := hf
  clear BA BB JO hf
  go_enter Tryz.func41, Tryz.ntmps41
  go_upto_region 1 with fail
  have K0 : Hid (Bx w [(w.heap.size + 1 + 1, 0, 0, 0, 0), (w.heap.size + 1, b0, b1, b2, b3), (w.heap.size, a0, a1, a2, a3)] (((w.alloc (.cells #[.int .u64 a0, .int .u64 a1, .int .u64 a2, .int .u64 a3] 24)).alloc (.cells #[.int .u64 b0, .int .u64 b1, .int .u64 b2, .int .u64 b3] 24)).alloc (.cells #[.int .u64 0, .int .u64 0, .int .u64 0, .int .u64 0] 24))) := by
    have h := (((Bx.start w).alloc a0 a1 a2 a3).alloc b0 b1 b2 b3).alloc 0 0 0 0
    (try simp only [World.size_alloc] at h)
    exact h
  generalize (((w.alloc (.cells #[.int .u64 a0, .int .u64 a1, .int .u64 a2, .int .u64 a3] 24)).alloc (.cells #[.int .u64 b0, .int .u64 b1, .int .u64 b2, .int .u64 b3] 24)).alloc (.cells #[.int .u64 0, .int .u64 0, .int .u64 0, .int .u64 0] 24)) = W0 at K0 ⊢
  obtain ⟨c0, c1, c2, c3, _⟩ := K0.out.f0 (List.Mem.tail _ (List.Mem.tail _ (List.Mem.head _)))
  go_upto_region 2 with (first
    | (go_at_call 103; refine (HBA.out _).mono ?_; rintro e g1 ⟨rfl, hB⟩; (have K1 : Hid (Bx w [(w.heap.size + 1 + 1, 0, 0, 0, 0), (w.heap.size + 1, b0, b1, b2, b3), (w.heap.size, a0, a1, a2, a3)] g1) := K0.out.past hB); clear hB c0 c1 c2 c3 K0)
    | (refine new256 (bitf X) rfl rfl _ rfl rfl _ rfl rfl rfl rfl ?_; intro W1 hW1))
  obtain ⟨bx, ebx⟩ : ∃ bx, g1.heap.size = bx := ⟨_, rfl⟩
  have X1 : Hid (RowI W1 bx 256 (bitf X) ∧ Below bx g1 W1 ∧ Bx w [(w.heap.size + 1 + 1, 0, 0, 0, 0), (w.heap.size + 1, b0, b1, b2, b3), (w.heap.size, a0, a1, a2, a3)] W1) := ⟨by rw [← ebx]; exact hW1.row, by rw [← ebx]; exact hW1.bel, K1.out.past hW1.bel⟩
  have EBX : Hid (g1.heap.size = bx) := ebx
  rw [ebx]
  clear hW1 ebx
  obtain ⟨c0, c1, c2, c3, _⟩ := X1.out.2.2.f0 (List.Mem.tail _ (List.Mem.head _))
  go_upto_region 3 with (first
    | (go_at_call 103; refine (HBB.out _).mono ?_; rintro e g2 ⟨rfl, hB⟩; (have X2 : Hid (RowI g2 bx 256 (bitf X) ∧ Below bx g1 g2) := ⟨X1.out.1.past hB, X1.out.2.1.trans (hB.mono (Nat.le_of_lt (RowI.lt X1.out.1 (by omega))))⟩); clear hB c0 c1 c2 c3 X1)
    | (refine new256 (bitf Y) rfl rfl _ rfl rfl _ rfl rfl rfl rfl ?_; intro W2 hW2))
  obtain ⟨bY, eby⟩ : ∃ bY, g2.heap.size = bY := ⟨_, rfl⟩
  have hxy : bx < bY := by rw [← eby]; exact RowI.lt X2.out.1 (by omega)
  have X3 : Hid (RowI W2 bx 256 (mixd f (bitf X) 0) ∧ RowI W2 bY 256 (bitf Y) ∧ Below bx g1 W2) := ⟨(X2.out.1.past hW2.bel).ext (fun i _ => by unfold mixd; rw [if_neg (by omega)]), by rw [← eby]; exact hW2.row, X2.out.2.trans (hW2.bel.mono (by omega))⟩
  rw [eby]
  clear hW2 eby X2
  go_wp2
  go_loopw [7] (fun s wr => ∃ k : Nat, s = .int .i64 (k : Int) ∧ k ≤ 256 ∧ RowI wr bx 256 (mixd f (bitf X) k) ∧ RowI wr bY 256 (bitf Y) ∧ Below bx g1 wr) (fun s _ => 256 - (intOf s).toNat)
  case atStart => exact ⟨0, rfl, by omega, X3.out.1, X3.out.2.1, X3.out.2.2⟩
  case round =>
    obtain ⟨k, rfl, hk, hR, hS, hB⟩ := hrel
    clear X3
    have HR : Hid (RowI wr bx 256 (mixd f (bitf X) k)) := hR
    have HS : Hid (RowI wr bY 256 (bitf Y)) := hS
    have HB : Hid (Below bx g1 wr) := hB
    clear hR hS hB
    by_cases hk5 : k < 256
    · have kI : (k : Int) < 256 := by omega
      have c1 := (HR.out k hk5).1
      have f1 := (HR.out k hk5).2
      have c2 := (HS.out k hk5).1
      rw [show mixd f (bitf X) k k = bitf X k by unfold mixd; rw [if_neg (by omega)]] at c1
      obtain ⟨x, ex⟩ : ∃ x, x = bitf X k := ⟨_, rfl⟩
      obtain ⟨y, ey⟩ : ∃ y, y = bitf Y k := ⟨_, rfl⟩
      obtain ⟨u, eu⟩ : ∃ u, u = f k := ⟨_, rfl⟩
      have hu := HF.out k
      have hx1 := bitf_le X k
      have hy1 := bitf_le Y k
      rw [← ex, ← ey, ← eu] at hu
      rw [← ex] at c1 hx1
      rw [← ey] at c2 hy1
      obtain ⟨q, eq⟩ : ∃ q, q = x * y := ⟨_, rfl⟩
      have q1 : q ≤ 1 ∧ q ≤ x + y := by rw [eq]; have := Nat.mul_le_mul hx1 hy1; have h2 : x * y ≤ x * 1 := Nat.mul_le_mul_left x hy1; omega
      have m1 : (x : Int) * (y : Int) = (q : Int) := by rw [eq]; exact (Int.natCast_mul x y).symm
      have m2 : IntKind.i64.wrap (q : Int) = (q : Int) := by rw [IntKind.wrap_i64]; omega
      obtain ⟨s, es⟩ : ∃ s, s = x + y := ⟨_, rfl⟩
      have m3 : (x : Int) + (y : Int) = (s : Int) := by omega
      have m4 : IntKind.i64.wrap (s : Int) = (s : Int) := by rw [IntKind.wrap_i64]; omega
      have m5 : (s : Int) - (q : Int) = (u : Int) := by rw [← eq] at hu; omega
      have m6 : IntKind.i64.wrap (u : Int) = (u : Int) := by rw [IntKind.wrap_i64]; omega
      clear eq q1 es hx1 hy1
      have N1 : Hid (RowI (wr.setCell ⟨bx, k, none⟩ (.int .i64 (u : Int))).drew bx 256 (mixd f (bitf X) (k + 1)) ∧ RowI (wr.setCell ⟨bx, k, none⟩ (.int .i64 (u : Int))).drew bY 256 (bitf Y) ∧ Below bx g1 (wr.setCell ⟨bx, k, none⟩ (.int .i64 (u : Int))).drew) := by
        refine ⟨?_, (HS.out.set_other _ _ (Nat.ne_of_lt hxy)).past (Below.refl _ _).drew, (HB.out.setCell (Nat.le_refl _) _).drew⟩
        rw [← mixd_set, ← eu]
        exact (RowI.set HR.out k u).past (Below.refl _ _).drew
      clear ex ey eu hu
      go_wp2
      go_region
      generalize (wr.setCell ⟨bx, k, none⟩ (.int .i64 (u : Int))).drew = x1 at N1 ⊢
      go_wp2
      go_roundw
      case rel => exact ⟨k + 1, by go_num, by omega, N1.out.1, N1.out.2.1, N1.out.2.2⟩
      case measure => simp [intOf]; omega
    · obtain rfl : k = 256 := by omega
      have R1 : Hid (RowI wr bx 256 f) := HR.out.ext (fun i hi => by unfold mixd; rw [if_pos hi])
      have K5 : Hid (Bx w [(w.heap.size + 1 + 1, 0, 0, 0, 0), (w.heap.size + 1, b0, b1, b2, b3), (w.heap.size, a0, a1, a2, a3)] wr) := K1.out.past (by rw [EBX.out]; exact HB.out)
      clear HR HS HB K1
      obtain ⟨r0, r1, r2, r3, f0, f1, f2, f3⟩ := K5.out.f0 (List.Mem.head _)
      go_wp2_with (first
        | (go_at_call 107; refine (HJO.out _).mono ?_; rintro e x9 ⟨rfl, hB⟩; (have K9 : Hid (Bx w [(w.heap.size + 1 + 1, 0, 0, 0, 0), (w.heap.size + 1, b0, b1, b2, b3), (w.heap.size, a0, a1, a2, a3)] x9) := K5.out.past hB); clear hB r0 r1 r2 r3 f0 f1 f2 f3; obtain ⟨r0, r1, r2, r3, f0, f1, f2, f3⟩ := K9.out.f0 (List.Mem.head _))
        | (refine load256 f bx rfl _ rfl rfl R1.out ?_))
      exact bodyPost_ret (v := .agg #[.int .u64 p0, .int .u64 p1, .int .u64 p2, .int .u64 p3]) (by simp [results, Tryz.results41, go_sem, r0, r1, r2, r3]) rfl ⟨rfl, below_put K9.out.bel (by omega) _ _ _ _⟩
set_option maxHeartbeats 4000000 in
set_option maxRecDepth 100000 in
theorem rxor_r (a0 a1 a2 a3 b0 b1 b2 b3 p0 p1 p2 p3 : Int) (X Y : Nat) (BA : ∀ W : World, Calls Tryz.prog 103 #[.agg #[.int .u64 a0, .int .u64 a1, .int .u64 a2, .int .u64 a3]] W fun e w' => e = .returned (.agg (intsD (bitf X) 256).toArray) ∧ Below W.heap.size W w') (BB : ∀ W : World, Calls Tryz.prog 103 #[.agg #[.int .u64 b0, .int .u64 b1, .int .u64 b2, .int .u64 b3]] W fun e w' => e = .returned (.agg (intsD (bitf Y) 256).toArray) ∧ Below W.heap.size W w') (f : Nat → Nat) (hf : ∀ i, f i = (bitf X i + bitf Y i) % 2) (JO : ∀ W : World, Calls Tryz.prog 107 #[.agg (intsD f 256).toArray] W fun e w' => e = .returned (.agg #[.int .u64 p0, .int .u64 p1, .int .u64 p2, .int .u64 p3]) ∧ Below W.heap.size W w') (w : World) :
    Calls Tryz.prog 43 #[.agg #[.int .u64 a0, .int .u64 a1, .int .u64 a2, .int .u64 a3], .agg #[.int .u64 b0, .int .u64 b1, .int .u64 b2, .int .u64 b3]] w fun e w' => e = .returned (.agg #[.int .u64 p0, .int .u64 p1, .int .u64 p2, .int .u64 p3]) ∧ Below w.heap.size w w' := by
  have HBA : Hid (∀ W : World, Calls Tryz.prog 103 #[.agg #[.int .u64 a0, .int .u64 a1, .int .u64 a2, .int .u64 a3]] W fun e w' => e = .returned (.agg (intsD (bitf X) 256).toArray) ∧ Below W.heap.size W w') := BA
  have HBB : Hid (∀ W : World, Calls Tryz.prog 103 #[.agg #[.int .u64 b0, .int .u64 b1, .int .u64 b2, .int .u64 b3]] W fun e w' => e = .returned (.agg (intsD (bitf Y) 256).toArray) ∧ Below W.heap.size W w') := BB
  have HJO : Hid (∀ W : World, Calls Tryz.prog 107 #[.agg (intsD f 256).toArray] W fun e w' => e = .returned (.agg #[.int .u64 p0, .int .u64 p1, .int .u64 p2, .int .u64 p3]) ∧ Below W.heap.size W w') := JO
  have HF : Hid (∀ i, f i = (bitf X i + bitf Y i) % 2) := hf
  clear BA BB JO hf
  go_enter Tryz.func43, Tryz.ntmps43
  go_upto_region 1 with fail
  have K0 : Hid (Bx w [(w.heap.size + 1 + 1, 0, 0, 0, 0), (w.heap.size + 1, b0, b1, b2, b3), (w.heap.size, a0, a1, a2, a3)] (((w.alloc (.cells #[.int .u64 a0, .int .u64 a1, .int .u64 a2, .int .u64 a3] 24)).alloc (.cells #[.int .u64 b0, .int .u64 b1, .int .u64 b2, .int .u64 b3] 24)).alloc (.cells #[.int .u64 0, .int .u64 0, .int .u64 0, .int .u64 0] 24))) := by
    have h := (((Bx.start w).alloc a0 a1 a2 a3).alloc b0 b1 b2 b3).alloc 0 0 0 0
    (try simp only [World.size_alloc] at h)
    exact h
  generalize (((w.alloc (.cells #[.int .u64 a0, .int .u64 a1, .int .u64 a2, .int .u64 a3] 24)).alloc (.cells #[.int .u64 b0, .int .u64 b1, .int .u64 b2, .int .u64 b3] 24)).alloc (.cells #[.int .u64 0, .int .u64 0, .int .u64 0, .int .u64 0] 24)) = W0 at K0 ⊢
  obtain ⟨c0, c1, c2, c3, _⟩ := K0.out.f0 (List.Mem.tail _ (List.Mem.tail _ (List.Mem.head _)))
  go_upto_region 2 with (first
    | (go_at_call 103; refine (HBA.out _).mono ?_; rintro e g1 ⟨rfl, hB⟩; (have K1 : Hid (Bx w [(w.heap.size + 1 + 1, 0, 0, 0, 0), (w.heap.size + 1, b0, b1, b2, b3), (w.heap.size, a0, a1, a2, a3)] g1) := K0.out.past hB); clear hB c0 c1 c2 c3 K0)
    | (refine new256 (bitf X) rfl rfl _ rfl rfl _ rfl rfl rfl rfl ?_; intro W1 hW1))
  obtain ⟨bx, ebx⟩ : ∃ bx, g1.heap.size = bx := ⟨_, rfl⟩
  have X1 : Hid (RowI W1 bx 256 (bitf X) ∧ Below bx g1 W1 ∧ Bx w [(w.heap.size + 1 + 1, 0, 0, 0, 0), (w.heap.size + 1, b0, b1, b2, b3), (w.heap.size, a0, a1, a2, a3)] W1) := ⟨by rw [← ebx]; exact hW1.row, by rw [← ebx]; exact hW1.bel, K1.out.past hW1.bel⟩
  have EBX : Hid (g1.heap.size = bx) := ebx
  rw [ebx]
  clear hW1 ebx
  obtain ⟨c0, c1, c2, c3, _⟩ := X1.out.2.2.f0 (List.Mem.tail _ (List.Mem.head _))
  go_upto_region 3 with (first
    | (go_at_call 103; refine (HBB.out _).mono ?_; rintro e g2 ⟨rfl, hB⟩; (have X2 : Hid (RowI g2 bx 256 (bitf X) ∧ Below bx g1 g2) := ⟨X1.out.1.past hB, X1.out.2.1.trans (hB.mono (Nat.le_of_lt (RowI.lt X1.out.1 (by omega))))⟩); clear hB c0 c1 c2 c3 X1)
    | (refine new256 (bitf Y) rfl rfl _ rfl rfl _ rfl rfl rfl rfl ?_; intro W2 hW2))
  obtain ⟨bY, eby⟩ : ∃ bY, g2.heap.size = bY := ⟨_, rfl⟩
  have hxy : bx < bY := by rw [← eby]; exact RowI.lt X2.out.1 (by omega)
  have X3 : Hid (RowI W2 bx 256 (mixd f (bitf X) 0) ∧ RowI W2 bY 256 (bitf Y) ∧ Below bx g1 W2) := ⟨(X2.out.1.past hW2.bel).ext (fun i _ => by unfold mixd; rw [if_neg (by omega)]), by rw [← eby]; exact hW2.row, X2.out.2.trans (hW2.bel.mono (by omega))⟩
  rw [eby]
  clear hW2 eby X2
  go_wp2
  go_loopw [7] (fun s wr => ∃ k : Nat, s = .int .i64 (k : Int) ∧ k ≤ 256 ∧ RowI wr bx 256 (mixd f (bitf X) k) ∧ RowI wr bY 256 (bitf Y) ∧ Below bx g1 wr) (fun s _ => 256 - (intOf s).toNat)
  case atStart => exact ⟨0, rfl, by omega, X3.out.1, X3.out.2.1, X3.out.2.2⟩
  case round =>
    obtain ⟨k, rfl, hk, hR, hS, hB⟩ := hrel
    clear X3
    have HR : Hid (RowI wr bx 256 (mixd f (bitf X) k)) := hR
    have HS : Hid (RowI wr bY 256 (bitf Y)) := hS
    have HB : Hid (Below bx g1 wr) := hB
    clear hR hS hB
    by_cases hk5 : k < 256
    · have kI : (k : Int) < 256 := by omega
      have c1 := (HR.out k hk5).1
      have f1 := (HR.out k hk5).2
      have c2 := (HS.out k hk5).1
      rw [show mixd f (bitf X) k k = bitf X k by unfold mixd; rw [if_neg (by omega)]] at c1
      obtain ⟨x, ex⟩ : ∃ x, x = bitf X k := ⟨_, rfl⟩
      obtain ⟨y, ey⟩ : ∃ y, y = bitf Y k := ⟨_, rfl⟩
      obtain ⟨u, eu⟩ : ∃ u, u = f k := ⟨_, rfl⟩
      have hu := HF.out k
      have hx1 := bitf_le X k
      have hy1 := bitf_le Y k
      rw [← ex, ← ey, ← eu] at hu
      rw [← ex] at c1 hx1
      rw [← ey] at c2 hy1
      obtain ⟨s, es⟩ : ∃ s, s = x + y := ⟨_, rfl⟩
      have m3 : (x : Int) + (y : Int) = (s : Int) := by omega
      have m4 : IntKind.i64.wrap (s : Int) = (s : Int) := by rw [IntKind.wrap_i64]; omega
      have m5 : Int.tmod (s : Int) 2 = (u : Int) := by rw [Int.tmod_eq_emod_of_nonneg (by omega)]; omega
      have m6 : IntKind.i64.wrap (u : Int) = (u : Int) := by rw [IntKind.wrap_i64]; omega
      have m7 : (s : Int) % 2 = (u : Int) := by omega
      have m8 : (0 : Int) ≤ (s : Int) := by omega
      clear es hx1 hy1
      have N1 : Hid (RowI (wr.setCell ⟨bx, k, none⟩ (.int .i64 (u : Int))).drew bx 256 (mixd f (bitf X) (k + 1)) ∧ RowI (wr.setCell ⟨bx, k, none⟩ (.int .i64 (u : Int))).drew bY 256 (bitf Y) ∧ Below bx g1 (wr.setCell ⟨bx, k, none⟩ (.int .i64 (u : Int))).drew) := by
        refine ⟨?_, (HS.out.set_other _ _ (Nat.ne_of_lt hxy)).past (Below.refl _ _).drew, (HB.out.setCell (Nat.le_refl _) _).drew⟩
        rw [← mixd_set, ← eu]
        exact (RowI.set HR.out k u).past (Below.refl _ _).drew
      clear ex ey eu hu
      go_wp2
      go_region
      generalize (wr.setCell ⟨bx, k, none⟩ (.int .i64 (u : Int))).drew = x1 at N1 ⊢
      go_wp2
      go_roundw
      case rel => exact ⟨k + 1, by go_num, by omega, N1.out.1, N1.out.2.1, N1.out.2.2⟩
      case measure => simp [intOf]; omega
    · obtain rfl : k = 256 := by omega
      have R1 : Hid (RowI wr bx 256 f) := HR.out.ext (fun i hi => by unfold mixd; rw [if_pos hi])
      have K5 : Hid (Bx w [(w.heap.size + 1 + 1, 0, 0, 0, 0), (w.heap.size + 1, b0, b1, b2, b3), (w.heap.size, a0, a1, a2, a3)] wr) := K1.out.past (by rw [EBX.out]; exact HB.out)
      clear HR HS HB K1
      obtain ⟨r0, r1, r2, r3, f0, f1, f2, f3⟩ := K5.out.f0 (List.Mem.head _)
      go_wp2_with (first
        | (go_at_call 107; refine (HJO.out _).mono ?_; rintro e x9 ⟨rfl, hB⟩; (have K9 : Hid (Bx w [(w.heap.size + 1 + 1, 0, 0, 0, 0), (w.heap.size + 1, b0, b1, b2, b3), (w.heap.size, a0, a1, a2, a3)] x9) := K5.out.past hB); clear hB r0 r1 r2 r3 f0 f1 f2 f3; obtain ⟨r0, r1, r2, r3, f0, f1, f2, f3⟩ := K9.out.f0 (List.Mem.head _))
        | (refine load256 f bx rfl _ rfl rfl R1.out ?_))
      exact bodyPost_ret (v := .agg #[.int .u64 p0, .int .u64 p1, .int .u64 p2, .int .u64 p3]) (by simp [results, Tryz.results43, go_sem, r0, r1, r2, r3]) rfl ⟨rfl, below_put K9.out.bel (by omega) _ _ _ _⟩
end Go.Proofs.YtpadpmkfhljiiaaGreat
/- The document's Not, Shl, lowered, Shr, Sar, SignExtend by its arrays of bits. -/
namespace Go.Proofs.YtpadpmkfhljiiaaGreat
open Go.RowKit
set_option maxHeartbeats 4000000 in
set_option maxRecDepth 100000 in
theorem rnot_r (a0 a1 a2 a3 p0 p1 p2 p3 : Int) (X : Nat) (f : Nat → Nat) (BA : ∀ W : World, Calls Tryz.prog 103 #[.agg #[.int .u64 a0, .int .u64 a1, .int .u64 a2, .int .u64 a3]] W fun e w' => e = .returned (.agg (intsD (bitf X) 256).toArray) ∧ Below W.heap.size W w') (F : ∀ i, f i = 1 - bitf X i) (JO : ∀ W : World, Calls Tryz.prog 107 #[.agg (intsD f 256).toArray] W fun e w' => e = .returned (.agg #[.int .u64 p0, .int .u64 p1, .int .u64 p2, .int .u64 p3]) ∧ Below W.heap.size W w') (w : World) :
    Calls Tryz.prog 45 #[.agg #[.int .u64 a0, .int .u64 a1, .int .u64 a2, .int .u64 a3]] w fun e w' => e = .returned (.agg #[.int .u64 p0, .int .u64 p1, .int .u64 p2, .int .u64 p3]) ∧ Below w.heap.size w w' := by
  have HBA : Hid (∀ W : World, Calls Tryz.prog 103 #[.agg #[.int .u64 a0, .int .u64 a1, .int .u64 a2, .int .u64 a3]] W fun e w' => e = .returned (.agg (intsD (bitf X) 256).toArray) ∧ Below W.heap.size W w') := BA
  have HF : Hid (∀ i, f i = 1 - bitf X i) := F
  have HJO : Hid (∀ W : World, Calls Tryz.prog 107 #[.agg (intsD f 256).toArray] W fun e w' => e = .returned (.agg #[.int .u64 p0, .int .u64 p1, .int .u64 p2, .int .u64 p3]) ∧ Below W.heap.size W w') := JO
  clear BA F JO
  go_enter Tryz.func45, Tryz.ntmps45
  go_upto_region 1 with fail
  have K0 : Hid (Bx w [(w.heap.size + 1, 0, 0, 0, 0), (w.heap.size, a0, a1, a2, a3)] ((w.alloc (.cells #[.int .u64 a0, .int .u64 a1, .int .u64 a2, .int .u64 a3] 24)).alloc (.cells #[.int .u64 0, .int .u64 0, .int .u64 0, .int .u64 0] 24))) := by
    have h := ((Bx.start w).alloc a0 a1 a2 a3).alloc 0 0 0 0
    (try simp only [World.size_alloc] at h)
    exact h
  generalize ((w.alloc (.cells #[.int .u64 a0, .int .u64 a1, .int .u64 a2, .int .u64 a3] 24)).alloc (.cells #[.int .u64 0, .int .u64 0, .int .u64 0, .int .u64 0] 24)) = W0 at K0 ⊢
  obtain ⟨c0, c1, c2, c3, _⟩ := K0.out.f0 (List.Mem.tail _ (List.Mem.head _))
  go_wp2_with (first
    | (go_at_call 103; refine (HBA.out _).mono ?_; rintro e g1 ⟨rfl, hB⟩; (have K1 : Hid (Bx w [(w.heap.size + 1, 0, 0, 0, 0), (w.heap.size, a0, a1, a2, a3)] g1) := K0.out.past hB); clear hB c0 c1 c2 c3 K0)
    | (refine new256 (bitf X) rfl rfl _ rfl rfl _ rfl rfl rfl rfl ?_; intro W1 hW1))
  obtain ⟨bx, ebx⟩ : ∃ bx, g1.heap.size = bx := ⟨_, rfl⟩
  have X3 : Hid (RowI W1 bx 256 (mixd f (bitf X) 0) ∧ Below bx g1 W1) := ⟨by rw [← ebx]; exact hW1.row.ext (fun i _ => by unfold mixd; rw [if_neg (by omega)]), by rw [← ebx]; exact hW1.bel⟩
  have EBX : Hid (g1.heap.size = bx) := ebx
  rw [ebx]
  clear hW1 ebx
  go_loopw [4] (fun s wr => ∃ k : Nat, s = .int .i64 (k : Int) ∧ k ≤ 256 ∧ RowI wr bx 256 (mixd f (bitf X) k) ∧ Below bx g1 wr) (fun s _ => 256 - (intOf s).toNat)
  case atStart => exact ⟨0, rfl, by omega, X3.out.1, X3.out.2⟩
  case round =>
    obtain ⟨k, rfl, hk, hR, hB⟩ := hrel
    clear X3
    have HR : Hid (RowI wr bx 256 (mixd f (bitf X) k)) := hR
    have HB : Hid (Below bx g1 wr) := hB
    clear hR hB
    by_cases hk5 : k < 256
    · have kI : (k : Int) < 256 := by omega
      have c1 := (HR.out k hk5).1
      have f1 := (HR.out k hk5).2
      rw [show mixd f (bitf X) k k = bitf X k by unfold mixd; rw [if_neg (by omega)]] at c1
      obtain ⟨x, ex⟩ : ∃ x, x = bitf X k := ⟨_, rfl⟩
      obtain ⟨u, eu⟩ : ∃ u, u = f k := ⟨_, rfl⟩
      have hu := HF.out k
      have hx1 := bitf_le X k
      rw [← ex, ← eu] at hu
      rw [← ex] at c1 hx1
      have m1 : (1 : Int) - (x : Int) = (u : Int) := by omega
      have m2 : IntKind.i64.wrap (u : Int) = (u : Int) := by rw [IntKind.wrap_i64]; omega
      have N1 : Hid (RowI (wr.setCell ⟨bx, k, none⟩ (.int .i64 (u : Int))) bx 256 (mixd f (bitf X) (k + 1)) ∧ Below bx g1 (wr.setCell ⟨bx, k, none⟩ (.int .i64 (u : Int)))) := by
        refine ⟨?_, HB.out.setCell (Nat.le_refl _) _⟩
        rw [← mixd_set, ← eu]
        exact RowI.set HR.out k u
      clear ex eu hu hx1
      go_wp2
      go_roundw
      case rel => exact ⟨k + 1, by go_num, by omega, N1.out.1, N1.out.2⟩
      case measure => simp [intOf]; omega
    · obtain rfl : k = 256 := by omega
      have R1 : Hid (RowI wr bx 256 f) := HR.out.ext (fun i hi => by unfold mixd; rw [if_pos hi])
      have K5 : Hid (Bx w [(w.heap.size + 1, 0, 0, 0, 0), (w.heap.size, a0, a1, a2, a3)] wr) := K1.out.past (by rw [EBX.out]; exact HB.out)
      clear HR HB K1
      obtain ⟨r0, r1, r2, r3, f0, f1, f2, f3⟩ := K5.out.f0 (List.Mem.head _)
      go_wp2_with (first
        | (go_at_call 107; refine (HJO.out _).mono ?_; rintro e x9 ⟨rfl, hB⟩; (have K9 : Hid (Bx w [(w.heap.size + 1, 0, 0, 0, 0), (w.heap.size, a0, a1, a2, a3)] x9) := K5.out.past hB); clear hB r0 r1 r2 r3 f0 f1 f2 f3; obtain ⟨r0, r1, r2, r3, f0, f1, f2, f3⟩ := K9.out.f0 (List.Mem.head _))
        | (refine load256 f bx rfl _ rfl rfl R1.out ?_))
      exact bodyPost_ret (v := .agg #[.int .u64 p0, .int .u64 p1, .int .u64 p2, .int .u64 p3]) (by simp [results, Tryz.results45, go_sem, r0, r1, r2, r3]) rfl ⟨rfl, below_put K9.out.bel (by omega) _ _ _ _⟩
set_option maxHeartbeats 4000000 in
set_option maxRecDepth 100000 in
theorem rshl_r (a0 a1 a2 a3 b0 b1 b2 b3 p0 p1 p2 p3 : Int) (K Y : Nat) (f : Nat → Nat) (UP : ∀ W : World, Calls Tryz.prog 106 #[.agg #[.int .u64 a0, .int .u64 a1, .int .u64 a2, .int .u64 a3], .int .i64 256] W fun e w' => e = .returned (.int .i64 (K : Int)) ∧ Below W.heap.size W w') (BB : ∀ W : World, Calls Tryz.prog 103 #[.agg #[.int .u64 b0, .int .u64 b1, .int .u64 b2, .int .u64 b3]] W fun e w' => e = .returned (.agg (intsD (bitf Y) 256).toArray) ∧ Below W.heap.size W w') (KL : K ≤ 256) (F : ∀ i, f i = if i < K then 0 else bitf Y (i - K)) (JO : ∀ W : World, Calls Tryz.prog 107 #[.agg (intsD f 256).toArray] W fun e w' => e = .returned (.agg #[.int .u64 p0, .int .u64 p1, .int .u64 p2, .int .u64 p3]) ∧ Below W.heap.size W w') (w : World) :
    Calls Tryz.prog 49 #[.agg #[.int .u64 a0, .int .u64 a1, .int .u64 a2, .int .u64 a3], .agg #[.int .u64 b0, .int .u64 b1, .int .u64 b2, .int .u64 b3]] w fun e w' => e = .returned (.agg #[.int .u64 p0, .int .u64 p1, .int .u64 p2, .int .u64 p3]) ∧ Below w.heap.size w w' := by
  have HUP : Hid (∀ W : World, Calls Tryz.prog 106 #[.agg #[.int .u64 a0, .int .u64 a1, .int .u64 a2, .int .u64 a3], .int .i64 256] W fun e w' => e = .returned (.int .i64 (K : Int)) ∧ Below W.heap.size W w') := UP
  have HBB : Hid (∀ W : World, Calls Tryz.prog 103 #[.agg #[.int .u64 b0, .int .u64 b1, .int .u64 b2, .int .u64 b3]] W fun e w' => e = .returned (.agg (intsD (bitf Y) 256).toArray) ∧ Below W.heap.size W w') := BB
  have HKL : Hid (K ≤ 256) := KL
  have HF : Hid (∀ i, f i = if i < K then 0 else bitf Y (i - K)) := F
  have HJO : Hid (∀ W : World, Calls Tryz.prog 107 #[.agg (intsD f 256).toArray] W fun e w' => e = .returned (.agg #[.int .u64 p0, .int .u64 p1, .int .u64 p2, .int .u64 p3]) ∧ Below W.heap.size W w') := JO
  clear UP BB KL F JO
  go_enter Tryz.func49, Tryz.ntmps49
  go_upto_region 1 with fail
  have K0 : Hid (Bx w [(w.heap.size + 1 + 1, 0, 0, 0, 0), (w.heap.size + 1, b0, b1, b2, b3), (w.heap.size, a0, a1, a2, a3)] (((w.alloc (.cells #[.int .u64 a0, .int .u64 a1, .int .u64 a2, .int .u64 a3] 24)).alloc (.cells #[.int .u64 b0, .int .u64 b1, .int .u64 b2, .int .u64 b3] 24)).alloc (.cells #[.int .u64 0, .int .u64 0, .int .u64 0, .int .u64 0] 24))) := by
    have h := (((Bx.start w).alloc a0 a1 a2 a3).alloc b0 b1 b2 b3).alloc 0 0 0 0
    (try simp only [World.size_alloc] at h)
    exact h
  generalize (((w.alloc (.cells #[.int .u64 a0, .int .u64 a1, .int .u64 a2, .int .u64 a3] 24)).alloc (.cells #[.int .u64 b0, .int .u64 b1, .int .u64 b2, .int .u64 b3] 24)).alloc (.cells #[.int .u64 0, .int .u64 0, .int .u64 0, .int .u64 0] 24)) = W0 at K0 ⊢
  obtain ⟨c0, c1, c2, c3, _⟩ := K0.out.f0 (List.Mem.tail _ (List.Mem.tail _ (List.Mem.head _)))
  go_upto_region 2 with (go_at_call 106; refine (HUP.out _).mono ?_; rintro e g0 ⟨rfl, hB⟩; (have K2 : Hid (Bx w [(w.heap.size + 1 + 1, 0, 0, 0, 0), (w.heap.size + 1, b0, b1, b2, b3), (w.heap.size, a0, a1, a2, a3)] g0) := K0.out.past hB); clear hB c0 c1 c2 c3 K0)
  obtain ⟨c0, c1, c2, c3, _⟩ := K2.out.f0 (List.Mem.tail _ (List.Mem.head _))
  go_upto_region 3 with (first
    | (go_at_call 103; refine (HBB.out _).mono ?_; rintro e g1 ⟨rfl, hB⟩; (have K1 : Hid (Bx w [(w.heap.size + 1 + 1, 0, 0, 0, 0), (w.heap.size + 1, b0, b1, b2, b3), (w.heap.size, a0, a1, a2, a3)] g1) := K2.out.past hB); clear hB c0 c1 c2 c3 K2)
    | (refine new256 (bitf Y) rfl rfl _ rfl rfl _ rfl rfl rfl rfl ?_; intro W1 hW1))
  obtain ⟨bl, ebl⟩ : ∃ bl, g1.heap.size = bl := ⟨_, rfl⟩
  have X1 : Hid (RowI W1 bl 256 (bitf Y) ∧ Below bl g1 W1) := ⟨by rw [← ebl]; exact hW1.row, by rw [← ebl]; exact hW1.bel⟩
  have EBL : Hid (g1.heap.size = bl) := ebl
  rw [ebl]
  clear hW1 ebl
  go_wp2_with (refine alloc256 rfl rfl ?_; intro W2 hW2)
  obtain ⟨bm, ebm⟩ : ∃ bm, W1.heap.size = bm := ⟨_, rfl⟩
  have hlm : bl < bm := by rw [← ebm]; exact RowI.lt X1.out.1 (by omega)
  have X3 : Hid (RowI W2 bl 256 (bitf Y) ∧ RowI W2 bm 256 (fun _ => 0) ∧ Below bl g1 W2) := ⟨X1.out.1.past hW2.bel, by rw [← ebm]; exact hW2.row, X1.out.2.trans (hW2.bel.mono (by omega))⟩
  rw [ebm]
  clear hW2 ebm X1
  go_loopw [8] (fun s wr => ∃ i : Nat, s = .int .i64 (i : Int) ∧ K ≤ i ∧ i ≤ 256 ∧ RowI wr bl 256 (bitf Y) ∧ RowI wr bm 256 (upto f i) ∧ Below bl g1 wr) (fun s _ => 256 - (intOf s).toNat)
  case atStart => exact ⟨K, rfl, by omega, HKL.out, X3.out.1, X3.out.2.1.ext (fun i _ => by unfold upto; split; rw [HF.out, if_pos (by assumption)]; rfl), X3.out.2.2⟩
  case round =>
    obtain ⟨i, rfl, hKi, hi, hR, hS, hB⟩ := hrel
    clear X3
    have HR : Hid (RowI wr bl 256 (bitf Y)) := hR
    have HS : Hid (RowI wr bm 256 (upto f i)) := hS
    have HB : Hid (Below bl g1 wr) := hB
    clear hR hS hB
    by_cases hi5 : i < 256
    · have iI : (i : Int) < 256 := by omega
      obtain ⟨d, ed⟩ : ∃ d, d = i - K := ⟨_, rfl⟩
      have m1 : (i : Int) - (K : Int) = (d : Int) := by omega
      have m2 : IntKind.i64.wrap (d : Int) = (d : Int) := by rw [IntKind.wrap_i64]; omega
      have dI : (d : Int) < 256 := by omega
      have c1 := (HR.out d (by omega)).1
      have c2 := (HS.out i hi5).1
      have f2 := (HS.out i hi5).2
      obtain ⟨u, eu⟩ : ∃ u, u = bitf Y d := ⟨_, rfl⟩
      rw [← eu] at c1
      have N1 : Hid (RowI (wr.setCell ⟨bm, i, none⟩ (.int .i64 (u : Int))) bl 256 (bitf Y) ∧ RowI (wr.setCell ⟨bm, i, none⟩ (.int .i64 (u : Int))) bm 256 (upto f (i + 1)) ∧ Below bl g1 (wr.setCell ⟨bm, i, none⟩ (.int .i64 (u : Int)))) := by
        refine ⟨HR.out.set_other _ _ (Nat.ne_of_gt hlm), ?_, HB.out.setCell (Nat.le_of_lt hlm) _⟩
        rw [← upto_set, HF.out, if_neg (by omega), ← ed, ← eu]
        exact RowI.set HS.out i u
      clear ed eu
      go_wp2
      go_roundw
      case rel => exact ⟨i + 1, by go_num, by omega, by omega, N1.out.1, N1.out.2.1, N1.out.2.2⟩
      case measure => simp [intOf]; omega
    · obtain rfl : i = 256 := by omega
      have R1 : Hid (RowI wr bm 256 f) := HS.out.ext (fun i hi => by unfold upto; rw [if_pos hi])
      have K5 : Hid (Bx w [(w.heap.size + 1 + 1, 0, 0, 0, 0), (w.heap.size + 1, b0, b1, b2, b3), (w.heap.size, a0, a1, a2, a3)] wr) := K1.out.past (by rw [EBL.out]; exact HB.out)
      clear HR HS HB K1
      obtain ⟨r0, r1, r2, r3, f0, f1, f2, f3⟩ := K5.out.f0 (List.Mem.head _)
      go_wp2_with (first
        | (go_at_call 107; refine (HJO.out _).mono ?_; rintro e x9 ⟨rfl, hB⟩; (have K9 : Hid (Bx w [(w.heap.size + 1 + 1, 0, 0, 0, 0), (w.heap.size + 1, b0, b1, b2, b3), (w.heap.size, a0, a1, a2, a3)] x9) := K5.out.past hB); clear hB r0 r1 r2 r3 f0 f1 f2 f3; obtain ⟨r0, r1, r2, r3, f0, f1, f2, f3⟩ := K9.out.f0 (List.Mem.head _))
        | (refine load256 f bm rfl _ rfl rfl R1.out ?_))
      exact bodyPost_ret (v := .agg #[.int .u64 p0, .int .u64 p1, .int .u64 p2, .int .u64 p3]) (by simp [results, Tryz.results49, go_sem, r0, r1, r2, r3]) rfl ⟨rfl, below_put K9.out.bel (by omega) _ _ _ _⟩
set_option maxHeartbeats 4000000 in
set_option maxRecDepth 100000 in
theorem rlow_r (a0 a1 a2 a3 b0 b1 b2 b3 p0 p1 p2 p3 : Int) (K Y top : Nat) (f : Nat → Nat) (UP : ∀ W : World, Calls Tryz.prog 106 #[.agg #[.int .u64 a0, .int .u64 a1, .int .u64 a2, .int .u64 a3], .int .i64 256] W fun e w' => e = .returned (.int .i64 (K : Int)) ∧ Below W.heap.size W w') (BB : ∀ W : World, Calls Tryz.prog 103 #[.agg #[.int .u64 b0, .int .u64 b1, .int .u64 b2, .int .u64 b3]] W fun e w' => e = .returned (.agg (intsD (bitf Y) 256).toArray) ∧ Below W.heap.size W w') (KL : K ≤ 256) (F : ∀ i, f i = if i + K < 256 then bitf Y (i + K) else top) (JO : ∀ W : World, Calls Tryz.prog 107 #[.agg (intsD f 256).toArray] W fun e w' => e = .returned (.agg #[.int .u64 p0, .int .u64 p1, .int .u64 p2, .int .u64 p3]) ∧ Below W.heap.size W w') (w : World) :
    Calls Tryz.prog 104 #[.agg #[.int .u64 a0, .int .u64 a1, .int .u64 a2, .int .u64 a3], .agg #[.int .u64 b0, .int .u64 b1, .int .u64 b2, .int .u64 b3], .int .i64 (top : Int)] w fun e w' => e = .returned (.agg #[.int .u64 p0, .int .u64 p1, .int .u64 p2, .int .u64 p3]) ∧ Below w.heap.size w w' := by
  have HUP : Hid (∀ W : World, Calls Tryz.prog 106 #[.agg #[.int .u64 a0, .int .u64 a1, .int .u64 a2, .int .u64 a3], .int .i64 256] W fun e w' => e = .returned (.int .i64 (K : Int)) ∧ Below W.heap.size W w') := UP
  have HBB : Hid (∀ W : World, Calls Tryz.prog 103 #[.agg #[.int .u64 b0, .int .u64 b1, .int .u64 b2, .int .u64 b3]] W fun e w' => e = .returned (.agg (intsD (bitf Y) 256).toArray) ∧ Below W.heap.size W w') := BB
  have HKL : Hid (K ≤ 256) := KL
  have HF : Hid (∀ i, f i = if i + K < 256 then bitf Y (i + K) else top) := F
  have HJO : Hid (∀ W : World, Calls Tryz.prog 107 #[.agg (intsD f 256).toArray] W fun e w' => e = .returned (.agg #[.int .u64 p0, .int .u64 p1, .int .u64 p2, .int .u64 p3]) ∧ Below W.heap.size W w') := JO
  clear UP BB KL F JO
  go_enter Tryz.func104, Tryz.ntmps104
  go_upto_region 1 with fail
  have K0 : Hid (Bx w [(w.heap.size + 1 + 1, 0, 0, 0, 0), (w.heap.size + 1, b0, b1, b2, b3), (w.heap.size, a0, a1, a2, a3)] (((w.alloc (.cells #[.int .u64 a0, .int .u64 a1, .int .u64 a2, .int .u64 a3] 24)).alloc (.cells #[.int .u64 b0, .int .u64 b1, .int .u64 b2, .int .u64 b3] 24)).alloc (.cells #[.int .u64 0, .int .u64 0, .int .u64 0, .int .u64 0] 24))) := by
    have h := (((Bx.start w).alloc a0 a1 a2 a3).alloc b0 b1 b2 b3).alloc 0 0 0 0
    (try simp only [World.size_alloc] at h)
    exact h
  generalize (((w.alloc (.cells #[.int .u64 a0, .int .u64 a1, .int .u64 a2, .int .u64 a3] 24)).alloc (.cells #[.int .u64 b0, .int .u64 b1, .int .u64 b2, .int .u64 b3] 24)).alloc (.cells #[.int .u64 0, .int .u64 0, .int .u64 0, .int .u64 0] 24)) = W0 at K0 ⊢
  obtain ⟨c0, c1, c2, c3, _⟩ := K0.out.f0 (List.Mem.tail _ (List.Mem.tail _ (List.Mem.head _)))
  go_upto_region 2 with (go_at_call 106; refine (HUP.out _).mono ?_; rintro e g0 ⟨rfl, hB⟩; (have K2 : Hid (Bx w [(w.heap.size + 1 + 1, 0, 0, 0, 0), (w.heap.size + 1, b0, b1, b2, b3), (w.heap.size, a0, a1, a2, a3)] g0) := K0.out.past hB); clear hB c0 c1 c2 c3 K0)
  obtain ⟨c0, c1, c2, c3, _⟩ := K2.out.f0 (List.Mem.tail _ (List.Mem.head _))
  go_upto_region 3 with (first
    | (go_at_call 103; refine (HBB.out _).mono ?_; rintro e g1 ⟨rfl, hB⟩; (have K1 : Hid (Bx w [(w.heap.size + 1 + 1, 0, 0, 0, 0), (w.heap.size + 1, b0, b1, b2, b3), (w.heap.size, a0, a1, a2, a3)] g1) := K2.out.past hB); clear hB c0 c1 c2 c3 K2)
    | (refine new256 (bitf Y) rfl rfl _ rfl rfl _ rfl rfl rfl rfl ?_; intro W1 hW1))
  obtain ⟨bl, ebl⟩ : ∃ bl, g1.heap.size = bl := ⟨_, rfl⟩
  have X1 : Hid (RowI W1 bl 256 (bitf Y) ∧ Below bl g1 W1) := ⟨by rw [← ebl]; exact hW1.row, by rw [← ebl]; exact hW1.bel⟩
  have EBL : Hid (g1.heap.size = bl) := ebl
  rw [ebl]
  clear hW1 ebl
  go_wp2_with (refine alloc256 rfl rfl ?_; intro W2 hW2)
  obtain ⟨bm, ebm⟩ : ∃ bm, W1.heap.size = bm := ⟨_, rfl⟩
  have hlm : bl < bm := by rw [← ebm]; exact RowI.lt X1.out.1 (by omega)
  have X3 : Hid (RowI W2 bl 256 (bitf Y) ∧ RowI W2 bm 256 (fun _ => 0) ∧ Below bl g1 W2) := ⟨X1.out.1.past hW2.bel, by rw [← ebm]; exact hW2.row, X1.out.2.trans (hW2.bel.mono (by omega))⟩
  rw [ebm]
  clear hW2 ebm X1
  go_loopw [10] (fun s wr => ∃ i : Nat, s = .int .i64 (i : Int) ∧ i ≤ 256 ∧ RowI wr bl 256 (bitf Y) ∧ RowI wr bm 256 (upto f i) ∧ Below bl g1 wr) (fun s _ => 256 - (intOf s).toNat)
  case atStart => exact ⟨0, rfl, by omega, X3.out.1, X3.out.2.1.ext (fun i _ => by unfold upto; rw [if_neg (by omega)]), X3.out.2.2⟩
  case round =>
    obtain ⟨i, rfl, hi, hR, hS, hB⟩ := hrel
    clear X3
    have HR : Hid (RowI wr bl 256 (bitf Y)) := hR
    have HS : Hid (RowI wr bm 256 (upto f i)) := hS
    have HB : Hid (Below bl g1 wr) := hB
    clear hR hS hB
    by_cases hi5 : i < 256
    · have iI : (i : Int) < 256 := by omega
      obtain ⟨d, ed⟩ : ∃ d, d = i + K := ⟨_, rfl⟩
      have m1 : (i : Int) + (K : Int) = (d : Int) := by omega
      have dk : d ≤ 512 := by have := HKL.out; omega
      have m2 : IntKind.i64.wrap (d : Int) = (d : Int) := by rw [IntKind.wrap_i64]; omega
      have c2 := (HS.out i hi5).1
      have f2 := (HS.out i hi5).2
      have N0 : Hid (RowI (wr.setCell ⟨bm, i, none⟩ (.int .i64 (top : Int))) bl 256 (bitf Y) ∧ RowI (wr.setCell ⟨bm, i, none⟩ (.int .i64 (top : Int))) bm 256 (setD (upto f i) i top) ∧ Below bl g1 (wr.setCell ⟨bm, i, none⟩ (.int .i64 (top : Int)))) := by
        refine ⟨HR.out.set_other _ _ (Nat.ne_of_gt hlm), RowI.set HS.out i top, HB.out.setCell (Nat.le_of_lt hlm) _⟩
      go_upto_region 8 with fail
      generalize wr.setCell ⟨bm, i, none⟩ (.int .i64 (top : Int)) = x0 at N0 ⊢
      clear HR HS HB c2 f2
      by_cases hd : d < 256
      · have dI : (d : Int) < 256 := by omega
        have c1 := (N0.out.1 d hd).1
        have c2 := (N0.out.2.1 i hi5).1
        have f2 := (N0.out.2.1 i hi5).2
        obtain ⟨u, eu⟩ : ∃ u, u = bitf Y d := ⟨_, rfl⟩
        rw [← eu] at c1
        have N1 : Hid (RowI (x0.setCell ⟨bm, i, none⟩ (.int .i64 (u : Int))) bl 256 (bitf Y) ∧ RowI (x0.setCell ⟨bm, i, none⟩ (.int .i64 (u : Int))) bm 256 (upto f (i + 1)) ∧ Below bl g1 (x0.setCell ⟨bm, i, none⟩ (.int .i64 (u : Int)))) := by
          refine ⟨N0.out.1.set_other _ _ (Nat.ne_of_gt hlm), ?_, N0.out.2.2.setCell (Nat.le_of_lt hlm) _⟩
          have e : upto f (i + 1) = setD (setD (upto f i) i top) i u := by
            rw [← upto_set, HF.out, if_pos (by omega), ← ed, ← eu]
            funext j; unfold setD; split <;> rfl
          rw [e]
          exact RowI.set N0.out.2.1 i u
        clear ed eu N0
        go_wp2
        go_roundw
        case rel => exact ⟨i + 1, by go_num, by omega, N1.out.1, N1.out.2.1, N1.out.2.2⟩
        case measure => simp [intOf]; omega
      · have dI : ¬ (d : Int) < 256 := by omega
        have N1 : Hid (RowI x0 bm 256 (upto f (i + 1))) := by
          have e : upto f (i + 1) = setD (upto f i) i top := by rw [← upto_set, HF.out, if_neg (by omega)]
          unfold Hid
          rw [e]; exact N0.out.2.1
        clear ed
        go_wp2
        go_roundw
        case rel => exact ⟨i + 1, by go_num, by omega, N0.out.1, N1.out, N0.out.2.2⟩
        case measure => simp [intOf]; omega
    · obtain rfl : i = 256 := by omega
      have R1 : Hid (RowI wr bm 256 f) := HS.out.ext (fun i hi => by unfold upto; rw [if_pos hi])
      have K5 : Hid (Bx w [(w.heap.size + 1 + 1, 0, 0, 0, 0), (w.heap.size + 1, b0, b1, b2, b3), (w.heap.size, a0, a1, a2, a3)] wr) := K1.out.past (by rw [EBL.out]; exact HB.out)
      clear HR HS HB K1
      obtain ⟨r0, r1, r2, r3, f0, f1, f2, f3⟩ := K5.out.f0 (List.Mem.head _)
      go_wp2_with (first
        | (go_at_call 107; refine (HJO.out _).mono ?_; rintro e x9 ⟨rfl, hB⟩; (have K9 : Hid (Bx w [(w.heap.size + 1 + 1, 0, 0, 0, 0), (w.heap.size + 1, b0, b1, b2, b3), (w.heap.size, a0, a1, a2, a3)] x9) := K5.out.past hB); clear hB r0 r1 r2 r3 f0 f1 f2 f3; obtain ⟨r0, r1, r2, r3, f0, f1, f2, f3⟩ := K9.out.f0 (List.Mem.head _))
        | (refine load256 f bm rfl _ rfl rfl R1.out ?_))
      exact bodyPost_ret (v := .agg #[.int .u64 p0, .int .u64 p1, .int .u64 p2, .int .u64 p3]) (by simp [results, Tryz.results104, go_sem, r0, r1, r2, r3]) rfl ⟨rfl, below_put K9.out.bel (by omega) _ _ _ _⟩
set_option maxHeartbeats 4000000 in
set_option maxRecDepth 100000 in
theorem rsext_31 (a0 a1 a2 a3 b0 b1 b2 b3 : Int) (UP : ∀ W : World, Calls Tryz.prog 106 #[.agg #[.int .u64 a0, .int .u64 a1, .int .u64 a2, .int .u64 a3], .int .i64 31] W fun e w' => e = .returned (.int .i64 (31 : Int)) ∧ Below W.heap.size W w') (w : World) :
    Calls Tryz.prog 33 #[.agg #[.int .u64 a0, .int .u64 a1, .int .u64 a2, .int .u64 a3], .agg #[.int .u64 b0, .int .u64 b1, .int .u64 b2, .int .u64 b3]] w fun e w' => e = .returned (.agg #[.int .u64 b0, .int .u64 b1, .int .u64 b2, .int .u64 b3]) ∧ Below w.heap.size w w' := by
  have HUP : Hid (∀ W : World, Calls Tryz.prog 106 #[.agg #[.int .u64 a0, .int .u64 a1, .int .u64 a2, .int .u64 a3], .int .i64 31] W fun e w' => e = .returned (.int .i64 (31 : Int)) ∧ Below W.heap.size W w') := UP
  clear UP
  go_enter Tryz.func33, Tryz.ntmps33
  go_upto_region 1 with fail
  have K0 : Hid (Bx w [(w.heap.size + 1 + 1, 0, 0, 0, 0), (w.heap.size + 1, b0, b1, b2, b3), (w.heap.size, a0, a1, a2, a3)] (((w.alloc (.cells #[.int .u64 a0, .int .u64 a1, .int .u64 a2, .int .u64 a3] 24)).alloc (.cells #[.int .u64 b0, .int .u64 b1, .int .u64 b2, .int .u64 b3] 24)).alloc (.cells #[.int .u64 0, .int .u64 0, .int .u64 0, .int .u64 0] 24))) := by
    have h := (((Bx.start w).alloc a0 a1 a2 a3).alloc b0 b1 b2 b3).alloc 0 0 0 0
    (try simp only [World.size_alloc] at h)
    exact h
  generalize (((w.alloc (.cells #[.int .u64 a0, .int .u64 a1, .int .u64 a2, .int .u64 a3] 24)).alloc (.cells #[.int .u64 b0, .int .u64 b1, .int .u64 b2, .int .u64 b3] 24)).alloc (.cells #[.int .u64 0, .int .u64 0, .int .u64 0, .int .u64 0] 24)) = W0 at K0 ⊢
  obtain ⟨c0, c1, c2, c3, _⟩ := K0.out.f0 (List.Mem.tail _ (List.Mem.tail _ (List.Mem.head _)))
  go_upto_region 2 with (go_at_call 106; refine (HUP.out _).mono ?_; rintro e g0 ⟨rfl, hB⟩; (have K2 : Hid (Bx w [(w.heap.size + 1 + 1, 0, 0, 0, 0), (w.heap.size + 1, b0, b1, b2, b3), (w.heap.size, a0, a1, a2, a3)] g0) := K0.out.past hB); clear hB c0 c1 c2 c3 K0)
  obtain ⟨d0, d1, d2, d3, _⟩ := K2.out.f0 (List.Mem.tail _ (List.Mem.head _))
  obtain ⟨r0, r1, r2, r3, f0, f1, f2, f3⟩ := K2.out.f0 (List.Mem.head _)
  go_wp2
  exact bodyPost_ret (v := .agg #[.int .u64 b0, .int .u64 b1, .int .u64 b2, .int .u64 b3]) (by simp [results, Tryz.results33, go_sem, r0, r1, r2, r3]) rfl ⟨rfl, below_put K2.out.bel (by omega) _ _ _ _⟩
set_option maxHeartbeats 4000000 in
set_option maxRecDepth 100000 in
theorem rsext_r (a0 a1 a2 a3 b0 b1 b2 b3 p0 p1 p2 p3 : Int) (n Y : Nat) (f : Nat → Nat) (UP : ∀ W : World, Calls Tryz.prog 106 #[.agg #[.int .u64 a0, .int .u64 a1, .int .u64 a2, .int .u64 a3], .int .i64 31] W fun e w' => e = .returned (.int .i64 (n : Int)) ∧ Below W.heap.size W w') (BB : ∀ W : World, Calls Tryz.prog 103 #[.agg #[.int .u64 b0, .int .u64 b1, .int .u64 b2, .int .u64 b3]] W fun e w' => e = .returned (.agg (intsD (bitf Y) 256).toArray) ∧ Below W.heap.size W w') (NL : n < 31) (F : ∀ i, f i = if i < 8 * n + 8 then bitf Y i else bitf Y (8 * n + 7)) (JO : ∀ W : World, Calls Tryz.prog 107 #[.agg (intsD f 256).toArray] W fun e w' => e = .returned (.agg #[.int .u64 p0, .int .u64 p1, .int .u64 p2, .int .u64 p3]) ∧ Below W.heap.size W w') (w : World) :
    Calls Tryz.prog 33 #[.agg #[.int .u64 a0, .int .u64 a1, .int .u64 a2, .int .u64 a3], .agg #[.int .u64 b0, .int .u64 b1, .int .u64 b2, .int .u64 b3]] w fun e w' => e = .returned (.agg #[.int .u64 p0, .int .u64 p1, .int .u64 p2, .int .u64 p3]) ∧ Below w.heap.size w w' := by
  have HUP : Hid (∀ W : World, Calls Tryz.prog 106 #[.agg #[.int .u64 a0, .int .u64 a1, .int .u64 a2, .int .u64 a3], .int .i64 31] W fun e w' => e = .returned (.int .i64 (n : Int)) ∧ Below W.heap.size W w') := UP
  have HBB : Hid (∀ W : World, Calls Tryz.prog 103 #[.agg #[.int .u64 b0, .int .u64 b1, .int .u64 b2, .int .u64 b3]] W fun e w' => e = .returned (.agg (intsD (bitf Y) 256).toArray) ∧ Below W.heap.size W w') := BB
  have HNL : Hid (n < 31) := NL
  have HF : Hid (∀ i, f i = if i < 8 * n + 8 then bitf Y i else bitf Y (8 * n + 7)) := F
  have HJO : Hid (∀ W : World, Calls Tryz.prog 107 #[.agg (intsD f 256).toArray] W fun e w' => e = .returned (.agg #[.int .u64 p0, .int .u64 p1, .int .u64 p2, .int .u64 p3]) ∧ Below W.heap.size W w') := JO
  clear UP BB NL F JO
  obtain ⟨q, eq⟩ : ∃ q, q = 8 * n := ⟨_, rfl⟩
  obtain ⟨q7, eq7⟩ : ∃ q7, q7 = 8 * n + 7 := ⟨_, rfl⟩
  obtain ⟨q8, eq8⟩ : ∃ q8, q8 = 8 * n + 8 := ⟨_, rfl⟩
  have nl := HNL.out
  have n31 : (n : Int) ≠ 31 := by omega
  have n32 : ((n : Int) == 31) = false := by simpa using n31
  have w1 : (8 : Int) * (n : Int) = (q : Int) := by omega
  have w2 : IntKind.i64.wrap (q : Int) = (q : Int) := by rw [IntKind.wrap_i64]; omega
  have w3 : (q : Int) + 8 = (q8 : Int) := by omega
  have w4 : IntKind.i64.wrap (q8 : Int) = (q8 : Int) := by rw [IntKind.wrap_i64]; omega
  have w5 : (q : Int) + 7 = (q7 : Int) := by omega
  have w6 : IntKind.i64.wrap (q7 : Int) = (q7 : Int) := by rw [IntKind.wrap_i64]; omega
  have q7I : (q7 : Int) < 256 := by omega
  have EQ : Hid (q7 = 8 * n + 7 ∧ q8 = 8 * n + 8 ∧ n < 31) := ⟨eq7, eq8, nl⟩
  clear eq eq7 eq8 nl
  go_enter Tryz.func33, Tryz.ntmps33
  go_upto_region 1 with fail
  have K0 : Hid (Bx w [(w.heap.size + 1 + 1, 0, 0, 0, 0), (w.heap.size + 1, b0, b1, b2, b3), (w.heap.size, a0, a1, a2, a3)] (((w.alloc (.cells #[.int .u64 a0, .int .u64 a1, .int .u64 a2, .int .u64 a3] 24)).alloc (.cells #[.int .u64 b0, .int .u64 b1, .int .u64 b2, .int .u64 b3] 24)).alloc (.cells #[.int .u64 0, .int .u64 0, .int .u64 0, .int .u64 0] 24))) := by
    have h := (((Bx.start w).alloc a0 a1 a2 a3).alloc b0 b1 b2 b3).alloc 0 0 0 0
    (try simp only [World.size_alloc] at h)
    exact h
  generalize (((w.alloc (.cells #[.int .u64 a0, .int .u64 a1, .int .u64 a2, .int .u64 a3] 24)).alloc (.cells #[.int .u64 b0, .int .u64 b1, .int .u64 b2, .int .u64 b3] 24)).alloc (.cells #[.int .u64 0, .int .u64 0, .int .u64 0, .int .u64 0] 24)) = W0 at K0 ⊢
  obtain ⟨c0, c1, c2, c3, _⟩ := K0.out.f0 (List.Mem.tail _ (List.Mem.tail _ (List.Mem.head _)))
  go_upto_region 2 with (go_at_call 106; refine (HUP.out _).mono ?_; rintro e g0 ⟨rfl, hB⟩; (have K2 : Hid (Bx w [(w.heap.size + 1 + 1, 0, 0, 0, 0), (w.heap.size + 1, b0, b1, b2, b3), (w.heap.size, a0, a1, a2, a3)] g0) := K0.out.past hB); clear hB c0 c1 c2 c3 K0)
  go_upto_region 4 with fail
  obtain ⟨c0, c1, c2, c3, _⟩ := K2.out.f0 (List.Mem.tail _ (List.Mem.head _))
  go_upto_region 5 with (first
    | (go_at_call 103; refine (HBB.out _).mono ?_; rintro e g1 ⟨rfl, hB⟩; (have K1 : Hid (Bx w [(w.heap.size + 1 + 1, 0, 0, 0, 0), (w.heap.size + 1, b0, b1, b2, b3), (w.heap.size, a0, a1, a2, a3)] g1) := K2.out.past hB); clear hB c0 c1 c2 c3 K2)
    | (refine new256 (bitf Y) rfl rfl _ rfl rfl _ rfl rfl rfl rfl ?_; intro W1 hW1))
  obtain ⟨bl, ebl⟩ : ∃ bl, g1.heap.size = bl := ⟨_, rfl⟩
  have X1 : Hid (RowI W1 bl 256 (bitf Y) ∧ Below bl g1 W1) := ⟨by rw [← ebl]; exact hW1.row, by rw [← ebl]; exact hW1.bel⟩
  have EBL : Hid (g1.heap.size = bl) := ebl
  rw [ebl]
  clear hW1 ebl
  have X3 : Hid (RowI W1 bl 256 (mixd f (bitf Y) q8) ∧ Below bl g1 W1) := ⟨X1.out.1.ext (fun i _ => by unfold mixd; split; rw [HF.out, if_pos (by have := EQ.out; omega)]; rfl), X1.out.2⟩
  clear X1
  go_wp2
  go_loopw [7] (fun s wr => ∃ i : Nat, s = .int .i64 (i : Int) ∧ q8 ≤ i ∧ i ≤ 256 ∧ RowI wr bl 256 (mixd f (bitf Y) i) ∧ Below bl g1 wr) (fun s _ => 256 - (intOf s).toNat)
  case atStart => exact ⟨q8, rfl, by omega, by have := EQ.out; omega, X3.out.1, X3.out.2⟩
  case round =>
    obtain ⟨i, rfl, hqi, hi, hR, hB⟩ := hrel
    clear X3
    have HR : Hid (RowI wr bl 256 (mixd f (bitf Y) i)) := hR
    have HB : Hid (Below bl g1 wr) := hB
    clear hR hB
    by_cases hi5 : i < 256
    · have iI : (i : Int) < 256 := by omega
      have eq := EQ.out
      have c1 := (HR.out q7 (by omega)).1
      have c2 := (HR.out i hi5).1
      have f2 := (HR.out i hi5).2
      rw [show mixd f (bitf Y) i q7 = bitf Y q7 by unfold mixd; rw [if_pos (by omega), HF.out, if_pos (by omega)]] at c1
      obtain ⟨u, eu⟩ : ∃ u, u = bitf Y q7 := ⟨_, rfl⟩
      rw [← eu] at c1
      have N1 : Hid (RowI (wr.setCell ⟨bl, i, none⟩ (.int .i64 (u : Int))) bl 256 (mixd f (bitf Y) (i + 1)) ∧ Below bl g1 (wr.setCell ⟨bl, i, none⟩ (.int .i64 (u : Int)))) := by
        refine ⟨?_, HB.out.setCell (Nat.le_refl _) _⟩
        rw [← mixd_set, HF.out, if_neg (by omega), ← eq.1, ← eu]
        exact RowI.set HR.out i u
      clear eq eu
      go_wp2
      go_roundw
      case rel => exact ⟨i + 1, by go_num, by omega, by omega, N1.out.1, N1.out.2⟩
      case measure => simp [intOf]; omega
    · obtain rfl : i = 256 := by omega
      have R1 : Hid (RowI wr bl 256 f) := HR.out.ext (fun i hi => by unfold mixd; rw [if_pos hi])
      have K5 : Hid (Bx w [(w.heap.size + 1 + 1, 0, 0, 0, 0), (w.heap.size + 1, b0, b1, b2, b3), (w.heap.size, a0, a1, a2, a3)] wr) := K1.out.past (by rw [EBL.out]; exact HB.out)
      clear HR HB K1
      obtain ⟨r0, r1, r2, r3, f0, f1, f2, f3⟩ := K5.out.f0 (List.Mem.head _)
      go_wp2_with (first
        | (go_at_call 107; refine (HJO.out _).mono ?_; rintro e x9 ⟨rfl, hB⟩; (have K9 : Hid (Bx w [(w.heap.size + 1 + 1, 0, 0, 0, 0), (w.heap.size + 1, b0, b1, b2, b3), (w.heap.size, a0, a1, a2, a3)] x9) := K5.out.past hB); clear hB r0 r1 r2 r3 f0 f1 f2 f3; obtain ⟨r0, r1, r2, r3, f0, f1, f2, f3⟩ := K9.out.f0 (List.Mem.head _))
        | (refine load256 f bl rfl _ rfl rfl R1.out ?_))
      exact bodyPost_ret (v := .agg #[.int .u64 p0, .int .u64 p1, .int .u64 p2, .int .u64 p3]) (by simp [results, Tryz.results33, go_sem, r0, r1, r2, r3]) rfl ⟨rfl, below_put K9.out.bel (by omega) _ _ _ _⟩
set_option maxHeartbeats 4000000 in
set_option maxRecDepth 100000 in
theorem rshr_r (a0 a1 a2 a3 b0 b1 b2 b3 p0 p1 p2 p3 : Int) (LO : ∀ W : World, Calls Tryz.prog 104 #[.agg #[.int .u64 a0, .int .u64 a1, .int .u64 a2, .int .u64 a3], .agg #[.int .u64 b0, .int .u64 b1, .int .u64 b2, .int .u64 b3], .int .i64 0] W fun e w' => e = .returned (.agg #[.int .u64 p0, .int .u64 p1, .int .u64 p2, .int .u64 p3]) ∧ Below W.heap.size W w') (w : World) :
    Calls Tryz.prog 51 #[.agg #[.int .u64 a0, .int .u64 a1, .int .u64 a2, .int .u64 a3], .agg #[.int .u64 b0, .int .u64 b1, .int .u64 b2, .int .u64 b3]] w fun e w' => e = .returned (.agg #[.int .u64 p0, .int .u64 p1, .int .u64 p2, .int .u64 p3]) ∧ Below w.heap.size w w' := by
  have HLO : Hid (∀ W : World, Calls Tryz.prog 104 #[.agg #[.int .u64 a0, .int .u64 a1, .int .u64 a2, .int .u64 a3], .agg #[.int .u64 b0, .int .u64 b1, .int .u64 b2, .int .u64 b3], .int .i64 0] W fun e w' => e = .returned (.agg #[.int .u64 p0, .int .u64 p1, .int .u64 p2, .int .u64 p3]) ∧ Below W.heap.size W w') := LO
  clear LO
  go_enter Tryz.func51, Tryz.ntmps51
  go_upto_region 1 with fail
  have K0 : Hid (Bx w [(w.heap.size + 1 + 1, 0, 0, 0, 0), (w.heap.size + 1, b0, b1, b2, b3), (w.heap.size, a0, a1, a2, a3)] (((w.alloc (.cells #[.int .u64 a0, .int .u64 a1, .int .u64 a2, .int .u64 a3] 24)).alloc (.cells #[.int .u64 b0, .int .u64 b1, .int .u64 b2, .int .u64 b3] 24)).alloc (.cells #[.int .u64 0, .int .u64 0, .int .u64 0, .int .u64 0] 24))) := by
    have h := (((Bx.start w).alloc a0 a1 a2 a3).alloc b0 b1 b2 b3).alloc 0 0 0 0
    (try simp only [World.size_alloc] at h)
    exact h
  generalize (((w.alloc (.cells #[.int .u64 a0, .int .u64 a1, .int .u64 a2, .int .u64 a3] 24)).alloc (.cells #[.int .u64 b0, .int .u64 b1, .int .u64 b2, .int .u64 b3] 24)).alloc (.cells #[.int .u64 0, .int .u64 0, .int .u64 0, .int .u64 0] 24)) = W0 at K0 ⊢
  obtain ⟨c0, c1, c2, c3, _⟩ := K0.out.f0 (List.Mem.tail _ (List.Mem.tail _ (List.Mem.head _)))
  obtain ⟨d0, d1, d2, d3, _⟩ := K0.out.f0 (List.Mem.tail _ (List.Mem.head _))
  go_wp2_with (go_at_call 104; refine (HLO.out _).mono ?_; rintro e x9 ⟨rfl, hB⟩; (have K9 : Hid (Bx w [(w.heap.size + 1 + 1, 0, 0, 0, 0), (w.heap.size + 1, b0, b1, b2, b3), (w.heap.size, a0, a1, a2, a3)] x9) := K0.out.past hB); clear hB c0 c1 c2 c3 d0 d1 d2 d3; obtain ⟨r0, r1, r2, r3, f0, f1, f2, f3⟩ := K9.out.f0 (List.Mem.head _))
  exact bodyPost_ret (v := .agg #[.int .u64 p0, .int .u64 p1, .int .u64 p2, .int .u64 p3]) (by simp [results, Tryz.results51, go_sem, r0, r1, r2, r3]) rfl ⟨rfl, below_put K9.out.bel (by omega) _ _ _ _⟩
set_option maxHeartbeats 4000000 in
set_option maxRecDepth 100000 in
theorem rsar_r (a0 a1 a2 a3 b0 b1 b2 b3 p0 p1 p2 p3 : Int) (Y top : Nat) (BB : ∀ W : World, Calls Tryz.prog 103 #[.agg #[.int .u64 b0, .int .u64 b1, .int .u64 b2, .int .u64 b3]] W fun e w' => e = .returned (.agg (intsD (bitf Y) 256).toArray) ∧ Below W.heap.size W w') (LO : ∀ W : World, Calls Tryz.prog 104 #[.agg #[.int .u64 a0, .int .u64 a1, .int .u64 a2, .int .u64 a3], .agg #[.int .u64 b0, .int .u64 b1, .int .u64 b2, .int .u64 b3], .int .i64 (top : Int)] W fun e w' => e = .returned (.agg #[.int .u64 p0, .int .u64 p1, .int .u64 p2, .int .u64 p3]) ∧ Below W.heap.size W w') (TP : bitf Y 255 = top) (w : World) :
    Calls Tryz.prog 31 #[.agg #[.int .u64 a0, .int .u64 a1, .int .u64 a2, .int .u64 a3], .agg #[.int .u64 b0, .int .u64 b1, .int .u64 b2, .int .u64 b3]] w fun e w' => e = .returned (.agg #[.int .u64 p0, .int .u64 p1, .int .u64 p2, .int .u64 p3]) ∧ Below w.heap.size w w' := by
  have HBB : Hid (∀ W : World, Calls Tryz.prog 103 #[.agg #[.int .u64 b0, .int .u64 b1, .int .u64 b2, .int .u64 b3]] W fun e w' => e = .returned (.agg (intsD (bitf Y) 256).toArray) ∧ Below W.heap.size W w') := BB
  have HLO : Hid (∀ W : World, Calls Tryz.prog 104 #[.agg #[.int .u64 a0, .int .u64 a1, .int .u64 a2, .int .u64 a3], .agg #[.int .u64 b0, .int .u64 b1, .int .u64 b2, .int .u64 b3], .int .i64 (top : Int)] W fun e w' => e = .returned (.agg #[.int .u64 p0, .int .u64 p1, .int .u64 p2, .int .u64 p3]) ∧ Below W.heap.size W w') := LO
  have HTP : Hid (bitf Y 255 = top) := TP
  clear BB LO TP
  go_enter Tryz.func31, Tryz.ntmps31
  go_upto_region 1 with fail
  have K0 : Hid (Bx w [(w.heap.size + 1 + 1, 0, 0, 0, 0), (w.heap.size + 1, b0, b1, b2, b3), (w.heap.size, a0, a1, a2, a3)] (((w.alloc (.cells #[.int .u64 a0, .int .u64 a1, .int .u64 a2, .int .u64 a3] 24)).alloc (.cells #[.int .u64 b0, .int .u64 b1, .int .u64 b2, .int .u64 b3] 24)).alloc (.cells #[.int .u64 0, .int .u64 0, .int .u64 0, .int .u64 0] 24))) := by
    have h := (((Bx.start w).alloc a0 a1 a2 a3).alloc b0 b1 b2 b3).alloc 0 0 0 0
    (try simp only [World.size_alloc] at h)
    exact h
  generalize (((w.alloc (.cells #[.int .u64 a0, .int .u64 a1, .int .u64 a2, .int .u64 a3] 24)).alloc (.cells #[.int .u64 b0, .int .u64 b1, .int .u64 b2, .int .u64 b3] 24)).alloc (.cells #[.int .u64 0, .int .u64 0, .int .u64 0, .int .u64 0] 24)) = W0 at K0 ⊢
  obtain ⟨c0, c1, c2, c3, _⟩ := K0.out.f0 (List.Mem.tail _ (List.Mem.head _))
  go_upto_region 2 with (first
    | (go_at_call 103; refine (HBB.out _).mono ?_; rintro e g1 ⟨rfl, hB⟩; (have K1 : Hid (Bx w [(w.heap.size + 1 + 1, 0, 0, 0, 0), (w.heap.size + 1, b0, b1, b2, b3), (w.heap.size, a0, a1, a2, a3)] g1) := K0.out.past hB); clear hB c0 c1 c2 c3 K0)
    | (refine new256 (bitf Y) rfl rfl _ rfl rfl _ rfl rfl rfl rfl ?_; intro W1 hW1))
  obtain ⟨bl, ebl⟩ : ∃ bl, g1.heap.size = bl := ⟨_, rfl⟩
  have X1 : Hid (RowI W1 bl 256 (bitf Y) ∧ Below bl g1 W1) := ⟨by rw [← ebl]; exact hW1.row, by rw [← ebl]; exact hW1.bel⟩
  have EBL : Hid (g1.heap.size = bl) := ebl
  rw [ebl]
  clear hW1 ebl
  have K0 : Hid (Bx w [(w.heap.size + 1 + 1, 0, 0, 0, 0), (w.heap.size + 1, b0, b1, b2, b3), (w.heap.size, a0, a1, a2, a3)] W1) := K1.out.past (by rw [EBL.out]; exact X1.out.2)
  have cz := (X1.out.1 255 (by omega)).1
  rw [HTP.out] at cz
  obtain ⟨c0, c1, c2, c3, _⟩ := K0.out.f0 (List.Mem.tail _ (List.Mem.tail _ (List.Mem.head _)))
  obtain ⟨d0, d1, d2, d3, _⟩ := K0.out.f0 (List.Mem.tail _ (List.Mem.head _))
  go_wp2_with (go_at_call 104; refine (HLO.out _).mono ?_; rintro e x9 ⟨rfl, hB⟩; (have K9 : Hid (Bx w [(w.heap.size + 1 + 1, 0, 0, 0, 0), (w.heap.size + 1, b0, b1, b2, b3), (w.heap.size, a0, a1, a2, a3)] x9) := K0.out.past hB); clear hB c0 c1 c2 c3 d0 d1 d2 d3; obtain ⟨r0, r1, r2, r3, f0, f1, f2, f3⟩ := K9.out.f0 (List.Mem.head _))
  exact bodyPost_ret (v := .agg #[.int .u64 p0, .int .u64 p1, .int .u64 p2, .int .u64 p3]) (by simp [results, Tryz.results31, go_sem, r0, r1, r2, r3]) rfl ⟨rfl, below_put K9.out.bel (by omega) _ _ _ _⟩
end Go.Proofs.YtpadpmkfhljiiaaGreat
