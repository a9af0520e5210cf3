/- What AddMod and MulMod need beside: a product's parts named ahead, new rows of eight. -/
import Derived.Test.YtpadpmkfhljiiaaEj
import Derived.Test.YtpadpmkfhljiiaaBx
namespace Go.Proofs.Ytpadpmkfhljiiaa
open Go.RowKit
theorem Bx.cells {w W : World} {l : List (Nat × Int × Int × Int × Int)} (h : Bx w l W) (c o : Nat) (vs : List Value) (hw : w.heap.size ≤ c) (hc : ∀ p ∈ l, p.1 ≠ c) : Bx w l (W.setCells c o vs) :=
  ⟨below_setCells c hw vs o W h.bel, h.low, fun p hp => Box.set_others (fun e => hc p hp e.symm) vs o (h.box p hp)⟩
theorem Bx.setc {w W : World} {l : List (Nat × Int × Int × Int × Int)} (h : Bx w l W) (c o : Nat) (x : Value) (hw : w.heap.size ≤ c) (hc : ∀ p ∈ l, p.1 ≠ c) : Bx w l (W.setCell ⟨c, o, none⟩ x) := h.cells c o [x] hw hc
theorem Bx.fresh {w W : World} {l : List (Nat × Int × Int × Int × Int)} (h : Bx w l W) : ∀ p ∈ l, p.1 ≠ W.heap.size := fun p hp e => by have := h.lt p hp; omega
/-- a new row of eight, and what is laid into it -/
theorem new8 {ops : Array Oper} {rest : List Oper} {op1 op2 : Oper} {a : Act} {w : World} {Q : Exit → Act → World → Prop} (z : Nat → Int) (p : Tmp) (y : Operand) (hg1 : op1.guard = none) (ho1 : op1.op = .alloc 69) (hd : op1.dst = some p) (hg2 : op2.guard = none) (ho2 : op2.op = .store 69 (.tmp p) y)
    (hx : (a.put (some p) (.pointer (some ⟨w.heap.size, 0, none⟩))).eval (.tmp p) = .pointer (some ⟨w.heap.size, 0, none⟩)) (hy : (a.put (some p) (.pointer (some ⟨w.heap.size, 0, none⟩))).eval y = .agg (rowL 8 z).toArray)
    (h : ∀ W', Below w.heap.size w W' → Row W' w.heap.size 8 z → wpList Try.prog ops Q rest ((a.put (some p) (.pointer (some ⟨w.heap.size, 0, none⟩))).put op2.dst undef) W') : wpList Try.prog ops Q (op1 :: op2 :: rest) a w := by
  have hr : (execOp a.eval op1).run Try.prog w = .ok (.value (.pointer (some ⟨w.heap.size, 0, none⟩))) (w.alloc (.cells (rowL 8 fun _ => 0).toArray 69)) := by
    unfold execOp
    simp only [ho1]
    kernel_rfl
  refine wpList_plain hg1 fun K hK => ?_
  unfold Oper.wp
  rw [hr, Oper.upon_value, hd]
  refine hK _ _ ?_
  have hR := Row.new w 69 8 (fun _ => 0)
  refine store8 z w.heap.size hg2 _ _ ho2 hx hy hR.there ?_
  exact h _ (below_setCells _ (Nat.le_refl _) _ _ _ ((Below.refl _ _).alloc (Nat.le_refl _) _)) (Row.of_range hR)
/-- a new row of eight and a new word, and what is laid into them -/
theorem new84 {ops : Array Oper} {rest : List Oper} {op1 op2 op3 op4 : Oper} {a : Act} {w : World} {Q : Exit → Act → World → Prop} (z : Nat → Int) (s0 s1 s2 s3 : Int) (p q : Tmp) (y x : Operand)
    (hg1 : op1.guard = none) (ho1 : op1.op = .alloc 69) (hd1 : op1.dst = some p) (hg2 : op2.guard = none) (ho2 : op2.op = .alloc 24) (hd2 : op2.dst = some q)
    (hg3 : op3.guard = none) (ho3 : op3.op = .store 69 (.tmp p) y) (hg4 : op4.guard = none) (ho4 : op4.op = .store 24 (.tmp q) x)
    (hx1 : ((a.put (some p) (.pointer (some ⟨w.heap.size, 0, none⟩))).put (some q) (.pointer (some ⟨w.heap.size + 1, 0, none⟩))).eval (.tmp p) = .pointer (some ⟨w.heap.size, 0, none⟩))
    (hy1 : ((a.put (some p) (.pointer (some ⟨w.heap.size, 0, none⟩))).put (some q) (.pointer (some ⟨w.heap.size + 1, 0, none⟩))).eval y = .agg (rowL 8 z).toArray)
    (hx2 : (((a.put (some p) (.pointer (some ⟨w.heap.size, 0, none⟩))).put (some q) (.pointer (some ⟨w.heap.size + 1, 0, none⟩))).put op3.dst undef).eval (.tmp q) = .pointer (some ⟨w.heap.size + 1, 0, none⟩))
    (hy2 : (((a.put (some p) (.pointer (some ⟨w.heap.size, 0, none⟩))).put (some q) (.pointer (some ⟨w.heap.size + 1, 0, none⟩))).put op3.dst undef).eval x = .agg #[.int .u64 s0, .int .u64 s1, .int .u64 s2, .int .u64 s3])
    (h : ∀ W', Below w.heap.size w W' → Row W' w.heap.size 8 z → Box W' (w.heap.size + 1) s0 s1 s2 s3 → wpList Try.prog ops Q rest ((((a.put (some p) (.pointer (some ⟨w.heap.size, 0, none⟩))).put (some q) (.pointer (some ⟨w.heap.size + 1, 0, none⟩))).put op3.dst undef).put op4.dst undef) W') : wpList Try.prog ops Q (op1 :: op2 :: op3 :: op4 :: rest) a w := by
  have hr : (execOp a.eval op1).run Try.prog w = .ok (.value (.pointer (some ⟨w.heap.size, 0, none⟩))) (w.alloc (.cells (rowL 8 fun _ => 0).toArray 69)) := by
    unfold execOp
    simp only [ho1]
    kernel_rfl
  have hr2 : ∀ (b : Act) (W : World), (execOp b.eval op2).run Try.prog W = .ok (.value (.pointer (some ⟨W.heap.size, 0, none⟩))) (W.alloc (.cells #[.int .u64 0, .int .u64 0, .int .u64 0, .int .u64 0] 24)) := fun b W => by
    unfold execOp
    simp only [ho2]
    kernel_rfl
  refine wpList_plain hg1 fun K hK => ?_
  unfold Oper.wp
  rw [hr, Oper.upon_value, hd1]
  refine hK _ _ ?_
  refine wpList_plain hg2 fun K hK => ?_
  unfold Oper.wp
  rw [hr2, Oper.upon_value, hd2, World.size_alloc]
  refine hK _ _ ?_
  have hR := (Row.new w 69 8 (fun _ => 0)).alloc (.cells #[.int .u64 0, .int .u64 0, .int .u64 0, .int .u64 0] 24)
  have hB := Box.new (w.alloc (.cells (rowL 8 fun _ => 0).toArray 69)) 24 0 0 0 0
  rw [World.size_alloc] at hB
  refine store8 z w.heap.size hg3 _ _ ho3 hx1 hy1 hR.there ?_
  have hR2 := Row.of_range (v := z) hR
  have hB2 := Box.set_others (c := w.heap.size) (by omega) (rowL 8 z) 0 hB
  have hL : Below w.heap.size w (((w.alloc (.cells (rowL 8 fun _ => 0).toArray 69)).alloc (.cells #[.int .u64 0, .int .u64 0, .int .u64 0, .int .u64 0] 24)).setCells w.heap.size 0 (rowL 8 z)) := below_setCells _ (Nat.le_refl _) _ _ _ (((Below.refl _ _).alloc (Nat.le_refl _) _).alloc (by simp) _)
  generalize ((w.alloc (.cells (rowL 8 fun _ => 0).toArray 69)).alloc (.cells #[.int .u64 0, .int .u64 0, .int .u64 0, .int .u64 0] 24)).setCells w.heap.size 0 (rowL 8 z) = g at hR2 hB2 hL ⊢
  refine wpList_store_mid hg4 24 _ _ ho4 (w.heap.size + 1) 0 #[.int .u64 s0, .int .u64 s1, .int .u64 s2, .int .u64 s3] hx2 hy2 (fun j hj => ?_) (by kernel_rfl) (by kernel_rfl) ?_
  · rw [Nat.zero_add]
    exact ⟨by rw [hB2.1 j hj]; rfl, hB2.2 j hj⟩
  · exact h _ (below_setCells _ (by omega) _ _ _ hL) (Row.set_others (by omega) _ 0 hR2) (Box.put hB2 s0 s1 s2 s3)
theorem product_is (x y : Int) (a0 a1 a2 a3 b0 b1 b2 b3 p0 p1 p2 p3 q0 q1 q2 q3 : Int) (w : World) (ha : IsW x a0 a1 a2 a3) (hb : IsW y b0 b1 b2 b3) (hp : IsW ((x % MM) * (y % MM)) p0 p1 p2 p3) (hq : IsW ((x % MM) * (y % MM) / MM) q0 q1 q2 q3) :
    Calls Try.prog 79 #[.agg #[.int .u64 a0, .int .u64 a1, .int .u64 a2, .int .u64 a3], .agg #[.int .u64 b0, .int .u64 b1, .int .u64 b2, .int .u64 b3]] w fun e w' => e = .returned (.agg (rowL 8 (oct p0 p1 p2 p3 q0 q1 q2 q3)).toArray) ∧ Below w.heap.size w w' := by
  refine (product_any _ _ _ _ _ _ _ _ w ha.u0 ha.u1 ha.u2 ha.u3 hb.u0 hb.u1 hb.u2 hb.u3).mono ?_
  rintro e w1 ⟨s0, s1, s2, s3, s4, s5, s6, s7, rfl, ⟨u0, u1, u2, u3, u4, u5, u6, u7⟩, hp8, hB⟩
  have hm := MM_pos
  rw [ha.2, hb.2, V8] at hp8
  have r1 := V_range u0 u1 u2 u3
  have r2 := V_range u4 u5 u6 u7
  have e1 : IsW ((x % MM) * (y % MM)) s0 s1 s2 s3 := isW_of u0 u1 u2 u3 _ hp8
  have e2 : IsW ((x % MM) * (y % MM) / MM) s4 s5 s6 s7 := by
    rw [hp8, Int.add_mul_ediv_left _ _ (by omega), Int.ediv_eq_zero_of_lt r1.1 r1.2, Int.zero_add]
    exact isW_mk u4 u5 u6 u7
  obtain ⟨rfl, rfl, rfl, rfl⟩ := hp.eq e1 rfl
  obtain ⟨rfl, rfl, rfl, rfl⟩ := hq.eq e2 rfl
  exact ⟨by rw [oct_row], hB⟩
end Go.Proofs.Ytpadpmkfhljiiaa
