/- What AddMod and MulMod need beside: a product's parts named ahead, new rows of eight. -/
import Derived.Test.YtpadpmkfhljiiaaGreatM12
import Derived.Test.YtpadpmkfhljiiaaGreatM6
namespace Go.Proofs.YtpadpmkfhljiiaaGreat
open Go.RowKit
theorem Bx.cells {w W : World} {l : List (Nat × Int × Int × Int × Int)} (h : Bx w l W) (c o : Nat) (vs : List Value) (hw : w.heap.size ≤ c) (hc : ∀ p ∈ l, p.1 ≠ c) : Bx w l (W.setCells c o vs) :=
  ⟨below_setCells c hw vs o W h.bel, h.low, fun p hp => Box.set_others (fun e => hc p hp e.symm) vs o (h.box p hp)⟩
theorem Bx.setc {w W : World} {l : List (Nat × Int × Int × Int × Int)} (h : Bx w l W) (c o : Nat) (x : Value) (hw : w.heap.size ≤ c) (hc : ∀ p ∈ l, p.1 ≠ c) : Bx w l (W.setCell ⟨c, o, none⟩ x) := h.cells c o [x] hw hc
theorem Bx.fresh {w W : World} {l : List (Nat × Int × Int × Int × Int)} (h : Bx w l W) : ∀ p ∈ l, p.1 ≠ W.heap.size := fun p hp e => by have := h.lt p hp; omega
/-- a new row of eight, and what is laid into it -/
theorem new8 {ops : Array Oper} {rest : List Oper} {op1 op2 : Oper} {a : Act} {w : World} {Q : Exit → Act → World → Prop} (z : Nat → Int) (p : Tmp) (y : Operand) (hg1 : op1.guard = none) (ho1 : op1.op = .alloc 69) (hd : op1.dst = some p) (hg2 : op2.guard = none) (ho2 : op2.op = .store 69 (.tmp p) y)
    (hx : (a.put (some p) (.pointer (some ⟨w.heap.size, 0, none⟩))).eval (.tmp p) = .pointer (some ⟨w.heap.size, 0, none⟩)) (hy : (a.put (some p) (.pointer (some ⟨w.heap.size, 0, none⟩))).eval y = .agg (rowL 8 z).toArray)
    (h : ∀ W', Below w.heap.size w W' → Row W' w.heap.size 8 z → wpList Tryz.prog ops Q rest ((a.put (some p) (.pointer (some ⟨w.heap.size, 0, none⟩))).put op2.dst undef) W') : wpList Tryz.prog ops Q (op1 :: op2 :: rest) a w := by
  have hr : (execOp a.eval op1).run Tryz.prog w = .ok (.value (.pointer (some ⟨w.heap.size, 0, none⟩))) (w.alloc (.cells (rowL 8 fun _ => 0).toArray 69)) := by
    unfold execOp
    simp only [ho1]
    kernel_rfl
  refine wpList_plain hg1 fun K hK => ?_
  unfold Oper.wp
  rw [hr, Oper.upon_value, hd]
  refine hK _ _ ?_
  have hR := Row.new w 69 8 (fun _ => 0)
  refine store8 z w.heap.size hg2 _ _ ho2 hx hy hR.there ?_
  exact h _ (below_setCells _ (Nat.le_refl _) _ _ _ ((Below.refl _ _).alloc (Nat.le_refl _) _)) (Row.of_range hR)
/-- a new row of eight and a new word, and what is laid into them -/
theorem new84 {ops : Array Oper} {rest : List Oper} {op1 op2 op3 op4 : Oper} {a : Act} {w : World} {Q : Exit → Act → World → Prop} (z : Nat → Int) (s0 s1 s2 s3 : Int) (p q : Tmp) (y x : Operand)
    (hg1 : op1.guard = none) (ho1 : op1.op = .alloc 69) (hd1 : op1.dst = some p) (hg2 : op2.guard = none) (ho2 : op2.op = .alloc 24) (hd2 : op2.dst = some q)
    (hg3 : op3.guard = none) (ho3 : op3.op = .store 69 (.tmp p) y) (hg4 : op4.guard = none) (ho4 : op4.op = .store 24 (.tmp q) x)
    (hx1 : ((a.put (some p) (.pointer (some ⟨w.heap.size, 0, none⟩))).put (some q) (.pointer (some ⟨w.heap.size + 1, 0, none⟩))).eval (.tmp p) = .pointer (some ⟨w.heap.size, 0, none⟩))
    (hy1 : ((a.put (some p) (.pointer (some ⟨w.heap.size, 0, none⟩))).put (some q) (.pointer (some ⟨w.heap.size + 1, 0, none⟩))).eval y = .agg (rowL 8 z).toArray)
    (hx2 : (((a.put (some p) (.pointer (some ⟨w.heap.size, 0, none⟩))).put (some q) (.pointer (some ⟨w.heap.size + 1, 0, none⟩))).put op3.dst undef).eval (.tmp q) = .pointer (some ⟨w.heap.size + 1, 0, none⟩))
    (hy2 : (((a.put (some p) (.pointer (some ⟨w.heap.size, 0, none⟩))).put (some q) (.pointer (some ⟨w.heap.size + 1, 0, none⟩))).put op3.dst undef).eval x = .agg #[.int .u64 s0, .int .u64 s1, .int .u64 s2, .int .u64 s3])
    (h : ∀ W', Below w.heap.size w W' → Row W' w.heap.size 8 z → Box W' (w.heap.size + 1) s0 s1 s2 s3 → wpList Tryz.prog ops Q rest ((((a.put (some p) (.pointer (some ⟨w.heap.size, 0, none⟩))).put (some q) (.pointer (some ⟨w.heap.size + 1, 0, none⟩))).put op3.dst undef).put op4.dst undef) W') : wpList Tryz.prog ops Q (op1 :: op2 :: op3 :: op4 :: rest) a w := by
  have hr : (execOp a.eval op1).run Tryz.prog w = .ok (.value (.pointer (some ⟨w.heap.size, 0, none⟩))) (w.alloc (.cells (rowL 8 fun _ => 0).toArray 69)) := by
    unfold execOp
    simp only [ho1]
    kernel_rfl
  have hr2 : ∀ (b : Act) (W : World), (execOp b.eval op2).run Tryz.prog W = .ok (.value (.pointer (some ⟨W.heap.size, 0, none⟩))) (W.alloc (.cells #[.int .u64 0, .int .u64 0, .int .u64 0, .int .u64 0] 24)) := fun b W => by
    unfold execOp
    simp only [ho2]
    kernel_rfl
  refine wpList_plain hg1 fun K hK => ?_
  unfold Oper.wp
  rw [hr, Oper.upon_value, hd1]
  refine hK _ _ ?_
  refine wpList_plain hg2 fun K hK => ?_
  unfold Oper.wp
  rw [hr2, Oper.upon_value, hd2, World.size_alloc]
  refine hK _ _ ?_
  have hR := (Row.new w 69 8 (fun _ => 0)).alloc (.cells #[.int .u64 0, .int .u64 0, .int .u64 0, .int .u64 0] 24)
  have hB := Box.new (w.alloc (.cells (rowL 8 fun _ => 0).toArray 69)) 24 0 0 0 0
  rw [World.size_alloc] at hB
  refine store8 z w.heap.size hg3 _ _ ho3 hx1 hy1 hR.there ?_
  have hR2 := Row.of_range (v := z) hR
  have hB2 := Box.set_others (c := w.heap.size) (by omega) (rowL 8 z) 0 hB
  have hL : Below w.heap.size w (((w.alloc (.cells (rowL 8 fun _ => 0).toArray 69)).alloc (.cells #[.int .u64 0, .int .u64 0, .int .u64 0, .int .u64 0] 24)).setCells w.heap.size 0 (rowL 8 z)) := below_setCells _ (Nat.le_refl _) _ _ _ (((Below.refl _ _).alloc (Nat.le_refl _) _).alloc (by simp) _)
  generalize ((w.alloc (.cells (rowL 8 fun _ => 0).toArray 69)).alloc (.cells #[.int .u64 0, .int .u64 0, .int .u64 0, .int .u64 0] 24)).setCells w.heap.size 0 (rowL 8 z) = g at hR2 hB2 hL ⊢
  refine wpList_store_mid hg4 24 _ _ ho4 (w.heap.size + 1) 0 #[.int .u64 s0, .int .u64 s1, .int .u64 s2, .int .u64 s3] hx2 hy2 (fun j hj => ?_) (by kernel_rfl) (by kernel_rfl) ?_
  · rw [Nat.zero_add]
    exact ⟨by rw [hB2.1 j hj]; rfl, hB2.2 j hj⟩
  · exact h _ (below_setCells _ (by omega) _ _ _ hL) (Row.set_others (by omega) _ 0 hR2) (Box.put hB2 s0 s1 s2 s3)
theorem product_is (x y : Int) (a0 a1 a2 a3 b0 b1 b2 b3 p0 p1 p2 p3 q0 q1 q2 q3 : Int) (w : World) (ha : IsW x a0 a1 a2 a3) (hb : IsW y b0 b1 b2 b3) (hp : IsW ((x % MM) * (y % MM)) p0 p1 p2 p3) (hq : IsW ((x % MM) * (y % MM) / MM) q0 q1 q2 q3) :
    Calls Tryz.prog 84 #[.agg #[.int .u64 a0, .int .u64 a1, .int .u64 a2, .int .u64 a3], .agg #[.int .u64 b0, .int .u64 b1, .int .u64 b2, .int .u64 b3]] w fun e w' => e = .returned (.agg (rowL 8 (oct p0 p1 p2 p3 q0 q1 q2 q3)).toArray) ∧ Below w.heap.size w w' := by
  refine (product_any _ _ _ _ _ _ _ _ w ha.u0 ha.u1 ha.u2 ha.u3 hb.u0 hb.u1 hb.u2 hb.u3).mono ?_
  rintro e w1 ⟨s0, s1, s2, s3, s4, s5, s6, s7, rfl, ⟨u0, u1, u2, u3, u4, u5, u6, u7⟩, hp8, hB⟩
  have hm := MM_pos
  rw [ha.2, hb.2, V8] at hp8
  have r1 := V_range u0 u1 u2 u3
  have r2 := V_range u4 u5 u6 u7
  have e1 : IsW ((x % MM) * (y % MM)) s0 s1 s2 s3 := isW_of u0 u1 u2 u3 _ hp8
  have e2 : IsW ((x % MM) * (y % MM) / MM) s4 s5 s6 s7 := by
    rw [hp8, Int.add_mul_ediv_left _ _ (by omega), Int.ediv_eq_zero_of_lt r1.1 r1.2, Int.zero_add]
    exact isW_mk u4 u5 u6 u7
  obtain ⟨rfl, rfl, rfl, rfl⟩ := hp.eq e1 rfl
  obtain ⟨rfl, rfl, rfl, rfl⟩ := hq.eq e2 rfl
  exact ⟨by rw [oct_row], hB⟩
end Go.Proofs.YtpadpmkfhljiiaaGreat
/- AddMod, its word named ahead. -/
namespace Go.Proofs.YtpadpmkfhljiiaaGreat
open Go.RowKit
theorem oct_set (s0 s1 s2 s3 c : Int) : (fun i => if i = 4 then c else oct s0 s1 s2 s3 0 0 0 0 i) = oct s0 s1 s2 s3 c 0 0 0 := by
  funext i
  unfold oct
  by_cases h : i = 4
  · subst h; simp
  · rw [if_neg h]; simp [h]
set_option maxHeartbeats 2000000 in
set_option maxRecDepth 100000 in
theorem addMod_is (x y z : Int) (a0 a1 a2 a3 b0 b1 b2 b3 c0 c1 c2 c3 p0 p1 p2 p3 : Int) (w : World) (ha : IsW x a0 a1 a2 a3) (hb : IsW y b0 b1 b2 b3) (hc : IsW z c0 c1 c2 c3) (hp : IsW (md (x % MM + y % MM) (z % MM)) p0 p1 p2 p3) :
    Calls Tryz.prog 34 #[.agg #[.int .u64 a0, .int .u64 a1, .int .u64 a2, .int .u64 a3], .agg #[.int .u64 b0, .int .u64 b1, .int .u64 b2, .int .u64 b3], .agg #[.int .u64 c0, .int .u64 c1, .int .u64 c2, .int .u64 c3]] w fun e w' => e = .returned (.agg #[.int .u64 p0, .int .u64 p1, .int .u64 p2, .int .u64 p3]) ∧ Below w.heap.size w w' := by
  have HA : Hid (IsW x a0 a1 a2 a3) := ha
  have HB : Hid (IsW y b0 b1 b2 b3) := hb
  have HC : Hid (IsW z c0 c1 c2 c3) := hc
  have HP : Hid (IsW (md (x % MM + y % MM) (z % MM)) p0 p1 p2 p3) := hp
  clear ha hb hc hp
  go_enter Tryz.func34, Tryz.ntmps34
  go_upto_region 1 with fail
  have X1 : Hid (Bx w [(w.heap.size + 1 + 1 + 1, 0, 0, 0, 0), (w.heap.size + 1 + 1, c0, c1, c2, c3), (w.heap.size + 1, b0, b1, b2, b3), (w.heap.size, a0, a1, a2, a3)] ((((w.alloc (.cells #[.int .u64 a0, .int .u64 a1, .int .u64 a2, .int .u64 a3] 24)).alloc (.cells #[.int .u64 b0, .int .u64 b1, .int .u64 b2, .int .u64 b3] 24)).alloc (.cells #[.int .u64 c0, .int .u64 c1, .int .u64 c2, .int .u64 c3] 24)).alloc (.cells #[.int .u64 0, .int .u64 0, .int .u64 0, .int .u64 0] 24))) := by
    have h := ((((Bx.start w).alloc a0 a1 a2 a3).alloc b0 b1 b2 b3).alloc c0 c1 c2 c3).alloc 0 0 0 0
    simp only [World.size_alloc] at h
    exact h
  generalize ((((w.alloc (.cells #[.int .u64 a0, .int .u64 a1, .int .u64 a2, .int .u64 a3] 24)).alloc (.cells #[.int .u64 b0, .int .u64 b1, .int .u64 b2, .int .u64 b3] 24)).alloc (.cells #[.int .u64 c0, .int .u64 c1, .int .u64 c2, .int .u64 c3] 24)).alloc (.cells #[.int .u64 0, .int .u64 0, .int .u64 0, .int .u64 0] 24)) = g1 at X1 ⊢
  obtain ⟨e0, e1, e2, e3, _⟩ := X1.out.f0 (List.Mem.tail _ (List.Mem.tail _ (List.Mem.head _)))
  obtain ⟨d0, d1, d2, d3, _⟩ := X1.out.f0 (List.Mem.tail _ (List.Mem.tail _ (List.Mem.tail _ (List.Mem.head _))))
  go_upto_region 2 with (go_at_call 76; refine (addCarry_any x y _ _ _ _ _ _ _ _ _ HA.out HB.out).mono ?_; rintro e g2 ⟨s0, s1, s2, s3, k, rfl, hs, hk, k0, k1, hB⟩; (have X2 := X1.out.past hB); (have HS : Hid (IsW (x + y) s0 s1 s2 s3 ∧ V a0 a1 a2 a3 + V b0 b1 b2 b3 = V s0 s1 s2 s3 + MM * k ∧ 0 ≤ k ∧ k ≤ 1) := ⟨hs, hk, k0, k1⟩); clear hB hs hk)
  have X3 : Hid _ := X2.alloc s0 s1 s2 s3
  generalize g2.alloc (.cells #[.int .u64 s0, .int .u64 s1, .int .u64 s2, .int .u64 s3] 24) = g3 at X3 ⊢
  generalize g2.heap.size = bs at X3 ⊢
  clear X1 X2 e0 e1 e2 e3 d0 d1 d2 d3
  obtain ⟨e0, e1, e2, e3, _⟩ := X3.out.f0 (List.Mem.head _)
  go_upto_region 3 with (first
    | (go_at_call 87; refine (widen_is s0 s1 s2 s3 _).mono ?_; rintro e g4 ⟨rfl, hB⟩; (have X4 := X3.out.past hB); clear hB)
    | (refine new8 (oct s0 s1 s2 s3 0 0 0 0) _ _ rfl rfl rfl rfl rfl rfl rfl ?_; intro g5 hB5 hR5; (have X5 : Hid _ := X4.past hB5); (have R5 : Hid (Row g5 g4.heap.size 8 (oct s0 s1 s2 s3 0 0 0 0)) := hR5); (have F5 : Hid _ := X4.fresh); (have L5 : Hid (w.heap.size ≤ g4.heap.size) := X4.bel.size); clear hB5 hR5))
  clear X3 X4 e0 e1 e2 e3
  generalize g4.heap.size = bw at R5 F5 L5 ⊢
  have c4 := (R5.out 4 (by omega)).1
  have f4 := (R5.out 4 (by omega)).2
  go_upto_region 4 with fail
  have X6 : Hid _ := X5.out.setc bw 4 (.int .u64 k) L5.out F5.out
  have R6 : Hid (Row (g5.setCell ⟨bw, 4, none⟩ (.int .u64 k)) bw 8 (oct s0 s1 s2 s3 k 0 0 0)) := by
    have h := R5.out.set 4 k
    rw [oct_set] at h; exact h
  generalize g5.setCell ⟨bw, 4, none⟩ (.int .u64 k) = g6 at X6 R6 ⊢
  clear X5 R5 c4 f4
  have DV : Hid (∀ W : World, Calls Tryz.prog 86 #[.agg (rowL 8 (oct s0 s1 s2 s3 k 0 0 0)).toArray, .agg #[.int .u64 c0, .int .u64 c1, .int .u64 c2, .int .u64 c3]] W fun e w' => DR (x % MM + y % MM) (z % MM) p0 p1 p2 p3 e ∧ Below W.heap.size W w') := fun W => by
    obtain ⟨hs, hk, k0, k1⟩ := HS.out
    refine divide_p _ _ z c0 c1 c2 c3 p0 p1 p2 p3 (oct_u64 hs.u0 hs.u1 hs.u2 hs.u3 ⟨k0, by unfold Bd; omega⟩ u64_0 u64_0 u64_0) ?_ HC.out HP.out W
    rw [oct_nv, ← HA.out.2, ← HB.out.2, hk]; simp [V]
  obtain ⟨e0, e1, e2, e3, _⟩ := X6.out.f0 (List.Mem.tail _ (List.Mem.tail _ (List.Mem.head _)))
  go_upto_region 4 with fail
  refine wp_region_lit ?_
  refine load8 (oct s0 s1 s2 s3 k 0 0 0) bw rfl _ rfl rfl (Row.range R6.out) ?_
  go_upto_region 5 with (first
    | (go_at_call 86; refine (DV.out _).mono ?_; rintro e g7 ⟨⟨q, rfl, hq⟩, hB⟩; (have X7 := X6.out.past hB); clear hB)
    | (refine new84 q p0 p1 p2 p3 _ _ _ _ rfl rfl rfl rfl rfl rfl rfl rfl rfl rfl rfl rfl rfl rfl ?_; intro g8 hB8 hR8 hP8; (have X8 : Hid _ := X7.past hB8); (have P8 : Hid (Box g8 (g7.heap.size + 1) p0 p1 p2 p3) := hP8); (have L8 : Hid (g7.heap.size < g8.heap.size) := Row.lt hR8 (by omega)); clear hB8 hR8 hP8))
  obtain ⟨f0, f1, f2, f3, _⟩ := Box.facts P8.out
  obtain ⟨r0, r1, r2, r3, t0, t1, t2, t3⟩ := X8.out.f0 (List.Mem.tail _ (List.Mem.head _))
  clear X6 R6 DV X7 e0 e1 e2 e3
  go_wp2
  refine bodyPost_ret (v := .agg #[.int .u64 p0, .int .u64 p1, .int .u64 p2, .int .u64 p3]) ?_ rfl ⟨rfl, below_put X8.out.bel (by omega) p0 p1 p2 p3⟩
  exact results_c Tryz.results34 _ _ _ ⟨w.heap.size + 1 + 1 + 1, 0, none⟩ rfl (loadVar4 (Box.put (X8.out.box _ (List.Mem.tail _ (List.Mem.head _))) p0 p1 p2 p3))
end Go.Proofs.YtpadpmkfhljiiaaGreat
