/- WordReadsBack: what is told is read again; of what is read the told forms are no longer than it. -/
import Derived.Test.YtpadpmkfhljiiaaMn
import Derived.Test.YtpadpmkfhljiiaaWd
namespace Go.Proofs.Ytpadpmkfhljiiaa
open Go.RowKit
theorem num_any (k : Int) (w : World) : Calls Try.prog 55 #[.int .i64 k] w fun e w' => e = .returned (.int .i64 k) ∧ w' = w := by
  go_enter Try.func55, Try.ntmps55
  go_wp2
  go_ret
  exact ⟨rfl, rfl⟩
theorem str_at (s : ByteArray) (k : Nat) (hk : k < s.size) (W : World) : Sem.run Try.prog (Instr.index 9 (.string s) (.int .i64 (k : Int))) W = .ok (.int .u8 (sg s k : Int)) W := by
  obtain ⟨b, hb1, hb2⟩ := sg_at s k hk
  rw [run_index_string W 9 s .i64 (k : Int) Try.underlying9, dif_pos ⟨by omega, by omega⟩]
  have e : s[k]? = some s[k] := by simp [hk]
  rw [e] at hb1
  have e2 := Option.some.inj hb1
  simp only [Int.toNat_natCast]
  rw [e2, hb2]
/-- what word's Parse answers -/
def PA (t : ByteArray) (p0 p1 p2 p3 er : Int) : Prop := ∀ w : World, Calls Try.prog 61 #[.string t] w fun e w' => e = .returned (.tuple #[.agg #[.int .u64 p0, .int .u64 p1, .int .u64 p2, .int .u64 p3], .int .i64 er]) ∧ Below w.heap.size w w'
def HA (p0 p1 p2 p3 : Int) (t : ByteArray) : Prop := ∀ w : World, Calls Try.prog 62 #[.agg #[.int .u64 p0, .int .u64 p1, .int .u64 p2, .int .u64 p3]] w fun e w' => e = .returned (.string t) ∧ Below w.heap.size w w'
def TA (p0 p1 p2 p3 : Int) (t : ByteArray) : Prop := ∀ w : World, Calls Try.prog 63 #[.agg #[.int .u64 p0, .int .u64 p1, .int .u64 p2, .int .u64 p3]] w fun e w' => e = .returned (.string t) ∧ Below w.heap.size w w'
set_option maxHeartbeats 4000000 in
set_option maxRecDepth 100000 in
theorem rb_n2 (a0 a1 a2 a3 : Int) (s hx tx : ByteArray) (w : World) (hH : Hid (HA a0 a1 a2 a3 hx)) (hT : Hid (TA a0 a1 a2 a3 tx)) (hPH : Hid (PA hx a0 a1 a2 a3 0)) (hPT : Hid (PA tx a0 a1 a2 a3 0)) (hPS : Hid (PA s 0 0 0 0 2)) (h78 : (78 : Int) < (s.size : Int)) : Calls Try.prog 15 #[.agg #[.int .u64 a0, .int .u64 a1, .int .u64 a2, .int .u64 a3], .string s] w fun e w' => e = .returned (.bool true) ∧ Below w.heap.size w w' := by
  have eqs := eqw_same
  go_enter Try.func15, Try.ntmps15
  go_upto_region 1 with fail
  have X0 : Hid (Bx w [(w.heap.size, a0, a1, a2, a3)] (w.alloc (.cells #[.int .u64 a0, .int .u64 a1, .int .u64 a2, .int .u64 a3] 24))) := (Bx.start w).alloc _ _ _ _
  generalize w.alloc (.cells #[.int .u64 a0, .int .u64 a1, .int .u64 a2, .int .u64 a3] 24) = v0 at X0 ⊢
  obtain ⟨c0, c1, c2, c3, z0, z1, z2, z3⟩ := X0.out.f0 (List.Mem.head _)
  go_upto_region 2 with (first | (go_at_call 62; refine (hH.out _).mono ?_; rintro e y1 ⟨rfl, hB⟩; (have X1 : Hid (Bx w [(w.heap.size, a0, a1, a2, a3)] y1) := X0.out.past hB); clear hB X0) | (go_at_call 61; refine (hPH.out _).mono ?_; rintro e y2 ⟨rfl, hB⟩; (have X2 : Hid (Bx w [(w.heap.size, a0, a1, a2, a3)] y2) := X1.out.past hB); clear hB X1))
  have X3 : Hid (Bx w [(y2.heap.size, a0, a1, a2, a3), (w.heap.size, a0, a1, a2, a3)] (y2.alloc (.cells #[.int .u64 a0, .int .u64 a1, .int .u64 a2, .int .u64 a3] 24))) := X2.out.alloc _ _ _ _
  generalize y2.alloc (.cells #[.int .u64 a0, .int .u64 a1, .int .u64 a2, .int .u64 a3] 24) = v1 at X3 ⊢
  generalize y2.heap.size = q1 at X3 ⊢
  clear X2 c0 c1 c2 c3 z0 z1 z2 z3
  obtain ⟨c0, c1, c2, c3, z0, z1, z2, z3⟩ := X3.out.f0 (List.Mem.tail _ (List.Mem.head _))
  go_upto_region 3 with (first | (go_at_call 63; refine (hT.out _).mono ?_; rintro e y3 ⟨rfl, hB⟩; (have X4 : Hid (Bx w [(q1, a0, a1, a2, a3), (w.heap.size, a0, a1, a2, a3)] y3) := X3.out.past hB); clear hB X3) | (go_at_call 61; refine (hPT.out _).mono ?_; rintro e y4 ⟨rfl, hB⟩; (have X5 : Hid (Bx w [(q1, a0, a1, a2, a3), (w.heap.size, a0, a1, a2, a3)] y4) := X4.out.past hB); clear hB X4))
  have X6 : Hid (Bx w [(y4.heap.size, a0, a1, a2, a3), (q1, a0, a1, a2, a3), (w.heap.size, a0, a1, a2, a3)] (y4.alloc (.cells #[.int .u64 a0, .int .u64 a1, .int .u64 a2, .int .u64 a3] 24))) := X5.out.alloc _ _ _ _
  generalize y4.alloc (.cells #[.int .u64 a0, .int .u64 a1, .int .u64 a2, .int .u64 a3] 24) = v2 at X6 ⊢
  generalize y4.heap.size = q2 at X6 ⊢
  clear X5 c0 c1 c2 c3 z0 z1 z2 z3
  obtain ⟨c0, c1, c2, c3, _⟩ := X6.out.f0 (List.Mem.head _)
  obtain ⟨d0, d1, d2, d3, _⟩ := X6.out.f0 (List.Mem.tail _ (List.Mem.head _))
  obtain ⟨e0, e1, e2, e3, _⟩ := X6.out.f0 (List.Mem.tail _ (List.Mem.tail _ (List.Mem.head _)))
  go_upto_region 5 with (first | (go_at_call 55; refine (num_any _ _).mono ?_; rintro e y5 ⟨rfl, hw⟩; rw [hw]; clear hw y5) | (go_at_call 19; refine (awake_any _).mono ?_; rintro e y6 ⟨rfl, hB⟩; (have X7 : Hid (Bx w [(q2, a0, a1, a2, a3), (q1, a0, a1, a2, a3), (w.heap.size, a0, a1, a2, a3)] y6) := X6.out.past hB); clear hB X6))
  clear c0 c1 c2 c3 d0 d1 d2 d3 e0 e1 e2 e3
  go_upto_region 6 with (go_at_call 61; refine (hPS.out _).mono ?_; rintro e y7 ⟨rfl, hB⟩; (have X8 : Hid (Bx w [(q2, a0, a1, a2, a3), (q1, a0, a1, a2, a3), (w.heap.size, a0, a1, a2, a3)] y7) := X7.out.past hB); clear hB X7)
  have X9 : Hid (Bx w [(y7.heap.size, 0, 0, 0, 0), (q2, a0, a1, a2, a3), (q1, a0, a1, a2, a3), (w.heap.size, a0, a1, a2, a3)] (y7.alloc (.cells #[.int .u64 0, .int .u64 0, .int .u64 0, .int .u64 0] 24))) := X8.out.alloc _ _ _ _
  generalize y7.alloc (.cells #[.int .u64 0, .int .u64 0, .int .u64 0, .int .u64 0] 24) = v3 at X9 ⊢
  generalize y7.heap.size = q3 at X9 ⊢
  clear X8
  obtain ⟨c0, c1, c2, c3, z0, z1, z2, z3⟩ := X9.out.f0 (List.Mem.head _)
  go_wp2_with (go_at_call 55; refine (num_any _ _).mono ?_; rintro e y8 ⟨rfl, hw⟩; rw [hw]; clear hw y8)
  go_ret
  exact ⟨rfl, X9.out.bel⟩
set_option maxHeartbeats 4000000 in
set_option maxRecDepth 100000 in
theorem rb_n10 (a0 a1 a2 a3 : Int) (s hx tx : ByteArray) (w : World) (hH : Hid (HA a0 a1 a2 a3 hx)) (hT : Hid (TA a0 a1 a2 a3 tx)) (hPH : Hid (PA hx a0 a1 a2 a3 0)) (hPT : Hid (PA tx a0 a1 a2 a3 0)) (hPS : Hid (PA s 0 0 0 0 10)) (h78 : ¬ (78 : Int) < (s.size : Int)) : Calls Try.prog 15 #[.agg #[.int .u64 a0, .int .u64 a1, .int .u64 a2, .int .u64 a3], .string s] w fun e w' => e = .returned (.bool true) ∧ Below w.heap.size w w' := by
  have eqs := eqw_same
  go_enter Try.func15, Try.ntmps15
  go_upto_region 1 with fail
  have X0 : Hid (Bx w [(w.heap.size, a0, a1, a2, a3)] (w.alloc (.cells #[.int .u64 a0, .int .u64 a1, .int .u64 a2, .int .u64 a3] 24))) := (Bx.start w).alloc _ _ _ _
  generalize w.alloc (.cells #[.int .u64 a0, .int .u64 a1, .int .u64 a2, .int .u64 a3] 24) = v0 at X0 ⊢
  obtain ⟨c0, c1, c2, c3, z0, z1, z2, z3⟩ := X0.out.f0 (List.Mem.head _)
  go_upto_region 2 with (first | (go_at_call 62; refine (hH.out _).mono ?_; rintro e y1 ⟨rfl, hB⟩; (have X1 : Hid (Bx w [(w.heap.size, a0, a1, a2, a3)] y1) := X0.out.past hB); clear hB X0) | (go_at_call 61; refine (hPH.out _).mono ?_; rintro e y2 ⟨rfl, hB⟩; (have X2 : Hid (Bx w [(w.heap.size, a0, a1, a2, a3)] y2) := X1.out.past hB); clear hB X1))
  have X3 : Hid (Bx w [(y2.heap.size, a0, a1, a2, a3), (w.heap.size, a0, a1, a2, a3)] (y2.alloc (.cells #[.int .u64 a0, .int .u64 a1, .int .u64 a2, .int .u64 a3] 24))) := X2.out.alloc _ _ _ _
  generalize y2.alloc (.cells #[.int .u64 a0, .int .u64 a1, .int .u64 a2, .int .u64 a3] 24) = v1 at X3 ⊢
  generalize y2.heap.size = q1 at X3 ⊢
  clear X2 c0 c1 c2 c3 z0 z1 z2 z3
  obtain ⟨c0, c1, c2, c3, z0, z1, z2, z3⟩ := X3.out.f0 (List.Mem.tail _ (List.Mem.head _))
  go_upto_region 3 with (first | (go_at_call 63; refine (hT.out _).mono ?_; rintro e y3 ⟨rfl, hB⟩; (have X4 : Hid (Bx w [(q1, a0, a1, a2, a3), (w.heap.size, a0, a1, a2, a3)] y3) := X3.out.past hB); clear hB X3) | (go_at_call 61; refine (hPT.out _).mono ?_; rintro e y4 ⟨rfl, hB⟩; (have X5 : Hid (Bx w [(q1, a0, a1, a2, a3), (w.heap.size, a0, a1, a2, a3)] y4) := X4.out.past hB); clear hB X4))
  have X6 : Hid (Bx w [(y4.heap.size, a0, a1, a2, a3), (q1, a0, a1, a2, a3), (w.heap.size, a0, a1, a2, a3)] (y4.alloc (.cells #[.int .u64 a0, .int .u64 a1, .int .u64 a2, .int .u64 a3] 24))) := X5.out.alloc _ _ _ _
  generalize y4.alloc (.cells #[.int .u64 a0, .int .u64 a1, .int .u64 a2, .int .u64 a3] 24) = v2 at X6 ⊢
  generalize y4.heap.size = q2 at X6 ⊢
  clear X5 c0 c1 c2 c3 z0 z1 z2 z3
  obtain ⟨c0, c1, c2, c3, _⟩ := X6.out.f0 (List.Mem.head _)
  obtain ⟨d0, d1, d2, d3, _⟩ := X6.out.f0 (List.Mem.tail _ (List.Mem.head _))
  obtain ⟨e0, e1, e2, e3, _⟩ := X6.out.f0 (List.Mem.tail _ (List.Mem.tail _ (List.Mem.head _)))
  go_upto_region 5 with (first | (go_at_call 55; refine (num_any _ _).mono ?_; rintro e y5 ⟨rfl, hw⟩; rw [hw]; clear hw y5) | (go_at_call 19; refine (awake_any _).mono ?_; rintro e y6 ⟨rfl, hB⟩; (have X7 : Hid (Bx w [(q2, a0, a1, a2, a3), (q1, a0, a1, a2, a3), (w.heap.size, a0, a1, a2, a3)] y6) := X6.out.past hB); clear hB X6))
  clear c0 c1 c2 c3 d0 d1 d2 d3 e0 e1 e2 e3
  go_upto_region 6 with (go_at_call 61; refine (hPS.out _).mono ?_; rintro e y7 ⟨rfl, hB⟩; (have X8 : Hid (Bx w [(q2, a0, a1, a2, a3), (q1, a0, a1, a2, a3), (w.heap.size, a0, a1, a2, a3)] y7) := X7.out.past hB); clear hB X7)
  have X9 : Hid (Bx w [(y7.heap.size, 0, 0, 0, 0), (q2, a0, a1, a2, a3), (q1, a0, a1, a2, a3), (w.heap.size, a0, a1, a2, a3)] (y7.alloc (.cells #[.int .u64 0, .int .u64 0, .int .u64 0, .int .u64 0] 24))) := X8.out.alloc _ _ _ _
  generalize y7.alloc (.cells #[.int .u64 0, .int .u64 0, .int .u64 0, .int .u64 0] 24) = v3 at X9 ⊢
  generalize y7.heap.size = q3 at X9 ⊢
  clear X8
  obtain ⟨c0, c1, c2, c3, z0, z1, z2, z3⟩ := X9.out.f0 (List.Mem.head _)
  go_wp2_with (go_at_call 55; refine (num_any _ _).mono ?_; rintro e y8 ⟨rfl, hw⟩; rw [hw]; clear hw y8)
  go_ret
  refine ⟨?_, X9.out.bel⟩
  show Ending.returned (.bool (!decide ((78 : Int) < (s.size : Int)))) = _
  rw [decide_eq_false (by omega)]
  rfl
set_option maxHeartbeats 4000000 in
set_option maxRecDepth 100000 in
theorem rb_x (a0 a1 a2 a3 p0 p1 p2 p3 : Int) (s hx tx : ByteArray) (w : World) (hH : Hid (HA a0 a1 a2 a3 hx)) (hT : Hid (TA a0 a1 a2 a3 tx)) (hPH : Hid (PA hx a0 a1 a2 a3 0)) (hPT : Hid (PA tx a0 a1 a2 a3 0)) (hPS : Hid (PA s p0 p1 p2 p3 0)) (hv tv : ByteArray) (hHV : Hid (HA p0 p1 p2 p3 hv)) (hTV : Hid (TA p0 p1 p2 p3 tv)) (h1 : (1 : Int) < (s.size : Int)) (hix : ∀ W : World, Sem.run Try.prog (Instr.index 9 (.string s) (.int .i64 1)) W = .ok (.int .u8 120) W) (hle : (hv.size : Int) ≤ (s.size : Int)) : Calls Try.prog 15 #[.agg #[.int .u64 a0, .int .u64 a1, .int .u64 a2, .int .u64 a3], .string s] w fun e w' => e = .returned (.bool true) ∧ Below w.heap.size w w' := by
  have eqs := eqw_same
  go_enter Try.func15, Try.ntmps15
  go_upto_region 1 with fail
  have X0 : Hid (Bx w [(w.heap.size, a0, a1, a2, a3)] (w.alloc (.cells #[.int .u64 a0, .int .u64 a1, .int .u64 a2, .int .u64 a3] 24))) := (Bx.start w).alloc _ _ _ _
  generalize w.alloc (.cells #[.int .u64 a0, .int .u64 a1, .int .u64 a2, .int .u64 a3] 24) = v0 at X0 ⊢
  obtain ⟨c0, c1, c2, c3, z0, z1, z2, z3⟩ := X0.out.f0 (List.Mem.head _)
  go_upto_region 2 with (first | (go_at_call 62; refine (hH.out _).mono ?_; rintro e y1 ⟨rfl, hB⟩; (have X1 : Hid (Bx w [(w.heap.size, a0, a1, a2, a3)] y1) := X0.out.past hB); clear hB X0) | (go_at_call 61; refine (hPH.out _).mono ?_; rintro e y2 ⟨rfl, hB⟩; (have X2 : Hid (Bx w [(w.heap.size, a0, a1, a2, a3)] y2) := X1.out.past hB); clear hB X1))
  have X3 : Hid (Bx w [(y2.heap.size, a0, a1, a2, a3), (w.heap.size, a0, a1, a2, a3)] (y2.alloc (.cells #[.int .u64 a0, .int .u64 a1, .int .u64 a2, .int .u64 a3] 24))) := X2.out.alloc _ _ _ _
  generalize y2.alloc (.cells #[.int .u64 a0, .int .u64 a1, .int .u64 a2, .int .u64 a3] 24) = v1 at X3 ⊢
  generalize y2.heap.size = q1 at X3 ⊢
  clear X2 c0 c1 c2 c3 z0 z1 z2 z3
  obtain ⟨c0, c1, c2, c3, z0, z1, z2, z3⟩ := X3.out.f0 (List.Mem.tail _ (List.Mem.head _))
  go_upto_region 3 with (first | (go_at_call 63; refine (hT.out _).mono ?_; rintro e y3 ⟨rfl, hB⟩; (have X4 : Hid (Bx w [(q1, a0, a1, a2, a3), (w.heap.size, a0, a1, a2, a3)] y3) := X3.out.past hB); clear hB X3) | (go_at_call 61; refine (hPT.out _).mono ?_; rintro e y4 ⟨rfl, hB⟩; (have X5 : Hid (Bx w [(q1, a0, a1, a2, a3), (w.heap.size, a0, a1, a2, a3)] y4) := X4.out.past hB); clear hB X4))
  have X6 : Hid (Bx w [(y4.heap.size, a0, a1, a2, a3), (q1, a0, a1, a2, a3), (w.heap.size, a0, a1, a2, a3)] (y4.alloc (.cells #[.int .u64 a0, .int .u64 a1, .int .u64 a2, .int .u64 a3] 24))) := X5.out.alloc _ _ _ _
  generalize y4.alloc (.cells #[.int .u64 a0, .int .u64 a1, .int .u64 a2, .int .u64 a3] 24) = v2 at X6 ⊢
  generalize y4.heap.size = q2 at X6 ⊢
  clear X5 c0 c1 c2 c3 z0 z1 z2 z3
  obtain ⟨c0, c1, c2, c3, _⟩ := X6.out.f0 (List.Mem.head _)
  obtain ⟨d0, d1, d2, d3, _⟩ := X6.out.f0 (List.Mem.tail _ (List.Mem.head _))
  obtain ⟨e0, e1, e2, e3, _⟩ := X6.out.f0 (List.Mem.tail _ (List.Mem.tail _ (List.Mem.head _)))
  go_upto_region 5 with (first | (go_at_call 55; refine (num_any _ _).mono ?_; rintro e y5 ⟨rfl, hw⟩; rw [hw]; clear hw y5) | (go_at_call 19; refine (awake_any _).mono ?_; rintro e y6 ⟨rfl, hB⟩; (have X7 : Hid (Bx w [(q2, a0, a1, a2, a3), (q1, a0, a1, a2, a3), (w.heap.size, a0, a1, a2, a3)] y6) := X6.out.past hB); clear hB X6))
  clear c0 c1 c2 c3 d0 d1 d2 d3 e0 e1 e2 e3
  go_upto_region 6 with (go_at_call 61; refine (hPS.out _).mono ?_; rintro e y7 ⟨rfl, hB⟩; (have X8 : Hid (Bx w [(q2, a0, a1, a2, a3), (q1, a0, a1, a2, a3), (w.heap.size, a0, a1, a2, a3)] y7) := X7.out.past hB); clear hB X7)
  have X9 : Hid (Bx w [(y7.heap.size, p0, p1, p2, p3), (q2, a0, a1, a2, a3), (q1, a0, a1, a2, a3), (w.heap.size, a0, a1, a2, a3)] (y7.alloc (.cells #[.int .u64 p0, .int .u64 p1, .int .u64 p2, .int .u64 p3] 24))) := X8.out.alloc _ _ _ _
  generalize y7.alloc (.cells #[.int .u64 p0, .int .u64 p1, .int .u64 p2, .int .u64 p3] 24) = v3 at X9 ⊢
  generalize y7.heap.size = q3 at X9 ⊢
  clear X8
  obtain ⟨c0, c1, c2, c3, z0, z1, z2, z3⟩ := X9.out.f0 (List.Mem.head _)
  go_upto_region 9 with (first | (go_at_call 55; refine (num_any _ _).mono ?_; rintro e y8 ⟨rfl, hw⟩; rw [hw]; clear hw y8) | (go_at_call 62; refine (hHV.out _).mono ?_; rintro e y9 ⟨rfl, hB⟩; (have X10 : Hid (Bx w [(q3, p0, p1, p2, p3), (q2, a0, a1, a2, a3), (q1, a0, a1, a2, a3), (w.heap.size, a0, a1, a2, a3)] y9) := X9.out.past hB); clear hB X9))
  clear c0 c1 c2 c3 z0 z1 z2 z3
  obtain ⟨c0, c1, c2, c3, z0, z1, z2, z3⟩ := X10.out.f0 (List.Mem.head _)
  go_upto_region 10 with (go_at_call 63; refine (hTV.out _).mono ?_; rintro e y10 ⟨rfl, hB⟩; (have X11 : Hid (Bx w [(q3, p0, p1, p2, p3), (q2, a0, a1, a2, a3), (q1, a0, a1, a2, a3), (w.heap.size, a0, a1, a2, a3)] y10) := X10.out.past hB); clear hB X10)
  clear c0 c1 c2 c3 z0 z1 z2 z3
  go_wp2
  go_ret
  exact ⟨rfl, X11.out.bel⟩
set_option maxHeartbeats 4000000 in
set_option maxRecDepth 100000 in
theorem rb_ta (a0 a1 a2 a3 p0 p1 p2 p3 : Int) (s hx tx : ByteArray) (w : World) (hH : Hid (HA a0 a1 a2 a3 hx)) (hT : Hid (TA a0 a1 a2 a3 tx)) (hPH : Hid (PA hx a0 a1 a2 a3 0)) (hPT : Hid (PA tx a0 a1 a2 a3 0)) (hPS : Hid (PA s p0 p1 p2 p3 0)) (hv tv : ByteArray) (hHV : Hid (HA p0 p1 p2 p3 hv)) (hTV : Hid (TA p0 p1 p2 p3 tv)) (zt : ByteArray) (hz : zero1 ++ tv = zt) (hle : (tv.size : Int) ≤ (s.size : Int)) (hmx : ¬ 9223372036854775807 < 1 + tv.size) (hPZ : Hid (PA zt p0 p1 p2 p3 0)) (h1 : ¬ (1 : Int) < (s.size : Int)) : Calls Try.prog 15 #[.agg #[.int .u64 a0, .int .u64 a1, .int .u64 a2, .int .u64 a3], .string s] w fun e w' => e = .returned (.bool true) ∧ Below w.heap.size w w' := by
  have eqs := eqw_same
  unfold zero1 at hz
  go_enter Try.func15, Try.ntmps15
  go_upto_region 1 with fail
  have X0 : Hid (Bx w [(w.heap.size, a0, a1, a2, a3)] (w.alloc (.cells #[.int .u64 a0, .int .u64 a1, .int .u64 a2, .int .u64 a3] 24))) := (Bx.start w).alloc _ _ _ _
  generalize w.alloc (.cells #[.int .u64 a0, .int .u64 a1, .int .u64 a2, .int .u64 a3] 24) = v0 at X0 ⊢
  obtain ⟨c0, c1, c2, c3, z0, z1, z2, z3⟩ := X0.out.f0 (List.Mem.head _)
  go_upto_region 2 with (first | (go_at_call 62; refine (hH.out _).mono ?_; rintro e y1 ⟨rfl, hB⟩; (have X1 : Hid (Bx w [(w.heap.size, a0, a1, a2, a3)] y1) := X0.out.past hB); clear hB X0) | (go_at_call 61; refine (hPH.out _).mono ?_; rintro e y2 ⟨rfl, hB⟩; (have X2 : Hid (Bx w [(w.heap.size, a0, a1, a2, a3)] y2) := X1.out.past hB); clear hB X1))
  have X3 : Hid (Bx w [(y2.heap.size, a0, a1, a2, a3), (w.heap.size, a0, a1, a2, a3)] (y2.alloc (.cells #[.int .u64 a0, .int .u64 a1, .int .u64 a2, .int .u64 a3] 24))) := X2.out.alloc _ _ _ _
  generalize y2.alloc (.cells #[.int .u64 a0, .int .u64 a1, .int .u64 a2, .int .u64 a3] 24) = v1 at X3 ⊢
  generalize y2.heap.size = q1 at X3 ⊢
  clear X2 c0 c1 c2 c3 z0 z1 z2 z3
  obtain ⟨c0, c1, c2, c3, z0, z1, z2, z3⟩ := X3.out.f0 (List.Mem.tail _ (List.Mem.head _))
  go_upto_region 3 with (first | (go_at_call 63; refine (hT.out _).mono ?_; rintro e y3 ⟨rfl, hB⟩; (have X4 : Hid (Bx w [(q1, a0, a1, a2, a3), (w.heap.size, a0, a1, a2, a3)] y3) := X3.out.past hB); clear hB X3) | (go_at_call 61; refine (hPT.out _).mono ?_; rintro e y4 ⟨rfl, hB⟩; (have X5 : Hid (Bx w [(q1, a0, a1, a2, a3), (w.heap.size, a0, a1, a2, a3)] y4) := X4.out.past hB); clear hB X4))
  have X6 : Hid (Bx w [(y4.heap.size, a0, a1, a2, a3), (q1, a0, a1, a2, a3), (w.heap.size, a0, a1, a2, a3)] (y4.alloc (.cells #[.int .u64 a0, .int .u64 a1, .int .u64 a2, .int .u64 a3] 24))) := X5.out.alloc _ _ _ _
  generalize y4.alloc (.cells #[.int .u64 a0, .int .u64 a1, .int .u64 a2, .int .u64 a3] 24) = v2 at X6 ⊢
  generalize y4.heap.size = q2 at X6 ⊢
  clear X5 c0 c1 c2 c3 z0 z1 z2 z3
  obtain ⟨c0, c1, c2, c3, _⟩ := X6.out.f0 (List.Mem.head _)
  obtain ⟨d0, d1, d2, d3, _⟩ := X6.out.f0 (List.Mem.tail _ (List.Mem.head _))
  obtain ⟨e0, e1, e2, e3, _⟩ := X6.out.f0 (List.Mem.tail _ (List.Mem.tail _ (List.Mem.head _)))
  go_upto_region 5 with (first | (go_at_call 55; refine (num_any _ _).mono ?_; rintro e y5 ⟨rfl, hw⟩; rw [hw]; clear hw y5) | (go_at_call 19; refine (awake_any _).mono ?_; rintro e y6 ⟨rfl, hB⟩; (have X7 : Hid (Bx w [(q2, a0, a1, a2, a3), (q1, a0, a1, a2, a3), (w.heap.size, a0, a1, a2, a3)] y6) := X6.out.past hB); clear hB X6))
  clear c0 c1 c2 c3 d0 d1 d2 d3 e0 e1 e2 e3
  go_upto_region 6 with (go_at_call 61; refine (hPS.out _).mono ?_; rintro e y7 ⟨rfl, hB⟩; (have X8 : Hid (Bx w [(q2, a0, a1, a2, a3), (q1, a0, a1, a2, a3), (w.heap.size, a0, a1, a2, a3)] y7) := X7.out.past hB); clear hB X7)
  have X9 : Hid (Bx w [(y7.heap.size, p0, p1, p2, p3), (q2, a0, a1, a2, a3), (q1, a0, a1, a2, a3), (w.heap.size, a0, a1, a2, a3)] (y7.alloc (.cells #[.int .u64 p0, .int .u64 p1, .int .u64 p2, .int .u64 p3] 24))) := X8.out.alloc _ _ _ _
  generalize y7.alloc (.cells #[.int .u64 p0, .int .u64 p1, .int .u64 p2, .int .u64 p3] 24) = v3 at X9 ⊢
  generalize y7.heap.size = q3 at X9 ⊢
  clear X8
  obtain ⟨c0, c1, c2, c3, z0, z1, z2, z3⟩ := X9.out.f0 (List.Mem.head _)
  go_upto_region 9 with (first | (go_at_call 55; refine (num_any _ _).mono ?_; rintro e y8 ⟨rfl, hw⟩; rw [hw]; clear hw y8) | (go_at_call 62; refine (hHV.out _).mono ?_; rintro e y9 ⟨rfl, hB⟩; (have X10 : Hid (Bx w [(q3, p0, p1, p2, p3), (q2, a0, a1, a2, a3), (q1, a0, a1, a2, a3), (w.heap.size, a0, a1, a2, a3)] y9) := X9.out.past hB); clear hB X9))
  clear c0 c1 c2 c3 z0 z1 z2 z3
  obtain ⟨c0, c1, c2, c3, z0, z1, z2, z3⟩ := X10.out.f0 (List.Mem.head _)
  go_upto_region 10 with (go_at_call 63; refine (hTV.out _).mono ?_; rintro e y10 ⟨rfl, hB⟩; (have X11 : Hid (Bx w [(q3, p0, p1, p2, p3), (q2, a0, a1, a2, a3), (q1, a0, a1, a2, a3), (w.heap.size, a0, a1, a2, a3)] y10) := X10.out.past hB); clear hB X10)
  clear c0 c1 c2 c3 z0 z1 z2 z3
  go_upto_region 13 with (go_at_call 61; refine (hPZ.out _).mono ?_; rintro e y11 ⟨rfl, hB⟩; (have X12 : Hid (Bx w [(q3, p0, p1, p2, p3), (q2, a0, a1, a2, a3), (q1, a0, a1, a2, a3), (w.heap.size, a0, a1, a2, a3)] y11) := X11.out.past hB); clear hB X11)
  have X13 : Hid (Bx w ((y11.heap.size, p0, p1, p2, p3) :: [(q3, p0, p1, p2, p3), (q2, a0, a1, a2, a3), (q1, a0, a1, a2, a3), (w.heap.size, a0, a1, a2, a3)]) (y11.alloc (.cells #[.int .u64 p0, .int .u64 p1, .int .u64 p2, .int .u64 p3] 24))) := X12.out.alloc _ _ _ _
  generalize y11.alloc (.cells #[.int .u64 p0, .int .u64 p1, .int .u64 p2, .int .u64 p3] 24) = v4 at X13 ⊢
  generalize y11.heap.size = q4 at X13 ⊢
  clear X12
  obtain ⟨c0, c1, c2, c3, z0, z1, z2, z3⟩ := X13.out.f0 (List.Mem.head _)
  obtain ⟨d0, d1, d2, d3, _⟩ := X13.out.f0 (List.Mem.tail _ (List.Mem.head _))
  go_wp2_with (go_at_call 55; refine (num_any _ _).mono ?_; rintro e y8 ⟨rfl, hw⟩; rw [hw]; clear hw y8)
  go_ret
  exact ⟨rfl, X13.out.bel⟩
set_option maxHeartbeats 4000000 in
set_option maxRecDepth 100000 in
theorem rb_tb (a0 a1 a2 a3 p0 p1 p2 p3 : Int) (s hx tx : ByteArray) (w : World) (hH : Hid (HA a0 a1 a2 a3 hx)) (hT : Hid (TA a0 a1 a2 a3 tx)) (hPH : Hid (PA hx a0 a1 a2 a3 0)) (hPT : Hid (PA tx a0 a1 a2 a3 0)) (hPS : Hid (PA s p0 p1 p2 p3 0)) (hv tv : ByteArray) (hHV : Hid (HA p0 p1 p2 p3 hv)) (hTV : Hid (TA p0 p1 p2 p3 tv)) (zt : ByteArray) (hz : zero1 ++ tv = zt) (hle : (tv.size : Int) ≤ (s.size : Int)) (hmx : ¬ 9223372036854775807 < 1 + tv.size) (hPZ : Hid (PA zt p0 p1 p2 p3 0)) (h1 : (1 : Int) < (s.size : Int)) (c : Int) (hix : ∀ W : World, Sem.run Try.prog (Instr.index 9 (.string s) (.int .i64 1)) W = .ok (.int .u8 c) W) (hc : (c == 120) = false) : Calls Try.prog 15 #[.agg #[.int .u64 a0, .int .u64 a1, .int .u64 a2, .int .u64 a3], .string s] w fun e w' => e = .returned (.bool true) ∧ Below w.heap.size w w' := by
  have eqs := eqw_same
  unfold zero1 at hz
  go_enter Try.func15, Try.ntmps15
  go_upto_region 1 with fail
  have X0 : Hid (Bx w [(w.heap.size, a0, a1, a2, a3)] (w.alloc (.cells #[.int .u64 a0, .int .u64 a1, .int .u64 a2, .int .u64 a3] 24))) := (Bx.start w).alloc _ _ _ _
  generalize w.alloc (.cells #[.int .u64 a0, .int .u64 a1, .int .u64 a2, .int .u64 a3] 24) = v0 at X0 ⊢
  obtain ⟨c0, c1, c2, c3, z0, z1, z2, z3⟩ := X0.out.f0 (List.Mem.head _)
  go_upto_region 2 with (first | (go_at_call 62; refine (hH.out _).mono ?_; rintro e y1 ⟨rfl, hB⟩; (have X1 : Hid (Bx w [(w.heap.size, a0, a1, a2, a3)] y1) := X0.out.past hB); clear hB X0) | (go_at_call 61; refine (hPH.out _).mono ?_; rintro e y2 ⟨rfl, hB⟩; (have X2 : Hid (Bx w [(w.heap.size, a0, a1, a2, a3)] y2) := X1.out.past hB); clear hB X1))
  have X3 : Hid (Bx w [(y2.heap.size, a0, a1, a2, a3), (w.heap.size, a0, a1, a2, a3)] (y2.alloc (.cells #[.int .u64 a0, .int .u64 a1, .int .u64 a2, .int .u64 a3] 24))) := X2.out.alloc _ _ _ _
  generalize y2.alloc (.cells #[.int .u64 a0, .int .u64 a1, .int .u64 a2, .int .u64 a3] 24) = v1 at X3 ⊢
  generalize y2.heap.size = q1 at X3 ⊢
  clear X2 c0 c1 c2 c3 z0 z1 z2 z3
  obtain ⟨c0, c1, c2, c3, z0, z1, z2, z3⟩ := X3.out.f0 (List.Mem.tail _ (List.Mem.head _))
  go_upto_region 3 with (first | (go_at_call 63; refine (hT.out _).mono ?_; rintro e y3 ⟨rfl, hB⟩; (have X4 : Hid (Bx w [(q1, a0, a1, a2, a3), (w.heap.size, a0, a1, a2, a3)] y3) := X3.out.past hB); clear hB X3) | (go_at_call 61; refine (hPT.out _).mono ?_; rintro e y4 ⟨rfl, hB⟩; (have X5 : Hid (Bx w [(q1, a0, a1, a2, a3), (w.heap.size, a0, a1, a2, a3)] y4) := X4.out.past hB); clear hB X4))
  have X6 : Hid (Bx w [(y4.heap.size, a0, a1, a2, a3), (q1, a0, a1, a2, a3), (w.heap.size, a0, a1, a2, a3)] (y4.alloc (.cells #[.int .u64 a0, .int .u64 a1, .int .u64 a2, .int .u64 a3] 24))) := X5.out.alloc _ _ _ _
  generalize y4.alloc (.cells #[.int .u64 a0, .int .u64 a1, .int .u64 a2, .int .u64 a3] 24) = v2 at X6 ⊢
  generalize y4.heap.size = q2 at X6 ⊢
  clear X5 c0 c1 c2 c3 z0 z1 z2 z3
  obtain ⟨c0, c1, c2, c3, _⟩ := X6.out.f0 (List.Mem.head _)
  obtain ⟨d0, d1, d2, d3, _⟩ := X6.out.f0 (List.Mem.tail _ (List.Mem.head _))
  obtain ⟨e0, e1, e2, e3, _⟩ := X6.out.f0 (List.Mem.tail _ (List.Mem.tail _ (List.Mem.head _)))
  go_upto_region 5 with (first | (go_at_call 55; refine (num_any _ _).mono ?_; rintro e y5 ⟨rfl, hw⟩; rw [hw]; clear hw y5) | (go_at_call 19; refine (awake_any _).mono ?_; rintro e y6 ⟨rfl, hB⟩; (have X7 : Hid (Bx w [(q2, a0, a1, a2, a3), (q1, a0, a1, a2, a3), (w.heap.size, a0, a1, a2, a3)] y6) := X6.out.past hB); clear hB X6))
  clear c0 c1 c2 c3 d0 d1 d2 d3 e0 e1 e2 e3
  go_upto_region 6 with (go_at_call 61; refine (hPS.out _).mono ?_; rintro e y7 ⟨rfl, hB⟩; (have X8 : Hid (Bx w [(q2, a0, a1, a2, a3), (q1, a0, a1, a2, a3), (w.heap.size, a0, a1, a2, a3)] y7) := X7.out.past hB); clear hB X7)
  have X9 : Hid (Bx w [(y7.heap.size, p0, p1, p2, p3), (q2, a0, a1, a2, a3), (q1, a0, a1, a2, a3), (w.heap.size, a0, a1, a2, a3)] (y7.alloc (.cells #[.int .u64 p0, .int .u64 p1, .int .u64 p2, .int .u64 p3] 24))) := X8.out.alloc _ _ _ _
  generalize y7.alloc (.cells #[.int .u64 p0, .int .u64 p1, .int .u64 p2, .int .u64 p3] 24) = v3 at X9 ⊢
  generalize y7.heap.size = q3 at X9 ⊢
  clear X8
  obtain ⟨c0, c1, c2, c3, z0, z1, z2, z3⟩ := X9.out.f0 (List.Mem.head _)
  go_upto_region 9 with (first | (go_at_call 55; refine (num_any _ _).mono ?_; rintro e y8 ⟨rfl, hw⟩; rw [hw]; clear hw y8) | (go_at_call 62; refine (hHV.out _).mono ?_; rintro e y9 ⟨rfl, hB⟩; (have X10 : Hid (Bx w [(q3, p0, p1, p2, p3), (q2, a0, a1, a2, a3), (q1, a0, a1, a2, a3), (w.heap.size, a0, a1, a2, a3)] y9) := X9.out.past hB); clear hB X9))
  clear c0 c1 c2 c3 z0 z1 z2 z3
  obtain ⟨c0, c1, c2, c3, z0, z1, z2, z3⟩ := X10.out.f0 (List.Mem.head _)
  go_upto_region 10 with (go_at_call 63; refine (hTV.out _).mono ?_; rintro e y10 ⟨rfl, hB⟩; (have X11 : Hid (Bx w [(q3, p0, p1, p2, p3), (q2, a0, a1, a2, a3), (q1, a0, a1, a2, a3), (w.heap.size, a0, a1, a2, a3)] y10) := X10.out.past hB); clear hB X10)
  clear c0 c1 c2 c3 z0 z1 z2 z3
  go_upto_region 13 with (go_at_call 61; refine (hPZ.out _).mono ?_; rintro e y11 ⟨rfl, hB⟩; (have X12 : Hid (Bx w [(q3, p0, p1, p2, p3), (q2, a0, a1, a2, a3), (q1, a0, a1, a2, a3), (w.heap.size, a0, a1, a2, a3)] y11) := X11.out.past hB); clear hB X11)
  have X13 : Hid (Bx w ((y11.heap.size, p0, p1, p2, p3) :: [(q3, p0, p1, p2, p3), (q2, a0, a1, a2, a3), (q1, a0, a1, a2, a3), (w.heap.size, a0, a1, a2, a3)]) (y11.alloc (.cells #[.int .u64 p0, .int .u64 p1, .int .u64 p2, .int .u64 p3] 24))) := X12.out.alloc _ _ _ _
  generalize y11.alloc (.cells #[.int .u64 p0, .int .u64 p1, .int .u64 p2, .int .u64 p3] 24) = v4 at X13 ⊢
  generalize y11.heap.size = q4 at X13 ⊢
  clear X12
  obtain ⟨c0, c1, c2, c3, z0, z1, z2, z3⟩ := X13.out.f0 (List.Mem.head _)
  obtain ⟨d0, d1, d2, d3, _⟩ := X13.out.f0 (List.Mem.tail _ (List.Mem.head _))
  go_wp2_with (go_at_call 55; refine (num_any _ _).mono ?_; rintro e y8 ⟨rfl, hw⟩; rw [hw]; clear hw y8)
  go_ret
  exact ⟨rfl, X13.out.bel⟩
set_option maxHeartbeats 4000000 in
set_option maxRecDepth 100000 in
theorem rb_tc (a0 a1 a2 a3 p0 p1 p2 p3 : Int) (s hx tx : ByteArray) (w : World) (hH : Hid (HA a0 a1 a2 a3 hx)) (hT : Hid (TA a0 a1 a2 a3 tx)) (hPH : Hid (PA hx a0 a1 a2 a3 0)) (hPT : Hid (PA tx a0 a1 a2 a3 0)) (hPS : Hid (PA s p0 p1 p2 p3 0)) (hv tv : ByteArray) (hHV : Hid (HA p0 p1 p2 p3 hv)) (hTV : Hid (TA p0 p1 p2 p3 tv)) (zt : ByteArray) (hz : zero1 ++ tv = zt) (hle : (tv.size : Int) ≤ (s.size : Int)) (hmx : ¬ 9223372036854775807 < 1 + tv.size) (hPZ : Hid (PA zt 0 0 0 0 2)) (h1 : (1 : Int) < (s.size : Int)) (c : Int) (hix : ∀ W : World, Sem.run Try.prog (Instr.index 9 (.string s) (.int .i64 1)) W = .ok (.int .u8 c) W) (hc : (c == 120) = false) (hne : eqw 0 0 0 0 p0 p1 p2 p3 = false) (h78 : (tv.size : Int) = 78) : Calls Try.prog 15 #[.agg #[.int .u64 a0, .int .u64 a1, .int .u64 a2, .int .u64 a3], .string s] w fun e w' => e = .returned (.bool true) ∧ Below w.heap.size w w' := by
  have eqs := eqw_same
  unfold zero1 at hz
  have hneR : ∀ W : World, Sem.run Try.prog (Op.equalIn 10000 24 (.agg #[.int .u64 0, .int .u64 0, .int .u64 0, .int .u64 0]) (.agg #[.int .u64 p0, .int .u64 p1, .int .u64 p2, .int .u64 p3])) W = .ok false W := fun W => by rw [eqw_run, hne]
  clear hne
  go_enter Try.func15, Try.ntmps15
  go_upto_region 1 with fail
  have X0 : Hid (Bx w [(w.heap.size, a0, a1, a2, a3)] (w.alloc (.cells #[.int .u64 a0, .int .u64 a1, .int .u64 a2, .int .u64 a3] 24))) := (Bx.start w).alloc _ _ _ _
  generalize w.alloc (.cells #[.int .u64 a0, .int .u64 a1, .int .u64 a2, .int .u64 a3] 24) = v0 at X0 ⊢
  obtain ⟨c0, c1, c2, c3, z0, z1, z2, z3⟩ := X0.out.f0 (List.Mem.head _)
  go_upto_region 2 with (first | (go_at_call 62; refine (hH.out _).mono ?_; rintro e y1 ⟨rfl, hB⟩; (have X1 : Hid (Bx w [(w.heap.size, a0, a1, a2, a3)] y1) := X0.out.past hB); clear hB X0) | (go_at_call 61; refine (hPH.out _).mono ?_; rintro e y2 ⟨rfl, hB⟩; (have X2 : Hid (Bx w [(w.heap.size, a0, a1, a2, a3)] y2) := X1.out.past hB); clear hB X1))
  have X3 : Hid (Bx w [(y2.heap.size, a0, a1, a2, a3), (w.heap.size, a0, a1, a2, a3)] (y2.alloc (.cells #[.int .u64 a0, .int .u64 a1, .int .u64 a2, .int .u64 a3] 24))) := X2.out.alloc _ _ _ _
  generalize y2.alloc (.cells #[.int .u64 a0, .int .u64 a1, .int .u64 a2, .int .u64 a3] 24) = v1 at X3 ⊢
  generalize y2.heap.size = q1 at X3 ⊢
  clear X2 c0 c1 c2 c3 z0 z1 z2 z3
  obtain ⟨c0, c1, c2, c3, z0, z1, z2, z3⟩ := X3.out.f0 (List.Mem.tail _ (List.Mem.head _))
  go_upto_region 3 with (first | (go_at_call 63; refine (hT.out _).mono ?_; rintro e y3 ⟨rfl, hB⟩; (have X4 : Hid (Bx w [(q1, a0, a1, a2, a3), (w.heap.size, a0, a1, a2, a3)] y3) := X3.out.past hB); clear hB X3) | (go_at_call 61; refine (hPT.out _).mono ?_; rintro e y4 ⟨rfl, hB⟩; (have X5 : Hid (Bx w [(q1, a0, a1, a2, a3), (w.heap.size, a0, a1, a2, a3)] y4) := X4.out.past hB); clear hB X4))
  have X6 : Hid (Bx w [(y4.heap.size, a0, a1, a2, a3), (q1, a0, a1, a2, a3), (w.heap.size, a0, a1, a2, a3)] (y4.alloc (.cells #[.int .u64 a0, .int .u64 a1, .int .u64 a2, .int .u64 a3] 24))) := X5.out.alloc _ _ _ _
  generalize y4.alloc (.cells #[.int .u64 a0, .int .u64 a1, .int .u64 a2, .int .u64 a3] 24) = v2 at X6 ⊢
  generalize y4.heap.size = q2 at X6 ⊢
  clear X5 c0 c1 c2 c3 z0 z1 z2 z3
  obtain ⟨c0, c1, c2, c3, _⟩ := X6.out.f0 (List.Mem.head _)
  obtain ⟨d0, d1, d2, d3, _⟩ := X6.out.f0 (List.Mem.tail _ (List.Mem.head _))
  obtain ⟨e0, e1, e2, e3, _⟩ := X6.out.f0 (List.Mem.tail _ (List.Mem.tail _ (List.Mem.head _)))
  go_upto_region 5 with (first | (go_at_call 55; refine (num_any _ _).mono ?_; rintro e y5 ⟨rfl, hw⟩; rw [hw]; clear hw y5) | (go_at_call 19; refine (awake_any _).mono ?_; rintro e y6 ⟨rfl, hB⟩; (have X7 : Hid (Bx w [(q2, a0, a1, a2, a3), (q1, a0, a1, a2, a3), (w.heap.size, a0, a1, a2, a3)] y6) := X6.out.past hB); clear hB X6))
  clear c0 c1 c2 c3 d0 d1 d2 d3 e0 e1 e2 e3
  go_upto_region 6 with (go_at_call 61; refine (hPS.out _).mono ?_; rintro e y7 ⟨rfl, hB⟩; (have X8 : Hid (Bx w [(q2, a0, a1, a2, a3), (q1, a0, a1, a2, a3), (w.heap.size, a0, a1, a2, a3)] y7) := X7.out.past hB); clear hB X7)
  have X9 : Hid (Bx w [(y7.heap.size, p0, p1, p2, p3), (q2, a0, a1, a2, a3), (q1, a0, a1, a2, a3), (w.heap.size, a0, a1, a2, a3)] (y7.alloc (.cells #[.int .u64 p0, .int .u64 p1, .int .u64 p2, .int .u64 p3] 24))) := X8.out.alloc _ _ _ _
  generalize y7.alloc (.cells #[.int .u64 p0, .int .u64 p1, .int .u64 p2, .int .u64 p3] 24) = v3 at X9 ⊢
  generalize y7.heap.size = q3 at X9 ⊢
  clear X8
  obtain ⟨c0, c1, c2, c3, z0, z1, z2, z3⟩ := X9.out.f0 (List.Mem.head _)
  go_upto_region 9 with (first | (go_at_call 55; refine (num_any _ _).mono ?_; rintro e y8 ⟨rfl, hw⟩; rw [hw]; clear hw y8) | (go_at_call 62; refine (hHV.out _).mono ?_; rintro e y9 ⟨rfl, hB⟩; (have X10 : Hid (Bx w [(q3, p0, p1, p2, p3), (q2, a0, a1, a2, a3), (q1, a0, a1, a2, a3), (w.heap.size, a0, a1, a2, a3)] y9) := X9.out.past hB); clear hB X9))
  clear c0 c1 c2 c3 z0 z1 z2 z3
  obtain ⟨c0, c1, c2, c3, z0, z1, z2, z3⟩ := X10.out.f0 (List.Mem.head _)
  go_upto_region 10 with (go_at_call 63; refine (hTV.out _).mono ?_; rintro e y10 ⟨rfl, hB⟩; (have X11 : Hid (Bx w [(q3, p0, p1, p2, p3), (q2, a0, a1, a2, a3), (q1, a0, a1, a2, a3), (w.heap.size, a0, a1, a2, a3)] y10) := X10.out.past hB); clear hB X10)
  clear c0 c1 c2 c3 z0 z1 z2 z3
  go_upto_region 13 with (go_at_call 61; refine (hPZ.out _).mono ?_; rintro e y11 ⟨rfl, hB⟩; (have X12 : Hid (Bx w [(q3, p0, p1, p2, p3), (q2, a0, a1, a2, a3), (q1, a0, a1, a2, a3), (w.heap.size, a0, a1, a2, a3)] y11) := X11.out.past hB); clear hB X11)
  have X13 : Hid (Bx w ((y11.heap.size, 0, 0, 0, 0) :: [(q3, p0, p1, p2, p3), (q2, a0, a1, a2, a3), (q1, a0, a1, a2, a3), (w.heap.size, a0, a1, a2, a3)]) (y11.alloc (.cells #[.int .u64 0, .int .u64 0, .int .u64 0, .int .u64 0] 24))) := X12.out.alloc _ _ _ _
  generalize y11.alloc (.cells #[.int .u64 0, .int .u64 0, .int .u64 0, .int .u64 0] 24) = v4 at X13 ⊢
  generalize y11.heap.size = q4 at X13 ⊢
  clear X12
  obtain ⟨c0, c1, c2, c3, z0, z1, z2, z3⟩ := X13.out.f0 (List.Mem.head _)
  obtain ⟨d0, d1, d2, d3, _⟩ := X13.out.f0 (List.Mem.tail _ (List.Mem.head _))
  go_wp2_with (go_at_call 55; refine (num_any _ _).mono ?_; rintro e y8 ⟨rfl, hw⟩; rw [hw]; clear hw y8)
  go_ret
  exact ⟨rfl, X13.out.bel⟩
end Go.Proofs.Ytpadpmkfhljiiaa
