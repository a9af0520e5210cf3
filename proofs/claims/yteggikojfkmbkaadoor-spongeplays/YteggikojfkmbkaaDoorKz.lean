/- SpongeBack: the walk: for every two states the law returns true and turns nothing that was there. -/
import Derived.Test.YteggikojfkmbkaaDoorKo
import Derived.Deep.RegionHeld3
import Derived.Deep.CutRange
import Derived.Deep.DeepCutAuto
import Derived.BigQuiet
namespace Go.Proofs.YteggikojfkmbkaaDoor
open Go.RowKit
/-- an array is laid into a new block -/
theorem store25_new {ops : Array Oper} {rest : List Oper} {op : Oper} {a : Act} {w W : World} {Q : Exit → Act → World → Prop} (g : Nat → Int) (hgd : op.guard = none) (x y : Operand) (ho : op.op = .store 23 x y)
    (hx : a.eval x = .pointer (some ⟨W.heap.size, 0, none⟩)) (hy : a.eval y = .agg (rowL 25 g).toArray) (hB : Below w.heap.size w W)
    (h : ∀ v, Row v W.heap.size 25 g → Below w.heap.size w v → Below W.heap.size W v → wpList Tryd.prog ops Q rest (a.put op.dst undef) v) :
    wpList Tryd.prog ops Q (op :: rest) a (W.alloc (.cells #[.int .u64 0, .int .u64 0, .int .u64 0, .int .u64 0, .int .u64 0, .int .u64 0, .int .u64 0, .int .u64 0, .int .u64 0, .int .u64 0, .int .u64 0, .int .u64 0, .int .u64 0, .int .u64 0, .int .u64 0, .int .u64 0, .int .u64 0, .int .u64 0, .int .u64 0, .int .u64 0, .int .u64 0, .int .u64 0, .int .u64 0, .int .u64 0, .int .u64 0] 23)) := by
  rw [zero25]
  have r0 := Row.new W 23 25 fun _ => 0
  have b0 : Below W.heap.size W (W.alloc (.cells (rowL 25 fun _ => 0).toArray 23)) := (Below.refl _ _).alloc (by omega) _
  refine store25 g W.heap.size hgd x y ho hx hy r0.there (h _ r0.of_range ?_ (below_setCells _ (Nat.le_refl _) _ _ _ b0))
  exact below_setCells _ hB.size _ _ _ (hB.trans (b0.mono hB.size))
/-- the load of an array in a region that only reads -/
theorem quiet25 {ops : Array Oper} {rest : List Oper} {op : Oper} {a : Act} {w : World} {Q : Act → Prop} (g : Nat → Int) (b : Nat) (x : Operand) (ho : op.op = .load 23 x)
    (hx : a.eval x = .pointer (some ⟨b, 0, none⟩)) (hr : w.rangeAt b 0 (rowL 25 g)) (hw : Region.wanted op (yielded ops a.tmps) = true)
    (h : wpQuiet Tryd.prog ops (fun w' => ∃ n, w' = w.drewN n) Q rest (a.put op.dst (.agg (rowL 25 g).toArray))) : wpQuiet Tryd.prog ops (fun w' => ∃ n, w' = w.drewN n) Q (op :: rest) a := by
  rw [wpQuiet, if_pos hw]
  refine ⟨_, ?_, h⟩
  rintro w' ⟨n, rfl⟩
  have hl : (loadVar 23 ⟨b, 0, none⟩).run Tryd.prog (w.drewN n) = .ok (.agg (rowL 25 g).toArray) (w.drewN n) := loadVar25 (fun j v hv => hr j v hv)
  unfold Oper.quietAt execOp
  simp only [ho, hx, Instr.loadAt, Instr.sureAddr, Sem.run_bind, Sem.run_pure, Result.andThen_ok, hl]
  exact ⟨rfl, rfl⟩
set_option maxHeartbeats 1000000 in
set_option maxRecDepth 100000 in
theorem spongeBack_walk (w : World) (hT : Tabs w) (f g : KSt) :
    Calls Tryd.prog 8 #[.agg (rowL 25 (iv f)).toArray, .agg (rowL 25 (iv g)).toArray] w fun e w' => e = .returned (.bool true) ∧ Below w.heap.size w w' := by
  have HT : Hid (Tabs w) := hT
  have g2 := hT.lt
  have hbA : ∀ o1 o2, Below w.heap.size w ((w.alloc o1).alloc o2) := fun o1 o2 => ((Below.refl _ _).alloc (by omega) _).alloc (by simp) _
  have hA0 : Row ((w.alloc (.cells (rowL 25 (iv f)).toArray 23)).alloc (.cells (rowL 25 (iv g)).toArray 23)) w.heap.size 25 (iv f) := (Row.new w _ 25 (iv f)).alloc _
  have hB0 : Row ((w.alloc (.cells (rowL 25 (iv f)).toArray 23)).alloc (.cells (rowL 25 (iv g)).toArray 23)) (w.heap.size + 1) 25 (iv g) := by
    have := Row.new (w.alloc (.cells (rowL 25 (iv f)).toArray 23)) 23 25 (iv g)
    simpa using this
  have P1 : Hid (∀ W, Tabs W → Calls Tryd.prog 11 #[.agg (rowL 25 (iv f)).toArray] W fun e w' => e = .returned (.agg (rowL 25 (iv (rndsF 24 f))).toArray) ∧ Below W.heap.size W w') := fun W hW => permute_is f W hW
  have P2 : Hid (∀ W, Tabs W → Calls Tryd.prog 11 #[.agg (rowL 25 (iv g)).toArray] W fun e w' => e = .returned (.agg (rowL 25 (iv (rndsF 24 g))).toArray) ∧ Below W.heap.size W w') := fun W hW => permute_is g W hW
  have EQ : Hid ((rowEq 25 (iv (rndsF 24 f)) (iv (rndsF 24 g)) == rowEq 25 (iv f) (iv g)) = true) := by
    have k : ∀ p q : KSt, rowEq 25 (iv p) (iv q) = true ↔ Eqv p q := by
      intro p q
      rw [rowEq_iff]
      exact ⟨fun h i hi => BitVec.eq_of_toNat_eq (by have := h i hi; simp only [iv] at this; omega), fun h i hi => by rw [iv, iv, h i hi]⟩
    unfold Hid
    rw [beq_iff_eq, Bool.eq_iff_iff, k, k]
    exact rnds_eq_iff 24 f g
  generalize iv (rndsF 24 f) = pf at P1 EQ
  generalize iv (rndsF 24 g) = pg at P2 EQ
  generalize iv f = u at *
  generalize iv g = v at *
  have HA0 : Hid _ := hA0
  have HB0 : Hid _ := hB0
  have HBA : Hid _ := hbA
  clear hT hA0 hB0 hbA
  go_enter Tryd.func8, Tryd.ntmps8
  go_upto_region 2 with (first
    | (go_at_call 26; refine (known_any _ (Tabs.below HT.out (HBA.out _ _) g2)).mono ?_; rintro e v1 ⟨rfl, hB⟩; (have W1 : Hid (Below w.heap.size w v1) := (HBA.out _ _).trans (hB.mono (by simp; omega))); (have A1 : Hid (Row v1 w.heap.size 25 u) := Row.below HA0.out hB (by simp; omega)); (have B1 : Hid (Row v1 (w.heap.size + 1) 25 v) := Row.below HB0.out hB (by simp)); clear hB HA0 HB0))
  go_upto_region 3 with (first
    | refine load25 u (w.heap.size) rfl _ rfl rfl (Row.range A1.out) ?_
    | (refine store25_new u rfl _ _ rfl rfl rfl W1.out ?_; intro v2 hr hw hB; (have W2 : Hid (Below w.heap.size w v2) := hw); (have A2 : Hid (Row v2 (w.heap.size) 25 u) := Row.below A1.out hB (Row.lt A1.out (by omega))); (have B2 : Hid (Row v2 (w.heap.size + 1) 25 v) := Row.below B1.out hB (Row.lt B1.out (by omega))); (have C2 : Hid (Row v2 v1.heap.size 25 u) := hr); clear hr hw hB))
  go_upto_region 4 with (first
    | refine load25 u (w.heap.size) rfl _ rfl rfl (Row.range A2.out) ?_
    | (go_at_call 11; refine (P1.out _ (Tabs.below HT.out W2.out g2)).mono ?_; rintro e v3 ⟨rfl, hB⟩; (have W3 : Hid (Below w.heap.size w v3) := Below.trans W2.out (hB.mono W2.out.size)); (have A3 : Hid (Row v3 (w.heap.size) 25 u) := Row.below A2.out hB (Row.lt A2.out (by omega))); (have B3 : Hid (Row v3 (w.heap.size + 1) 25 v) := Row.below B2.out hB (Row.lt B2.out (by omega))); (have C3 : Hid (Row v3 (v1.heap.size) 25 u) := Row.below C2.out hB (Row.lt C2.out (by omega))); clear hB)
    | (refine store25_new pf rfl _ _ rfl rfl rfl W3.out ?_; intro v4 hr hw hB; (have W4 : Hid (Below w.heap.size w v4) := hw); (have A4 : Hid (Row v4 (w.heap.size) 25 u) := Row.below A3.out hB (Row.lt A3.out (by omega))); (have B4 : Hid (Row v4 (w.heap.size + 1) 25 v) := Row.below B3.out hB (Row.lt B3.out (by omega))); (have C4 : Hid (Row v4 (v1.heap.size) 25 u) := Row.below C3.out hB (Row.lt C3.out (by omega))); (have X4 : Hid (Row v4 v3.heap.size 25 pf) := hr); clear hr hw hB))
  go_upto_region 5 with (first
    | refine load25 v (w.heap.size + 1) rfl _ rfl rfl (Row.range B4.out) ?_
    | (go_at_call 11; refine (P2.out _ (Tabs.below HT.out W4.out g2)).mono ?_; rintro e v5 ⟨rfl, hB⟩; (have W5 : Hid (Below w.heap.size w v5) := Below.trans W4.out (hB.mono W4.out.size)); (have A5 : Hid (Row v5 (w.heap.size) 25 u) := Row.below A4.out hB (Row.lt A4.out (by omega))); (have B5 : Hid (Row v5 (w.heap.size + 1) 25 v) := Row.below B4.out hB (Row.lt B4.out (by omega))); (have C5 : Hid (Row v5 (v1.heap.size) 25 u) := Row.below C4.out hB (Row.lt C4.out (by omega))); (have X5 : Hid (Row v5 (v3.heap.size) 25 pf) := Row.below X4.out hB (Row.lt X4.out (by omega))); clear hB)
    | (refine store25_new pg rfl _ _ rfl rfl rfl W5.out ?_; intro v6 hr hw hB; (have W6 : Hid (Below w.heap.size w v6) := hw); (have A6 : Hid (Row v6 (w.heap.size) 25 u) := Row.below A5.out hB (Row.lt A5.out (by omega))); (have B6 : Hid (Row v6 (w.heap.size + 1) 25 v) := Row.below B5.out hB (Row.lt B5.out (by omega))); (have C6 : Hid (Row v6 (v1.heap.size) 25 u) := Row.below C5.out hB (Row.lt C5.out (by omega))); (have X6 : Hid (Row v6 (v3.heap.size) 25 pf) := Row.below X5.out hB (Row.lt X5.out (by omega))); (have Y6 : Hid (Row v6 v5.heap.size 25 pg) := hr); clear hr hw hB))
  go_upto_region 6 with (first
    | refine load25 u (v1.heap.size) rfl _ rfl rfl (Row.range C6.out) ?_
    | (go_at_call 11; refine (P1.out _ (Tabs.below HT.out W6.out g2)).mono ?_; rintro e v7 ⟨rfl, hB⟩; (have W7 : Hid (Below w.heap.size w v7) := Below.trans W6.out (hB.mono W6.out.size)); (have A7 : Hid (Row v7 (w.heap.size) 25 u) := Row.below A6.out hB (Row.lt A6.out (by omega))); (have B7 : Hid (Row v7 (w.heap.size + 1) 25 v) := Row.below B6.out hB (Row.lt B6.out (by omega))); (have C7 : Hid (Row v7 (v1.heap.size) 25 u) := Row.below C6.out hB (Row.lt C6.out (by omega))); (have X7 : Hid (Row v7 (v3.heap.size) 25 pf) := Row.below X6.out hB (Row.lt X6.out (by omega))); (have Y7 : Hid (Row v7 (v5.heap.size) 25 pg) := Row.below Y6.out hB (Row.lt Y6.out (by omega))); clear hB)
    | (refine store25_new pf rfl _ _ rfl rfl rfl W7.out ?_; intro v8 hr hw hB; (have W8 : Hid (Below w.heap.size w v8) := hw); (have A8 : Hid (Row v8 (w.heap.size) 25 u) := Row.below A7.out hB (Row.lt A7.out (by omega))); (have B8 : Hid (Row v8 (w.heap.size + 1) 25 v) := Row.below B7.out hB (Row.lt B7.out (by omega))); (have C8 : Hid (Row v8 (v1.heap.size) 25 u) := Row.below C7.out hB (Row.lt C7.out (by omega))); (have X8 : Hid (Row v8 (v3.heap.size) 25 pf) := Row.below X7.out hB (Row.lt X7.out (by omega))); (have Y8 : Hid (Row v8 (v5.heap.size) 25 pg) := Row.below Y7.out hB (Row.lt Y7.out (by omega))); (have Z8 : Hid (Row v8 v7.heap.size 25 pf) := hr); clear hr hw hB))
  have RA : Hid _ := Row.range A8.out
  have RB : Hid _ := Row.range B8.out
  have RC : Hid _ := Row.range C8.out
  have RX : Hid _ := Row.range X8.out
  have RY : Hid _ := Row.range Y8.out
  have RZ : Hid _ := Row.range Z8.out
  clear P1 P2 HBA W1 W2 W3 W4 W5 W6 W7 A1 B1 A2 B2 A3 B3 A4 B4 A5 B5 A6 B6 A7 B7 A8 B8 C2 C3 C4 C5 C6 C7 C8 X4 X5 X6 X7 X8 Y6 Y7 Y8 Z8 HT
  have e1 : ∀ W : World, Sem.run Tryd.prog (Op.equalIn 10000 23 (.agg (rowL 25 u).toArray) (.agg (rowL 25 u).toArray)) W = .ok true W := fun W => by rw [eq25_run, (rowEq_iff 25 u u).2 fun _ _ => rfl]
  have e2 : ∀ W : World, Sem.run Tryd.prog (Op.equalIn 10000 23 (.agg (rowL 25 pf).toArray) (.agg (rowL 25 pf).toArray)) W = .ok true W := fun W => by rw [eq25_run, (rowEq_iff 25 pf pf).2 fun _ _ => rfl]
  have e3 := eq25_run pf pg
  have e4 := eq25_run u v
  have e5 := EQ.out
  generalize rowEq 25 pf pg = q1 at *
  generalize rowEq 25 u v = q2 at *
  try dsimp only [Act.put]
  refine wp_region_quiet_lit (by kernel_rfl) (by kernel_rfl) ?_
  repeat (first
    | (refine quiet25 u (w.heap.size) _ rfl rfl RA.out ?_ ?_; rfl; go_simp)
    | (refine quiet25 v (w.heap.size + 1) _ rfl rfl RB.out ?_ ?_; rfl; go_simp)
    | (refine quiet25 u (v1.heap.size) _ rfl rfl RC.out ?_ ?_; rfl; go_simp)
    | (refine quiet25 pf (v3.heap.size) _ rfl rfl RX.out ?_ ?_; rfl; go_simp)
    | (refine quiet25 pg (v5.heap.size) _ rfl rfl RY.out ?_ ?_; rfl; go_simp)
    | (refine quiet25 pf (v7.heap.size) _ rfl rfl RZ.out ?_ ?_; rfl; go_simp)
    | go_big_quiet_step (fail))
  refine wpQuiet_nil ?_
  intro nq
  go_wp2
  go_ret
  exact ⟨rfl, bdrewN W8.out nq⟩
end Go.Proofs.YteggikojfkmbkaaDoor
