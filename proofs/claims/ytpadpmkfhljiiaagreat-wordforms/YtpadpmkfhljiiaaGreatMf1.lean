/- Plain arithmetic of 256-bit words as four limbs of 64 bits: no condition, no Go text. -/
import Derived.Below
import Derived.Laws.BitsAllLaws
import Derived.Test.YtpadpmkfhljiiaaGreatRows
import Derived.WalkKit
import Derived.ProofKit
import Derived.OpenShut
import Derived.ChangeOld
import Derived.Lib.SmallJoins
import Derived.WalkSpells
import Derived.WalkLawsBesides
import Derived.Deep.QuietTactic
import Derived.BigQuiet
import Derived.Lib.BitFns
import Derived.Lib.ItoaNum
import Derived.OwnWalk
import Derived.Laws.AppendOwnNone
import Derived.Laws.OwnMore
import Derived.Deep.CutRange
import Derived.Deep.DeepCutAuto
import Derived.Shelf.Small.Bits
import Derived.Deep.RegionWith
import Derived.Deep.RegionHeld3
namespace Go.Proofs.YtpadpmkfhljiiaaGreat
open Go.RowKit

/-- 2^64 and 2^256. -/
def Bd : Int := 18446744073709551616
def MM : Int := 115792089237316195423570985008687907853269984665640564039457584007913129639936
def U64 (x : Int) : Prop := 0 ≤ x ∧ x < Bd
/-- the number of four limbs, the lowest first -/
def V (a0 a1 a2 a3 : Int) : Int := a0 + Bd * (a1 + Bd * (a2 + Bd * a3))
/-- these four limbs are the word of the number v, modulo 2^256 -/
def IsW (v a0 a1 a2 a3 : Int) : Prop := (U64 a0 ∧ U64 a1 ∧ U64 a2 ∧ U64 a3) ∧ V a0 a1 a2 a3 = v % MM

theorem V_range {a0 a1 a2 a3 : Int} (h0 : U64 a0) (h1 : U64 a1) (h2 : U64 a2) (h3 : U64 a3) : 0 ≤ V a0 a1 a2 a3 ∧ V a0 a1 a2 a3 < MM := by
  unfold V U64 Bd MM at *; omega
theorem isW_mk {a0 a1 a2 a3 : Int} (h0 : U64 a0) (h1 : U64 a1) (h2 : U64 a2) (h3 : U64 a3) : IsW (V a0 a1 a2 a3) a0 a1 a2 a3 :=
  ⟨⟨h0, h1, h2, h3⟩, (Int.emod_eq_of_lt (V_range h0 h1 h2 h3).1 (V_range h0 h1 h2 h3).2).symm⟩
theorem isW_of {v a0 a1 a2 a3 : Int} (h0 : U64 a0) (h1 : U64 a1) (h2 : U64 a2) (h3 : U64 a3) (q : Int) (h : v = V a0 a1 a2 a3 + MM * q) : IsW v a0 a1 a2 a3 :=
  ⟨⟨h0, h1, h2, h3⟩, by rw [h, Int.add_mul_emod_self_left]; exact (Int.emod_eq_of_lt (V_range h0 h1 h2 h3).1 (V_range h0 h1 h2 h3).2).symm⟩
theorem IsW.u0 {v a0 a1 a2 a3 : Int} (h : IsW v a0 a1 a2 a3) : U64 a0 := h.1.1
theorem IsW.u1 {v a0 a1 a2 a3 : Int} (h : IsW v a0 a1 a2 a3) : U64 a1 := h.1.2.1
theorem IsW.u2 {v a0 a1 a2 a3 : Int} (h : IsW v a0 a1 a2 a3) : U64 a2 := h.1.2.2.1
theorem IsW.u3 {v a0 a1 a2 a3 : Int} (h : IsW v a0 a1 a2 a3) : U64 a3 := h.1.2.2.2
theorem IsW.range {v a0 a1 a2 a3 : Int} (h : IsW v a0 a1 a2 a3) : 0 ≤ V a0 a1 a2 a3 ∧ V a0 a1 a2 a3 < MM := V_range h.u0 h.u1 h.u2 h.u3
/-- limbs are told by the number -/
theorem V_inj {a0 a1 a2 a3 b0 b1 b2 b3 : Int} (ha0 : U64 a0) (ha1 : U64 a1) (ha2 : U64 a2) (_ha3 : U64 a3) (hb0 : U64 b0) (hb1 : U64 b1) (hb2 : U64 b2) (_hb3 : U64 b3)
    (h : V a0 a1 a2 a3 = V b0 b1 b2 b3) : a0 = b0 ∧ a1 = b1 ∧ a2 = b2 ∧ a3 = b3 := by
  unfold V U64 Bd at *; omega
theorem IsW.eq {u v a0 a1 a2 a3 b0 b1 b2 b3 : Int} (h : IsW u a0 a1 a2 a3) (k : IsW v b0 b1 b2 b3) (e : u % MM = v % MM) : a0 = b0 ∧ a1 = b1 ∧ a2 = b2 ∧ a3 = b3 :=
  V_inj h.u0 h.u1 h.u2 h.u3 k.u0 k.u1 k.u2 k.u3 (by rw [h.2, k.2, e])
theorem IsW.ne {u v a0 a1 a2 a3 b0 b1 b2 b3 : Int} (h : IsW u a0 a1 a2 a3) (k : IsW v b0 b1 b2 b3) (e : u % MM ≠ v % MM) : ¬ (a0 = b0 ∧ a1 = b1 ∧ a2 = b2 ∧ a3 = b3) := by
  rintro ⟨rfl, rfl, rfl, rfl⟩; exact e (h.2.symm.trans k.2)
/-- the equality of two words, as the walk takes it -/
def eqw (a0 a1 a2 a3 b0 b1 b2 b3 : Int) : Bool := (a0 == b0 && (a1 == b1 && (a2 == b2 && a3 == b3)))
theorem eqw_iff (a0 a1 a2 a3 b0 b1 b2 b3 : Int) : eqw a0 a1 a2 a3 b0 b1 b2 b3 = true ↔ (a0 = b0 ∧ a1 = b1 ∧ a2 = b2 ∧ a3 = b3) := by
  simp [eqw]
theorem IsW.eqw {u v a0 a1 a2 a3 b0 b1 b2 b3 : Int} (h : IsW u a0 a1 a2 a3) (k : IsW v b0 b1 b2 b3) : eqw a0 a1 a2 a3 b0 b1 b2 b3 = decide (u % MM = v % MM) := by
  by_cases e : u % MM = v % MM
  · rw [(eqw_iff ..).2 (h.eq k e)]; simp [e]
  · have := h.ne k e
    rw [← eqw_iff] at this
    simp [e, this]
theorem u64_lit (n : Int) (h0 : 0 ≤ n) (h1 : n < 18446744073709551616) : U64 n := ⟨h0, h1⟩
theorem isW_lit (n : Int) (h0 : 0 ≤ n) (h1 : n < 18446744073709551616) : IsW n n 0 0 0 :=
  isW_of (u64_lit n h0 h1) (u64_lit 0 (by omega) (by omega)) (u64_lit 0 (by omega) (by omega)) (u64_lit 0 (by omega) (by omega)) 0 (by unfold V Bd MM; omega)
theorem isW_0 : IsW 0 0 0 0 0 := isW_lit 0 (by omega) (by omega)
theorem isW_2 : IsW 2 2 0 0 0 := isW_lit 2 (by omega) (by omega)
theorem isW_4 : IsW 4 4 0 0 0 := isW_lit 4 (by omega) (by omega)
theorem isW_add {x y a0 a1 a2 a3 b0 b1 b2 b3 s0 s1 s2 s3 c : Int} (h : IsW x a0 a1 a2 a3) (k : IsW y b0 b1 b2 b3) (h0 : U64 s0) (h1 : U64 s1) (h2 : U64 s2) (h3 : U64 s3)
    (e : V a0 a1 a2 a3 + V b0 b1 b2 b3 = V s0 s1 s2 s3 + MM * c) : IsW (x + y) s0 s1 s2 s3 := by
  refine ⟨⟨h0, h1, h2, h3⟩, ?_⟩
  rw [Int.add_emod, ← h.2, ← k.2, e, Int.add_mul_emod_self_left, Int.emod_eq_of_lt (V_range h0 h1 h2 h3).1 (V_range h0 h1 h2 h3).2]
/-- a chain of carries -/
theorem carry4 {a0 a1 a2 a3 b0 b1 b2 b3 s0 s1 s2 s3 c1 c2 c3 c4 : Int} (e0 : a0 + b0 + 0 = s0 + Bd * c1) (e1 : a1 + b1 + c1 = s1 + Bd * c2) (e2 : a2 + b2 + c2 = s2 + Bd * c3) (e3 : a3 + b3 + c3 = s3 + Bd * c4) :
    V a0 a1 a2 a3 + V b0 b1 b2 b3 = V s0 s1 s2 s3 + MM * c4 := by
  unfold V Bd MM at *; omega
/-- the place of a member of a list that is written out -/
theorem mm0 {α : Type} {x : α} {l : List α} : x ∈ x :: l := List.Mem.head _
theorem mm1 {α : Type} {a0 x : α} {l : List α} : x ∈ a0 :: x :: l := List.Mem.tail _ (List.Mem.head _)
theorem mm2 {α : Type} {a0 a1 x : α} {l : List α} : x ∈ a0 :: a1 :: x :: l := List.Mem.tail _ (List.Mem.tail _ (List.Mem.head _))
theorem mm3 {α : Type} {a0 a1 a2 x : α} {l : List α} : x ∈ a0 :: a1 :: a2 :: x :: l := List.Mem.tail _ (List.Mem.tail _ (List.Mem.tail _ (List.Mem.head _)))
theorem mm4 {α : Type} {a0 a1 a2 a3 x : α} {l : List α} : x ∈ a0 :: a1 :: a2 :: a3 :: x :: l := List.Mem.tail _ (List.Mem.tail _ (List.Mem.tail _ (List.Mem.tail _ (List.Mem.head _))))
theorem mm5 {α : Type} {a0 a1 a2 a3 a4 x : α} {l : List α} : x ∈ a0 :: a1 :: a2 :: a3 :: a4 :: x :: l := List.Mem.tail _ (List.Mem.tail _ (List.Mem.tail _ (List.Mem.tail _ (List.Mem.tail _ (List.Mem.head _)))))
theorem mm6 {α : Type} {a0 a1 a2 a3 a4 a5 x : α} {l : List α} : x ∈ a0 :: a1 :: a2 :: a3 :: a4 :: a5 :: x :: l := List.Mem.tail _ (List.Mem.tail _ (List.Mem.tail _ (List.Mem.tail _ (List.Mem.tail _ (List.Mem.tail _ (List.Mem.head _))))))
theorem mm7 {α : Type} {a0 a1 a2 a3 a4 a5 a6 x : α} {l : List α} : x ∈ a0 :: a1 :: a2 :: a3 :: a4 :: a5 :: a6 :: x :: l := List.Mem.tail _ (List.Mem.tail _ (List.Mem.tail _ (List.Mem.tail _ (List.Mem.tail _ (List.Mem.tail _ (List.Mem.tail _ (List.Mem.head _)))))))
theorem mm8 {α : Type} {a0 a1 a2 a3 a4 a5 a6 a7 x : α} {l : List α} : x ∈ a0 :: a1 :: a2 :: a3 :: a4 :: a5 :: a6 :: a7 :: x :: l := List.Mem.tail _ (List.Mem.tail _ (List.Mem.tail _ (List.Mem.tail _ (List.Mem.tail _ (List.Mem.tail _ (List.Mem.tail _ (List.Mem.tail _ (List.Mem.head _))))))))
end Go.Proofs.YtpadpmkfhljiiaaGreat
/- The frame of the laws over words: how an argument of type Word reads, and what carries it behind the call. -/
namespace Go.Proofs.YtpadpmkfhljiiaaGreat
open Go.ChangeShapes Go.WideShapes Go.ChangeAt Go.RowKit

theorem Tryz.own : ownKnob Tryz.prog.godebug = none := by kernel_rfl
theorem Tryz.laidOut : laidOutB Tryz.prog = true := by kernel_rfl

theorem okWide_arr {P : Program} {w : World} {r : Reach} {base n : Nat} {t e : TypeId} {v : Value} (ht : P.underlying t = some (.array n e)) (h : Value.okWide P w r base t v) : ∃ cs, v = .agg cs ∧ cs.size = P.cellsOf t := by
  simp only [Value.okWide, ht] at h
  obtain ⟨cs, h1, h2, _⟩ := h
  exact ⟨cs, h1, h2⟩
theorem cells24 : Tryz.prog.cellsOf 24 = 4 := by kernel_rfl
theorem cells22 : Tryz.prog.cellsOf 22 = 1 := by kernel_rfl
set_option maxRecDepth 100000 in
theorem openW {H : Type} {enc : TypeId × Value → H} {W : World} {base b0 : Nat} {r : Reach} {spare : Nat → Bool} {held : Bool} {v : Value} {d : DataW H} {ps : List MemPlace}
    (hv : Value.okWide Tryz.prog W r b0 24 v) (h : DataW.Trod enc Tryz.prog W base spare held 24 v d ps) :
    ∃ a0 a1 a2 a3 : Int, v = .agg #[.int .u64 a0, .int .u64 a1, .int .u64 a2, .int .u64 a3] ∧ U64 a0 ∧ U64 a1 ∧ U64 a2 ∧ U64 a3 := by
  obtain ⟨cs, rfl, hsz⟩ := okWide_arr Tryz.underlying24 hv
  obtain ⟨c0, c1, c2, c3, rfl⟩ := Joins.array4 (hsz.trans cells24)
  obtain ⟨fuel, hf⟩ := h
  obtain ⟨xs, m, _, _, _, hxs, hel⟩ := DataW.trod_array Tryz.underlying24 hf
  have get : ∀ (i : Nat) (hi : i < 4), ∃ n, [#[c0, c1, c2, c3][i]] = [Value.int .u64 n] ∧ U64 n := by
    intro i hi
    have he := hel i hi
    rw [cells22] at he
    have hx : xs[i]? = some xs[i] := List.getElem?_eq_getElem (by omega)
    rw [hx] at he
    obtain ⟨n, hn, _, hw⟩ := DataW.trod_int Tryz.underlying22 he
    have hb := bounds_u64 hw
    refine ⟨n, ?_, hb.1, ?_⟩
    · rw [← hn]
      have : i = 0 ∨ i = 1 ∨ i = 2 ∨ i = 3 := by omega
      rcases this with rfl | rfl | rfl | rfl <;> simp [Value.cells]
    · unfold Bd; omega
  obtain ⟨a0, e0, u0⟩ := get 0 (by omega)
  obtain ⟨a1, e1, u1⟩ := get 1 (by omega)
  obtain ⟨a2, e2, u2⟩ := get 2 (by omega)
  obtain ⟨a3, e3, u3⟩ := get 3 (by omega)
  simp at e0 e1 e2 e3
  subst e0 e1 e2 e3
  exact ⟨a0, a1, a2, a3, rfl, u0, u1, u2, u3⟩
end Go.Proofs.YtpadpmkfhljiiaaGreat
/- What the leaves of package word do to the world, for every word: sums, differences, comparisons, equality. No condition but that limbs are numbers of 64 bits. -/
namespace Go.Proofs.YtpadpmkfhljiiaaGreat
open Go.RowKit

theorem bdrewN {B : Nat} {a w : World} (h : Below B a w) (n : Nat) : Below B a (w.drewN n) := h.trans ⟨rfl, rfl, rfl, Nat.le_refl _, fun _ _ => rfl⟩
theorem ret_int {k : IntKind} {a b : Int} (h : a = b) : Ending.returned (.int k a) = .returned (.int k b) := by rw [h]
theorem ret_bool {a b : Bool} (h : a = b) : Ending.returned (.bool a) = .returned (.bool b) := by rw [h]
-- bits.Add64, bits.Sub64: run by the model
theorem add64_run (x y c : Int) (hx : 0 ≤ x) (hy : 0 ≤ y) (hc0 : 0 ≤ c) (hc : c ≤ 1) (w : World) :
    (callFunc 122 #[.int .u64 x, .int .u64 y, .int .u64 c]).run Tryz.prog w = .ok (.value (.tuple #[.int .u64 ((x + y + c) % 18446744073709551616), .int .u64 ((x + y + c) / 18446744073709551616)])) w := by
  rw [run_callFunc_extern (e := add64Entry) Tryz.func122 (by kernel_rfl) (by kernel_rfl) (by kernel_rfl) (by kernel_rfl)]
  rw [run_add64 x y c hx hy hc0 hc w]
  rfl
theorem add64_ex (x y c : Int) (hx : U64 x) (hy : U64 y) (hc0 : 0 ≤ c) (hc : c ≤ 1) : ∃ s d : Int, (∀ W : World, (callFunc 122 #[.int .u64 x, .int .u64 y, .int .u64 c]).run Tryz.prog W = .ok (.value (.tuple #[.int .u64 s, .int .u64 d])) W) ∧ Hid (x + y + c = s + Bd * d) ∧ U64 s ∧ 0 ≤ d ∧ d ≤ 1 := by
  refine ⟨_, _, fun W => add64_run x y c hx.1 hy.1 hc0 hc W, ?_, ?_, ?_, ?_⟩ <;> simp only [Hid, U64, Bd] at * <;> omega
-- the equality of words
theorem eq64_run (k : Nat) (x y : Int) (W : World) : Sem.run Tryz.prog (Op.equalIn (k+1) 22 (.int .u64 x) (.int .u64 y)) W = .ok (x == y) W := by
  simp [Op.equalIn, run_underlying Tryz.underlying22]
theorem size64 (W : World) : Sem.run Tryz.prog (sizeOf 22) W = .ok 1 W := by kernel_rfl
theorem part0 (a0 a1 a2 a3 : Int) (W : World) : Sem.run Tryz.prog (part 22 #[.int .u64 a0, .int .u64 a1, .int .u64 a2, .int .u64 a3] 0) W = .ok (.int .u64 a0) W := by kernel_rfl
theorem part1 (a0 a1 a2 a3 : Int) (W : World) : Sem.run Tryz.prog (part 22 #[.int .u64 a0, .int .u64 a1, .int .u64 a2, .int .u64 a3] 1) W = .ok (.int .u64 a1) W := by kernel_rfl
theorem part2 (a0 a1 a2 a3 : Int) (W : World) : Sem.run Tryz.prog (part 22 #[.int .u64 a0, .int .u64 a1, .int .u64 a2, .int .u64 a3] 2) W = .ok (.int .u64 a2) W := by kernel_rfl
theorem part3 (a0 a1 a2 a3 : Int) (W : World) : Sem.run Tryz.prog (part 22 #[.int .u64 a0, .int .u64 a1, .int .u64 a2, .int .u64 a3] 3) W = .ok (.int .u64 a3) W := by kernel_rfl
set_option maxRecDepth 100000 in
theorem eqw_run (a0 a1 a2 a3 b0 b1 b2 b3 : Int) (W : World) : Sem.run Tryz.prog (Op.equalIn 10000 24 (.agg #[.int .u64 a0, .int .u64 a1, .int .u64 a2, .int .u64 a3]) (.agg #[.int .u64 b0, .int .u64 b1, .int .u64 b2, .int .u64 b3])) W = .ok (eqw a0 a1 a2 a3 b0 b1 b2 b3) W := by
  rw [show (10000 : Nat) = 9998 + 1 + 1 from rfl, Op.equalIn]
  simp only [Sem.run_bind, run_underlying Tryz.underlying24, Result.andThen_ok, size64, Std.Legacy.Range.forIn_eq_forIn_range', Std.Legacy.Range.size]
  simp [List.range', part0, part1, part2, part3, eq64_run, eqw]
  by_cases h0 : a0 = b0 <;> by_cases h1 : a1 = b1 <;> by_cases h2 : a2 = b2 <;> by_cases h3 : a3 = b3 <;> simp [h0, h1, h2, h3]

set_option maxHeartbeats 400000 in
set_option maxRecDepth 100000 in
theorem addCarry_any (x y : Int) (a0 a1 a2 a3 b0 b1 b2 b3 : Int) (w : World) (ha : IsW x a0 a1 a2 a3) (hb : IsW y b0 b1 b2 b3) :
    Calls Tryz.prog 76 #[.agg #[.int .u64 a0, .int .u64 a1, .int .u64 a2, .int .u64 a3], .agg #[.int .u64 b0, .int .u64 b1, .int .u64 b2, .int .u64 b3]] w fun e w' => ∃ s0 s1 s2 s3 c : Int, e = .returned (.tuple #[.agg #[.int .u64 s0, .int .u64 s1, .int .u64 s2, .int .u64 s3], .int .u64 c]) ∧ IsW (x + y) s0 s1 s2 s3 ∧ V a0 a1 a2 a3 + V b0 b1 b2 b3 = V s0 s1 s2 s3 + MM * c ∧ 0 ≤ c ∧ c ≤ 1 ∧ Below w.heap.size w w' := by
  obtain ⟨s0, c1, r0, e0, u0, l0, m0⟩ := add64_ex a0 b0 0 ha.u0 hb.u0 (by omega) (by omega)
  obtain ⟨s1, c2, r1, e1, u1, l1, m1⟩ := add64_ex a1 b1 c1 ha.u1 hb.u1 (by omega) (by omega)
  obtain ⟨s2, c3, r2, e2, u2, l2, m2⟩ := add64_ex a2 b2 c2 ha.u2 hb.u2 (by omega) (by omega)
  obtain ⟨s3, c4, r3, e3, u3, l3, m3⟩ := add64_ex a3 b3 c3 ha.u3 hb.u3 (by omega) (by omega)
  go_enter Tryz.func76, Tryz.ntmps76
  go_wp2
  refine wp_loop_rounds 5 ?_
  rw [rounds_succ]
  go_wp2
  go_region
  go_wp2
  rw [rounds_succ]
  go_wp2
  go_region
  go_wp2
  rw [rounds_succ]
  go_wp2
  go_region
  go_wp2
  rw [rounds_succ]
  go_wp2
  go_region
  go_wp2
  rw [rounds_succ]
  go_wp2
  have ce := carry4 e0.out e1.out e2.out e3.out
  exact bodyPost_ret (v := .tuple #[.agg #[.int .u64 s0, .int .u64 s1, .int .u64 s2, .int .u64 s3], .int .u64 c4]) (by simp [results, Tryz.results76, go_sem]) rfl
    ⟨s0, s1, s2, s3, c4, rfl, isW_add ha hb u0 u1 u2 u3 ce, ce, l3, m3, by repeat' (first | with_reducible exact Below.refl _ _ | with_reducible exact Below.refl _ _ | with_reducible refine Below.drew ?_ | with_reducible refine bdrewN ?_ _ | with_reducible refine Below.alloc ?_ ?_ _ | with_reducible refine Below.setCell ?_ ?_ _ | omega | (simp; done) | (simp; omega))⟩

set_option maxHeartbeats 400000 in
set_option maxRecDepth 100000 in
theorem add_any (x y : Int) (a0 a1 a2 a3 b0 b1 b2 b3 : Int) (w : World) (ha : IsW x a0 a1 a2 a3) (hb : IsW y b0 b1 b2 b3) :
    Calls Tryz.prog 11 #[.agg #[.int .u64 a0, .int .u64 a1, .int .u64 a2, .int .u64 a3], .agg #[.int .u64 b0, .int .u64 b1, .int .u64 b2, .int .u64 b3]] w fun e w' => ∃ s0 s1 s2 s3 : Int, e = .returned (.agg #[.int .u64 s0, .int .u64 s1, .int .u64 s2, .int .u64 s3]) ∧ IsW (x + y) s0 s1 s2 s3 ∧ Below w.heap.size w w' := by
  go_enter Tryz.func11, Tryz.ntmps11
  go_wp2_with fail
  refine (addCarry_any x y _ _ _ _ _ _ _ _ _ ha hb).mono ?_
  rintro e w1 ⟨s0, s1, s2, s3, c, rfl, hs, hc, hc0, hc1, hB⟩
  clear hc
  have z1 : w.heap.size + 1 + 1 < w1.heap.size := by have := hB.size; simp at this; omega
  have k20 : w1.cell? ⟨w.heap.size + 1 + 1, 0, none⟩ = some (.int .u64 0) := (hB.cell (p := ⟨w.heap.size + 1 + 1, 0, none⟩) (by first | omega | (simp; done) | (simp; omega))).trans (by go_simp)
  have k21 : w1.cell? ⟨w.heap.size + 1 + 1, 1, none⟩ = some (.int .u64 0) := (hB.cell (p := ⟨w.heap.size + 1 + 1, 1, none⟩) (by first | omega | (simp; done) | (simp; omega))).trans (by go_simp)
  have k22 : w1.cell? ⟨w.heap.size + 1 + 1, 2, none⟩ = some (.int .u64 0) := (hB.cell (p := ⟨w.heap.size + 1 + 1, 2, none⟩) (by first | omega | (simp; done) | (simp; omega))).trans (by go_simp)
  have k23 : w1.cell? ⟨w.heap.size + 1 + 1, 3, none⟩ = some (.int .u64 0) := (hB.cell (p := ⟨w.heap.size + 1 + 1, 3, none⟩) (by first | omega | (simp; done) | (simp; omega))).trans (by go_simp)
  have f20 : w1.frozen? ⟨w.heap.size + 1 + 1, 0, none⟩ = false := (hB.frozen (p := ⟨w.heap.size + 1 + 1, 0, none⟩) (by first | omega | (simp; done) | (simp; omega))).trans (by go_simp)
  have f21 : w1.frozen? ⟨w.heap.size + 1 + 1, 1, none⟩ = false := (hB.frozen (p := ⟨w.heap.size + 1 + 1, 1, none⟩) (by first | omega | (simp; done) | (simp; omega))).trans (by go_simp)
  have f22 : w1.frozen? ⟨w.heap.size + 1 + 1, 2, none⟩ = false := (hB.frozen (p := ⟨w.heap.size + 1 + 1, 2, none⟩) (by first | omega | (simp; done) | (simp; omega))).trans (by go_simp)
  have f23 : w1.frozen? ⟨w.heap.size + 1 + 1, 3, none⟩ = false := (hB.frozen (p := ⟨w.heap.size + 1 + 1, 3, none⟩) (by first | omega | (simp; done) | (simp; omega))).trans (by go_simp)
  have B1 : Below w.heap.size w w1 := Below.trans (by repeat' (first | with_reducible exact Below.refl _ _ | with_reducible exact Below.refl _ _ | with_reducible refine Below.drew ?_ | with_reducible refine bdrewN ?_ _ | with_reducible refine Below.alloc ?_ ?_ _ | with_reducible refine Below.setCell ?_ ?_ _ | omega | (simp; done) | (simp; omega))) (hB.mono (by first | omega | (simp; done) | (simp; omega)))
  clear hB
  go_wp2
  exact bodyPost_ret (v := .agg #[.int .u64 s0, .int .u64 s1, .int .u64 s2, .int .u64 s3]) (by simp [results, Tryz.results11, go_sem, k20, k21, k22, k23, z1]) rfl
    ⟨s0, s1, s2, s3, rfl, hs, by repeat' (first | with_reducible exact B1 | with_reducible exact Below.refl _ _ | with_reducible refine Below.drew ?_ | with_reducible refine bdrewN ?_ _ | with_reducible refine Below.alloc ?_ ?_ _ | with_reducible refine Below.setCell ?_ ?_ _ | omega | (simp; done) | (simp; omega))⟩

end Go.Proofs.YtpadpmkfhljiiaaGreat
/- Plain numbers: how many bits a word has, and powers bit by bit. -/
namespace Go.Proofs.YtpadpmkfhljiiaaGreat
/-- the four limbs as a function -/
def limb (a0 a1 a2 a3 : Int) (i : Nat) : Int := if i = 0 then a0 else if i = 1 then a1 else if i = 2 then a2 else a3
theorem limb_u64 {a0 a1 a2 a3 : Int} (h0 : U64 a0) (h1 : U64 a1) (h2 : U64 a2) (h3 : U64 a3) (i : Nat) : U64 (limb a0 a1 a2 a3 i) := by
  unfold limb; split
  · exact h0
  · split
    · exact h1
    · split
      · exact h2
      · exact h3
theorem scaled {m p q x lo : Int} (hm : 0 < m) (h0 : 0 ≤ lo) (h1 : lo < m) (hp : p ≤ x) (hq : x < q) : m * p ≤ lo + m * x ∧ lo + m * x < m * q := by
  have e1 := Int.mul_le_mul_of_nonneg_left hp (Int.le_of_lt hm)
  have e2 := Int.mul_le_mul_of_nonneg_left (show x + 1 ≤ q by omega) (Int.le_of_lt hm)
  rw [Int.mul_add, Int.mul_one] at e2
  omega
theorem bitLen_range (x : Nat) (h : x < 18446744073709551616) (h0 : x ≠ 0) : 1 ≤ Lib.bitLen x ∧ 2 ^ (Lib.bitLen x - 1) ≤ x ∧ x < 2 ^ Lib.bitLen x ∧ Lib.bitLen x ≤ 64 := by
  obtain ⟨a, b, c⟩ := Lib.bitLenAux_bounds 64 x h h0
  exact ⟨a, b, c, Lib.bitLen_le x 64 (by omega) h⟩
/-- B is how many bits v has -/
def BitsOf (v : Int) (B : Nat) : Prop := v < 2 ^ B ∧ (0 < B → (2 : Int) ^ (B - 1) ≤ v)
theorem bits_limb {a0 a1 a2 a3 : Int} (h0 : U64 a0) (h1 : U64 a1) (h2 : U64 a2) (h3 : U64 a3) (k : Nat) (hk : k ≤ 4) (hne : 0 < k → limb a0 a1 a2 a3 (k - 1) ≠ 0) (hz : ∀ i, k ≤ i → i < 4 → limb a0 a1 a2 a3 i = 0) :
    BitsOf (V a0 a1 a2 a3) (if k = 0 then 0 else 64 * (k - 1) + Lib.bitLen (limb a0 a1 a2 a3 (k - 1)).toNat) := by
  obtain ⟨h00, h01⟩ := h0
  obtain ⟨h10, h11⟩ := h1
  obtain ⟨h20, h21⟩ := h2
  obtain ⟨h30, h31⟩ := h3
  unfold Bd at h01 h11 h21 h31
  by_cases e0 : k = 0
  · subst e0
    have z0 := hz 0 (by omega) (by omega)
    have z1 := hz 1 (by omega) (by omega)
    have z2 := hz 2 (by omega) (by omega)
    have z3 := hz 3 (by omega) (by omega)
    simp only [limb] at z0 z1 z2 z3
    simp at z0 z1 z2 z3
    subst z0 z1 z2 z3
    simp [BitsOf, V, Bd]
  · rw [if_neg e0]
    have hl : ∀ x : Int, 0 ≤ x → x < 18446744073709551616 → x ≠ 0 → 1 ≤ Lib.bitLen x.toNat ∧ (2 : Int) ^ (Lib.bitLen x.toNat - 1) ≤ x ∧ x < 2 ^ Lib.bitLen x.toNat := fun x h0 h1 hn => by
      obtain ⟨a, b, c, _⟩ := bitLen_range x.toNat (by omega) (by omega)
      refine ⟨a, ?_, ?_⟩
      · have : (2 : Int) ^ (Lib.bitLen x.toNat - 1) ≤ (x.toNat : Int) := by exact_mod_cast b
        omega
      · have : (x.toNat : Int) < (2 : Int) ^ Lib.bitLen x.toNat := by exact_mod_cast c
        omega
    have fin : ∀ (m : Nat) (x lo : Int), 0 ≤ x → x < 18446744073709551616 → x ≠ 0 → 0 ≤ lo → lo < 2 ^ m → V a0 a1 a2 a3 = lo + 2 ^ m * x → BitsOf (V a0 a1 a2 a3) (m + Lib.bitLen x.toNat) := fun m x lo hx0 hx1 hn l0 l1 hv => by
      obtain ⟨a, b, c⟩ := hl x hx0 hx1 hn
      obtain ⟨r1, r2⟩ := scaled (show (0 : Int) < 2 ^ m from Int.pow_pos (by omega)) l0 l1 b c
      rw [← hv, ← Int.pow_add] at r1 r2
      exact ⟨r2, fun _ => by rw [show m + Lib.bitLen x.toNat - 1 = m + (Lib.bitLen x.toNat - 1) by omega]; exact r1⟩
    have hn := hne (by omega)
    obtain rfl | rfl | rfl | rfl : k = 1 ∨ k = 2 ∨ k = 3 ∨ k = 4 := by omega
    · have z1 := hz 1 (by omega) (by omega)
      have z2 := hz 2 (by omega) (by omega)
      have z3 := hz 3 (by omega) (by omega)
      simp [limb] at z1 z2 z3 hn
      subst z1 z2 z3
      exact fin 0 a0 0 h00 h01 hn (by omega) (by decide) (by simp [V, Bd])
    · have z2 := hz 2 (by omega) (by omega)
      have z3 := hz 3 (by omega) (by omega)
      simp [limb] at z2 z3 hn
      subst z2 z3
      exact fin 64 a1 a0 h10 h11 hn h00 (by omega) (by simp only [V, Bd]; omega)
    · have z3 := hz 3 (by omega) (by omega)
      simp [limb] at z3 hn
      subst z3
      exact fin 128 a2 (a0 + 18446744073709551616 * a1) h20 h21 hn (by omega) (by omega) (by simp only [V, Bd]; omega)
    · simp [limb] at hn
      exact fin 192 a3 (a0 + 18446744073709551616 * (a1 + 18446744073709551616 * a2)) h30 h31 hn (by omega) (by omega) (by simp only [V, Bd]; omega)
end Go.Proofs.YtpadpmkfhljiiaaGreat
/- The document's numbers: rows of digits of base 256. -/
namespace Go.Proofs.YtpadpmkfhljiiaaGreat
open Go.RowKit
/-- the number of the first n digits -/
def dsum (d : Nat → Nat) : Nat → Nat
  | 0 => 0
  | n + 1 => dsum d n + d n * 256 ^ n
theorem dsum_lt {d : Nat → Nat} (h : ∀ i, d i < 256) : ∀ n, dsum d n < 256 ^ n
  | 0 => by simp [dsum]
  | n + 1 => by
    have h1 := dsum_lt h n
    have h2 : (d n + 1) * 256 ^ n ≤ 256 * 256 ^ n := Nat.mul_le_mul_right _ (h n)
    rw [Nat.add_mul, Nat.one_mul] at h2
    rw [dsum, Nat.pow_succ, Nat.mul_comm (256 ^ n) 256]; omega
theorem dsum_ext {d e : Nat → Nat} : ∀ n, (∀ i, i < n → d i = e i) → dsum d n = dsum e n
  | 0, _ => rfl
  | n + 1, h => by rw [dsum, dsum, dsum_ext n (fun i hi => h i (by omega)), h n (by omega)]
theorem dsum_more {d : Nat → Nat} {n : Nat} (h : ∀ i, n ≤ i → d i = 0) : ∀ m, n ≤ m → dsum d m = dsum d n
  | 0, hm => by rw [show n = 0 by omega]
  | m + 1, hm => by
    by_cases e : n = m + 1
    · rw [e]
    · rw [dsum, h m (by omega), Nat.zero_mul, Nat.add_zero, dsum_more h m (by omega)]
theorem dsum_zero {d : Nat → Nat} : ∀ n, (∀ i, i < n → d i = 0) → dsum d n = 0
  | 0, _ => rfl
  | n + 1, h => by rw [dsum, dsum_zero n (fun i hi => h i (by omega)), h n (by omega)]; simp
/-- the digits of a number -/
def dig (X : Nat) (i : Nat) : Nat := if i < 32 then X / 256 ^ i % 256 else 0
theorem dig_lt (X i : Nat) : dig X i < 256 := by unfold dig; split <;> omega
/-- the value is a row of these n digits -/
def RowAt (W : World) (v : Value) (n : Nat) (d : Nat → Nat) : Prop := (∀ i, n ≤ i → d i = 0) ∧ (∀ i, d i < 256) ∧ n ≤ 1073741824 ∧ ∃ ad cap, v = .slice ad n cap ∧ (n ≠ 0 → ∃ g o, ad = some ⟨g, o, none⟩ ∧ ∀ i, i < n → W.cell? ⟨g, o + i, none⟩ = some (.int .i64 (d i : Int)))
theorem RowAt.below {W W' : World} {v : Value} {n : Nat} {d : Nat → Nat} (h : RowAt W v n d) (k : Below W.heap.size W W') : RowAt W' v n d := by
  obtain ⟨h1, h2, h3, ad, cap, e, hc⟩ := h
  refine ⟨h1, h2, h3, ad, cap, e, fun hn => ?_⟩
  obtain ⟨g, o, e1, hc⟩ := hc hn
  exact ⟨g, o, e1, fun i hi => (k.cell (p := ⟨g, o + i, none⟩) (World.block_lt_of_cell? W _ (hc i hi))).trans (hc i hi)⟩
def intsD (d : Nat → Nat) (n : Nat) : List Value := (List.range n).map fun i => .int .i64 (d i : Int)
theorem intsD_snoc (d : Nat → Nat) (n : Nat) : intsD d (n + 1) = intsD d n ++ [.int .i64 (d n : Int)] := by simp [intsD, List.range_succ]
theorem intsD_at (d : Nat → Nat) (n i : Nat) (h : i < n) : (intsD d n)[i]? = some (.int .i64 (d i : Int)) := by simp [intsD, h]
theorem RowAt.own {W : World} {B n : Nat} {v : Value} {d : Nat → Nat} (h : W.ownsRow B 3 1 v n (intsD d n)) (hd : ∀ i, d i < 256) (hz : ∀ i, n ≤ i → d i = 0) (hn : n ≤ 1073741824) : RowAt W v n d := by
  have h' := h
  obtain ⟨_, ⟨rfl, rfl⟩ | ⟨g, c, cur, rfl, hb, hh, _⟩⟩ := h'
  · exact ⟨hz, hd, hn, none, 0, rfl, fun e => absurd rfl e⟩
  · exact ⟨hz, hd, hn, _, c, rfl, fun _ => ⟨g, 0, rfl, fun i hi => by rw [Nat.zero_add, h.cellAt i (by omega), intsD_at d n i hi]⟩⟩
theorem Tryz.infoI : (Tryz.prog.info? 3).map (fun i => (i.zero, i.size, i.bytes)) = some (some (.int .i64 0), 1, 8) := by kernel_rfl
set_option maxHeartbeats 400000 in
theorem digit_is (W : World) (v : Value) (n : Nat) (d : Nat → Nat) (i : Nat) (h : RowAt W v n d) : Calls Tryz.prog 123 #[v, .int .i64 (i : Int)] W fun e w' => e = .returned (.int .i64 (d i : Int)) ∧ w' = W := by
  obtain ⟨hz, _, hn, ad, cap, rfl, hc⟩ := h
  by_cases hi : i < n
  · obtain ⟨g, o, rfl, hcc⟩ := hc (by omega)
    have c := hcc i hi
    have iI : (i : Int) < (n : Int) := by omega
    clear hc hcc hz
    go_enter Tryz.func123, Tryz.ntmps123
    go_wp2
    go_ret
    exact ⟨rfl, rfl⟩
  · have iI : ¬ ((i : Int) < (n : Int)) := by omega
    rw [hz i (by omega)]
    clear hc hz
    go_enter Tryz.func123, Tryz.ntmps123
    go_wp2
    go_ret
    exact ⟨rfl, rfl⟩
end Go.Proofs.YtpadpmkfhljiiaaGreat
/- How many zeros stand ahead of a word. -/
namespace Go.Proofs.YtpadpmkfhljiiaaGreat
open Go.RowKit Go.Shelf
/-- the numbers of math/bits' functions and types at this program -/
def lzRen : Ren := ⟨fun | 129 => 176 | 134 => 127 | n => n, fun | 46 => 80 | 53 => 22 | n => n, fun n => n⟩
theorem lzLays : Lays.n134 Tryz.prog lzRen :=
  { mixed := by kernel_rfl, f129 := by kernel_rfl, f134 := by kernel_rfl,
    t3 := by kernel_rfl, a3 := fun _ => by kernel_rfl, z3 := fun _ => by kernel_rfl, v3 := fun _ => by kernel_rfl,
    t4 := by kernel_rfl, a4 := fun _ => by kernel_rfl, z4 := fun _ => by kernel_rfl, v4 := fun _ => by kernel_rfl,
    t5 := by kernel_rfl, a5 := fun _ => by kernel_rfl, z5 := fun _ => by kernel_rfl, v5 := fun _ => by kernel_rfl,
    t9 := by kernel_rfl, a9 := fun _ => by kernel_rfl, z9 := fun _ => by kernel_rfl, v9 := fun _ => by kernel_rfl,
    t46 := by kernel_rfl, a46 := fun _ => by kernel_rfl, z46 := fun _ => by kernel_rfl, v46 := fun _ => by kernel_rfl,
    t53 := by kernel_rfl, a53 := fun _ => by kernel_rfl, z53 := fun _ => by kernel_rfl, v53 := fun _ => by kernel_rfl }
theorem lz_any (x : Int) (hx : U64 x) (w : World) : Calls Tryz.prog 127 #[.int .u64 x] w fun e w' => e = .returned (.int .i64 (64 - (Lib.bitLen x.toNat : Int))) ∧ w' = w := by
  have h := hx.2
  unfold Bd at h
  exact Any.bits_LeadingZeros64 lzLays x w hx.1 (by omega)
set_option maxHeartbeats 400000 in
/-- how many parts hold all that is not 0 -/
theorem parts_is (w : World) (b n cap : Nat) (v : Nat → Int) (hn : n ≤ 9) (hc : ∀ i, i < n → w.cell? ⟨b, i, none⟩ = some (.int .u64 (v i))) :
    Calls Tryz.prog 126 #[.slice (some ⟨b, 0, none⟩) n cap] w fun e w' => ∃ k : Nat, e = .returned (.int .i64 (k : Int)) ∧ k ≤ n ∧ (0 < k → v (k - 1) ≠ 0) ∧ (∀ i, k ≤ i → i < n → v i = 0) ∧ w' = w := by
  have HC : Hid _ := hc
  clear hc
  go_enter Tryz.func126, Tryz.ntmps126
  go_wp2
  go_loop [3] (fun s => ∃ k : Nat, s = .int .i64 (k : Int) ∧ k ≤ n ∧ (∀ i, k ≤ i → i < n → v i = 0)) (fun s => (intOf s).toNat)
  case atStart => exact ⟨n, rfl, Nat.le_refl _, fun i h1 h2 => by omega⟩
  case round =>
    obtain ⟨k, rfl, hk, hz⟩ := hrel
    have HZ : Hid _ := hz
    clear hz
    rcases k with _ | k
    · go_wp2
      go_ret
      exact ⟨0, rfl, by omega, fun h => absurd h (by omega), HZ.out, rfl⟩
    · have c := HC.out k (by omega)
      have kI : (0 : Int) < ((k + 1 : Nat) : Int) := by omega
      have k1 : ((k + 1 : Nat) : Int) - 1 = (k : Int) := by omega
      have kn : (k : Int) < (n : Int) := by omega
      generalize hv : v k = x at c
      by_cases hx : x = 0
      · subst hx
        have HV : Hid _ := hv
        clear hv
        go_wp2
        go_round
        case rel => exact ⟨k, by first | rfl | go_num, by omega, fun i h1 h2 => by by_cases e : i = k; (rw [e]; exact HV.out); exact HZ.out i (by omega) h2⟩
        case measure => simp [intOf]
      · have HV : Hid _ := hv
        clear hv
        go_wp2
        go_ret
        exact ⟨k + 1, rfl, hk, fun _ => by rw [show k + 1 - 1 = k by omega, HV.out]; exact hx, HZ.out, rfl⟩
theorem box_cell (w : World) (a0 a1 a2 a3 : Int) (t : TypeId) (i : Nat) (h : i < 4) : (w.alloc (.cells #[.int .u64 a0, .int .u64 a1, .int .u64 a2, .int .u64 a3] t)).cell? ⟨w.heap.size, i, none⟩ = some (.int .u64 (limb a0 a1 a2 a3 i)) := by
  rw [World.cell?_alloc_at _ _ _ _ rfl]
  obtain rfl | rfl | rfl | rfl : i = 0 ∨ i = 1 ∨ i = 2 ∨ i = 3 := by omega
  all_goals rfl
set_option maxHeartbeats 1000000 in
/-- B bits are not zeros ahead -/
theorem zerosAhead_any (x : Int) (a0 a1 a2 a3 : Int) (w : World) (ha : IsW x a0 a1 a2 a3) :
    Calls Tryz.prog 109 #[.agg #[.int .u64 a0, .int .u64 a1, .int .u64 a2, .int .u64 a3]] w fun e w' => ∃ B : Nat, e = .returned (.int .i64 (256 - (B : Int))) ∧ B ≤ 256 ∧ BitsOf (V a0 a1 a2 a3) B ∧ Below w.heap.size w w' := by
  have HA : Hid (IsW x a0 a1 a2 a3) := ha
  have hc := box_cell w a0 a1 a2 a3 24
  have HC : Hid _ := hc
  have P1 : Hid _ := parts_is (w.alloc (.cells #[.int .u64 a0, .int .u64 a1, .int .u64 a2, .int .u64 a3] 24)) w.heap.size 4 4 (limb a0 a1 a2 a3) (by omega) hc
  have B1 : Hid (Below w.heap.size w (w.alloc (.cells #[.int .u64 a0, .int .u64 a1, .int .u64 a2, .int .u64 a3] 24))) := (Below.refl _ _).alloc (by omega) _
  clear ha hc
  go_enter Tryz.func109, Tryz.ntmps109
  go_upto_region 2 with (go_at_call 126; refine Calls.mono P1.out ?_; rintro e v1 ⟨k, rfl, hk, hne, hz, rfl⟩; (have HNE : Hid _ := hne); (have HZ : Hid _ := hz); clear hne hz)
  have BB : Hid _ := bits_limb HA.out.u0 HA.out.u1 HA.out.u2 HA.out.u3 k hk HNE.out HZ.out
  rcases k with _ | k
  · have B0 : Hid (BitsOf (V a0 a1 a2 a3) 0) := by have h := BB.out; rw [if_pos rfl] at h; exact h
    clear BB HNE HZ
    go_wp2
    go_ret
    exact ⟨0, rfl, by omega, B0.out, B1.out⟩
  · have c := HC.out k (by omega)
    have kI : ¬ (((k + 1 : Nat) : Int) = 0) := by omega
    have k1 : ((k + 1 : Nat) : Int) - 1 = (k : Int) := by omega
    have kn : (k : Int) < 4 := by omega
    have k4 : ((k + 1 : Nat) : Int) ≤ 4 := by omega
    have hu := limb_u64 HA.out.u0 HA.out.u1 HA.out.u2 HA.out.u3 k
    have bb := BB.out
    rw [if_neg (by omega), show k + 1 - 1 = k by omega] at bb
    have nz := HNE.out (by omega)
    rw [show k + 1 - 1 = k by omega] at nz
    generalize limb a0 a1 a2 a3 k = y at c hu bb nz
    have bl := bitLen_range y.toNat (by have := hu.2; unfold Bd at this; omega) (by have := hu.1; omega)
    obtain ⟨l, el⟩ : ∃ l, l = Lib.bitLen y.toNat := ⟨_, rfl⟩
    have LZ : Hid (∀ W : World, Calls Tryz.prog 127 #[.int .u64 y] W fun e w' => e = .returned (.int .i64 (64 - (l : Int))) ∧ w' = W) := fun W => by rw [el]; exact lz_any y hu W
    rw [← el] at bb bl
    have lI : (l : Int) ≤ 64 := by omega
    have BBB : Hid _ := bb
    clear bb bl nz hu el BB HNE HZ
    obtain ⟨r, er⟩ : ∃ r : Int, r = 4 - ((k + 1 : Nat) : Int) := ⟨_, rfl⟩
    go_wp2_with (go_at_call 127; refine (LZ.out _).mono ?_; rintro e v2 ⟨rfl, rfl⟩)
    go_ret
    refine ⟨64 * k + l, ret_int ?_, by omega, BBB.out, B1.out⟩
    omega
end Go.Proofs.YtpadpmkfhljiiaaGreat
/- The comparisons of package word, for every two words. -/
namespace Go.Proofs.YtpadpmkfhljiiaaGreat
open Go.RowKit

set_option maxHeartbeats 400000 in
set_option maxRecDepth 100000 in
theorem isZero_any (x : Int) (a0 a1 a2 a3 : Int) (w : World) (ha : IsW x a0 a1 a2 a3) :
    Calls Tryz.prog 155 #[.agg #[.int .u64 a0, .int .u64 a1, .int .u64 a2, .int .u64 a3]] w fun e w' => e = .returned (.bool (decide (x % MM = 0))) ∧ Below w.heap.size w w' := by
  have hq := eqw_run a0 a1 a2 a3 0 0 0 0
  go_enter Tryz.func155, Tryz.ntmps155
  go_wp2
  go_ret
  exact ⟨ret_bool (ha.eqw isW_0), by repeat' (first | with_reducible exact Below.refl _ _ | with_reducible exact Below.refl _ _ | with_reducible refine Below.drew ?_ | with_reducible refine bdrewN ?_ _ | with_reducible refine Below.alloc ?_ ?_ _ | with_reducible refine Below.setCell ?_ ?_ _ | omega | (simp; done) | (simp; omega))⟩

end Go.Proofs.YtpadpmkfhljiiaaGreat
