/- Plain arithmetic of 256-bit words as four limbs of 64 bits: no condition, no Go text. -/
import Derived.Below
import Derived.Laws.BitsAllLaws
import Derived.Test.YtpadpmkfhljiiaaGreatRows
import Derived.WalkKit
import Derived.ProofKit
import Derived.OpenShut
import Derived.ChangeOld
import Derived.Lib.SmallJoins
import Derived.Lib.BitFns
import Derived.Lib.ItoaNum
import Derived.WalkSpells
import Derived.WalkLawsBesides
import Derived.Deep.QuietTactic
import Derived.BigQuiet
import Derived.Shelf.Small.Bits
import Derived.Deep.CutRange
import Derived.Deep.RegionWith
import Derived.Deep.RegionHeld3
import Derived.Deep.MidRow
import Derived.Laws.MathBits
import Derived.Deep.DeepCutAuto
import Derived.Deep.CutBlock
namespace Go.Proofs.YtpadpmkfhljiiaaGreat
open Go.RowKit

/-- 2^64 and 2^256. -/
def Bd : Int := 18446744073709551616
def MM : Int := 115792089237316195423570985008687907853269984665640564039457584007913129639936
def U64 (x : Int) : Prop := 0 ≤ x ∧ x < Bd
/-- the number of four limbs, the lowest first -/
def V (a0 a1 a2 a3 : Int) : Int := a0 + Bd * (a1 + Bd * (a2 + Bd * a3))
/-- these four limbs are the word of the number v, modulo 2^256 -/
def IsW (v a0 a1 a2 a3 : Int) : Prop := (U64 a0 ∧ U64 a1 ∧ U64 a2 ∧ U64 a3) ∧ V a0 a1 a2 a3 = v % MM

theorem MM_pos : 0 < MM := by unfold MM; omega
theorem V_range {a0 a1 a2 a3 : Int} (h0 : U64 a0) (h1 : U64 a1) (h2 : U64 a2) (h3 : U64 a3) : 0 ≤ V a0 a1 a2 a3 ∧ V a0 a1 a2 a3 < MM := by
  unfold V U64 Bd MM at *; omega
theorem isW_mk {a0 a1 a2 a3 : Int} (h0 : U64 a0) (h1 : U64 a1) (h2 : U64 a2) (h3 : U64 a3) : IsW (V a0 a1 a2 a3) a0 a1 a2 a3 :=
  ⟨⟨h0, h1, h2, h3⟩, (Int.emod_eq_of_lt (V_range h0 h1 h2 h3).1 (V_range h0 h1 h2 h3).2).symm⟩
theorem isW_of {v a0 a1 a2 a3 : Int} (h0 : U64 a0) (h1 : U64 a1) (h2 : U64 a2) (h3 : U64 a3) (q : Int) (h : v = V a0 a1 a2 a3 + MM * q) : IsW v a0 a1 a2 a3 :=
  ⟨⟨h0, h1, h2, h3⟩, by rw [h, Int.add_mul_emod_self_left]; exact (Int.emod_eq_of_lt (V_range h0 h1 h2 h3).1 (V_range h0 h1 h2 h3).2).symm⟩
theorem IsW.u0 {v a0 a1 a2 a3 : Int} (h : IsW v a0 a1 a2 a3) : U64 a0 := h.1.1
theorem IsW.u1 {v a0 a1 a2 a3 : Int} (h : IsW v a0 a1 a2 a3) : U64 a1 := h.1.2.1
theorem IsW.u2 {v a0 a1 a2 a3 : Int} (h : IsW v a0 a1 a2 a3) : U64 a2 := h.1.2.2.1
theorem IsW.u3 {v a0 a1 a2 a3 : Int} (h : IsW v a0 a1 a2 a3) : U64 a3 := h.1.2.2.2
theorem IsW.range {v a0 a1 a2 a3 : Int} (h : IsW v a0 a1 a2 a3) : 0 ≤ V a0 a1 a2 a3 ∧ V a0 a1 a2 a3 < MM := V_range h.u0 h.u1 h.u2 h.u3
/-- limbs are told by the number -/
theorem V_inj {a0 a1 a2 a3 b0 b1 b2 b3 : Int} (ha0 : U64 a0) (ha1 : U64 a1) (ha2 : U64 a2) (_ha3 : U64 a3) (hb0 : U64 b0) (hb1 : U64 b1) (hb2 : U64 b2) (_hb3 : U64 b3)
    (h : V a0 a1 a2 a3 = V b0 b1 b2 b3) : a0 = b0 ∧ a1 = b1 ∧ a2 = b2 ∧ a3 = b3 := by
  unfold V U64 Bd at *; omega
theorem IsW.eq {u v a0 a1 a2 a3 b0 b1 b2 b3 : Int} (h : IsW u a0 a1 a2 a3) (k : IsW v b0 b1 b2 b3) (e : u % MM = v % MM) : a0 = b0 ∧ a1 = b1 ∧ a2 = b2 ∧ a3 = b3 :=
  V_inj h.u0 h.u1 h.u2 h.u3 k.u0 k.u1 k.u2 k.u3 (by rw [h.2, k.2, e])
theorem IsW.ne {u v a0 a1 a2 a3 b0 b1 b2 b3 : Int} (h : IsW u a0 a1 a2 a3) (k : IsW v b0 b1 b2 b3) (e : u % MM ≠ v % MM) : ¬ (a0 = b0 ∧ a1 = b1 ∧ a2 = b2 ∧ a3 = b3) := by
  rintro ⟨rfl, rfl, rfl, rfl⟩; exact e (h.2.symm.trans k.2)
/-- the equality of two words, as the walk takes it -/
def eqw (a0 a1 a2 a3 b0 b1 b2 b3 : Int) : Bool := (a0 == b0 && (a1 == b1 && (a2 == b2 && a3 == b3)))
theorem eqw_iff (a0 a1 a2 a3 b0 b1 b2 b3 : Int) : eqw a0 a1 a2 a3 b0 b1 b2 b3 = true ↔ (a0 = b0 ∧ a1 = b1 ∧ a2 = b2 ∧ a3 = b3) := by
  simp [eqw]
theorem IsW.eqw {u v a0 a1 a2 a3 b0 b1 b2 b3 : Int} (h : IsW u a0 a1 a2 a3) (k : IsW v b0 b1 b2 b3) : eqw a0 a1 a2 a3 b0 b1 b2 b3 = decide (u % MM = v % MM) := by
  by_cases e : u % MM = v % MM
  · rw [(eqw_iff ..).2 (h.eq k e)]; simp [e]
  · have := h.ne k e
    rw [← eqw_iff] at this
    simp [e, this]
theorem u64_lit (n : Int) (h0 : 0 ≤ n) (h1 : n < 18446744073709551616) : U64 n := ⟨h0, h1⟩
theorem isW_lit (n : Int) (h0 : 0 ≤ n) (h1 : n < 18446744073709551616) : IsW n n 0 0 0 :=
  isW_of (u64_lit n h0 h1) (u64_lit 0 (by omega) (by omega)) (u64_lit 0 (by omega) (by omega)) (u64_lit 0 (by omega) (by omega)) 0 (by unfold V Bd MM; omega)
theorem isW_0 : IsW 0 0 0 0 0 := isW_lit 0 (by omega) (by omega)
theorem isW_2 : IsW 2 2 0 0 0 := isW_lit 2 (by omega) (by omega)
theorem isW_4 : IsW 4 4 0 0 0 := isW_lit 4 (by omega) (by omega)
def cmpv (x y : Int) : Int := if x < y then -1 else if y < x then 1 else 0
theorem isW_add {x y a0 a1 a2 a3 b0 b1 b2 b3 s0 s1 s2 s3 c : Int} (h : IsW x a0 a1 a2 a3) (k : IsW y b0 b1 b2 b3) (h0 : U64 s0) (h1 : U64 s1) (h2 : U64 s2) (h3 : U64 s3)
    (e : V a0 a1 a2 a3 + V b0 b1 b2 b3 = V s0 s1 s2 s3 + MM * c) : IsW (x + y) s0 s1 s2 s3 := by
  refine ⟨⟨h0, h1, h2, h3⟩, ?_⟩
  rw [Int.add_emod, ← h.2, ← k.2, e, Int.add_mul_emod_self_left, Int.emod_eq_of_lt (V_range h0 h1 h2 h3).1 (V_range h0 h1 h2 h3).2]
/-- a chain of carries -/
theorem carry4 {a0 a1 a2 a3 b0 b1 b2 b3 s0 s1 s2 s3 c1 c2 c3 c4 : Int} (e0 : a0 + b0 + 0 = s0 + Bd * c1) (e1 : a1 + b1 + c1 = s1 + Bd * c2) (e2 : a2 + b2 + c2 = s2 + Bd * c3) (e3 : a3 + b3 + c3 = s3 + Bd * c4) :
    V a0 a1 a2 a3 + V b0 b1 b2 b3 = V s0 s1 s2 s3 + MM * c4 := by
  unfold V Bd MM at *; omega
/-- the place of a member of a list that is written out -/
theorem mm0 {α : Type} {x : α} {l : List α} : x ∈ x :: l := List.Mem.head _
theorem mm1 {α : Type} {a0 x : α} {l : List α} : x ∈ a0 :: x :: l := List.Mem.tail _ (List.Mem.head _)
theorem mm2 {α : Type} {a0 a1 x : α} {l : List α} : x ∈ a0 :: a1 :: x :: l := List.Mem.tail _ (List.Mem.tail _ (List.Mem.head _))
theorem mm3 {α : Type} {a0 a1 a2 x : α} {l : List α} : x ∈ a0 :: a1 :: a2 :: x :: l := List.Mem.tail _ (List.Mem.tail _ (List.Mem.tail _ (List.Mem.head _)))
theorem mm4 {α : Type} {a0 a1 a2 a3 x : α} {l : List α} : x ∈ a0 :: a1 :: a2 :: a3 :: x :: l := List.Mem.tail _ (List.Mem.tail _ (List.Mem.tail _ (List.Mem.tail _ (List.Mem.head _))))
theorem mm5 {α : Type} {a0 a1 a2 a3 a4 x : α} {l : List α} : x ∈ a0 :: a1 :: a2 :: a3 :: a4 :: x :: l := List.Mem.tail _ (List.Mem.tail _ (List.Mem.tail _ (List.Mem.tail _ (List.Mem.tail _ (List.Mem.head _)))))
theorem mm6 {α : Type} {a0 a1 a2 a3 a4 a5 x : α} {l : List α} : x ∈ a0 :: a1 :: a2 :: a3 :: a4 :: a5 :: x :: l := List.Mem.tail _ (List.Mem.tail _ (List.Mem.tail _ (List.Mem.tail _ (List.Mem.tail _ (List.Mem.tail _ (List.Mem.head _))))))
theorem mm7 {α : Type} {a0 a1 a2 a3 a4 a5 a6 x : α} {l : List α} : x ∈ a0 :: a1 :: a2 :: a3 :: a4 :: a5 :: a6 :: x :: l := List.Mem.tail _ (List.Mem.tail _ (List.Mem.tail _ (List.Mem.tail _ (List.Mem.tail _ (List.Mem.tail _ (List.Mem.tail _ (List.Mem.head _)))))))
theorem mm8 {α : Type} {a0 a1 a2 a3 a4 a5 a6 a7 x : α} {l : List α} : x ∈ a0 :: a1 :: a2 :: a3 :: a4 :: a5 :: a6 :: a7 :: x :: l := List.Mem.tail _ (List.Mem.tail _ (List.Mem.tail _ (List.Mem.tail _ (List.Mem.tail _ (List.Mem.tail _ (List.Mem.tail _ (List.Mem.tail _ (List.Mem.head _))))))))
end Go.Proofs.YtpadpmkfhljiiaaGreat
/- The frame of the laws over words: how an argument of type Word reads, and what carries it behind the call. -/
namespace Go.Proofs.YtpadpmkfhljiiaaGreat
open Go.ChangeShapes Go.WideShapes Go.ChangeAt Go.RowKit

theorem Tryz.own : ownKnob Tryz.prog.godebug = none := by kernel_rfl
theorem Tryz.laidOut : laidOutB Tryz.prog = true := by kernel_rfl

theorem okWide_arr {P : Program} {w : World} {r : Reach} {base n : Nat} {t e : TypeId} {v : Value} (ht : P.underlying t = some (.array n e)) (h : Value.okWide P w r base t v) : ∃ cs, v = .agg cs ∧ cs.size = P.cellsOf t := by
  simp only [Value.okWide, ht] at h
  obtain ⟨cs, h1, h2, _⟩ := h
  exact ⟨cs, h1, h2⟩
theorem cells24 : Tryz.prog.cellsOf 24 = 4 := by kernel_rfl
theorem cells22 : Tryz.prog.cellsOf 22 = 1 := by kernel_rfl
set_option maxRecDepth 100000 in
theorem openW {H : Type} {enc : TypeId × Value → H} {W : World} {base b0 : Nat} {r : Reach} {spare : Nat → Bool} {held : Bool} {v : Value} {d : DataW H} {ps : List MemPlace}
    (hv : Value.okWide Tryz.prog W r b0 24 v) (h : DataW.Trod enc Tryz.prog W base spare held 24 v d ps) :
    ∃ a0 a1 a2 a3 : Int, v = .agg #[.int .u64 a0, .int .u64 a1, .int .u64 a2, .int .u64 a3] ∧ U64 a0 ∧ U64 a1 ∧ U64 a2 ∧ U64 a3 := by
  obtain ⟨cs, rfl, hsz⟩ := okWide_arr Tryz.underlying24 hv
  obtain ⟨c0, c1, c2, c3, rfl⟩ := Joins.array4 (hsz.trans cells24)
  obtain ⟨fuel, hf⟩ := h
  obtain ⟨xs, m, _, _, _, hxs, hel⟩ := DataW.trod_array Tryz.underlying24 hf
  have get : ∀ (i : Nat) (hi : i < 4), ∃ n, [#[c0, c1, c2, c3][i]] = [Value.int .u64 n] ∧ U64 n := by
    intro i hi
    have he := hel i hi
    rw [cells22] at he
    have hx : xs[i]? = some xs[i] := List.getElem?_eq_getElem (by omega)
    rw [hx] at he
    obtain ⟨n, hn, _, hw⟩ := DataW.trod_int Tryz.underlying22 he
    have hb := bounds_u64 hw
    refine ⟨n, ?_, hb.1, ?_⟩
    · rw [← hn]
      have : i = 0 ∨ i = 1 ∨ i = 2 ∨ i = 3 := by omega
      rcases this with rfl | rfl | rfl | rfl <;> simp [Value.cells]
    · unfold Bd; omega
  obtain ⟨a0, e0, u0⟩ := get 0 (by omega)
  obtain ⟨a1, e1, u1⟩ := get 1 (by omega)
  obtain ⟨a2, e2, u2⟩ := get 2 (by omega)
  obtain ⟨a3, e3, u3⟩ := get 3 (by omega)
  simp at e0 e1 e2 e3
  subst e0 e1 e2 e3
  exact ⟨a0, a1, a2, a3, rfl, u0, u1, u2, u3⟩
end Go.Proofs.YtpadpmkfhljiiaaGreat
/- Plain numbers: how many bits a word has, and powers bit by bit. -/
namespace Go.Proofs.YtpadpmkfhljiiaaGreat
/-- the four limbs as a function -/
def limb (a0 a1 a2 a3 : Int) (i : Nat) : Int := if i = 0 then a0 else if i = 1 then a1 else if i = 2 then a2 else a3
theorem limb_u64 {a0 a1 a2 a3 : Int} (h0 : U64 a0) (h1 : U64 a1) (h2 : U64 a2) (h3 : U64 a3) (i : Nat) : U64 (limb a0 a1 a2 a3 i) := by
  unfold limb; split
  · exact h0
  · split
    · exact h1
    · split
      · exact h2
      · exact h3
theorem bitLen_range (x : Nat) (h : x < 18446744073709551616) (h0 : x ≠ 0) : 1 ≤ Lib.bitLen x ∧ 2 ^ (Lib.bitLen x - 1) ≤ x ∧ x < 2 ^ Lib.bitLen x ∧ Lib.bitLen x ≤ 64 := by
  obtain ⟨a, b, c⟩ := Lib.bitLenAux_bounds 64 x h h0
  exact ⟨a, b, c, Lib.bitLen_le x 64 (by omega) h⟩
end Go.Proofs.YtpadpmkfhljiiaaGreat
/- What the leaves of package word do to the world, for every word: sums, differences, comparisons, equality. No condition but that limbs are numbers of 64 bits. -/
namespace Go.Proofs.YtpadpmkfhljiiaaGreat
open Go.RowKit

theorem bdrewN {B : Nat} {a w : World} (h : Below B a w) (n : Nat) : Below B a (w.drewN n) := h.trans ⟨rfl, rfl, rfl, Nat.le_refl _, fun _ _ => rfl⟩
theorem ret_int {k : IntKind} {a b : Int} (h : a = b) : Ending.returned (.int k a) = .returned (.int k b) := by rw [h]
theorem ret_bool {a b : Bool} (h : a = b) : Ending.returned (.bool a) = .returned (.bool b) := by rw [h]
-- bits.Add64, bits.Sub64: run by the model
theorem add64_run (x y c : Int) (hx : 0 ≤ x) (hy : 0 ≤ y) (hc0 : 0 ≤ c) (hc : c ≤ 1) (w : World) :
    (callFunc 122 #[.int .u64 x, .int .u64 y, .int .u64 c]).run Tryz.prog w = .ok (.value (.tuple #[.int .u64 ((x + y + c) % 18446744073709551616), .int .u64 ((x + y + c) / 18446744073709551616)])) w := by
  rw [run_callFunc_extern (e := add64Entry) Tryz.func122 (by kernel_rfl) (by kernel_rfl) (by kernel_rfl) (by kernel_rfl)]
  rw [run_add64 x y c hx hy hc0 hc w]
  rfl
theorem add64_ex (x y c : Int) (hx : U64 x) (hy : U64 y) (hc0 : 0 ≤ c) (hc : c ≤ 1) : ∃ s d : Int, (∀ W : World, (callFunc 122 #[.int .u64 x, .int .u64 y, .int .u64 c]).run Tryz.prog W = .ok (.value (.tuple #[.int .u64 s, .int .u64 d])) W) ∧ Hid (x + y + c = s + Bd * d) ∧ U64 s ∧ 0 ≤ d ∧ d ≤ 1 := by
  refine ⟨_, _, fun W => add64_run x y c hx.1 hy.1 hc0 hc W, ?_, ?_, ?_, ?_⟩ <;> simp only [Hid, U64, Bd] at * <;> omega
-- the equality of words
theorem eq64_run (k : Nat) (x y : Int) (W : World) : Sem.run Tryz.prog (Op.equalIn (k+1) 22 (.int .u64 x) (.int .u64 y)) W = .ok (x == y) W := by
  simp [Op.equalIn, run_underlying Tryz.underlying22]
theorem size64 (W : World) : Sem.run Tryz.prog (sizeOf 22) W = .ok 1 W := by kernel_rfl
theorem part0 (a0 a1 a2 a3 : Int) (W : World) : Sem.run Tryz.prog (part 22 #[.int .u64 a0, .int .u64 a1, .int .u64 a2, .int .u64 a3] 0) W = .ok (.int .u64 a0) W := by kernel_rfl
theorem part1 (a0 a1 a2 a3 : Int) (W : World) : Sem.run Tryz.prog (part 22 #[.int .u64 a0, .int .u64 a1, .int .u64 a2, .int .u64 a3] 1) W = .ok (.int .u64 a1) W := by kernel_rfl
theorem part2 (a0 a1 a2 a3 : Int) (W : World) : Sem.run Tryz.prog (part 22 #[.int .u64 a0, .int .u64 a1, .int .u64 a2, .int .u64 a3] 2) W = .ok (.int .u64 a2) W := by kernel_rfl
theorem part3 (a0 a1 a2 a3 : Int) (W : World) : Sem.run Tryz.prog (part 22 #[.int .u64 a0, .int .u64 a1, .int .u64 a2, .int .u64 a3] 3) W = .ok (.int .u64 a3) W := by kernel_rfl
set_option maxRecDepth 100000 in
theorem eqw_run (a0 a1 a2 a3 b0 b1 b2 b3 : Int) (W : World) : Sem.run Tryz.prog (Op.equalIn 10000 24 (.agg #[.int .u64 a0, .int .u64 a1, .int .u64 a2, .int .u64 a3]) (.agg #[.int .u64 b0, .int .u64 b1, .int .u64 b2, .int .u64 b3])) W = .ok (eqw a0 a1 a2 a3 b0 b1 b2 b3) W := by
  rw [show (10000 : Nat) = 9998 + 1 + 1 from rfl, Op.equalIn]
  simp only [Sem.run_bind, run_underlying Tryz.underlying24, Result.andThen_ok, size64, Std.Legacy.Range.forIn_eq_forIn_range', Std.Legacy.Range.size]
  simp [List.range', part0, part1, part2, part3, eq64_run, eqw]
  by_cases h0 : a0 = b0 <;> by_cases h1 : a1 = b1 <;> by_cases h2 : a2 = b2 <;> by_cases h3 : a3 = b3 <;> simp [h0, h1, h2, h3]

set_option maxHeartbeats 400000 in
set_option maxRecDepth 100000 in
theorem addCarry_any (x y : Int) (a0 a1 a2 a3 b0 b1 b2 b3 : Int) (w : World) (ha : IsW x a0 a1 a2 a3) (hb : IsW y b0 b1 b2 b3) :
    Calls Tryz.prog 76 #[.agg #[.int .u64 a0, .int .u64 a1, .int .u64 a2, .int .u64 a3], .agg #[.int .u64 b0, .int .u64 b1, .int .u64 b2, .int .u64 b3]] w fun e w' => ∃ s0 s1 s2 s3 c : Int, e = .returned (.tuple #[.agg #[.int .u64 s0, .int .u64 s1, .int .u64 s2, .int .u64 s3], .int .u64 c]) ∧ IsW (x + y) s0 s1 s2 s3 ∧ V a0 a1 a2 a3 + V b0 b1 b2 b3 = V s0 s1 s2 s3 + MM * c ∧ 0 ≤ c ∧ c ≤ 1 ∧ Below w.heap.size w w' := by
  obtain ⟨s0, c1, r0, e0, u0, l0, m0⟩ := add64_ex a0 b0 0 ha.u0 hb.u0 (by omega) (by omega)
  obtain ⟨s1, c2, r1, e1, u1, l1, m1⟩ := add64_ex a1 b1 c1 ha.u1 hb.u1 (by omega) (by omega)
  obtain ⟨s2, c3, r2, e2, u2, l2, m2⟩ := add64_ex a2 b2 c2 ha.u2 hb.u2 (by omega) (by omega)
  obtain ⟨s3, c4, r3, e3, u3, l3, m3⟩ := add64_ex a3 b3 c3 ha.u3 hb.u3 (by omega) (by omega)
  go_enter Tryz.func76, Tryz.ntmps76
  go_wp2
  refine wp_loop_rounds 5 ?_
  rw [rounds_succ]
  go_wp2
  go_region
  go_wp2
  rw [rounds_succ]
  go_wp2
  go_region
  go_wp2
  rw [rounds_succ]
  go_wp2
  go_region
  go_wp2
  rw [rounds_succ]
  go_wp2
  go_region
  go_wp2
  rw [rounds_succ]
  go_wp2
  have ce := carry4 e0.out e1.out e2.out e3.out
  exact bodyPost_ret (v := .tuple #[.agg #[.int .u64 s0, .int .u64 s1, .int .u64 s2, .int .u64 s3], .int .u64 c4]) (by simp [results, Tryz.results76, go_sem]) rfl
    ⟨s0, s1, s2, s3, c4, rfl, isW_add ha hb u0 u1 u2 u3 ce, ce, l3, m3, by repeat' (first | with_reducible exact Below.refl _ _ | with_reducible exact Below.refl _ _ | with_reducible refine Below.drew ?_ | with_reducible refine bdrewN ?_ _ | with_reducible refine Below.alloc ?_ ?_ _ | with_reducible refine Below.setCell ?_ ?_ _ | omega | (simp; done) | (simp; omega))⟩

set_option maxHeartbeats 400000 in
set_option maxRecDepth 100000 in
theorem add_any (x y : Int) (a0 a1 a2 a3 b0 b1 b2 b3 : Int) (w : World) (ha : IsW x a0 a1 a2 a3) (hb : IsW y b0 b1 b2 b3) :
    Calls Tryz.prog 11 #[.agg #[.int .u64 a0, .int .u64 a1, .int .u64 a2, .int .u64 a3], .agg #[.int .u64 b0, .int .u64 b1, .int .u64 b2, .int .u64 b3]] w fun e w' => ∃ s0 s1 s2 s3 : Int, e = .returned (.agg #[.int .u64 s0, .int .u64 s1, .int .u64 s2, .int .u64 s3]) ∧ IsW (x + y) s0 s1 s2 s3 ∧ Below w.heap.size w w' := by
  go_enter Tryz.func11, Tryz.ntmps11
  go_wp2_with fail
  refine (addCarry_any x y _ _ _ _ _ _ _ _ _ ha hb).mono ?_
  rintro e w1 ⟨s0, s1, s2, s3, c, rfl, hs, hc, hc0, hc1, hB⟩
  clear hc
  have z1 : w.heap.size + 1 + 1 < w1.heap.size := by have := hB.size; simp at this; omega
  have k20 : w1.cell? ⟨w.heap.size + 1 + 1, 0, none⟩ = some (.int .u64 0) := (hB.cell (p := ⟨w.heap.size + 1 + 1, 0, none⟩) (by first | omega | (simp; done) | (simp; omega))).trans (by go_simp)
  have k21 : w1.cell? ⟨w.heap.size + 1 + 1, 1, none⟩ = some (.int .u64 0) := (hB.cell (p := ⟨w.heap.size + 1 + 1, 1, none⟩) (by first | omega | (simp; done) | (simp; omega))).trans (by go_simp)
  have k22 : w1.cell? ⟨w.heap.size + 1 + 1, 2, none⟩ = some (.int .u64 0) := (hB.cell (p := ⟨w.heap.size + 1 + 1, 2, none⟩) (by first | omega | (simp; done) | (simp; omega))).trans (by go_simp)
  have k23 : w1.cell? ⟨w.heap.size + 1 + 1, 3, none⟩ = some (.int .u64 0) := (hB.cell (p := ⟨w.heap.size + 1 + 1, 3, none⟩) (by first | omega | (simp; done) | (simp; omega))).trans (by go_simp)
  have f20 : w1.frozen? ⟨w.heap.size + 1 + 1, 0, none⟩ = false := (hB.frozen (p := ⟨w.heap.size + 1 + 1, 0, none⟩) (by first | omega | (simp; done) | (simp; omega))).trans (by go_simp)
  have f21 : w1.frozen? ⟨w.heap.size + 1 + 1, 1, none⟩ = false := (hB.frozen (p := ⟨w.heap.size + 1 + 1, 1, none⟩) (by first | omega | (simp; done) | (simp; omega))).trans (by go_simp)
  have f22 : w1.frozen? ⟨w.heap.size + 1 + 1, 2, none⟩ = false := (hB.frozen (p := ⟨w.heap.size + 1 + 1, 2, none⟩) (by first | omega | (simp; done) | (simp; omega))).trans (by go_simp)
  have f23 : w1.frozen? ⟨w.heap.size + 1 + 1, 3, none⟩ = false := (hB.frozen (p := ⟨w.heap.size + 1 + 1, 3, none⟩) (by first | omega | (simp; done) | (simp; omega))).trans (by go_simp)
  have B1 : Below w.heap.size w w1 := Below.trans (by repeat' (first | with_reducible exact Below.refl _ _ | with_reducible exact Below.refl _ _ | with_reducible refine Below.drew ?_ | with_reducible refine bdrewN ?_ _ | with_reducible refine Below.alloc ?_ ?_ _ | with_reducible refine Below.setCell ?_ ?_ _ | omega | (simp; done) | (simp; omega))) (hB.mono (by first | omega | (simp; done) | (simp; omega)))
  clear hB
  go_wp2
  exact bodyPost_ret (v := .agg #[.int .u64 s0, .int .u64 s1, .int .u64 s2, .int .u64 s3]) (by simp [results, Tryz.results11, go_sem, k20, k21, k22, k23, z1]) rfl
    ⟨s0, s1, s2, s3, rfl, hs, by repeat' (first | with_reducible exact B1 | with_reducible exact Below.refl _ _ | with_reducible refine Below.drew ?_ | with_reducible refine bdrewN ?_ _ | with_reducible refine Below.alloc ?_ ?_ _ | with_reducible refine Below.setCell ?_ ?_ _ | omega | (simp; done) | (simp; omega))⟩

end Go.Proofs.YtpadpmkfhljiiaaGreat
/- How many zeros stand ahead of a word. -/
namespace Go.Proofs.YtpadpmkfhljiiaaGreat
open Go.RowKit Go.Shelf
/-- the numbers of math/bits' functions and types at this program -/
def lzRen : Ren := ⟨fun | 129 => 176 | 134 => 127 | n => n, fun | 46 => 80 | 53 => 22 | n => n, fun n => n⟩
theorem lzLays : Lays.n134 Tryz.prog lzRen :=
  { mixed := by kernel_rfl, f129 := by kernel_rfl, f134 := by kernel_rfl,
    t3 := by kernel_rfl, a3 := fun _ => by kernel_rfl, z3 := fun _ => by kernel_rfl, v3 := fun _ => by kernel_rfl,
    t4 := by kernel_rfl, a4 := fun _ => by kernel_rfl, z4 := fun _ => by kernel_rfl, v4 := fun _ => by kernel_rfl,
    t5 := by kernel_rfl, a5 := fun _ => by kernel_rfl, z5 := fun _ => by kernel_rfl, v5 := fun _ => by kernel_rfl,
    t9 := by kernel_rfl, a9 := fun _ => by kernel_rfl, z9 := fun _ => by kernel_rfl, v9 := fun _ => by kernel_rfl,
    t46 := by kernel_rfl, a46 := fun _ => by kernel_rfl, z46 := fun _ => by kernel_rfl, v46 := fun _ => by kernel_rfl,
    t53 := by kernel_rfl, a53 := fun _ => by kernel_rfl, z53 := fun _ => by kernel_rfl, v53 := fun _ => by kernel_rfl }
theorem lz_any (x : Int) (hx : U64 x) (w : World) : Calls Tryz.prog 127 #[.int .u64 x] w fun e w' => e = .returned (.int .i64 (64 - (Lib.bitLen x.toNat : Int))) ∧ w' = w := by
  have h := hx.2
  unfold Bd at h
  exact Any.bits_LeadingZeros64 lzLays x w hx.1 (by omega)
theorem box_cell (w : World) (a0 a1 a2 a3 : Int) (t : TypeId) (i : Nat) (h : i < 4) : (w.alloc (.cells #[.int .u64 a0, .int .u64 a1, .int .u64 a2, .int .u64 a3] t)).cell? ⟨w.heap.size, i, none⟩ = some (.int .u64 (limb a0 a1 a2 a3 i)) := by
  rw [World.cell?_alloc_at _ _ _ _ rfl]
  obtain rfl | rfl | rfl | rfl : i = 0 ∨ i = 1 ∨ i = 2 ∨ i = 3 := by omega
  all_goals rfl
end Go.Proofs.YtpadpmkfhljiiaaGreat
/- Knuth's digit: a guess that is brought down. -/
namespace Go.Proofs.YtpadpmkfhljiiaaGreat
open Go.RowKit
def B32 : Nat := 4294967296
/-- the guess is no less than the digit, and what is left of the highest part goes with it -/
structure Kn (y1 y0 u2 u1 q r : Nat) : Prop where
  eq : u2 = q * y1 + r
  ge : (u2 * B32 + u1) / (y1 * B32 + y0) ≤ q
  le : q ≤ B32 + 1
structure Ky (y1 y0 u2 u1 : Nat) : Prop where
  y1a : 2147483648 ≤ y1
  y1b : y1 < B32
  y0b : y0 < B32
  u1b : u1 < B32
  u2b : u2 < y1 * B32 + y0
theorem Ky.lt {y1 y0 u2 u1 : Nat} (h : Ky y1 y0 u2 u1) : (u2 * B32 + u1) / (y1 * B32 + y0) < B32 := by
  refine (Nat.div_lt_iff_lt_mul (by have := h.y1a; unfold B32; omega)).2 ?_
  have h1 := h.u1b
  have h2 := h.u2b
  generalize y1 * B32 + y0 = y at h2 ⊢
  rw [Nat.mul_comm B32 y]
  have h3 : (u2 + 1) * B32 ≤ y * B32 := Nat.mul_le_mul_right _ h2
  rw [Nat.add_mul, Nat.one_mul] at h3
  omega
theorem Kn.prod {y1 y0 u2 u1 q r : Nat} (h : u2 = q * y1 + r) : q * (y1 * B32 + y0) + (B32 * r + u1) = u2 * B32 + u1 + q * y0 := by
  rw [h, Nat.mul_add, ← Nat.mul_assoc, Nat.add_mul, Nat.mul_comm r B32]; omega
theorem Kn.first {y1 y0 u2 u1 : Nat} (h : Ky y1 y0 u2 u1) : Kn y1 y0 u2 u1 (u2 / y1) (u2 % y1) := by
  have ha := h.y1a
  have hb := h.y1b
  have hc := h.y0b
  have hd := h.u2b
  have he := h.u1b
  refine ⟨by rw [Nat.mul_comm]; exact (Nat.div_add_mod u2 y1).symm, ?_, ?_⟩
  · refine Nat.le_of_lt_succ ((Nat.div_lt_iff_lt_mul (by unfold B32; omega)).2 ?_)
    have h1 : u2 < (u2 / y1 + 1) * y1 := by rw [Nat.mul_comm]; exact Nat.lt_mul_div_succ u2 (by omega)
    show u2 * B32 + u1 < (u2 / y1 + 1) * (y1 * B32 + y0)
    generalize u2 / y1 + 1 = k at h1 ⊢
    have h2 : (u2 + 1) * B32 ≤ k * y1 * B32 := Nat.mul_le_mul_right _ h1
    rw [Nat.mul_add, ← Nat.mul_assoc]
    rw [Nat.add_mul, Nat.one_mul] at h2
    omega
  · refine Nat.le_of_lt_succ ((Nat.div_lt_iff_lt_mul (by omega)).2 ?_)
    unfold B32 at *
    show u2 < (4294967296 + 1 + 1) * y1
    omega
theorem Kn.down {y1 y0 u2 u1 q r : Nat} (k : Ky y1 y0 u2 u1) (h : Kn y1 y0 u2 u1 q r) (hc : B32 ≤ q ∨ B32 * r + u1 < q * y0) : 0 < q ∧ Kn y1 y0 u2 u1 (q - 1) (r + y1) ∧ q - 1 ≤ B32 := by
  have hlt : (u2 * B32 + u1) / (y1 * B32 + y0) < q := by
    rcases hc with hc | hc
    · exact Nat.lt_of_lt_of_le k.lt hc
    · refine (Nat.div_lt_iff_lt_mul (by have := k.y1a; unfold B32; omega)).2 ?_
      have := Kn.prod (y0 := y0) (u1 := u1) h.eq
      omega
  have hq : 0 < q := Nat.lt_of_le_of_lt (Nat.zero_le _) hlt
  have hl := h.le
  refine ⟨hq, ⟨?_, Nat.le_sub_one_of_lt hlt, by omega⟩, by omega⟩
  have he := h.eq
  obtain ⟨p, rfl⟩ : ∃ p, q = p + 1 := ⟨q - 1, by omega⟩
  rw [Nat.add_mul, Nat.one_mul] at he
  rw [Nat.add_sub_cancel]; omega
theorem Kn.stop {y1 y0 u2 u1 q r : Nat} (k : Ky y1 y0 u2 u1) (h : Kn y1 y0 u2 u1 q r) (hc : q * y0 ≤ B32 * r + u1) : q = (u2 * B32 + u1) / (y1 * B32 + y0) := by
  refine Nat.le_antisymm ((Nat.le_div_iff_mul_le (by have := k.y1a; unfold B32; omega)).2 ?_) h.ge
  have := Kn.prod (y0 := y0) (u1 := u1) h.eq
  omega
theorem Kn.leave {y1 y0 u2 u1 q r : Nat} (k : Ky y1 y0 u2 u1) (h : Kn y1 y0 u2 u1 q r) (hq : q ≤ B32) (hr : B32 ≤ r) : q = (u2 * B32 + u1) / (y1 * B32 + y0) := by
  refine h.stop k ?_
  have h1 : q * y0 ≤ B32 * y0 := Nat.mul_le_mul_right _ hq
  have h2 : B32 * y0 ≤ B32 * r := Nat.mul_le_mul_left _ (by have := k.y0b; omega)
  omega
end Go.Proofs.YtpadpmkfhljiiaaGreat
/- What bits.Div64 reckons ahead of its loops. -/
namespace Go.Proofs.YtpadpmkfhljiiaaGreat
open Go.RowKit
theorem and_low (a : Nat) (ha : a < 18446744073709551616) : bits .and .u64 (a : Int) 4294967295 = ((a % 4294967296 : Nat) : Int) := by
  have h := u64_and_nat a 4294967295 ha (by omega)
  rw [show ((4294967295 : Nat) : Int) = 4294967295 from rfl] at h
  rw [h, show (4294967295 : Nat) = 2 ^ 32 - 1 from rfl, Nat.and_two_pow_sub_one_eq_mod]
theorem norm_y (y s : Nat) (hy : y < 18446744073709551616) (h0 : y ≠ 0) (es : (64 : Int) - (Lib.bitLen y : Int) = (s : Int)) : 9223372036854775808 ≤ y * 2 ^ s ∧ y * 2 ^ s < 18446744073709551616 := by
  obtain ⟨h1, h2, h3, h4⟩ := bitLen_range y hy h0
  generalize Lib.bitLen y = L at *
  have e1 : 2 ^ (L - 1) * 2 ^ s = 9223372036854775808 := by rw [← Nat.pow_add, show L - 1 + s = 63 by omega]
  have e2 : 2 ^ L * 2 ^ s = 18446744073709551616 := by rw [← Nat.pow_add, show L + s = 64 by omega]
  have a1 : 2 ^ (L - 1) * 2 ^ s ≤ y * 2 ^ s := Nat.mul_le_mul_right _ h2
  have a2 : y * 2 ^ s < 2 ^ L * 2 ^ s := Nat.mul_lt_mul_of_pos_right h3 (Nat.two_pow_pos s)
  omega
theorem or_high (hi lo s : Nat) (hs : s ≤ 63) (hh : hi * 2 ^ s < 18446744073709551616) (hl : lo < 18446744073709551616) : bits .or .u64 ((hi * 2 ^ s : Nat) : Int) ((lo / 2 ^ (64 - s) : Nat) : Int) = ((hi * 2 ^ s + lo / 2 ^ (64 - s) : Nat) : Int) := by
  have hb : lo / 2 ^ (64 - s) < 2 ^ s := by
    refine (Nat.div_lt_iff_lt_mul (Nat.two_pow_pos _)).2 ?_
    rw [← Nat.pow_add, show s + (64 - s) = 64 by omega]; exact hl
  have hb2 : lo / 2 ^ (64 - s) < 18446744073709551616 := Nat.lt_of_le_of_lt (Nat.div_le_self _ _) hl
  rw [u64_or_nat _ _ hh hb2, ← Nat.shiftLeft_eq hi, ← Nat.shiftLeft_add_eq_or_of_lt hb]
/-- both digits together are the quotient, what is left behind the second is the rest -/
theorem two_digits (u2 u1 u0 y : Nat) (hy : 0 < y) : ((u2 * B32 + u1) * B32 + u0) / y = (u2 * B32 + u1) / y * B32 + ((u2 * B32 + u1) % y * B32 + u0) / y ∧ ((u2 * B32 + u1) * B32 + u0) % y = ((u2 * B32 + u1) % y * B32 + u0) % y := by
  have e := Nat.div_add_mod (u2 * B32 + u1) y
  generalize u2 * B32 + u1 = u at e ⊢
  have e2 : u * B32 + u0 = y * (u / y * B32) + (u % y * B32 + u0) := by
    have h : u * B32 = (y * (u / y) + u % y) * B32 := by rw [e]
    rw [h, Nat.add_mul, Nat.mul_assoc]; omega
  rw [e2, Nat.mul_add_div hy, Nat.mul_add_mod]
  exact ⟨rfl, rfl⟩
end Go.Proofs.YtpadpmkfhljiiaaGreat
/- What bits.Div64 reckons around its loops, as rules for the walk. -/
namespace Go.Proofs.YtpadpmkfhljiiaaGreat
open Go.RowKit
theorem wrap_nat (n : Nat) (h : n < 18446744073709551616) : IntKind.u64.wrap (n : Int) = (n : Int) := by rw [IntKind.wrap_u64]; omega
theorem shl_nat (a s : Nat) : (a : Int) * 2 ^ s = ((a * 2 ^ s : Nat) : Int) := by rw [Int.natCast_mul, Int.natCast_pow]; rfl
theorem shr_nat (a k : Nat) : (a : Int) / 2 ^ k = ((a / 2 ^ k : Nat) : Int) := by rw [Int.natCast_ediv, Int.natCast_pow]; rfl
theorem wrap_mod (n : Nat) : IntKind.u64.wrap (n : Int) = ((n % 18446744073709551616 : Nat) : Int) := by rw [IntKind.wrap_u64]; omega
theorem digit_facts {y1 y0 u2 u1 : Nat} (k : Ky y1 y0 u2 u1) : ∃ q p r : Nat, Int.tdiv (u2 : Int) (y1 : Int) = (q : Int) ∧ IntKind.u64.wrap (q : Int) = (q : Int) ∧ IntKind.u64.wrap ((q : Int) * (y1 : Int)) = (p : Int) ∧ IntKind.u64.wrap ((u2 : Int) - (p : Int)) = (r : Int) ∧ Kn y1 y0 u2 u1 q r ∧ r < B32 := by
  have hf := Kn.first k
  have h1 := hf.le
  have h2 := k.y1a
  have h3 := k.y1b
  have h4 := k.y0b
  have h5 := k.u2b
  have hu : u2 < 18446744073709551616 := by
    have : y1 * B32 ≤ 4294967295 * B32 := Nat.mul_le_mul_right _ (by unfold B32 at h3; omega)
    unfold B32 at *; omega
  have he := Nat.div_add_mod u2 y1
  have hm : u2 % y1 < y1 := Nat.mod_lt _ (by omega)
  refine ⟨u2 / y1, u2 / y1 * y1, u2 % y1, ?_, ?_, ?_, ?_, hf, by omega⟩
  · rw [Int.tdiv_eq_ediv_of_nonneg (by omega), Int.natCast_ediv]
  · exact wrap_nat _ (by unfold B32 at h1; omega)
  · rw [← Int.natCast_mul]; exact wrap_nat _ (by rw [Nat.mul_comm]; omega)
  · rw [Nat.mul_comm] at he
    have : ((u2 : Int) - ((u2 / y1 * y1 : Nat) : Int)) = ((u2 % y1 : Nat) : Int) := by omega
    rw [this]; exact wrap_nat _ (by omega)
theorem left_facts (u2 u1 ys Q R : Nat) (hy : 0 < ys) (hy2 : ys < 18446744073709551616) (hQ : Q = (u2 * B32 + u1) / ys) (hR : R = (u2 * B32 + u1) % ys) : ∃ c1 c2 c3 : Nat, IntKind.u64.wrap ((u2 : Int) * 4294967296) = (c1 : Int) ∧ IntKind.u64.wrap ((c1 : Int) + (u1 : Int)) = (c2 : Int) ∧ IntKind.u64.wrap ((Q : Int) * (ys : Int)) = (c3 : Int) ∧ IntKind.u64.wrap ((c2 : Int) - (c3 : Int)) = (R : Int) := by
  have e := Nat.div_add_mod (u2 * B32 + u1) ys
  rw [← hQ, ← hR, Nat.mul_comm] at e
  have hR2 : R < ys := by rw [hR]; exact Nat.mod_lt _ hy
  unfold B32 at e
  refine ⟨u2 * 4294967296 % 18446744073709551616, (u2 * 4294967296 % 18446744073709551616 + u1) % 18446744073709551616, Q * ys % 18446744073709551616, ?_, ?_, ?_, ?_⟩
  · rw [IntKind.wrap_u64]; omega
  · rw [IntKind.wrap_u64]; omega
  · rw [← Int.natCast_mul]; exact wrap_mod _
  · rw [IntKind.wrap_u64]
    generalize Q * ys = n at e ⊢
    omega
theorem whole_num (hi lo s u2 u10 : Nat) (hs : s ≤ 63) (h2 : u2 = hi * 2 ^ s + lo / 2 ^ (64 - s)) (h1 : u10 = lo * 2 ^ s % 18446744073709551616) : (u2 * B32 + u10 / 4294967296) * B32 + u10 % 4294967296 = (hi * 18446744073709551616 + lo) * 2 ^ s := by
  have e1 : lo * 2 ^ s / 18446744073709551616 = lo / 2 ^ (64 - s) := by
    have : (18446744073709551616 : Nat) = 2 ^ (64 - s) * 2 ^ s := by rw [← Nat.pow_add, show 64 - s + s = 64 by omega]
    rw [this, Nat.mul_div_mul_right _ _ (Nat.two_pow_pos s)]
  have e2 := Nat.div_add_mod (lo * 2 ^ s) 18446744073709551616
  rw [e1, ← h1] at e2
  rw [Nat.add_mul (hi * 18446744073709551616) lo, ← e2]
  have e3 : hi * 18446744073709551616 * 2 ^ s = hi * 2 ^ s * 18446744073709551616 := by rw [Nat.mul_assoc, Nat.mul_comm 18446744073709551616, ← Nat.mul_assoc]
  rw [e3, h2]
  generalize hi * 2 ^ s = a
  generalize lo / 2 ^ (64 - s) = b
  unfold B32
  omega
theorem end_facts (hi lo y s u2 u10 Q1 R1 Q0 R0 : Nat) (hs : s ≤ 63) (hy : 0 < y) (h2 : u2 = hi * 2 ^ s + lo / 2 ^ (64 - s)) (h1 : u10 = lo * 2 ^ s % 18446744073709551616)
    (hQ1 : Q1 = (u2 * B32 + u10 / 4294967296) / (y * 2 ^ s)) (hR1 : R1 = (u2 * B32 + u10 / 4294967296) % (y * 2 ^ s)) (hQ0 : Q0 = (R1 * B32 + u10 % 4294967296) / (y * 2 ^ s)) (hR0 : R0 = (R1 * B32 + u10 % 4294967296) % (y * 2 ^ s)) :
    Q1 * B32 + Q0 = (hi * 18446744073709551616 + lo) / y ∧ R0 / 2 ^ s = (hi * 18446744073709551616 + lo) % y := by
  have hp := Nat.two_pow_pos s
  have hd := two_digits u2 (u10 / 4294967296) (u10 % 4294967296) (y * 2 ^ s) (Nat.mul_pos hy hp)
  rw [whole_num hi lo s u2 u10 hs h2 h1, ← hQ1, ← hR1, ← hQ0, ← hR0, Nat.mul_div_mul_right _ _ hp, Nat.mul_mod_mul_right] at hd
  refine ⟨hd.1.symm, ?_⟩
  rw [← hd.2, Nat.mul_div_cancel _ hp]
end Go.Proofs.YtpadpmkfhljiiaaGreat
/- The comparisons of package word, for every two words. -/
namespace Go.Proofs.YtpadpmkfhljiiaaGreat
open Go.RowKit

set_option maxHeartbeats 400000 in
set_option maxRecDepth 100000 in
theorem isZero_any (x : Int) (a0 a1 a2 a3 : Int) (w : World) (ha : IsW x a0 a1 a2 a3) :
    Calls Tryz.prog 155 #[.agg #[.int .u64 a0, .int .u64 a1, .int .u64 a2, .int .u64 a3]] w fun e w' => e = .returned (.bool (decide (x % MM = 0))) ∧ Below w.heap.size w w' := by
  have hq := eqw_run a0 a1 a2 a3 0 0 0 0
  go_enter Tryz.func155, Tryz.ntmps155
  go_wp2
  go_ret
  exact ⟨ret_bool (ha.eqw isW_0), by repeat' (first | with_reducible exact Below.refl _ _ | with_reducible exact Below.refl _ _ | with_reducible refine Below.drew ?_ | with_reducible refine bdrewN ?_ _ | with_reducible refine Below.alloc ?_ ?_ _ | with_reducible refine Below.setCell ?_ ?_ _ | omega | (simp; done) | (simp; omega))⟩

end Go.Proofs.YtpadpmkfhljiiaaGreat
/- What Do reaches: the table of deeds, and the first of them. -/
namespace Go.Proofs.YtpadpmkfhljiiaaGreat
open Go.RowKit

theorem results_cell {fn : Func} {p : Tmp} {ty : TypeId} (h : fn.results = #[.cell p ty]) (tmps : Array Value) (P : Program) (w : World) :
    (results fn tmps).run P w = ((asAddr (tmps.getD p undef)).run P w).andThen fun a w₁ => ((loadVar ty a).run P w₁).andThen fun v w₂ => .ok v w₂ := by
  simp only [results, h]
  simp [Sem.run_bind, Result.andThen]
  split <;> (try rfl)
  split <;> simp_all
theorem bsetCells {B : Nat} {a : World} {b : Nat} : ∀ (vs : List Value) (o : Nat) {w : World}, Below B a w → B ≤ b → Below B a (w.setCells b o vs)
  | [], _, _, h, _ => h
  | _ :: r, o, _, h, hb => bsetCells r (o + 1) (h.setCell (p := ⟨b, o, none⟩) hb _) hb
theorem size_setCells {b : Nat} : ∀ (vs : List Value) (o : Nat) (w : World), (w.setCells b o vs).heap.size = w.heap.size
  | [], _, _ => rfl
  | v :: r, o, w => by rw [World.setCells, size_setCells r (o + 1)]; simp [World.setCell]
/-- The table that deeds makes. -/
def tbl : List Value := [.nilFunc, .func (.func 135) #[] #[], .func (.func 136) #[] #[], .func (.func 137) #[] #[], .func (.func 138) #[] #[], .func (.func 139) #[] #[], .func (.func 140) #[] #[], .func (.func 141) #[] #[], .func (.func 142) #[] #[], .func (.func 143) #[] #[], .func (.func 144) #[] #[], .func (.func 146) #[] #[], .nilFunc, .nilFunc, .nilFunc, .nilFunc, .func (.func 147) #[] #[], .func (.func 149) #[] #[], .func (.func 150) #[] #[], .func (.func 151) #[] #[], .func (.func 152) #[] #[], .func (.func 154) #[] #[], .func (.func 156) #[] #[], .func (.func 157) #[] #[], .func (.func 158) #[] #[], .func (.func 159) #[] #[], .func (.func 160) #[] #[], .func (.func 161) #[] #[], .func (.func 162) #[] #[], .func (.func 163) #[] #[], .func (.func 164) #[] #[]]
theorem there_new (w : World) (C : Array Value) (t : TypeId) : (w.alloc (.cells C t)).there w.heap.size 0 C.size := by
  intro j hj
  have hb : (w.alloc (.cells C t)).heap[w.heap.size]? = some (.cells C t) := by show (w.heap.push _)[w.heap.size]? = _; simp
  refine ⟨?_, ?_⟩
  · simp only [World.cell?, hb]; simp [hj]
  · simp only [World.frozen?, hb]; simp
set_option maxHeartbeats 400000 in
set_option maxRecDepth 100000 in
theorem deeds_any (w : World) : Calls Tryz.prog 111 #[] w fun e w' => e = .returned (.agg tbl.toArray) ∧ Below w.heap.size w w' := by
  go_enter Tryz.func111, Tryz.ntmps111
  go_wp2_with (refine wpList_store_mid rfl 93 _ _ rfl w.heap.size 0 tbl.toArray rfl rfl ?_ (by kernel_rfl) (by kernel_rfl) ?_)
  · exact there_new w _ _
  · have ht := there_new w #[.nilFunc, .nilFunc, .nilFunc, .nilFunc, .nilFunc, .nilFunc, .nilFunc, .nilFunc, .nilFunc, .nilFunc, .nilFunc, .nilFunc, .nilFunc, .nilFunc, .nilFunc, .nilFunc, .nilFunc, .nilFunc, .nilFunc, .nilFunc, .nilFunc, .nilFunc, .nilFunc, .nilFunc, .nilFunc, .nilFunc, .nilFunc, .nilFunc, .nilFunc, .nilFunc, .nilFunc] 93
    have hr := World.rangeAt_setCells_same _ w.heap.size 0 tbl ht
    have hl := run_loadVar_mid (P := Tryz.prog) _ w.heap.size 0 93 tbl _ hr Tryz.underlying93 rfl (by kernel_rfl)
    refine bodyPost_ret (v := .agg tbl.toArray) ?_ rfl ⟨rfl, bsetCells _ _ (by repeat' (first | with_reducible exact Below.refl _ _ | with_reducible exact Below.refl _ _ | with_reducible refine Below.drew ?_ | with_reducible refine bdrewN ?_ _ | with_reducible refine Below.alloc ?_ ?_ _ | with_reducible refine Below.setCell ?_ ?_ _ | omega | (simp; done) | (simp; omega))) (Nat.le_refl _)⟩
    rw [results_cell (fn := Tryz.f111) Tryz.results111]
    simp only [Act.put, Array.getD_eq_getD_getElem?, List.getElem?_toArray, List.getElem?_cons_zero, Option.getD_some, asAddr, Sem.run_pure, Result.andThen_ok, hl]
theorem store_tbl {ops : Array Oper} {rest : List Oper} {op : Oper} {a : Act} {w : World} {Q : Exit → Act → World → Prop} (hgd : op.guard = none) (x y : Operand) (ho : op.op = .store 93 x y)
    (b : Nat) (hx : a.eval x = .pointer (some ⟨b, 0, none⟩)) (hy : a.eval y = .agg tbl.toArray) (ht : w.there b 0 31)
    (h : ∀ w2, Below b w w2 → w2.heap.size = w.heap.size → w2.rangeAt b 0 tbl → wpList Tryz.prog ops Q rest (a.put op.dst undef) w2) : wpList Tryz.prog ops Q (op :: rest) a w :=
  wpList_store_mid hgd 93 x y ho b 0 tbl.toArray hx hy ht (by kernel_rfl) (by kernel_rfl)
    (h _ (bsetCells _ _ (Below.refl _ _) (Nat.le_refl _)) (size_setCells _ _ _) (World.rangeAt_setCells_same w b 0 tbl ht))

set_option maxHeartbeats 400000 in
set_option maxRecDepth 100000 in
theorem deed1_any (x y : Int) (a0 a1 a2 a3 b0 b1 b2 b3 c0 c1 c2 c3 : Int) (w : World) (ha : IsW x a0 a1 a2 a3) (hb : IsW y b0 b1 b2 b3) :
    Calls Tryz.prog 135 #[.agg #[.int .u64 a0, .int .u64 a1, .int .u64 a2, .int .u64 a3], .agg #[.int .u64 b0, .int .u64 b1, .int .u64 b2, .int .u64 b3], .agg #[.int .u64 c0, .int .u64 c1, .int .u64 c2, .int .u64 c3]] w fun e w' => ∃ s0 s1 s2 s3 : Int, e = .returned (.agg #[.int .u64 s0, .int .u64 s1, .int .u64 s2, .int .u64 s3]) ∧ IsW (x + y) s0 s1 s2 s3 ∧ Below w.heap.size w w' := by
  go_enter Tryz.func135, Tryz.ntmps135
  go_wp2_with fail
  refine (add_any x y _ _ _ _ _ _ _ _ _ ha hb).mono ?_
  rintro e w1 ⟨s0, s1, s2, s3, rfl, hs, hB⟩
  have zz : w.heap.size + 1 + 1 + 1 < w1.heap.size := by have := hB.size; simp at this; omega
  have kk0 : w1.cell? ⟨w.heap.size + 1 + 1 + 1, 0, none⟩ = some (.int .u64 0) := (hB.cell (p := ⟨w.heap.size + 1 + 1 + 1, 0, none⟩) (by first | omega | (simp; done) | (simp; omega))).trans (by go_simp)
  have kk1 : w1.cell? ⟨w.heap.size + 1 + 1 + 1, 1, none⟩ = some (.int .u64 0) := (hB.cell (p := ⟨w.heap.size + 1 + 1 + 1, 1, none⟩) (by first | omega | (simp; done) | (simp; omega))).trans (by go_simp)
  have kk2 : w1.cell? ⟨w.heap.size + 1 + 1 + 1, 2, none⟩ = some (.int .u64 0) := (hB.cell (p := ⟨w.heap.size + 1 + 1 + 1, 2, none⟩) (by first | omega | (simp; done) | (simp; omega))).trans (by go_simp)
  have kk3 : w1.cell? ⟨w.heap.size + 1 + 1 + 1, 3, none⟩ = some (.int .u64 0) := (hB.cell (p := ⟨w.heap.size + 1 + 1 + 1, 3, none⟩) (by first | omega | (simp; done) | (simp; omega))).trans (by go_simp)
  have ff0 : w1.frozen? ⟨w.heap.size + 1 + 1 + 1, 0, none⟩ = false := (hB.frozen (p := ⟨w.heap.size + 1 + 1 + 1, 0, none⟩) (by first | omega | (simp; done) | (simp; omega))).trans (by go_simp)
  have ff1 : w1.frozen? ⟨w.heap.size + 1 + 1 + 1, 1, none⟩ = false := (hB.frozen (p := ⟨w.heap.size + 1 + 1 + 1, 1, none⟩) (by first | omega | (simp; done) | (simp; omega))).trans (by go_simp)
  have ff2 : w1.frozen? ⟨w.heap.size + 1 + 1 + 1, 2, none⟩ = false := (hB.frozen (p := ⟨w.heap.size + 1 + 1 + 1, 2, none⟩) (by first | omega | (simp; done) | (simp; omega))).trans (by go_simp)
  have ff3 : w1.frozen? ⟨w.heap.size + 1 + 1 + 1, 3, none⟩ = false := (hB.frozen (p := ⟨w.heap.size + 1 + 1 + 1, 3, none⟩) (by first | omega | (simp; done) | (simp; omega))).trans (by go_simp)
  have BB : Below w.heap.size w w1 := Below.trans (by repeat' (first | with_reducible exact Below.refl _ _ | with_reducible exact Below.refl _ _ | with_reducible refine Below.drew ?_ | with_reducible refine bdrewN ?_ _ | with_reducible refine Below.alloc ?_ ?_ _ | with_reducible refine Below.setCell ?_ ?_ _ | omega | (simp; done) | (simp; omega))) (hB.mono (by first | omega | (simp; done) | (simp; omega)))
  clear hB
  go_wp2
  exact bodyPost_ret (v := .agg #[.int .u64 s0, .int .u64 s1, .int .u64 s2, .int .u64 s3]) (by simp [results, Tryz.results135, go_sem, kk0, kk1, kk2, kk3]) rfl
    ⟨s0, s1, s2, s3, rfl, hs, by repeat' (first | with_reducible exact BB | with_reducible exact Below.refl _ _ | with_reducible refine Below.drew ?_ | with_reducible refine bdrewN ?_ _ | with_reducible refine Below.alloc ?_ ?_ _ | with_reducible refine Below.setCell ?_ ?_ _ | omega | (simp; done) | (simp; omega))⟩
theorem eqf_run (f : FuncId) (W : World) : (binOp .eql 92 (.func (.func f) #[] #[]) .nilFunc).run Tryz.prog W = .ok (.bool false) W := by kernel_rfl

set_option maxHeartbeats 1000000 in
set_option maxRecDepth 100000 in
theorem do1_any (x y : Int) (a0 a1 a2 a3 b0 b1 b2 b3 c0 c1 c2 c3 : Int) (w : World) (ha : IsW x a0 a1 a2 a3) (hb : IsW y b0 b1 b2 b3) :
    Calls Tryz.prog 56 #[.int .i64 1, .agg #[.int .u64 a0, .int .u64 a1, .int .u64 a2, .int .u64 a3], .agg #[.int .u64 b0, .int .u64 b1, .int .u64 b2, .int .u64 b3], .agg #[.int .u64 c0, .int .u64 c1, .int .u64 c2, .int .u64 c3]] w fun e w' => ∃ s0 s1 s2 s3 : Int, e = .returned (.tuple #[.agg #[.int .u64 s0, .int .u64 s1, .int .u64 s2, .int .u64 s3], .bool true]) ∧ IsW (x + y) s0 s1 s2 s3 ∧ Below w.heap.size w w' := by
  go_enter Tryz.func56, Tryz.ntmps56
  go_wp2_with fail
  refine (deeds_any _).mono ?_
  rintro e w1 ⟨rfl, hB⟩
  have z3 : w.heap.size + 1 + 1 + 1 < w1.heap.size := by have := hB.size; (try simp at this); omega
  have z0 : w.heap.size < w1.heap.size := by omega
  have z1 : w.heap.size + 1 < w1.heap.size := by omega
  have z2 : w.heap.size + 1 + 1 < w1.heap.size := by omega
  have ka0 : w1.cell? ⟨w.heap.size, 0, none⟩ = some (.int .u64 a0) := (hB.cell (p := ⟨w.heap.size, 0, none⟩) (by first | omega | (simp; done) | (simp; omega))).trans (by go_simp)
  have ka1 : w1.cell? ⟨w.heap.size, 1, none⟩ = some (.int .u64 a1) := (hB.cell (p := ⟨w.heap.size, 1, none⟩) (by first | omega | (simp; done) | (simp; omega))).trans (by go_simp)
  have ka2 : w1.cell? ⟨w.heap.size, 2, none⟩ = some (.int .u64 a2) := (hB.cell (p := ⟨w.heap.size, 2, none⟩) (by first | omega | (simp; done) | (simp; omega))).trans (by go_simp)
  have ka3 : w1.cell? ⟨w.heap.size, 3, none⟩ = some (.int .u64 a3) := (hB.cell (p := ⟨w.heap.size, 3, none⟩) (by first | omega | (simp; done) | (simp; omega))).trans (by go_simp)
  have kb0 : w1.cell? ⟨w.heap.size + 1, 0, none⟩ = some (.int .u64 b0) := (hB.cell (p := ⟨w.heap.size + 1, 0, none⟩) (by first | omega | (simp; done) | (simp; omega))).trans (by go_simp)
  have kb1 : w1.cell? ⟨w.heap.size + 1, 1, none⟩ = some (.int .u64 b1) := (hB.cell (p := ⟨w.heap.size + 1, 1, none⟩) (by first | omega | (simp; done) | (simp; omega))).trans (by go_simp)
  have kb2 : w1.cell? ⟨w.heap.size + 1, 2, none⟩ = some (.int .u64 b2) := (hB.cell (p := ⟨w.heap.size + 1, 2, none⟩) (by first | omega | (simp; done) | (simp; omega))).trans (by go_simp)
  have kb3 : w1.cell? ⟨w.heap.size + 1, 3, none⟩ = some (.int .u64 b3) := (hB.cell (p := ⟨w.heap.size + 1, 3, none⟩) (by first | omega | (simp; done) | (simp; omega))).trans (by go_simp)
  have kc0 : w1.cell? ⟨w.heap.size + 1 + 1, 0, none⟩ = some (.int .u64 c0) := (hB.cell (p := ⟨w.heap.size + 1 + 1, 0, none⟩) (by first | omega | (simp; done) | (simp; omega))).trans (by go_simp)
  have kc1 : w1.cell? ⟨w.heap.size + 1 + 1, 1, none⟩ = some (.int .u64 c1) := (hB.cell (p := ⟨w.heap.size + 1 + 1, 1, none⟩) (by first | omega | (simp; done) | (simp; omega))).trans (by go_simp)
  have kc2 : w1.cell? ⟨w.heap.size + 1 + 1, 2, none⟩ = some (.int .u64 c2) := (hB.cell (p := ⟨w.heap.size + 1 + 1, 2, none⟩) (by first | omega | (simp; done) | (simp; omega))).trans (by go_simp)
  have kc3 : w1.cell? ⟨w.heap.size + 1 + 1, 3, none⟩ = some (.int .u64 c3) := (hB.cell (p := ⟨w.heap.size + 1 + 1, 3, none⟩) (by first | omega | (simp; done) | (simp; omega))).trans (by go_simp)
  have kr0 : w1.cell? ⟨w.heap.size + 1 + 1 + 1, 0, none⟩ = some (.int .u64 0) := (hB.cell (p := ⟨w.heap.size + 1 + 1 + 1, 0, none⟩) (by first | omega | (simp; done) | (simp; omega))).trans (by go_simp)
  have kr1 : w1.cell? ⟨w.heap.size + 1 + 1 + 1, 1, none⟩ = some (.int .u64 0) := (hB.cell (p := ⟨w.heap.size + 1 + 1 + 1, 1, none⟩) (by first | omega | (simp; done) | (simp; omega))).trans (by go_simp)
  have kr2 : w1.cell? ⟨w.heap.size + 1 + 1 + 1, 2, none⟩ = some (.int .u64 0) := (hB.cell (p := ⟨w.heap.size + 1 + 1 + 1, 2, none⟩) (by first | omega | (simp; done) | (simp; omega))).trans (by go_simp)
  have kr3 : w1.cell? ⟨w.heap.size + 1 + 1 + 1, 3, none⟩ = some (.int .u64 0) := (hB.cell (p := ⟨w.heap.size + 1 + 1 + 1, 3, none⟩) (by first | omega | (simp; done) | (simp; omega))).trans (by go_simp)
  have fr0 : w1.frozen? ⟨w.heap.size + 1 + 1 + 1, 0, none⟩ = false := (hB.frozen (p := ⟨w.heap.size + 1 + 1 + 1, 0, none⟩) (by first | omega | (simp; done) | (simp; omega))).trans (by go_simp)
  have fr1 : w1.frozen? ⟨w.heap.size + 1 + 1 + 1, 1, none⟩ = false := (hB.frozen (p := ⟨w.heap.size + 1 + 1 + 1, 1, none⟩) (by first | omega | (simp; done) | (simp; omega))).trans (by go_simp)
  have fr2 : w1.frozen? ⟨w.heap.size + 1 + 1 + 1, 2, none⟩ = false := (hB.frozen (p := ⟨w.heap.size + 1 + 1 + 1, 2, none⟩) (by first | omega | (simp; done) | (simp; omega))).trans (by go_simp)
  have fr3 : w1.frozen? ⟨w.heap.size + 1 + 1 + 1, 3, none⟩ = false := (hB.frozen (p := ⟨w.heap.size + 1 + 1 + 1, 3, none⟩) (by first | omega | (simp; done) | (simp; omega))).trans (by go_simp)
  have B1 : Below w.heap.size w w1 := Below.trans (by repeat' (first | with_reducible exact Below.refl _ _ | with_reducible exact Below.refl _ _ | with_reducible refine Below.drew ?_ | with_reducible refine bdrewN ?_ _ | with_reducible refine Below.alloc ?_ ?_ _ | with_reducible refine Below.setCell ?_ ?_ _ | omega | (simp; done) | (simp; omega))) (hB.mono (by first | omega | (simp; done) | (simp; omega)))
  clear hB
  go_wp2_with (refine store_tbl rfl _ _ rfl w1.heap.size rfl rfl (there_new w1 _ _) ?_; intro w2 hB hz2 hr2; change Hid _)
  have y3 : w.heap.size + 1 + 1 + 1 < w2.heap.size := by have := hB.size; (try simp at this); omega
  have y0 : w.heap.size < w2.heap.size := by omega
  have y1 : w.heap.size + 1 < w2.heap.size := by omega
  have y2 : w.heap.size + 1 + 1 < w2.heap.size := by omega
  have zt : w1.heap.size < w2.heap.size := by rw [hz2]; simp
  have kt : w2.cell? ⟨w1.heap.size, 1, none⟩ = some (.func (.func 135) #[] #[]) := hr2 1 _ rfl
  have la0 : w2.cell? ⟨w.heap.size, 0, none⟩ = some (.int .u64 a0) := (hB.cell (p := ⟨w.heap.size, 0, none⟩) (by first | omega | (simp; done) | (simp; omega))).trans (by go_simp)
  have la1 : w2.cell? ⟨w.heap.size, 1, none⟩ = some (.int .u64 a1) := (hB.cell (p := ⟨w.heap.size, 1, none⟩) (by first | omega | (simp; done) | (simp; omega))).trans (by go_simp)
  have la2 : w2.cell? ⟨w.heap.size, 2, none⟩ = some (.int .u64 a2) := (hB.cell (p := ⟨w.heap.size, 2, none⟩) (by first | omega | (simp; done) | (simp; omega))).trans (by go_simp)
  have la3 : w2.cell? ⟨w.heap.size, 3, none⟩ = some (.int .u64 a3) := (hB.cell (p := ⟨w.heap.size, 3, none⟩) (by first | omega | (simp; done) | (simp; omega))).trans (by go_simp)
  have lb0 : w2.cell? ⟨w.heap.size + 1, 0, none⟩ = some (.int .u64 b0) := (hB.cell (p := ⟨w.heap.size + 1, 0, none⟩) (by first | omega | (simp; done) | (simp; omega))).trans (by go_simp)
  have lb1 : w2.cell? ⟨w.heap.size + 1, 1, none⟩ = some (.int .u64 b1) := (hB.cell (p := ⟨w.heap.size + 1, 1, none⟩) (by first | omega | (simp; done) | (simp; omega))).trans (by go_simp)
  have lb2 : w2.cell? ⟨w.heap.size + 1, 2, none⟩ = some (.int .u64 b2) := (hB.cell (p := ⟨w.heap.size + 1, 2, none⟩) (by first | omega | (simp; done) | (simp; omega))).trans (by go_simp)
  have lb3 : w2.cell? ⟨w.heap.size + 1, 3, none⟩ = some (.int .u64 b3) := (hB.cell (p := ⟨w.heap.size + 1, 3, none⟩) (by first | omega | (simp; done) | (simp; omega))).trans (by go_simp)
  have lc0 : w2.cell? ⟨w.heap.size + 1 + 1, 0, none⟩ = some (.int .u64 c0) := (hB.cell (p := ⟨w.heap.size + 1 + 1, 0, none⟩) (by first | omega | (simp; done) | (simp; omega))).trans (by go_simp)
  have lc1 : w2.cell? ⟨w.heap.size + 1 + 1, 1, none⟩ = some (.int .u64 c1) := (hB.cell (p := ⟨w.heap.size + 1 + 1, 1, none⟩) (by first | omega | (simp; done) | (simp; omega))).trans (by go_simp)
  have lc2 : w2.cell? ⟨w.heap.size + 1 + 1, 2, none⟩ = some (.int .u64 c2) := (hB.cell (p := ⟨w.heap.size + 1 + 1, 2, none⟩) (by first | omega | (simp; done) | (simp; omega))).trans (by go_simp)
  have lc3 : w2.cell? ⟨w.heap.size + 1 + 1, 3, none⟩ = some (.int .u64 c3) := (hB.cell (p := ⟨w.heap.size + 1 + 1, 3, none⟩) (by first | omega | (simp; done) | (simp; omega))).trans (by go_simp)
  have lr0 : w2.cell? ⟨w.heap.size + 1 + 1 + 1, 0, none⟩ = some (.int .u64 0) := (hB.cell (p := ⟨w.heap.size + 1 + 1 + 1, 0, none⟩) (by first | omega | (simp; done) | (simp; omega))).trans (by go_simp)
  have lr1 : w2.cell? ⟨w.heap.size + 1 + 1 + 1, 1, none⟩ = some (.int .u64 0) := (hB.cell (p := ⟨w.heap.size + 1 + 1 + 1, 1, none⟩) (by first | omega | (simp; done) | (simp; omega))).trans (by go_simp)
  have lr2 : w2.cell? ⟨w.heap.size + 1 + 1 + 1, 2, none⟩ = some (.int .u64 0) := (hB.cell (p := ⟨w.heap.size + 1 + 1 + 1, 2, none⟩) (by first | omega | (simp; done) | (simp; omega))).trans (by go_simp)
  have lr3 : w2.cell? ⟨w.heap.size + 1 + 1 + 1, 3, none⟩ = some (.int .u64 0) := (hB.cell (p := ⟨w.heap.size + 1 + 1 + 1, 3, none⟩) (by first | omega | (simp; done) | (simp; omega))).trans (by go_simp)
  have gr0 : w2.frozen? ⟨w.heap.size + 1 + 1 + 1, 0, none⟩ = false := (hB.frozen (p := ⟨w.heap.size + 1 + 1 + 1, 0, none⟩) (by first | omega | (simp; done) | (simp; omega))).trans (by go_simp)
  have gr1 : w2.frozen? ⟨w.heap.size + 1 + 1 + 1, 1, none⟩ = false := (hB.frozen (p := ⟨w.heap.size + 1 + 1 + 1, 1, none⟩) (by first | omega | (simp; done) | (simp; omega))).trans (by go_simp)
  have gr2 : w2.frozen? ⟨w.heap.size + 1 + 1 + 1, 2, none⟩ = false := (hB.frozen (p := ⟨w.heap.size + 1 + 1 + 1, 2, none⟩) (by first | omega | (simp; done) | (simp; omega))).trans (by go_simp)
  have gr3 : w2.frozen? ⟨w.heap.size + 1 + 1 + 1, 3, none⟩ = false := (hB.frozen (p := ⟨w.heap.size + 1 + 1 + 1, 3, none⟩) (by first | omega | (simp; done) | (simp; omega))).trans (by go_simp)
  have B2 : Below w.heap.size w w2 := Below.trans (by repeat' (first | with_reducible exact B1 | with_reducible exact Below.refl _ _ | with_reducible refine Below.drew ?_ | with_reducible refine bdrewN ?_ _ | with_reducible refine Below.alloc ?_ ?_ _ | with_reducible refine Below.setCell ?_ ?_ _ | omega | (simp; done) | (simp; omega))) (hB.mono (by first | omega | (simp; done) | (simp; omega)))
  clear hB hr2 hz2 z0 z1 z2 ka0 ka1 ka2 ka3 kb0 kb1 kb2 kb3 kc0 kc1 kc2 kc3 kr0 kr1 kr2 kr3 fr0 fr1 fr2 fr3
  unfold Hid
  have hq := eqf_run 135
  go_wp2
  go_region_held3 (fun w' => w'.cell? ⟨w.heap.size, 0, none⟩ = some (.int .u64 a0) ∧ w'.cell? ⟨w.heap.size, 1, none⟩ = some (.int .u64 a1) ∧ w'.cell? ⟨w.heap.size, 2, none⟩ = some (.int .u64 a2) ∧ w'.cell? ⟨w.heap.size, 3, none⟩ = some (.int .u64 a3) ∧ w'.cell? ⟨w.heap.size + 1, 0, none⟩ = some (.int .u64 b0) ∧ w'.cell? ⟨w.heap.size + 1, 1, none⟩ = some (.int .u64 b1) ∧ w'.cell? ⟨w.heap.size + 1, 2, none⟩ = some (.int .u64 b2) ∧ w'.cell? ⟨w.heap.size + 1, 3, none⟩ = some (.int .u64 b3) ∧ w'.cell? ⟨w.heap.size + 1 + 1, 0, none⟩ = some (.int .u64 c0) ∧ w'.cell? ⟨w.heap.size + 1 + 1, 1, none⟩ = some (.int .u64 c1) ∧ w'.cell? ⟨w.heap.size + 1 + 1, 2, none⟩ = some (.int .u64 c2) ∧ w'.cell? ⟨w.heap.size + 1 + 1, 3, none⟩ = some (.int .u64 c3) ∧ w'.cell? ⟨w1.heap.size, 1, none⟩ = some (.func (.func 135) #[] #[])) (first | ((try dsimp only); refine ⟨?_, ?_, ?_, ?_, ?_, ?_, ?_, ?_, ?_, ?_, ?_, ?_, ?_⟩ <;> first | (simp [*]; done) | (go_simp; done)) | (go_split_ands; (try dsimp only); refine ⟨?_, ?_, ?_, ?_, ?_, ?_, ?_, ?_, ?_, ?_, ?_, ?_, ?_⟩ <;> (refine (hB.cell ?_).trans ?_ <;> first | assumption | omega | (simp; done) | (simp; omega) | (go_simp; done))) | (go_split_ands; (try dsimp only); refine ⟨?_, ?_, ?_, ?_, ?_, ?_, ?_, ?_, ?_, ?_, ?_, ?_, ?_⟩ <;> (go_simp; done))) (first
    | (go_at_call 135
       refine (deed1_any x y _ _ _ _ _ _ _ _ _ _ _ _ _ ha hb).mono ?_
       rintro e w3 ⟨s0, s1, s2, s3, rfl, hs, hB⟩
       have qr0 : w3.cell? ⟨w.heap.size + 1 + 1 + 1, 0, none⟩ = some (.int .u64 0) := (hB.cell (p := ⟨w.heap.size + 1 + 1 + 1, 0, none⟩) (by first | omega | (simp; done) | (simp; omega))).trans (by go_simp)
       have qr1 : w3.cell? ⟨w.heap.size + 1 + 1 + 1, 1, none⟩ = some (.int .u64 0) := (hB.cell (p := ⟨w.heap.size + 1 + 1 + 1, 1, none⟩) (by first | omega | (simp; done) | (simp; omega))).trans (by go_simp)
       have qr2 : w3.cell? ⟨w.heap.size + 1 + 1 + 1, 2, none⟩ = some (.int .u64 0) := (hB.cell (p := ⟨w.heap.size + 1 + 1 + 1, 2, none⟩) (by first | omega | (simp; done) | (simp; omega))).trans (by go_simp)
       have qr3 : w3.cell? ⟨w.heap.size + 1 + 1 + 1, 3, none⟩ = some (.int .u64 0) := (hB.cell (p := ⟨w.heap.size + 1 + 1 + 1, 3, none⟩) (by first | omega | (simp; done) | (simp; omega))).trans (by go_simp)
       have pr0 : w3.frozen? ⟨w.heap.size + 1 + 1 + 1, 0, none⟩ = false := (hB.frozen (p := ⟨w.heap.size + 1 + 1 + 1, 0, none⟩) (by first | omega | (simp; done) | (simp; omega))).trans (by go_simp)
       have pr1 : w3.frozen? ⟨w.heap.size + 1 + 1 + 1, 1, none⟩ = false := (hB.frozen (p := ⟨w.heap.size + 1 + 1 + 1, 1, none⟩) (by first | omega | (simp; done) | (simp; omega))).trans (by go_simp)
       have pr2 : w3.frozen? ⟨w.heap.size + 1 + 1 + 1, 2, none⟩ = false := (hB.frozen (p := ⟨w.heap.size + 1 + 1 + 1, 2, none⟩) (by first | omega | (simp; done) | (simp; omega))).trans (by go_simp)
       have pr3 : w3.frozen? ⟨w.heap.size + 1 + 1 + 1, 3, none⟩ = false := (hB.frozen (p := ⟨w.heap.size + 1 + 1 + 1, 3, none⟩) (by first | omega | (simp; done) | (simp; omega))).trans (by go_simp)
       clear lr0 lr1 lr2 lr3 gr0 gr1 gr2 gr3))
  have B3 : Below w.heap.size w w3 := Below.trans (by repeat' (first | with_reducible exact B2 | with_reducible exact Below.refl _ _ | with_reducible refine Below.drew ?_ | with_reducible refine bdrewN ?_ _ | with_reducible refine Below.alloc ?_ ?_ _ | with_reducible refine Below.setCell ?_ ?_ _ | omega | (simp; done) | (simp; omega))) (hB.mono (by first | omega | (simp; done) | (simp; omega)))
  clear hB
  go_wp2
  exact bodyPost_ret (v := .tuple #[.agg #[.int .u64 s0, .int .u64 s1, .int .u64 s2, .int .u64 s3], .bool true]) (by simp [results, Tryz.results56, go_sem, qr0, qr1, qr2, qr3]) rfl
    ⟨s0, s1, s2, s3, rfl, hs, by repeat' (first | with_reducible exact B3 | with_reducible exact Below.refl _ _ | with_reducible refine Below.drew ?_ | with_reducible refine bdrewN ?_ _ | with_reducible refine Below.alloc ?_ ?_ _ | with_reducible refine Below.setCell ?_ ?_ _ | omega | (simp; done) | (simp; omega))⟩
end Go.Proofs.YtpadpmkfhljiiaaGreat
/- The text of 2, run; and awake: in whatever world it returns true. -/
namespace Go.Proofs.YtpadpmkfhljiiaaGreat
open Go.RowKit
set_option maxHeartbeats 1000000 in
set_option maxRecDepth 100000 in
theorem div64_small (lo y : Int) (w : World) (hy : 0 < y) (hl : U64 lo) :
    Calls Tryz.prog 177 #[.int .u64 0, .int .u64 lo, .int .u64 y] w fun e w' => e = .returned (.tuple #[.int .u64 (lo / y), .int .u64 (lo % y)]) ∧ Below w.heap.size w w' ∧ ∃ n, w' = w.drewN n := by
  have h1 : (y == 0) = false := beq_eq_false_iff_ne.2 (by omega)
  have h2 : decide (y ≤ 0) = false := by simp; omega
  go_enter Tryz.func177, Tryz.ntmps177
  go_wp2
  go_quiet (fail)
  go_wp2
  go_ret2
  refine ⟨?_, by repeat' (first | with_reducible exact Below.refl _ _ | with_reducible exact Below.refl _ _ | with_reducible refine Below.drew ?_ | with_reducible refine bdrewN ?_ _ | with_reducible refine Below.alloc ?_ ?_ _ | with_reducible refine Below.setCell ?_ ?_ _ | omega | (simp; done) | (simp; omega)), _, rfl⟩
  have e1 : lo.tdiv y = lo / y := Int.tdiv_eq_ediv_of_nonneg hl.1
  have e3 : 0 ≤ lo / y := Int.ediv_nonneg hl.1 (by omega)
  have e4 : lo / y ≤ lo := Int.ediv_le_self _ hl.1
  have e5 := hl.2
  unfold Bd at e5
  have e6 : lo / y < 18446744073709551616 := by omega
  have e7 : IntKind.u64.wrap (lo / y) = lo / y := by rw [IntKind.wrap_u64]; exact Int.emod_eq_of_lt e3 e6
  have e2 : lo.tmod y = lo % y := Int.tmod_eq_emod_of_nonneg hl.1
  simp [e1, e2, e7]
set_option maxHeartbeats 1000000 in
set_option maxRecDepth 100000 in
theorem shorten2_any (w : World) :
    Calls Tryz.prog 174 #[.agg #[.int .u64 2, .int .u64 0, .int .u64 0, .int .u64 0], .int .u64 10] w fun e w' => e = .returned (.tuple #[.agg #[.int .u64 0, .int .u64 0, .int .u64 0, .int .u64 0], .int .u64 2]) ∧ Below w.heap.size w w' := by
  go_enter Tryz.func174, Tryz.ntmps174
  go_wp2
  refine wp_loop_rounds 5 ?_
  rw [rounds_succ]
  go_wp2_with (go_at_call 177; refine (div64_small _ _ _ (by omega) (u64_lit _ (by omega) (by omega))).mono ?_; rintro e w' ⟨rfl, hB, n, rfl⟩; clear hB; simp only [Int.zero_ediv, Int.zero_emod])
  rw [rounds_succ]
  go_wp2_with (go_at_call 177; refine (div64_small _ _ _ (by omega) (u64_lit _ (by omega) (by omega))).mono ?_; rintro e w' ⟨rfl, hB, n, rfl⟩; clear hB; simp only [Int.zero_ediv, Int.zero_emod])
  rw [rounds_succ]
  go_wp2_with (go_at_call 177; refine (div64_small _ _ _ (by omega) (u64_lit _ (by omega) (by omega))).mono ?_; rintro e w' ⟨rfl, hB, n, rfl⟩; clear hB; simp only [Int.zero_ediv, Int.zero_emod])
  rw [rounds_succ]
  go_wp2_with (go_at_call 177; refine (div64_small _ _ _ (by omega) (u64_lit _ (by omega) (by omega))).mono ?_; rintro e w' ⟨rfl, hB, n, rfl⟩; clear hB; simp only [show (2 : Int) / 10 = 0 from by decide, show (2 : Int) % 10 = 2 from by decide])
  rw [rounds_succ]
  go_wp2
  exact bodyPost_ret (v := .tuple #[.agg #[.int .u64 0, .int .u64 0, .int .u64 0, .int .u64 0], .int .u64 2]) (by simp [results, Tryz.results174, go_sem]) rfl
    ⟨rfl, by repeat' (first | with_reducible exact Below.refl _ _ | with_reducible exact Below.refl _ _ | with_reducible refine Below.drew ?_ | with_reducible refine bdrewN ?_ _ | with_reducible refine Below.alloc ?_ ?_ _ | with_reducible refine Below.setCell ?_ ?_ _ | omega | (simp; done) | (simp; omega))⟩
set_option maxHeartbeats 1000000 in
set_option maxRecDepth 100000 in
theorem write2_any (w : World) :
    Calls Tryz.prog 119 #[.agg #[.int .u64 2, .int .u64 0, .int .u64 0, .int .u64 0], .int .u64 10] w fun e w' => e = .returned (.string ⟨#[50]⟩) ∧ Below w.heap.size w w' := by
  go_enter Tryz.func119, Tryz.ntmps119
  go_wp2
  refine wp_loop_rounds 1 ?_
  rw [rounds_succ]
  go_wp2_with fail
  refine (shorten2_any _).mono ?_
  rintro e w1 ⟨rfl, hB⟩
  have z1 : w.heap.size + 1 < w1.heap.size := by have := hB.size; (try simp at this); omega
  have z0 : w.heap.size < w1.heap.size := by omega
  have ka0 : w1.cell? ⟨w.heap.size, 0, none⟩ = some (.int .u64 2) := (hB.cell (p := ⟨w.heap.size, 0, none⟩) (by first | omega | (simp; done) | (simp; omega))).trans (by go_simp)
  have ka1 : w1.cell? ⟨w.heap.size, 1, none⟩ = some (.int .u64 0) := (hB.cell (p := ⟨w.heap.size, 1, none⟩) (by first | omega | (simp; done) | (simp; omega))).trans (by go_simp)
  have ka2 : w1.cell? ⟨w.heap.size, 2, none⟩ = some (.int .u64 0) := (hB.cell (p := ⟨w.heap.size, 2, none⟩) (by first | omega | (simp; done) | (simp; omega))).trans (by go_simp)
  have ka3 : w1.cell? ⟨w.heap.size, 3, none⟩ = some (.int .u64 0) := (hB.cell (p := ⟨w.heap.size, 3, none⟩) (by first | omega | (simp; done) | (simp; omega))).trans (by go_simp)
  have fa0 : w1.frozen? ⟨w.heap.size, 0, none⟩ = false := (hB.frozen (p := ⟨w.heap.size, 0, none⟩) (by first | omega | (simp; done) | (simp; omega))).trans (by go_simp)
  have fa1 : w1.frozen? ⟨w.heap.size, 1, none⟩ = false := (hB.frozen (p := ⟨w.heap.size, 1, none⟩) (by first | omega | (simp; done) | (simp; omega))).trans (by go_simp)
  have fa2 : w1.frozen? ⟨w.heap.size, 2, none⟩ = false := (hB.frozen (p := ⟨w.heap.size, 2, none⟩) (by first | omega | (simp; done) | (simp; omega))).trans (by go_simp)
  have fa3 : w1.frozen? ⟨w.heap.size, 3, none⟩ = false := (hB.frozen (p := ⟨w.heap.size, 3, none⟩) (by first | omega | (simp; done) | (simp; omega))).trans (by go_simp)
  have kt : w1.cell? ⟨w.heap.size + 1, 77, none⟩ = some (.int .u8 0) := (hB.cell (p := ⟨w.heap.size + 1, 77, none⟩) (by simp)).trans (by go_simp; rfl)
  have ft : w1.frozen? ⟨w.heap.size + 1, 77, none⟩ = false := (hB.frozen (p := ⟨w.heap.size + 1, 77, none⟩) (by simp)).trans (by go_simp)
  have B1 : Below w.heap.size w w1 := Below.trans (by repeat' (first | with_reducible exact Below.refl _ _ | with_reducible exact Below.refl _ _ | with_reducible refine Below.drew ?_ | with_reducible refine bdrewN ?_ _ | with_reducible refine Below.alloc ?_ ?_ _ | with_reducible refine Below.setCell ?_ ?_ _ | omega | (simp; done) | (simp; omega))) (hB.mono (by first | omega | (simp; done) | (simp; omega)))
  clear hB
  go_wp2_with fail
  refine (isZero_any 0 _ _ _ _ _ isW_0).mono ?_
  rintro e w2 ⟨rfl, hB⟩
  have kt2 : w2.cell? ⟨w.heap.size + 1, 77, none⟩ = some (.int .u8 50) := (hB.cell (p := ⟨w.heap.size + 1, 77, none⟩) (by simp; omega)).trans (by go_simp; rfl)
  have hz2 : decide ((0 : Int) % MM = 0) = true := by simp
  rw [hz2]
  have y1 : w.heap.size + 1 < w2.heap.size := by have := hB.size; (try simp at this); omega
  have y0 : w.heap.size < w2.heap.size := by omega
  have B2 : Below w.heap.size w w2 := Below.trans (by repeat' (first | with_reducible exact B1 | with_reducible exact Below.refl _ _ | with_reducible refine Below.drew ?_ | with_reducible refine bdrewN ?_ _ | with_reducible refine Below.alloc ?_ ?_ _ | with_reducible refine Below.setCell ?_ ?_ _ | omega | (simp; done) | (simp; omega))) (hB.mono (by first | omega | (simp; done) | (simp; omega)))
  clear hB kt ft ka0 ka1 ka2 ka3 fa0 fa1 fa2 fa3 hz2
  have hl : (loadCells ⟨w.heap.size + 1, 77, none⟩ 1).run Tryz.prog w2 = .ok ([(50 : Int)].map (Value.int .u8)).toArray w2 :=
    run_loadCells_list (P := Tryz.prog) w2 ⟨w.heap.size + 1, 77, none⟩ [.int .u8 50] (fun j v hv => by
      have hj : j < 1 := (List.getElem?_eq_some_iff.1 hv).1
      have hj0 : j = 0 := by omega
      subst hj0
      simp at hv
      subst hv
      rw [Addr.add_mid]
      exact kt2)
  have hcv : (convert 35 9 (.slice (some ⟨w.heap.size + 1, 77, none⟩) 1 1)).run Tryz.prog w2 = .ok (.string ⟨#[50]⟩) w2 := by
    rw [run_convert_bytes_string w2 _ _ _ _ _ _ Tryz.underlying35 Tryz.underlying5 Tryz.underlying9, run_bytesToString w2 _ _ _ _ hl]
    rfl
  clear hl kt2
  go_wp2
  go_ret
  exact ⟨rfl, by repeat' (first | with_reducible exact B2 | with_reducible exact Below.refl _ _ | with_reducible refine Below.drew ?_ | with_reducible refine bdrewN ?_ _ | with_reducible refine Below.alloc ?_ ?_ _ | with_reducible refine Below.setCell ?_ ?_ _ | omega | (simp; done) | (simp; omega))⟩

set_option maxHeartbeats 1000000 in
set_option maxRecDepth 100000 in
theorem text2_any (w : World) :
    Calls Tryz.prog 74 #[.agg #[.int .u64 2, .int .u64 0, .int .u64 0, .int .u64 0]] w fun e w' => e = .returned (.string ⟨#[50]⟩) ∧ Below w.heap.size w w' := by
  go_enter Tryz.func74, Tryz.ntmps74
  go_wp2_with fail
  refine (write2_any _).mono ?_
  rintro e w1 ⟨rfl, hB⟩
  have B1 : Below w.heap.size w w1 := Below.trans (by repeat' (first | with_reducible exact Below.refl _ _ | with_reducible exact Below.refl _ _ | with_reducible refine Below.drew ?_ | with_reducible refine bdrewN ?_ _ | with_reducible refine Below.alloc ?_ ?_ _ | with_reducible refine Below.setCell ?_ ?_ _ | omega | (simp; done) | (simp; omega))) (hB.mono (by first | omega | (simp; done) | (simp; omega)))
  clear hB
  go_wp2
  go_ret
  exact ⟨rfl, by repeat' (first | with_reducible exact B1 | with_reducible exact Below.refl _ _ | with_reducible refine Below.drew ?_ | with_reducible refine bdrewN ?_ _ | with_reducible refine Below.alloc ?_ ?_ _ | with_reducible refine Below.setCell ?_ ?_ _ | omega | (simp; done) | (simp; omega))⟩

set_option maxHeartbeats 1000000 in
set_option maxRecDepth 100000 in
theorem awake_any (w : World) :
    Calls Tryz.prog 21 #[] w fun e w' => e = .returned (.bool true) ∧ Below w.heap.size w w' := by
  have hq : ∀ (a0 a1 a2 a3 : Int) , ∀ W : World, _ := fun a0 a1 a2 a3 W => eqw_run a0 a1 a2 a3 4 0 0 0 W
  go_enter Tryz.func21, Tryz.ntmps21
  go_wp2_with fail
  refine (do1_any 2 2 _ _ _ _ _ _ _ _ _ _ _ _ _ isW_2 isW_2).mono ?_
  rintro e w1 ⟨s0, s1, s2, s3, rfl, hs, hB⟩
  obtain ⟨rfl, rfl, rfl, rfl⟩ := hs.eq isW_4 rfl
  have z0 : w.heap.size < w1.heap.size := by have := hB.size; (try simp at this); omega
  have ka0 : w1.cell? ⟨w.heap.size, 0, none⟩ = some (.int .u64 2) := (hB.cell (p := ⟨w.heap.size, 0, none⟩) (by first | omega | (simp; done) | (simp; omega))).trans (by go_simp)
  have ka1 : w1.cell? ⟨w.heap.size, 1, none⟩ = some (.int .u64 0) := (hB.cell (p := ⟨w.heap.size, 1, none⟩) (by first | omega | (simp; done) | (simp; omega))).trans (by go_simp)
  have ka2 : w1.cell? ⟨w.heap.size, 2, none⟩ = some (.int .u64 0) := (hB.cell (p := ⟨w.heap.size, 2, none⟩) (by first | omega | (simp; done) | (simp; omega))).trans (by go_simp)
  have ka3 : w1.cell? ⟨w.heap.size, 3, none⟩ = some (.int .u64 0) := (hB.cell (p := ⟨w.heap.size, 3, none⟩) (by first | omega | (simp; done) | (simp; omega))).trans (by go_simp)
  have B1 : Below w.heap.size w w1 := Below.trans (by repeat' (first | with_reducible exact Below.refl _ _ | with_reducible exact Below.refl _ _ | with_reducible refine Below.drew ?_ | with_reducible refine bdrewN ?_ _ | with_reducible refine Below.alloc ?_ ?_ _ | with_reducible refine Below.setCell ?_ ?_ _ | omega | (simp; done) | (simp; omega))) (hB.mono (by first | omega | (simp; done) | (simp; omega)))
  clear hB hs
  go_wp2_with fail
  refine (add_any 2 2 _ _ _ _ _ _ _ _ _ isW_2 isW_2).mono ?_
  rintro e w2 ⟨t0, t1, t2, t3, rfl, ht, hB⟩
  obtain ⟨rfl, rfl, rfl, rfl⟩ := ht.eq isW_4 rfl
  have y0 : w.heap.size < w2.heap.size := by have := hB.size; (try simp at this); omega
  have y1 : w1.heap.size < w2.heap.size := by have := hB.size; simp at this; omega
  have la0 : w2.cell? ⟨w.heap.size, 0, none⟩ = some (.int .u64 2) := (hB.cell (p := ⟨w.heap.size, 0, none⟩) (by first | omega | (simp; done) | (simp; omega))).trans (by go_simp)
  have la1 : w2.cell? ⟨w.heap.size, 1, none⟩ = some (.int .u64 0) := (hB.cell (p := ⟨w.heap.size, 1, none⟩) (by first | omega | (simp; done) | (simp; omega))).trans (by go_simp)
  have la2 : w2.cell? ⟨w.heap.size, 2, none⟩ = some (.int .u64 0) := (hB.cell (p := ⟨w.heap.size, 2, none⟩) (by first | omega | (simp; done) | (simp; omega))).trans (by go_simp)
  have la3 : w2.cell? ⟨w.heap.size, 3, none⟩ = some (.int .u64 0) := (hB.cell (p := ⟨w.heap.size, 3, none⟩) (by first | omega | (simp; done) | (simp; omega))).trans (by go_simp)
  have lb0 : w2.cell? ⟨w1.heap.size, 0, none⟩ = some (.int .u64 4) := (hB.cell (p := ⟨w1.heap.size, 0, none⟩) (by first | omega | (simp; done) | (simp; omega))).trans (by go_simp)
  have lb1 : w2.cell? ⟨w1.heap.size, 1, none⟩ = some (.int .u64 0) := (hB.cell (p := ⟨w1.heap.size, 1, none⟩) (by first | omega | (simp; done) | (simp; omega))).trans (by go_simp)
  have lb2 : w2.cell? ⟨w1.heap.size, 2, none⟩ = some (.int .u64 0) := (hB.cell (p := ⟨w1.heap.size, 2, none⟩) (by first | omega | (simp; done) | (simp; omega))).trans (by go_simp)
  have lb3 : w2.cell? ⟨w1.heap.size, 3, none⟩ = some (.int .u64 0) := (hB.cell (p := ⟨w1.heap.size, 3, none⟩) (by first | omega | (simp; done) | (simp; omega))).trans (by go_simp)
  have B2 : Below w.heap.size w w2 := Below.trans (by repeat' (first | with_reducible exact B1 | with_reducible exact Below.refl _ _ | with_reducible refine Below.drew ?_ | with_reducible refine bdrewN ?_ _ | with_reducible refine Below.alloc ?_ ?_ _ | with_reducible refine Below.setCell ?_ ?_ _ | omega | (simp; done) | (simp; omega))) (hB.mono (by first | omega | (simp; done) | (simp; omega)))
  clear hB ka0 ka1 ka2 ka3 ht
  go_wp2_with fail
  refine (text2_any _).mono ?_
  rintro e w3 ⟨rfl, hB⟩
  have B3 : Below w.heap.size w w3 := Below.trans (by repeat' (first | with_reducible exact B2 | with_reducible exact Below.refl _ _ | with_reducible refine Below.drew ?_ | with_reducible refine bdrewN ?_ _ | with_reducible refine Below.alloc ?_ ?_ _ | with_reducible refine Below.setCell ?_ ?_ _ | omega | (simp; done) | (simp; omega))) (hB.mono (by first | omega | (simp; done) | (simp; omega)))
  clear hB
  go_wp2
  go_ret
  exact ⟨rfl, by repeat' (first | with_reducible exact B3 | with_reducible exact Below.refl _ _ | with_reducible refine Below.drew ?_ | with_reducible refine bdrewN ?_ _ | with_reducible refine Below.alloc ?_ ?_ _ | with_reducible refine Below.setCell ?_ ?_ _ | omega | (simp; done) | (simp; omega))⟩
end Go.Proofs.YtpadpmkfhljiiaaGreat
/- Bit by bit, and the law's own constants. -/
namespace Go.Proofs.YtpadpmkfhljiiaaGreat
open Go.RowKit

end Go.Proofs.YtpadpmkfhljiiaaGreat
/- The comparisons, their answers named. -/
namespace Go.Proofs.YtpadpmkfhljiiaaGreat
open Go.RowKit
theorem isZero_is {x : Int} (a0 a1 a2 a3 : Int) (w : World) (ha : IsW x a0 a1 a2 a3) (r : Bool) (h : decide (x % MM = 0) = r) :
    Calls Tryz.prog 155 #[.agg #[.int .u64 a0, .int .u64 a1, .int .u64 a2, .int .u64 a3]] w fun e w' => e = .returned (.bool r) ∧ Below w.heap.size w w' := by
  rw [← h]; exact isZero_any x a0 a1 a2 a3 w ha
end Go.Proofs.YtpadpmkfhljiiaaGreat
/- Products: bits.Mul64, mulAdd, product, Mul: for all numbers. -/
namespace Go.Proofs.YtpadpmkfhljiiaaGreat
open Go.RowKit

theorem low32 (t : Int) : bits .and .u64 (t % 18446744073709551616) 4294967295 = t % 18446744073709551616 % 4294967296 :=
  and_low32 _ (Int.emod_nonneg _ (by omega)) (Int.emod_lt_of_pos _ (by omega))
set_option maxHeartbeats 1000000 in
theorem mul64_int (x y : Int) (hx0 : 0 ≤ x) (hx : x < 18446744073709551616) (hy0 : 0 ≤ y) (hy : y < 18446744073709551616) (w : World) :
    Calls Tryz.prog 175 #[.int .u64 x, .int .u64 y] w fun e w' => e = .returned (.tuple #[.int .u64 (x * y / 18446744073709551616), .int .u64 (x * y % 18446744073709551616)]) ∧ w' = w := by
  have HK : Hid _ := mul64_arith x y hx0 hx hy0 hy
  go_enter Tryz.func175, Tryz.ntmps175
  go_wp2
  simp only [and_low32 x hx0 hx, and_low32 y hy0 hy, IntKind.wrap_u64, low32]
  rw [HK.out]
  go_ret2
  exact ⟨rfl, rfl⟩
theorem mul64_ex (x y : Int) (hx : U64 x) (hy : U64 y) : ∃ h l : Int, (∀ w : World, Calls Tryz.prog 175 #[.int .u64 x, .int .u64 y] w fun e w' => e = .returned (.tuple #[.int .u64 h, .int .u64 l]) ∧ w' = w) ∧ U64 h ∧ U64 l ∧ Hid (x * y = h * Bd + l) := by
  have hx' := hx.2
  have hy' := hy.2
  unfold Bd at hx' hy'
  have h0 : 0 ≤ x * y := Int.mul_nonneg hx.1 hy.1
  have h1 : x * y ≤ 18446744073709551615 * 18446744073709551615 := Int.mul_le_mul (by omega) (by omega) hy.1 (by omega)
  refine ⟨_, _, fun w => mul64_int x y hx.1 hx' hy.1 hy' w, ?_, ?_, ?_⟩
  all_goals simp only [U64, Hid, Bd]
  all_goals generalize x * y = p at *
  all_goals omega
set_option maxHeartbeats 1000000 in
theorem mulAdd_ex (a b c : Int) (ha : U64 a) (hb : U64 b) (hc : U64 c) : ∃ h l : Int, (∀ w : World, Calls Tryz.prog 125 #[.int .u64 a, .int .u64 b, .int .u64 c] w fun e w' => e = .returned (.tuple #[.int .u64 h, .int .u64 l]) ∧ w' = w) ∧ U64 h ∧ U64 l ∧ Hid (a * b + c = h * Bd + l) := by
  obtain ⟨h, l, hcall, hh, hl, hm⟩ := mul64_ex a b ha hb
  obtain ⟨s, d, r, es, us, l0, l1⟩ := add64_ex l c 0 hl hc (by omega) (by omega)
  have hbd : h + d < 18446744073709551616 := by
    have e1 := hm.out; have e2 := es.out
    have h1 : a * b ≤ 18446744073709551615 * 18446744073709551615 := by
      unfold U64 Bd at ha hb; exact Int.mul_le_mul (by omega) (by omega) hb.1 (by omega)
    unfold U64 Bd at *; omega
  have hbd0 : 0 ≤ h + d := by have := hh.1; omega
  refine ⟨h + d, s, fun w => ?_, ⟨hbd0, hbd⟩, us, ?_⟩
  · have H := hcall w
    clear hcall
    go_enter Tryz.func125, Tryz.ntmps125
    go_wp2_with fail
    refine H.mono ?_
    rintro e w1 ⟨rfl, rfl⟩
    clear H
    go_wp2
    go_ret2
    exact ⟨rfl, rfl⟩
  · have e1 := hm.out; have e2 := es.out
    unfold Hid Bd at *
    rw [e1]; omega

end Go.Proofs.YtpadpmkfhljiiaaGreat
/- The plain product of two words, its eight parts; and Mul. -/
namespace Go.Proofs.YtpadpmkfhljiiaaGreat
open Go.RowKit

end Go.Proofs.YtpadpmkfhljiiaaGreat
/- Mul of any two words. -/
namespace Go.Proofs.YtpadpmkfhljiiaaGreat
open Go.RowKit
end Go.Proofs.YtpadpmkfhljiiaaGreat
/- Shifts by words: FromUint, below, signBits. -/
namespace Go.Proofs.YtpadpmkfhljiiaaGreat
open Go.RowKit
end Go.Proofs.YtpadpmkfhljiiaaGreat
/- Exp: powers, bit by bit. -/
namespace Go.Proofs.YtpadpmkfhljiiaaGreat
open Go.RowKit
/-- block b holds this word, and may be written -/
def Box (W : World) (b : Nat) (a0 a1 a2 a3 : Int) : Prop := (∀ i, i < 4 → W.cell? ⟨b, i, none⟩ = some (.int .u64 (limb a0 a1 a2 a3 i))) ∧ ∀ i, i < 4 → W.frozen? ⟨b, i, none⟩ = false
theorem Box.lt {W : World} {b : Nat} {a0 a1 a2 a3 : Int} (h : Box W b a0 a1 a2 a3) : b < W.heap.size := World.block_lt_of_cell? W _ (h.1 0 (by omega))
theorem Box.below {W W' : World} {B b : Nat} {a0 a1 a2 a3 : Int} (h : Box W b a0 a1 a2 a3) (k : Below B W W') (hb : b < B) : Box W' b a0 a1 a2 a3 :=
  ⟨fun i hi => (k.cell (p := ⟨b, i, none⟩) hb).trans (h.1 i hi), fun i hi => (k.frozen (p := ⟨b, i, none⟩) hb).trans (h.2 i hi)⟩
theorem Box.new (W : World) (t : TypeId) (a0 a1 a2 a3 : Int) : Box (W.alloc (.cells #[.int .u64 a0, .int .u64 a1, .int .u64 a2, .int .u64 a3] t)) W.heap.size a0 a1 a2 a3 :=
  ⟨fun i hi => box_cell W a0 a1 a2 a3 t i hi, fun i _ => by simp [World.frozen?_alloc_at]⟩
theorem Box.alloc {W : World} {b : Nat} {a0 a1 a2 a3 : Int} (h : Box W b a0 a1 a2 a3) (o : Obj) : Box (W.alloc o) b a0 a1 a2 a3 := h.below ((Below.refl _ _).alloc (Nat.le_refl _) _) h.lt
theorem Box.other {W : World} {b : Nat} {a0 a1 a2 a3 : Int} (h : Box W b a0 a1 a2 a3) (p : Addr) (x : Value) (hp : p.block ≠ b) : Box (W.setCell p x) b a0 a1 a2 a3 :=
  ⟨fun i hi => by rw [World.cell?_setCell_other _ _ _ _ (by intro e; subst e; exact hp rfl)]; exact h.1 i hi, fun i hi => by rw [World.frozen?_setCell]; exact h.2 i hi⟩
theorem Box.facts {W : World} {b : Nat} {a0 a1 a2 a3 : Int} (h : Box W b a0 a1 a2 a3) : W.cell? ⟨b, 0, none⟩ = some (.int .u64 a0) ∧ W.cell? ⟨b, 1, none⟩ = some (.int .u64 a1) ∧ W.cell? ⟨b, 2, none⟩ = some (.int .u64 a2) ∧ W.cell? ⟨b, 3, none⟩ = some (.int .u64 a3) ∧
    W.frozen? ⟨b, 0, none⟩ = false ∧ W.frozen? ⟨b, 1, none⟩ = false ∧ W.frozen? ⟨b, 2, none⟩ = false ∧ W.frozen? ⟨b, 3, none⟩ = false :=
  ⟨h.1 0 (by omega), h.1 1 (by omega), h.1 2 (by omega), h.1 3 (by omega), h.2 0 (by omega), h.2 1 (by omega), h.2 2 (by omega), h.2 3 (by omega)⟩
theorem Box.drew {W : World} {b : Nat} {a0 a1 a2 a3 : Int} (h : Box W b a0 a1 a2 a3) : Box W.drew b a0 a1 a2 a3 := h
/-- a word is laid over another -/
def put4 (W : World) (b : Nat) (s0 s1 s2 s3 : Int) : World := (((W.setCell ⟨b, 0, none⟩ (.int .u64 s0)).setCell ⟨b, 1, none⟩ (.int .u64 s1)).setCell ⟨b, 2, none⟩ (.int .u64 s2)).setCell ⟨b, 3, none⟩ (.int .u64 s3)
theorem Box.put {W : World} {b : Nat} {a0 a1 a2 a3 : Int} (h : Box W b a0 a1 a2 a3) (s0 s1 s2 s3 : Int) : Box (put4 W b s0 s1 s2 s3) b s0 s1 s2 s3 := by
  obtain ⟨c0, c1, c2, c3, f0, f1, f2, f3⟩ := h.facts
  unfold put4
  refine ⟨fun i hi => ?_, fun i hi => by simp only [World.frozen?_setCell]; exact h.2 i hi⟩
  obtain rfl | rfl | rfl | rfl : i = 0 ∨ i = 1 ∨ i = 2 ∨ i = 3 := by omega
  all_goals (show _ = some _; go_simp; rfl)
theorem Box.put_other {W : World} {b c : Nat} {a0 a1 a2 a3 : Int} (h : Box W b a0 a1 a2 a3) (hc : c ≠ b) (s0 s1 s2 s3 : Int) : Box (put4 W c s0 s1 s2 s3) b a0 a1 a2 a3 :=
  (((h.other _ _ hc).other _ _ hc).other _ _ hc).other _ _ hc
theorem below_put {B c : Nat} {w W : World} (h : Below B w W) (hc : B ≤ c) (s0 s1 s2 s3 : Int) : Below B w (put4 W c s0 s1 s2 s3) := (((h.setCell hc _).setCell hc _).setCell hc _).setCell hc _
/-- while the power is made -/
structure ExpInv (w : World) (c : Nat) (a0 a1 a2 a3 b0 b1 b2 b3 s0 s1 s2 s3 : Int) (W : World) : Prop where
  bel : Below w.heap.size w W
  ba : Box W w.heap.size a0 a1 a2 a3
  bb : Box W (w.heap.size + 1) b0 b1 b2 b3
  br : Box W (w.heap.size + 1 + 1) 0 0 0 0
  bp : Box W c s0 s1 s2 s3
theorem ExpInv.past {w W W' : World} {c : Nat} {a0 a1 a2 a3 b0 b1 b2 b3 s0 s1 s2 s3 : Int} (h : ExpInv w c a0 a1 a2 a3 b0 b1 b2 b3 s0 s1 s2 s3 W) (k : Below W.heap.size W W') : ExpInv w c a0 a1 a2 a3 b0 b1 b2 b3 s0 s1 s2 s3 W' :=
  ⟨h.bel.trans (k.mono h.bel.size), h.ba.below k h.ba.lt, h.bb.below k h.bb.lt, h.br.below k h.br.lt, h.bp.below k h.bp.lt⟩
theorem ExpInv.put {w W : World} {c : Nat} {a0 a1 a2 a3 b0 b1 b2 b3 s0 s1 s2 s3 : Int} (h : ExpInv w c a0 a1 a2 a3 b0 b1 b2 b3 s0 s1 s2 s3 W) (hc : w.heap.size + 1 + 1 < c) (t0 t1 t2 t3 : Int) : ExpInv w c a0 a1 a2 a3 b0 b1 b2 b3 t0 t1 t2 t3 (put4 W c t0 t1 t2 t3) :=
  ⟨below_put h.bel (by omega) _ _ _ _, h.ba.put_other (by omega) _ _ _ _, h.bb.put_other (by omega) _ _ _ _, h.br.put_other (by omega) _ _ _ _, h.bp.put _ _ _ _⟩
end Go.Proofs.YtpadpmkfhljiiaaGreat
/- Sums, products and powers, their words named ahead. -/
namespace Go.Proofs.YtpadpmkfhljiiaaGreat
open Go.RowKit
theorem isW_ex (v : Int) : ∃ a0 a1 a2 a3 : Int, IsW v a0 a1 a2 a3 := by
  refine ⟨v % 18446744073709551616, v / 18446744073709551616 % 18446744073709551616, v / 340282366920938463463374607431768211456 % 18446744073709551616, v / 6277101735386680763835789423207666416102355444464034512896 % 18446744073709551616, ⟨⟨by omega, by unfold Bd; omega⟩, ⟨by omega, by unfold Bd; omega⟩, ⟨by omega, by unfold Bd; omega⟩, ⟨by omega, by unfold Bd; omega⟩⟩, ?_⟩
  unfold V Bd MM; omega
theorem eqw_same (a0 a1 a2 a3 : Int) (W : World) : Sem.run Tryz.prog (Op.equalIn 10000 24 (.agg #[.int .u64 a0, .int .u64 a1, .int .u64 a2, .int .u64 a3]) (.agg #[.int .u64 a0, .int .u64 a1, .int .u64 a2, .int .u64 a3])) W = .ok true W := by
  rw [eqw_run]; simp [eqw]
/-- the operation at a place of a region that is written out -/
theorem op0 {x : Oper} {r : List Oper} : (x :: r).toArray[0]? = some x := rfl
theorem op1 {a x : Oper} {r : List Oper} : (a :: x :: r).toArray[1]? = some x := rfl
theorem op2 {a b x : Oper} {r : List Oper} : (a :: b :: x :: r).toArray[2]? = some x := rfl
theorem op3 {a b c x : Oper} {r : List Oper} : (a :: b :: c :: x :: r).toArray[3]? = some x := rfl
theorem op4 {a b c d x : Oper} {r : List Oper} : (a :: b :: c :: d :: x :: r).toArray[4]? = some x := rfl
theorem op5 {a b c d e x : Oper} {r : List Oper} : (a :: b :: c :: d :: e :: x :: r).toArray[5]? = some x := rfl
theorem op6 {a b c d e f x : Oper} {r : List Oper} : (a :: b :: c :: d :: e :: f :: x :: r).toArray[6]? = some x := rfl
theorem op7 {a b c d e f g x : Oper} {r : List Oper} : (a :: b :: c :: d :: e :: f :: g :: x :: r).toArray[7]? = some x := rfl
theorem op8 {a b c d e f g h x : Oper} {r : List Oper} : (a :: b :: c :: d :: e :: f :: g :: h :: x :: r).toArray[8]? = some x := rfl
theorem op9 {a b c d e f g h i x : Oper} {r : List Oper} : (a :: b :: c :: d :: e :: f :: g :: h :: i :: x :: r).toArray[9]? = some x := rfl
theorem op10 {a b c d e f g h i j x : Oper} {r : List Oper} : (a :: b :: c :: d :: e :: f :: g :: h :: i :: j :: x :: r).toArray[10]? = some x := rfl
theorem op11 {a b c d e f g h i j k x : Oper} {r : List Oper} : (a :: b :: c :: d :: e :: f :: g :: h :: i :: j :: k :: x :: r).toArray[11]? = some x := rfl
theorem op12 {a b c d e f g h i j k l x : Oper} {r : List Oper} : (a :: b :: c :: d :: e :: f :: g :: h :: i :: j :: k :: l :: x :: r).toArray[12]? = some x := rfl
theorem op13 {a b c d e f g h i j k l m x : Oper} {r : List Oper} : (a :: b :: c :: d :: e :: f :: g :: h :: i :: j :: k :: l :: m :: x :: r).toArray[13]? = some x := rfl
theorem op14 {a b c d e f g h i j k l m n x : Oper} {r : List Oper} : (a :: b :: c :: d :: e :: f :: g :: h :: i :: j :: k :: l :: m :: n :: x :: r).toArray[14]? = some x := rfl
theorem op15 {a b c d e f g h i j k l m n o x : Oper} {r : List Oper} : (a :: b :: c :: d :: e :: f :: g :: h :: i :: j :: k :: l :: m :: n :: o :: x :: r).toArray[15]? = some x := rfl
end Go.Proofs.YtpadpmkfhljiiaaGreat
/- bits.Div64. -/
namespace Go.Proofs.YtpadpmkfhljiiaaGreat
open Go.RowKit
set_option maxHeartbeats 1000000 in
set_option maxRecDepth 100000 in
theorem div64_is (hi lo y N Z : Nat) (hy : y < 18446744073709551616) (hh : hi < y) (hl : lo < 18446744073709551616) (hN : N = (hi * 18446744073709551616 + lo) / y) (hZ : Z = (hi * 18446744073709551616 + lo) % y) (w : World) : Calls Tryz.prog 177 #[.int .u64 (hi : Int), .int .u64 (lo : Int), .int .u64 (y : Int)] w fun e w' => e = .returned (.tuple #[.int .u64 (N : Int), .int .u64 (Z : Int)]) ∧ Below w.heap.size w w' := by
  have NZ : Hid (N = (hi * 18446744073709551616 + lo) / y ∧ Z = (hi * 18446744073709551616 + lo) % y) := ⟨hN, hZ⟩
  clear hN hZ
  have y0 : ¬ (y : Int) = 0 := by omega
  have yh : (hi : Int) < (y : Int) := by omega
  by_cases hz : hi = 0
  · subst hz
    have e1 : N = lo / y := by rw [NZ.out.1, Nat.zero_mul, Nat.zero_add]
    have e2 : Z = lo % y := by rw [NZ.out.2, Nat.zero_mul, Nat.zero_add]
    have h1 : Int.tdiv (lo : Int) (y : Int) = (N : Int) := by rw [Int.tdiv_eq_ediv_of_nonneg (by omega), e1, Int.natCast_ediv]
    have h2 : Int.tmod (lo : Int) (y : Int) = (Z : Int) := by rw [Int.tmod_eq_emod_of_nonneg (by omega), e2, Int.natCast_emod]
    have w1 := wrap_nat N (by rw [e1]; exact Nat.lt_of_le_of_lt (Nat.div_le_self _ _) hl)
    have w2 := wrap_nat Z (by rw [e2]; exact Nat.lt_of_le_of_lt (Nat.mod_le _ _) hl)
    have yp : (0 : Int) < (y : Int) := by omega
    clear e1 e2 NZ yh
    show Calls _ _ #[.int .u64 (0 : Int), .int .u64 (lo : Int), .int .u64 (y : Int)] w _
    go_enter Tryz.func177, Tryz.ntmps177
    go_wp2
    go_quiet (fail)
    go_wp2
    go_ret2
    exact ⟨rfl, by first | exact bdrewN (Below.refl _ _) _ | exact Below.refl _ _⟩
  · have hz0 : ¬ (hi : Int) = 0 := by omega
    go_enter Tryz.func177, Tryz.ntmps177
    go_wp2_with fail
    refine (lz_any (y : Int) ⟨by omega, by unfold Bd; omega⟩ w).mono ?_
    rintro e v1 ⟨rfl, hw⟩
    have hw2 := hw.symm
    subst hw2
    rw [Int.toNat_natCast]
    obtain ⟨s, es⟩ : ∃ s : Nat, (64 : Int) - (Lib.bitLen y : Int) = (s : Int) := by
      have := (bitLen_range y hy (by omega)).2.2.2
      exact ⟨64 - Lib.bitLen y, by omega⟩
    rw [es]
    have s64 : s ≤ 63 := by
      have := (bitLen_range y hy (by omega)).1
      omega
    have sI : (s : Int) ≤ 63 := by omega
    have q4 : IntKind.u64.wrap (s : Int) = (s : Int) := by rw [IntKind.wrap_u64]; omega
    have q5 : min s 64 = s := by omega
    have hyn : y ≠ 0 := by omega
    have ny := norm_y y s hy hyn es
    obtain ⟨ys, eys⟩ : ∃ ys : Nat, ys = y * 2 ^ s := ⟨_, rfl⟩
    have r1 : IntKind.u64.wrap ((y : Int) * 2 ^ s) = (ys : Int) := by rw [shl_nat, wrap_nat _ ny.2, eys]
    rw [← eys] at ny
    obtain ⟨y1, ey1⟩ : ∃ y1 : Nat, y1 = ys / 4294967296 := ⟨_, rfl⟩
    have r2 : (ys : Int) / 4294967296 = (y1 : Int) := by omega
    obtain ⟨y0, ey0⟩ : ∃ y0 : Nat, y0 = ys % 4294967296 := ⟨_, rfl⟩
    have r3 : bits .and .u64 (ys : Int) 4294967295 = (y0 : Int) := by rw [and_low ys ny.2, ey0]
    have hhs : hi * 2 ^ s < 18446744073709551616 := Nat.lt_of_le_of_lt (Nat.mul_le_mul_right _ (Nat.le_of_lt hh)) (by rw [← eys]; exact ny.2)
    obtain ⟨u2, eu2⟩ : ∃ u2 : Nat, u2 = hi * 2 ^ s + lo / 2 ^ (64 - s) := ⟨_, rfl⟩
    have r4 : bits .or .u64 (IntKind.u64.wrap ((hi : Int) * 2 ^ s)) ((lo : Int) / 2 ^ (64 - s)) = (u2 : Int) := by rw [shl_nat, wrap_nat _ hhs, shr_nat, or_high hi lo s s64 hhs hl, eu2]
    obtain ⟨u10, eu10⟩ : ∃ u10 : Nat, u10 = lo * 2 ^ s % 18446744073709551616 := ⟨_, rfl⟩
    have r5 : IntKind.u64.wrap ((lo : Int) * 2 ^ s) = (u10 : Int) := by rw [shl_nat, wrap_mod, eu10]
    have u10b : u10 < 18446744073709551616 := by omega
    obtain ⟨u1, eu1⟩ : ∃ u1 : Nat, u1 = u10 / 4294967296 := ⟨_, rfl⟩
    have r6 : (u10 : Int) / 4294967296 = (u1 : Int) := by omega
    obtain ⟨u0, eu0⟩ : ∃ u0 : Nat, u0 = u10 % 4294967296 := ⟨_, rfl⟩
    have r7 : bits .and .u64 (u10 : Int) 4294967295 = (u0 : Int) := by rw [and_low u10 u10b, eu0]
    have YS : Hid (y1 * B32 + y0 = ys) := by unfold Hid B32; omega
    have U2 : Hid (u2 < ys) := by
      have h1 : lo / 2 ^ (64 - s) < 2 ^ s := by
        refine (Nat.div_lt_iff_lt_mul (Nat.two_pow_pos _)).2 ?_
        rw [← Nat.pow_add, show s + (64 - s) = 64 by omega]; exact hl
      have h2 : (hi + 1) * 2 ^ s ≤ y * 2 ^ s := Nat.mul_le_mul_right _ hh
      rw [Nat.add_mul, Nat.one_mul] at h2
      unfold Hid; omega
    have KY : Hid (Ky y1 y0 u2 u1) := ⟨by omega, by unfold B32; omega, by unfold B32; omega, by unfold B32; omega, by rw [YS.out]; exact U2.out⟩
    have y1n : ¬ (y1 : Int) = 0 := by omega
    obtain ⟨q, p, r, r8, r8b, r9, r10, kn⟩ := digit_facts KY.out
    have KN : Hid (Kn y1 y0 u2 u1 q r ∧ r < B32) := kn
    obtain ⟨Q1, eQ1⟩ : ∃ Q1 : Nat, Q1 = (u2 * B32 + u1) / (y1 * B32 + y0) := ⟨_, rfl⟩
    have EQ1 : Hid (Q1 = (u2 * B32 + u1) / (y1 * B32 + y0)) := eQ1
    have EYS : Hid (ys = y * 2 ^ s ∧ u2 = hi * 2 ^ s + lo / 2 ^ (64 - s) ∧ u10 = lo * 2 ^ s % 18446744073709551616 ∧ u1 = u10 / 4294967296 ∧ u0 = u10 % 4294967296 ∧ y1 = ys / 4294967296 ∧ y0 = ys % 4294967296) := ⟨eys, eu2, eu10, eu1, eu0, ey1, ey0⟩
    have NY : Hid (9223372036854775808 ≤ ys ∧ ys < 18446744073709551616 ∧ s ≤ 63 ∧ 0 < y) := ⟨ny.1, ny.2, s64, by omega⟩
    clear eQ1 kn eys eu2 eu10 eu1 eu0 ey1 ey0 ny hhs u10b hyn s64 hy hl hh es hz
    go_upto_block 0 with fail
    go_cut [15] (fun s15 wx => s15 = .int .u64 (Q1 : Int) ∧ wx = w)
    case first =>
      go_wp2
      go_loopw [15, 16] (fun sq sr wx => ∃ q r : Nat, sq = .int .u64 (q : Int) ∧ sr = .int .u64 (r : Int) ∧ (Kn y1 y0 u2 u1 q r ∧ r < B32) ∧ wx = w) (fun sq _ _ => (intOf sq).toNat)
      case atStart => exact ⟨q, r, rfl, rfl, KN.out, rfl⟩
      case round =>
        clear KN r8 r8b r9 r10
        obtain ⟨q, r, rfl, rfl, hK, rfl⟩ := hrel
        have KQ : Hid (Kn y1 y0 u2 u1 q r) := hK.1
        have rB : r < 4294967296 := hK.2
        have qle : q ≤ 4294967297 := hK.1.le
        clear hK
        by_cases hq5 : 4294967296 ≤ q
        · have qI : (4294967296 : Int) ≤ (q : Int) := by omega
          have DN : Hid (0 < q ∧ Kn y1 y0 u2 u1 (q - 1) (r + y1) ∧ q - 1 ≤ B32) := Kn.down KY.out KQ.out (Or.inl hq5)
          obtain ⟨q', eq'⟩ : ∃ q', q' + 1 = q := ⟨q - 1, by have := DN.out.1; omega⟩
          obtain ⟨r', er'⟩ : ∃ r', r + y1 = r' := ⟨_, rfl⟩
          have DK : Hid (Kn y1 y0 u2 u1 q' r' ∧ q' ≤ B32) := by
            have h := DN.out
            rw [er', show q - 1 = q' by omega] at h
            exact h.2
          have y1B : y1 < 4294967296 := KY.out.y1b
          have s1 : (q : Int) - 1 = (q' : Int) := by omega
          have s2 : (r : Int) + (y1 : Int) = (r' : Int) := by omega
          have s1w : IntKind.u64.wrap (q' : Int) = (q' : Int) := by rw [IntKind.wrap_u64]; omega
          have s2w : IntKind.u64.wrap (r' : Int) = (r' : Int) := by rw [IntKind.wrap_u64]; omega
          have EQ' : Hid (q' + 1 = q) := eq'
          clear DN eq' er'
          by_cases hr5 : 4294967296 ≤ r'
          · have rI : (4294967296 : Int) ≤ (r' : Int) := by omega
            have EE : Hid (q' = Q1) := by have h := Kn.leave KY.out DK.out.1 DK.out.2 hr5; rw [← EQ1.out] at h; exact h
            go_wp2
            go_meet
            case rel => exact ⟨by rw [EE.out], rfl⟩
          · have rI : decide ((4294967296 : Int) ≤ (r' : Int)) = false := decide_eq_false (by omega)
            have RB : Hid (r' < B32) := by unfold Hid B32; omega
            clear hr5 rB qle hq5 y1B
            go_wp2
            go_roundw
            case rel => exact ⟨q', r', rfl, rfl, ⟨DK.out.1, RB.out⟩, trivial⟩
            case measure => simp [intOf]; have := EQ'.out; omega
        · have qI : (q : Int) < 4294967296 := by omega
          obtain ⟨m, em⟩ : ∃ m : Nat, q * y0 = m := ⟨_, rfl⟩
          obtain ⟨l, el⟩ : ∃ l : Nat, 4294967296 * r + u1 = l := ⟨_, rfl⟩
          have y0B : y0 < 4294967296 := KY.out.y0b
          have u1B : u1 < 4294967296 := KY.out.u1b
          have mB : m < 18446744073709551616 := by
            have h1 : q * y0 ≤ q * 4294967296 := Nat.mul_le_mul_left _ (by omega)
            omega
          have m1 : (q : Int) * (y0 : Int) = (m : Int) := by rw [← em, Int.natCast_mul]
          have m2 : IntKind.u64.wrap (m : Int) = (m : Int) := by rw [IntKind.wrap_u64]; omega
          obtain ⟨l0, el0⟩ : ∃ l0 : Nat, 4294967296 * r = l0 := ⟨_, rfl⟩
          have l1 : (4294967296 : Int) * (r : Int) = (l0 : Int) := by omega
          have l2 : IntKind.u64.wrap (l0 : Int) = (l0 : Int) := by rw [IntKind.wrap_u64]; omega
          have l3 : (l0 : Int) + (u1 : Int) = (l : Int) := by omega
          have l4 : IntKind.u64.wrap (l : Int) = (l : Int) := by rw [IntKind.wrap_u64]; omega
          have EM : Hid (q * y0 = m ∧ B32 * r + u1 = l) := ⟨em, el⟩
          clear em el el0 mB
          by_cases hc5 : l < m
          · have lI : (l : Int) < (m : Int) := by omega
            have DN : Hid (0 < q ∧ Kn y1 y0 u2 u1 (q - 1) (r + y1) ∧ q - 1 ≤ B32) := Kn.down KY.out KQ.out (Or.inr (by rw [EM.out.1, EM.out.2]; exact hc5))
            obtain ⟨q', eq'⟩ : ∃ q', q' + 1 = q := ⟨q - 1, by have := DN.out.1; omega⟩
            obtain ⟨r', er'⟩ : ∃ r', r + y1 = r' := ⟨_, rfl⟩
            have DK : Hid (Kn y1 y0 u2 u1 q' r' ∧ q' ≤ B32) := by
              have h := DN.out
              rw [er', show q - 1 = q' by omega] at h
              exact h.2
            have y1B : y1 < 4294967296 := KY.out.y1b
            have s1 : (q : Int) - 1 = (q' : Int) := by omega
            have s2 : (r : Int) + (y1 : Int) = (r' : Int) := by omega
            have s1w : IntKind.u64.wrap (q' : Int) = (q' : Int) := by rw [IntKind.wrap_u64]; omega
            have s2w : IntKind.u64.wrap (r' : Int) = (r' : Int) := by rw [IntKind.wrap_u64]; omega
            have EQ' : Hid (q' + 1 = q) := eq'
            clear DN eq' er'
            by_cases hr5 : 4294967296 ≤ r'
            · have rI : (4294967296 : Int) ≤ (r' : Int) := by omega
              have EE : Hid (q' = Q1) := by have h := Kn.leave KY.out DK.out.1 DK.out.2 hr5; rw [← EQ1.out] at h; exact h
              go_wp2
              go_meet
              case rel => exact ⟨by rw [EE.out], rfl⟩
            · have rI : decide ((4294967296 : Int) ≤ (r' : Int)) = false := decide_eq_false (by omega)
              have RB : Hid (r' < B32) := by unfold Hid B32; omega
              clear hr5 rB qle hq5 y1B
              go_wp2
              go_roundw
              case rel => exact ⟨q', r', rfl, rfl, ⟨DK.out.1, RB.out⟩, trivial⟩
              case measure => simp [intOf]; have := EQ'.out; omega
          · have lI : ¬ (l : Int) < (m : Int) := by omega
            have qD : ¬ (4294967296 : Int) ≤ (q : Int) := by omega
            have EE : Hid (q = Q1) := by have h := Kn.stop KY.out KQ.out (by rw [EM.out.1, EM.out.2]; omega); rw [← EQ1.out] at h; exact h
            clear hc5 hq5 rB qle y0B u1B qI sI q4 q5 y1n yh hz0
            go_wp2
            go_meet
            case rel => exact ⟨by rw [EE.out], rfl⟩
    case rest =>
      obtain ⟨rfl, hw3⟩ := hcut
      have hw4 := hw3.symm
      subst hw4
      obtain ⟨R1, eR1⟩ : ∃ R1 : Nat, R1 = (u2 * B32 + u1) % ys := ⟨_, rfl⟩
      have yp : 0 < ys := by have := NY.out; omega
      obtain ⟨c1, c2, c3, a1, a2, a3, a4⟩ := left_facts u2 u1 ys Q1 R1 yp NY.out.2.1 (by rw [EQ1.out, YS.out]) eR1
      have KZ : Hid (Ky y1 y0 R1 u0) := ⟨KY.out.y1a, KY.out.y1b, KY.out.y0b, by have := EYS.out; unfold B32; omega, by rw [YS.out, eR1]; exact Nat.mod_lt _ yp⟩
      have ER1 : Hid (R1 = (u2 * B32 + u1) % ys) := eR1
      have Q1B : Hid (Q1 < B32) := by rw [EQ1.out]; exact KY.out.lt
      obtain ⟨q2, p2, r2', t8, t8b, t9, t10, kn⟩ := digit_facts KZ.out
      have KM : Hid (Kn y1 y0 R1 u0 q2 r2' ∧ r2' < B32) := kn
      obtain ⟨Q0, eQ0⟩ : ∃ Q0 : Nat, Q0 = (R1 * B32 + u0) / (y1 * B32 + y0) := ⟨_, rfl⟩
      have EQ0 : Hid (Q0 = (R1 * B32 + u0) / (y1 * B32 + y0)) := eQ0
      clear kn eQ0 eR1 yp r8 r8b r9 r10 KN
      go_upto_block 2 with fail
      go_cut [18] (fun s18 wx => s18 = .int .u64 (Q0 : Int) ∧ wx = w)
      case first =>
        go_wp2
        go_loopw [18, 16] (fun sq sr wx => ∃ q r : Nat, sq = .int .u64 (q : Int) ∧ sr = .int .u64 (r : Int) ∧ (Kn y1 y0 R1 u0 q r ∧ r < B32) ∧ wx = w) (fun sq _ _ => (intOf sq).toNat)
        case atStart => exact ⟨q2, r2', rfl, rfl, KM.out, rfl⟩
        case round =>
          clear KM t8 t8b t9 t10
          obtain ⟨q, r, rfl, rfl, hK, rfl⟩ := hrel
          have KQ : Hid (Kn y1 y0 R1 u0 q r) := hK.1
          have rB : r < 4294967296 := hK.2
          have qle : q ≤ 4294967297 := hK.1.le
          clear hK
          by_cases hq5 : 4294967296 ≤ q
          · have qI : (4294967296 : Int) ≤ (q : Int) := by omega
            have DN : Hid (0 < q ∧ Kn y1 y0 R1 u0 (q - 1) (r + y1) ∧ q - 1 ≤ B32) := Kn.down KZ.out KQ.out (Or.inl hq5)
            obtain ⟨q', eq'⟩ : ∃ q', q' + 1 = q := ⟨q - 1, by have := DN.out.1; omega⟩
            obtain ⟨r', er'⟩ : ∃ r', r + y1 = r' := ⟨_, rfl⟩
            have DK : Hid (Kn y1 y0 R1 u0 q' r' ∧ q' ≤ B32) := by
              have h := DN.out
              rw [er', show q - 1 = q' by omega] at h
              exact h.2
            have y1B : y1 < 4294967296 := KZ.out.y1b
            have s1 : (q : Int) - 1 = (q' : Int) := by omega
            have s2 : (r : Int) + (y1 : Int) = (r' : Int) := by omega
            have s1w : IntKind.u64.wrap (q' : Int) = (q' : Int) := by rw [IntKind.wrap_u64]; omega
            have s2w : IntKind.u64.wrap (r' : Int) = (r' : Int) := by rw [IntKind.wrap_u64]; omega
            have EQ' : Hid (q' + 1 = q) := eq'
            clear DN eq' er'
            by_cases hr5 : 4294967296 ≤ r'
            · have rI : (4294967296 : Int) ≤ (r' : Int) := by omega
              have EE : Hid (q' = Q0) := by have h := Kn.leave KZ.out DK.out.1 DK.out.2 hr5; rw [← EQ0.out] at h; exact h
              go_wp2
              go_meet
              case rel => exact ⟨by rw [EE.out], rfl⟩
            · have rI : decide ((4294967296 : Int) ≤ (r' : Int)) = false := decide_eq_false (by omega)
              have RB : Hid (r' < B32) := by unfold Hid B32; omega
              clear hr5 rB qle hq5 y1B
              go_wp2
              go_roundw
              case rel => exact ⟨q', r', rfl, rfl, ⟨DK.out.1, RB.out⟩, trivial⟩
              case measure => simp [intOf]; have := EQ'.out; omega
          · have qI : (q : Int) < 4294967296 := by omega
            obtain ⟨m, em⟩ : ∃ m : Nat, q * y0 = m := ⟨_, rfl⟩
            obtain ⟨l, el⟩ : ∃ l : Nat, 4294967296 * r + u0 = l := ⟨_, rfl⟩
            have y0B : y0 < 4294967296 := KZ.out.y0b
            have u0B : u0 < 4294967296 := KZ.out.u1b
            have mB : m < 18446744073709551616 := by
              have h1 : q * y0 ≤ q * 4294967296 := Nat.mul_le_mul_left _ (by omega)
              omega
            have m1 : (q : Int) * (y0 : Int) = (m : Int) := by rw [← em, Int.natCast_mul]
            have m2 : IntKind.u64.wrap (m : Int) = (m : Int) := by rw [IntKind.wrap_u64]; omega
            obtain ⟨l0, el0⟩ : ∃ l0 : Nat, 4294967296 * r = l0 := ⟨_, rfl⟩
            have l1 : (4294967296 : Int) * (r : Int) = (l0 : Int) := by omega
            have l2 : IntKind.u64.wrap (l0 : Int) = (l0 : Int) := by rw [IntKind.wrap_u64]; omega
            have l3 : (l0 : Int) + (u0 : Int) = (l : Int) := by omega
            have l4 : IntKind.u64.wrap (l : Int) = (l : Int) := by rw [IntKind.wrap_u64]; omega
            have EM : Hid (q * y0 = m ∧ B32 * r + u0 = l) := ⟨em, el⟩
            clear em el el0 mB
            by_cases hc5 : l < m
            · have lI : (l : Int) < (m : Int) := by omega
              have DN : Hid (0 < q ∧ Kn y1 y0 R1 u0 (q - 1) (r + y1) ∧ q - 1 ≤ B32) := Kn.down KZ.out KQ.out (Or.inr (by rw [EM.out.1, EM.out.2]; exact hc5))
              obtain ⟨q', eq'⟩ : ∃ q', q' + 1 = q := ⟨q - 1, by have := DN.out.1; omega⟩
              obtain ⟨r', er'⟩ : ∃ r', r + y1 = r' := ⟨_, rfl⟩
              have DK : Hid (Kn y1 y0 R1 u0 q' r' ∧ q' ≤ B32) := by
                have h := DN.out
                rw [er', show q - 1 = q' by omega] at h
                exact h.2
              have y1B : y1 < 4294967296 := KZ.out.y1b
              have s1 : (q : Int) - 1 = (q' : Int) := by omega
              have s2 : (r : Int) + (y1 : Int) = (r' : Int) := by omega
              have s1w : IntKind.u64.wrap (q' : Int) = (q' : Int) := by rw [IntKind.wrap_u64]; omega
              have s2w : IntKind.u64.wrap (r' : Int) = (r' : Int) := by rw [IntKind.wrap_u64]; omega
              have EQ' : Hid (q' + 1 = q) := eq'
              clear DN eq' er'
              by_cases hr5 : 4294967296 ≤ r'
              · have rI : (4294967296 : Int) ≤ (r' : Int) := by omega
                have EE : Hid (q' = Q0) := by have h := Kn.leave KZ.out DK.out.1 DK.out.2 hr5; rw [← EQ0.out] at h; exact h
                go_wp2
                go_meet
                case rel => exact ⟨by rw [EE.out], rfl⟩
              · have rI : decide ((4294967296 : Int) ≤ (r' : Int)) = false := decide_eq_false (by omega)
                have RB : Hid (r' < B32) := by unfold Hid B32; omega
                clear hr5 rB qle hq5 y1B
                go_wp2
                go_roundw
                case rel => exact ⟨q', r', rfl, rfl, ⟨DK.out.1, RB.out⟩, trivial⟩
                case measure => simp [intOf]; have := EQ'.out; omega
            · have lI : ¬ (l : Int) < (m : Int) := by omega
              have qD : ¬ (4294967296 : Int) ≤ (q : Int) := by omega
              have EE : Hid (q = Q0) := by have h := Kn.stop KZ.out KQ.out (by rw [EM.out.1, EM.out.2]; omega); rw [← EQ0.out] at h; exact h
              clear hc5 hq5 rB qle y0B u0B qI sI q4 q5 y1n yh hz0
              go_wp2
              go_meet
              case rel => exact ⟨by rw [EE.out], rfl⟩
      case rest =>
        obtain ⟨rfl, hw5⟩ := hcut
        have hw6 := hw5.symm
        subst hw6
        obtain ⟨R0, eR0⟩ : ∃ R0 : Nat, R0 = (R1 * B32 + u0) % ys := ⟨_, rfl⟩
        have yp : 0 < ys := by have := NY.out; omega
        obtain ⟨d1, d2, d3, b1, b2, b3, b4⟩ := left_facts R1 u0 ys Q0 R0 yp NY.out.2.1 (by rw [EQ0.out, YS.out]) eR0
        have Q0B : Hid (Q0 < B32) := by rw [EQ0.out]; exact KZ.out.lt
        have EN : Hid (Q1 * B32 + Q0 = (hi * 18446744073709551616 + lo) / y ∧ R0 / 2 ^ s = (hi * 18446744073709551616 + lo) % y) := by
          obtain ⟨e1, e2, e3, e4, e5, e6, e7⟩ := EYS.out
          obtain ⟨n1, n2, n3, n4⟩ := NY.out
          refine end_facts hi lo y s u2 u10 Q1 R1 Q0 R0 n3 n4 e2 e3 ?_ ?_ ?_ ?_
          · rw [← e4, ← e1, ← YS.out]; exact EQ1.out
          · rw [← e4, ← e1]; exact ER1.out
          · rw [← e5, ← e1, ← YS.out]; exact EQ0.out
          · rw [← e5, ← e1]; exact eR0
        obtain ⟨m9, em9⟩ : ∃ m9 : Nat, Q1 * 4294967296 = m9 := ⟨_, rfl⟩
        obtain ⟨n9, en9⟩ : ∃ n9 : Nat, m9 + Q0 = n9 := ⟨_, rfl⟩
        have k1 : (Q1 : Int) * 4294967296 = (m9 : Int) := by omega
        have k2 : IntKind.u64.wrap (m9 : Int) = (m9 : Int) := wrap_nat _ (by have h := Q1B.out; unfold B32 at h; omega)
        have k3 : (m9 : Int) + (Q0 : Int) = (n9 : Int) := by omega
        have k4 : IntKind.u64.wrap (n9 : Int) = (n9 : Int) := wrap_nat _ (by have h := Q1B.out; have h2 := Q0B.out; unfold B32 at h h2; omega)
        obtain ⟨z9, ez9⟩ : ∃ z9 : Nat, z9 = R0 / 2 ^ s := ⟨_, rfl⟩
        have k5 : (R0 : Int) / 2 ^ s = (z9 : Int) := by rw [shr_nat, ez9]
        have EV : Hid (n9 = (hi * 18446744073709551616 + lo) / y ∧ z9 = (hi * 18446744073709551616 + lo) % y) := ⟨by rw [← EN.out.1, ← en9, ← em9]; rfl, by rw [ez9, EN.out.2]⟩
        clear eR0 yp em9 en9 ez9 EN t8 t8b t9 t10 KM
        go_wp2
        have f1 : n9 = N := by rw [NZ.out.1]; exact EV.out.1
        have f2 : z9 = Z := by rw [NZ.out.2]; exact EV.out.2
        go_ret2
        exact ⟨by rw [← f1, ← f2]; rfl, Below.refl _ _⟩
end Go.Proofs.YtpadpmkfhljiiaaGreat
