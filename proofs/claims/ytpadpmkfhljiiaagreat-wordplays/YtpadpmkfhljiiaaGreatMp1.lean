/- Plain arithmetic of 256-bit words as four limbs of 64 bits: no condition, no Go text. -/
import Derived.Below
import Derived.Laws.BitsAllLaws
import Derived.Test.YtpadpmkfhljiiaaGreatRows
import Derived.WalkKit
import Derived.ProofKit
import Derived.OpenShut
import Derived.ChangeOld
import Derived.Lib.SmallJoins
import Derived.WalkSpells
import Derived.WalkLawsBesides
import Derived.Deep.QuietTactic
import Derived.BigQuiet
import Derived.Lib.BitFns
import Derived.Lib.ItoaNum
import Derived.OwnWalk
import Derived.Laws.AppendOwnNone
import Derived.Laws.OwnMore
import Derived.Deep.CutRange
import Derived.Deep.DeepCutAuto
import Derived.Shelf.Small.Bits
import Derived.Deep.RegionWith
import Derived.Deep.RegionHeld3
import Derived.Deep.MidRow
namespace Go.Proofs.YtpadpmkfhljiiaaGreat
open Go.RowKit

/-- 2^64 and 2^256. -/
def Bd : Int := 18446744073709551616
def MM : Int := 115792089237316195423570985008687907853269984665640564039457584007913129639936
def U64 (x : Int) : Prop := 0 ≤ x ∧ x < Bd
/-- the number of four limbs, the lowest first -/
def V (a0 a1 a2 a3 : Int) : Int := a0 + Bd * (a1 + Bd * (a2 + Bd * a3))
/-- these four limbs are the word of the number v, modulo 2^256 -/
def IsW (v a0 a1 a2 a3 : Int) : Prop := (U64 a0 ∧ U64 a1 ∧ U64 a2 ∧ U64 a3) ∧ V a0 a1 a2 a3 = v % MM

theorem MM_pos : 0 < MM := by unfold MM; omega
theorem V_range {a0 a1 a2 a3 : Int} (h0 : U64 a0) (h1 : U64 a1) (h2 : U64 a2) (h3 : U64 a3) : 0 ≤ V a0 a1 a2 a3 ∧ V a0 a1 a2 a3 < MM := by
  unfold V U64 Bd MM at *; omega
theorem isW_mk {a0 a1 a2 a3 : Int} (h0 : U64 a0) (h1 : U64 a1) (h2 : U64 a2) (h3 : U64 a3) : IsW (V a0 a1 a2 a3) a0 a1 a2 a3 :=
  ⟨⟨h0, h1, h2, h3⟩, (Int.emod_eq_of_lt (V_range h0 h1 h2 h3).1 (V_range h0 h1 h2 h3).2).symm⟩
theorem isW_of {v a0 a1 a2 a3 : Int} (h0 : U64 a0) (h1 : U64 a1) (h2 : U64 a2) (h3 : U64 a3) (q : Int) (h : v = V a0 a1 a2 a3 + MM * q) : IsW v a0 a1 a2 a3 :=
  ⟨⟨h0, h1, h2, h3⟩, by rw [h, Int.add_mul_emod_self_left]; exact (Int.emod_eq_of_lt (V_range h0 h1 h2 h3).1 (V_range h0 h1 h2 h3).2).symm⟩
theorem IsW.u0 {v a0 a1 a2 a3 : Int} (h : IsW v a0 a1 a2 a3) : U64 a0 := h.1.1
theorem IsW.u1 {v a0 a1 a2 a3 : Int} (h : IsW v a0 a1 a2 a3) : U64 a1 := h.1.2.1
theorem IsW.u2 {v a0 a1 a2 a3 : Int} (h : IsW v a0 a1 a2 a3) : U64 a2 := h.1.2.2.1
theorem IsW.u3 {v a0 a1 a2 a3 : Int} (h : IsW v a0 a1 a2 a3) : U64 a3 := h.1.2.2.2
theorem IsW.range {v a0 a1 a2 a3 : Int} (h : IsW v a0 a1 a2 a3) : 0 ≤ V a0 a1 a2 a3 ∧ V a0 a1 a2 a3 < MM := V_range h.u0 h.u1 h.u2 h.u3
/-- the number may be told by any of its residues -/
theorem IsW.cong {v u a0 a1 a2 a3 : Int} (h : IsW v a0 a1 a2 a3) (e : v % MM = u % MM) : IsW u a0 a1 a2 a3 := ⟨h.1, h.2.trans e⟩
theorem IsW.self {v a0 a1 a2 a3 : Int} (h : IsW v a0 a1 a2 a3) : IsW (V a0 a1 a2 a3) a0 a1 a2 a3 := isW_mk h.u0 h.u1 h.u2 h.u3
theorem IsW.small {v a0 a1 a2 a3 : Int} (h : IsW v a0 a1 a2 a3) (h0 : 0 ≤ v) (h1 : v < MM) : V a0 a1 a2 a3 = v := h.2.trans (Int.emod_eq_of_lt h0 h1)
/-- limbs are told by the number -/
theorem V_inj {a0 a1 a2 a3 b0 b1 b2 b3 : Int} (ha0 : U64 a0) (ha1 : U64 a1) (ha2 : U64 a2) (_ha3 : U64 a3) (hb0 : U64 b0) (hb1 : U64 b1) (hb2 : U64 b2) (_hb3 : U64 b3)
    (h : V a0 a1 a2 a3 = V b0 b1 b2 b3) : a0 = b0 ∧ a1 = b1 ∧ a2 = b2 ∧ a3 = b3 := by
  unfold V U64 Bd at *; omega
theorem IsW.eq {u v a0 a1 a2 a3 b0 b1 b2 b3 : Int} (h : IsW u a0 a1 a2 a3) (k : IsW v b0 b1 b2 b3) (e : u % MM = v % MM) : a0 = b0 ∧ a1 = b1 ∧ a2 = b2 ∧ a3 = b3 :=
  V_inj h.u0 h.u1 h.u2 h.u3 k.u0 k.u1 k.u2 k.u3 (by rw [h.2, k.2, e])
theorem IsW.ne {u v a0 a1 a2 a3 b0 b1 b2 b3 : Int} (h : IsW u a0 a1 a2 a3) (k : IsW v b0 b1 b2 b3) (e : u % MM ≠ v % MM) : ¬ (a0 = b0 ∧ a1 = b1 ∧ a2 = b2 ∧ a3 = b3) := by
  rintro ⟨rfl, rfl, rfl, rfl⟩; exact e (h.2.symm.trans k.2)
/-- the equality of two words, as the walk takes it -/
def eqw (a0 a1 a2 a3 b0 b1 b2 b3 : Int) : Bool := (a0 == b0 && (a1 == b1 && (a2 == b2 && a3 == b3)))
theorem eqw_iff (a0 a1 a2 a3 b0 b1 b2 b3 : Int) : eqw a0 a1 a2 a3 b0 b1 b2 b3 = true ↔ (a0 = b0 ∧ a1 = b1 ∧ a2 = b2 ∧ a3 = b3) := by
  simp [eqw]
theorem IsW.eqw {u v a0 a1 a2 a3 b0 b1 b2 b3 : Int} (h : IsW u a0 a1 a2 a3) (k : IsW v b0 b1 b2 b3) : eqw a0 a1 a2 a3 b0 b1 b2 b3 = decide (u % MM = v % MM) := by
  by_cases e : u % MM = v % MM
  · rw [(eqw_iff ..).2 (h.eq k e)]; simp [e]
  · have := h.ne k e
    rw [← eqw_iff] at this
    simp [e, this]
theorem u64_lit (n : Int) (h0 : 0 ≤ n) (h1 : n < 18446744073709551616) : U64 n := ⟨h0, h1⟩
theorem isW_lit (n : Int) (h0 : 0 ≤ n) (h1 : n < 18446744073709551616) : IsW n n 0 0 0 :=
  isW_of (u64_lit n h0 h1) (u64_lit 0 (by omega) (by omega)) (u64_lit 0 (by omega) (by omega)) (u64_lit 0 (by omega) (by omega)) 0 (by unfold V Bd MM; omega)
theorem isW_0 : IsW 0 0 0 0 0 := isW_lit 0 (by omega) (by omega)
theorem isW_1 : IsW 1 1 0 0 0 := isW_lit 1 (by omega) (by omega)
theorem isW_2 : IsW 2 2 0 0 0 := isW_lit 2 (by omega) (by omega)
theorem isW_4 : IsW 4 4 0 0 0 := isW_lit 4 (by omega) (by omega)
/-- the order of two words, limb by limb from the highest -/
def cmpw (a0 a1 a2 a3 b0 b1 b2 b3 : Int) : Int :=
  if a3 < b3 then -1 else if b3 < a3 then 1 else if a2 < b2 then -1 else if b2 < a2 then 1 else if a1 < b1 then -1 else if b1 < a1 then 1 else if a0 < b0 then -1 else if b0 < a0 then 1 else 0
def cmpv (x y : Int) : Int := if x < y then -1 else if y < x then 1 else 0
theorem cmpw_eq {a0 a1 a2 a3 b0 b1 b2 b3 : Int} (ha0 : U64 a0) (ha1 : U64 a1) (ha2 : U64 a2) (_ha3 : U64 a3) (hb0 : U64 b0) (hb1 : U64 b1) (hb2 : U64 b2) (_hb3 : U64 b3) :
    cmpw a0 a1 a2 a3 b0 b1 b2 b3 = cmpv (V a0 a1 a2 a3) (V b0 b1 b2 b3) := by
  unfold cmpw cmpv V U64 Bd at *; repeat' split
  all_goals omega
theorem cmpv_lt (x y : Int) : decide (cmpv x y < 0) = decide (x < y) := by
  unfold cmpv; rw [decide_eq_decide]; repeat' split
  all_goals omega
theorem cmpv_gt (x y : Int) : decide (0 < cmpv x y) = decide (y < x) := by
  unfold cmpv; rw [decide_eq_decide]; repeat' split
  all_goals omega
theorem IsW.neg {x a0 a1 a2 a3 : Int} (h : IsW x a0 a1 a2 a3) : (a3 / 9223372036854775808 == 1) = decide (MM / 2 ≤ x % MM) := by
  obtain ⟨⟨h0, h1, h2, h3⟩, e⟩ := h
  rw [← e, Bool.eq_iff_iff]
  unfold U64 V Bd MM at *
  simp only [beq_iff_eq, decide_eq_true_eq]
  omega
theorem nat_flip (a : Nat) (h : a < 18446744073709551616) : a ^^^ 9223372036854775808 = (9223372036854775808 + a) % 18446744073709551616 := by
  apply Nat.eq_of_testBit_eq
  intro i
  have e63 : (9223372036854775808 : Nat) = 2 ^ 63 := by decide
  have e64 : (18446744073709551616 : Nat) = 2 ^ 64 := by decide
  rw [e63, e64, Nat.testBit_xor, Nat.testBit_mod_two_pow, Nat.testBit_two_pow]
  rcases Nat.lt_trichotomy i 63 with c | c | c
  · rw [Nat.testBit_two_pow_add_gt c]
    have : ¬ 63 = i := by omega
    simp [this]; omega
  · subst c
    rw [Nat.testBit_two_pow_add_eq]; simp
  · have h1 : a.testBit i = false := Nat.testBit_lt_two_pow (Nat.lt_of_lt_of_le h (by rw [e64]; exact Nat.pow_le_pow_right (by decide) (by omega)))
    have h2 : ¬ i < 64 := by omega
    have h3 : ¬ 63 = i := by omega
    simp [h1, h2, h3]
theorem isW_add {x y a0 a1 a2 a3 b0 b1 b2 b3 s0 s1 s2 s3 c : Int} (h : IsW x a0 a1 a2 a3) (k : IsW y b0 b1 b2 b3) (h0 : U64 s0) (h1 : U64 s1) (h2 : U64 s2) (h3 : U64 s3)
    (e : V a0 a1 a2 a3 + V b0 b1 b2 b3 = V s0 s1 s2 s3 + MM * c) : IsW (x + y) s0 s1 s2 s3 := by
  refine ⟨⟨h0, h1, h2, h3⟩, ?_⟩
  rw [Int.add_emod, ← h.2, ← k.2, e, Int.add_mul_emod_self_left, Int.emod_eq_of_lt (V_range h0 h1 h2 h3).1 (V_range h0 h1 h2 h3).2]
theorem isW_sub {x y a0 a1 a2 a3 b0 b1 b2 b3 s0 s1 s2 s3 c : Int} (h : IsW x a0 a1 a2 a3) (k : IsW y b0 b1 b2 b3) (h0 : U64 s0) (h1 : U64 s1) (h2 : U64 s2) (h3 : U64 s3)
    (e : V a0 a1 a2 a3 - V b0 b1 b2 b3 = V s0 s1 s2 s3 + MM * c) : IsW (x - y) s0 s1 s2 s3 := by
  refine ⟨⟨h0, h1, h2, h3⟩, ?_⟩
  rw [Int.sub_emod, ← h.2, ← k.2, e, Int.add_mul_emod_self_left, Int.emod_eq_of_lt (V_range h0 h1 h2 h3).1 (V_range h0 h1 h2 h3).2]
/-- a chain of carries -/
theorem carry4 {a0 a1 a2 a3 b0 b1 b2 b3 s0 s1 s2 s3 c1 c2 c3 c4 : Int} (e0 : a0 + b0 + 0 = s0 + Bd * c1) (e1 : a1 + b1 + c1 = s1 + Bd * c2) (e2 : a2 + b2 + c2 = s2 + Bd * c3) (e3 : a3 + b3 + c3 = s3 + Bd * c4) :
    V a0 a1 a2 a3 + V b0 b1 b2 b3 = V s0 s1 s2 s3 + MM * c4 := by
  unfold V Bd MM at *; omega
theorem borrow4 {a0 a1 a2 a3 b0 b1 b2 b3 s0 s1 s2 s3 c1 c2 c3 c4 : Int} (e0 : a0 - b0 - 0 = s0 - Bd * c1) (e1 : a1 - b1 - c1 = s1 - Bd * c2) (e2 : a2 - b2 - c2 = s2 - Bd * c3) (e3 : a3 - b3 - c3 = s3 - Bd * c4) :
    V a0 a1 a2 a3 - V b0 b1 b2 b3 = V s0 s1 s2 s3 + MM * (- c4) := by
  unfold V Bd MM at *; omega
theorem flip_u64 {a : Int} (h : U64 a) : bits .xor .u64 a 9223372036854775808 = (a + 9223372036854775808) % 18446744073709551616 := by
  unfold U64 Bd at h
  rw [u64_xor a 9223372036854775808 h.1 h.2 (by omega) (by omega)]
  have := nat_flip a.toNat (by omega)
  rw [show (9223372036854775808 : Int).toNat = 9223372036854775808 from rfl, this]
  omega
theorem IsW.flip {x a0 a1 a2 a3 : Int} (h : IsW x a0 a1 a2 a3) : IsW (x + MM / 2) a0 a1 a2 (bits .xor .u64 a3 9223372036854775808) := by
  rw [flip_u64 h.u3]
  obtain ⟨⟨h0, h1, h2, h3⟩, e⟩ := h
  refine ⟨⟨h0, h1, h2, ?_⟩, ?_⟩
  · unfold U64 Bd at *; omega
  · unfold U64 V Bd MM at *; omega
/-- the place of a member of a list that is written out -/
theorem mm0 {α : Type} {x : α} {l : List α} : x ∈ x :: l := List.Mem.head _
theorem mm1 {α : Type} {a0 x : α} {l : List α} : x ∈ a0 :: x :: l := List.Mem.tail _ (List.Mem.head _)
theorem mm2 {α : Type} {a0 a1 x : α} {l : List α} : x ∈ a0 :: a1 :: x :: l := List.Mem.tail _ (List.Mem.tail _ (List.Mem.head _))
theorem mm3 {α : Type} {a0 a1 a2 x : α} {l : List α} : x ∈ a0 :: a1 :: a2 :: x :: l := List.Mem.tail _ (List.Mem.tail _ (List.Mem.tail _ (List.Mem.head _)))
theorem mm4 {α : Type} {a0 a1 a2 a3 x : α} {l : List α} : x ∈ a0 :: a1 :: a2 :: a3 :: x :: l := List.Mem.tail _ (List.Mem.tail _ (List.Mem.tail _ (List.Mem.tail _ (List.Mem.head _))))
theorem mm5 {α : Type} {a0 a1 a2 a3 a4 x : α} {l : List α} : x ∈ a0 :: a1 :: a2 :: a3 :: a4 :: x :: l := List.Mem.tail _ (List.Mem.tail _ (List.Mem.tail _ (List.Mem.tail _ (List.Mem.tail _ (List.Mem.head _)))))
theorem mm6 {α : Type} {a0 a1 a2 a3 a4 a5 x : α} {l : List α} : x ∈ a0 :: a1 :: a2 :: a3 :: a4 :: a5 :: x :: l := List.Mem.tail _ (List.Mem.tail _ (List.Mem.tail _ (List.Mem.tail _ (List.Mem.tail _ (List.Mem.tail _ (List.Mem.head _))))))
theorem mm7 {α : Type} {a0 a1 a2 a3 a4 a5 a6 x : α} {l : List α} : x ∈ a0 :: a1 :: a2 :: a3 :: a4 :: a5 :: a6 :: x :: l := List.Mem.tail _ (List.Mem.tail _ (List.Mem.tail _ (List.Mem.tail _ (List.Mem.tail _ (List.Mem.tail _ (List.Mem.tail _ (List.Mem.head _)))))))
theorem mm8 {α : Type} {a0 a1 a2 a3 a4 a5 a6 a7 x : α} {l : List α} : x ∈ a0 :: a1 :: a2 :: a3 :: a4 :: a5 :: a6 :: a7 :: x :: l := List.Mem.tail _ (List.Mem.tail _ (List.Mem.tail _ (List.Mem.tail _ (List.Mem.tail _ (List.Mem.tail _ (List.Mem.tail _ (List.Mem.tail _ (List.Mem.head _))))))))
end Go.Proofs.YtpadpmkfhljiiaaGreat
/- The frame of the laws over words: how an argument of type Word reads, and what carries it behind the call. -/
namespace Go.Proofs.YtpadpmkfhljiiaaGreat
open Go.ChangeShapes Go.WideShapes Go.ChangeAt Go.RowKit

theorem Tryz.own : ownKnob Tryz.prog.godebug = none := by kernel_rfl
theorem Tryz.laidOut : laidOutB Tryz.prog = true := by kernel_rfl

theorem cells24 : Tryz.prog.cellsOf 24 = 4 := by kernel_rfl
theorem cells22 : Tryz.prog.cellsOf 22 = 1 := by kernel_rfl
end Go.Proofs.YtpadpmkfhljiiaaGreat
/- What the leaves of package word do to the world, for every word: sums, differences, comparisons, equality. No condition but that limbs are numbers of 64 bits. -/
namespace Go.Proofs.YtpadpmkfhljiiaaGreat
open Go.RowKit

theorem bdrewN {B : Nat} {a w : World} (h : Below B a w) (n : Nat) : Below B a (w.drewN n) := h.trans ⟨rfl, rfl, rfl, Nat.le_refl _, fun _ _ => rfl⟩
theorem below_undrew {a b : World} (h : Below a.drew.heap.size a.drew b) : Below a.heap.size a b := ⟨h.os, h.tape, h.output, h.size, h.block⟩
theorem ret_int {k : IntKind} {a b : Int} (h : a = b) : Ending.returned (.int k a) = .returned (.int k b) := by rw [h]
theorem ret_bool {a b : Bool} (h : a = b) : Ending.returned (.bool a) = .returned (.bool b) := by rw [h]
-- bits.Add64, bits.Sub64: run by the model
theorem add64_run (x y c : Int) (hx : 0 ≤ x) (hy : 0 ≤ y) (hc0 : 0 ≤ c) (hc : c ≤ 1) (w : World) :
    (callFunc 122 #[.int .u64 x, .int .u64 y, .int .u64 c]).run Tryz.prog w = .ok (.value (.tuple #[.int .u64 ((x + y + c) % 18446744073709551616), .int .u64 ((x + y + c) / 18446744073709551616)])) w := by
  rw [run_callFunc_extern (e := add64Entry) Tryz.func122 (by kernel_rfl) (by kernel_rfl) (by kernel_rfl) (by kernel_rfl)]
  rw [run_add64 x y c hx hy hc0 hc w]
  rfl
theorem add64_ex (x y c : Int) (hx : U64 x) (hy : U64 y) (hc0 : 0 ≤ c) (hc : c ≤ 1) : ∃ s d : Int, (∀ W : World, (callFunc 122 #[.int .u64 x, .int .u64 y, .int .u64 c]).run Tryz.prog W = .ok (.value (.tuple #[.int .u64 s, .int .u64 d])) W) ∧ Hid (x + y + c = s + Bd * d) ∧ U64 s ∧ 0 ≤ d ∧ d ≤ 1 := by
  refine ⟨_, _, fun W => add64_run x y c hx.1 hy.1 hc0 hc W, ?_, ?_, ?_, ?_⟩ <;> simp only [Hid, U64, Bd] at * <;> omega
theorem sub64_find : (Extern.find Tryz.f80).isSome = true := by kernel_rfl
theorem sub64_e0 (x y : Nat) (w : World) :
    ((Extern.find Tryz.f80).get sub64_find #[.int .u64 x, .int .u64 y, .int .u64 (0 : Nat)]).run Tryz.prog w = .ok (.tuple #[.int .u64 ((x + 18446744073709551616 - y - 0) % 18446744073709551616 : Nat), .int .u64 ((if x < y + 0 then 1 else 0 : Nat) : Int)]) w := by kernel_rfl
theorem sub64_e1 (x y : Nat) (w : World) :
    ((Extern.find Tryz.f80).get sub64_find #[.int .u64 x, .int .u64 y, .int .u64 (1 : Nat)]).run Tryz.prog w = .ok (.tuple #[.int .u64 ((x + 18446744073709551616 - y - 1) % 18446744073709551616 : Nat), .int .u64 ((if x < y + 1 then 1 else 0 : Nat) : Int)]) w := by kernel_rfl
theorem sub64_entry (x y c : Nat) (hc : c ≤ 1) (w : World) :
    ((Extern.find Tryz.f80).get sub64_find #[.int .u64 x, .int .u64 y, .int .u64 c]).run Tryz.prog w = .ok (.tuple #[.int .u64 ((x + 18446744073709551616 - y - c) % 18446744073709551616 : Nat), .int .u64 ((if x < y + c then 1 else 0 : Nat) : Int)]) w := by
  have : c = 0 ∨ c = 1 := by omega
  rcases this with rfl | rfl
  · exact sub64_e0 x y w
  · exact sub64_e1 x y w
theorem sub64_ex (x y c : Int) (hx : U64 x) (hy : U64 y) (hc0 : 0 ≤ c) (hc : c ≤ 1) : ∃ s d : Int, (∀ W : World, (callFunc 80 #[.int .u64 x, .int .u64 y, .int .u64 c]).run Tryz.prog W = .ok (.value (.tuple #[.int .u64 s, .int .u64 d])) W) ∧ Hid (x - y - c = s - Bd * d) ∧ U64 s ∧ 0 ≤ d ∧ d ≤ 1 := by
  obtain ⟨X, rfl⟩ := Int.eq_ofNat_of_zero_le hx.1
  obtain ⟨Y, rfl⟩ := Int.eq_ofNat_of_zero_le hy.1
  obtain ⟨C, rfl⟩ := Int.eq_ofNat_of_zero_le hc0
  have hx' := hx.2
  have hy' := hy.2
  unfold Bd at hx' hy'
  refine ⟨(((X + 18446744073709551616 - Y - C) % 18446744073709551616 : Nat) : Int), ((if X < Y + C then 1 else 0 : Nat) : Int), fun W => ?_, ?_, ?_, ?_, ?_⟩
  · rw [run_callFunc_extern (e := (Extern.find Tryz.f80).get sub64_find) Tryz.func80 (by kernel_rfl) (by kernel_rfl) (by kernel_rfl) (Option.some_get _).symm]
    rw [sub64_entry X Y C (by omega) W]
    rfl
  all_goals (try simp only [Hid, U64, Bd])
  all_goals first | omega | (split <;> omega)

-- the equality of words
theorem eq64_run (k : Nat) (x y : Int) (W : World) : Sem.run Tryz.prog (Op.equalIn (k+1) 22 (.int .u64 x) (.int .u64 y)) W = .ok (x == y) W := by
  simp [Op.equalIn, run_underlying Tryz.underlying22]
theorem size64 (W : World) : Sem.run Tryz.prog (sizeOf 22) W = .ok 1 W := by kernel_rfl
theorem part0 (a0 a1 a2 a3 : Int) (W : World) : Sem.run Tryz.prog (part 22 #[.int .u64 a0, .int .u64 a1, .int .u64 a2, .int .u64 a3] 0) W = .ok (.int .u64 a0) W := by kernel_rfl
theorem part1 (a0 a1 a2 a3 : Int) (W : World) : Sem.run Tryz.prog (part 22 #[.int .u64 a0, .int .u64 a1, .int .u64 a2, .int .u64 a3] 1) W = .ok (.int .u64 a1) W := by kernel_rfl
theorem part2 (a0 a1 a2 a3 : Int) (W : World) : Sem.run Tryz.prog (part 22 #[.int .u64 a0, .int .u64 a1, .int .u64 a2, .int .u64 a3] 2) W = .ok (.int .u64 a2) W := by kernel_rfl
theorem part3 (a0 a1 a2 a3 : Int) (W : World) : Sem.run Tryz.prog (part 22 #[.int .u64 a0, .int .u64 a1, .int .u64 a2, .int .u64 a3] 3) W = .ok (.int .u64 a3) W := by kernel_rfl
set_option maxRecDepth 100000 in
theorem eqw_run (a0 a1 a2 a3 b0 b1 b2 b3 : Int) (W : World) : Sem.run Tryz.prog (Op.equalIn 10000 24 (.agg #[.int .u64 a0, .int .u64 a1, .int .u64 a2, .int .u64 a3]) (.agg #[.int .u64 b0, .int .u64 b1, .int .u64 b2, .int .u64 b3])) W = .ok (eqw a0 a1 a2 a3 b0 b1 b2 b3) W := by
  rw [show (10000 : Nat) = 9998 + 1 + 1 from rfl, Op.equalIn]
  simp only [Sem.run_bind, run_underlying Tryz.underlying24, Result.andThen_ok, size64, Std.Legacy.Range.forIn_eq_forIn_range', Std.Legacy.Range.size]
  simp [List.range', part0, part1, part2, part3, eq64_run, eqw]
  by_cases h0 : a0 = b0 <;> by_cases h1 : a1 = b1 <;> by_cases h2 : a2 = b2 <;> by_cases h3 : a3 = b3 <;> simp [h0, h1, h2, h3]

set_option maxHeartbeats 400000 in
set_option maxRecDepth 100000 in
theorem addCarry_any (x y : Int) (a0 a1 a2 a3 b0 b1 b2 b3 : Int) (w : World) (ha : IsW x a0 a1 a2 a3) (hb : IsW y b0 b1 b2 b3) :
    Calls Tryz.prog 76 #[.agg #[.int .u64 a0, .int .u64 a1, .int .u64 a2, .int .u64 a3], .agg #[.int .u64 b0, .int .u64 b1, .int .u64 b2, .int .u64 b3]] w fun e w' => ∃ s0 s1 s2 s3 c : Int, e = .returned (.tuple #[.agg #[.int .u64 s0, .int .u64 s1, .int .u64 s2, .int .u64 s3], .int .u64 c]) ∧ IsW (x + y) s0 s1 s2 s3 ∧ V a0 a1 a2 a3 + V b0 b1 b2 b3 = V s0 s1 s2 s3 + MM * c ∧ 0 ≤ c ∧ c ≤ 1 ∧ Below w.heap.size w w' := by
  obtain ⟨s0, c1, r0, e0, u0, l0, m0⟩ := add64_ex a0 b0 0 ha.u0 hb.u0 (by omega) (by omega)
  obtain ⟨s1, c2, r1, e1, u1, l1, m1⟩ := add64_ex a1 b1 c1 ha.u1 hb.u1 (by omega) (by omega)
  obtain ⟨s2, c3, r2, e2, u2, l2, m2⟩ := add64_ex a2 b2 c2 ha.u2 hb.u2 (by omega) (by omega)
  obtain ⟨s3, c4, r3, e3, u3, l3, m3⟩ := add64_ex a3 b3 c3 ha.u3 hb.u3 (by omega) (by omega)
  go_enter Tryz.func76, Tryz.ntmps76
  go_wp2
  refine wp_loop_rounds 5 ?_
  rw [rounds_succ]
  go_wp2
  go_region
  go_wp2
  rw [rounds_succ]
  go_wp2
  go_region
  go_wp2
  rw [rounds_succ]
  go_wp2
  go_region
  go_wp2
  rw [rounds_succ]
  go_wp2
  go_region
  go_wp2
  rw [rounds_succ]
  go_wp2
  have ce := carry4 e0.out e1.out e2.out e3.out
  exact bodyPost_ret (v := .tuple #[.agg #[.int .u64 s0, .int .u64 s1, .int .u64 s2, .int .u64 s3], .int .u64 c4]) (by simp [results, Tryz.results76, go_sem]) rfl
    ⟨s0, s1, s2, s3, c4, rfl, isW_add ha hb u0 u1 u2 u3 ce, ce, l3, m3, by repeat' (first | with_reducible exact Below.refl _ _ | with_reducible exact Below.refl _ _ | with_reducible refine Below.drew ?_ | with_reducible refine bdrewN ?_ _ | with_reducible refine Below.alloc ?_ ?_ _ | with_reducible refine Below.setCell ?_ ?_ _ | omega | (simp; done) | (simp; omega))⟩

set_option maxHeartbeats 400000 in
set_option maxRecDepth 100000 in
theorem sub_any (x y : Int) (a0 a1 a2 a3 b0 b1 b2 b3 : Int) (w : World) (ha : IsW x a0 a1 a2 a3) (hb : IsW y b0 b1 b2 b3) :
    Calls Tryz.prog 13 #[.agg #[.int .u64 a0, .int .u64 a1, .int .u64 a2, .int .u64 a3], .agg #[.int .u64 b0, .int .u64 b1, .int .u64 b2, .int .u64 b3]] w fun e w' => ∃ s0 s1 s2 s3 : Int, e = .returned (.agg #[.int .u64 s0, .int .u64 s1, .int .u64 s2, .int .u64 s3]) ∧ IsW (x - y) s0 s1 s2 s3 ∧ Below w.heap.size w w' := by
  obtain ⟨s0, c1, r0, e0, u0, l0, m0⟩ := sub64_ex a0 b0 0 ha.u0 hb.u0 (by omega) (by omega)
  obtain ⟨s1, c2, r1, e1, u1, l1, m1⟩ := sub64_ex a1 b1 c1 ha.u1 hb.u1 (by omega) (by omega)
  obtain ⟨s2, c3, r2, e2, u2, l2, m2⟩ := sub64_ex a2 b2 c2 ha.u2 hb.u2 (by omega) (by omega)
  obtain ⟨s3, c4, r3, e3, u3, l3, m3⟩ := sub64_ex a3 b3 c3 ha.u3 hb.u3 (by omega) (by omega)
  go_enter Tryz.func13, Tryz.ntmps13
  go_wp2
  refine wp_loop_rounds 5 ?_
  rw [rounds_succ]
  go_wp2
  go_region
  go_wp2
  rw [rounds_succ]
  go_wp2
  go_region
  go_wp2
  rw [rounds_succ]
  go_wp2
  go_region
  go_wp2
  rw [rounds_succ]
  go_wp2
  go_region
  go_wp2
  rw [rounds_succ]
  go_wp2
  exact bodyPost_ret (v := .agg #[.int .u64 s0, .int .u64 s1, .int .u64 s2, .int .u64 s3]) (by simp [results, Tryz.results13, go_sem]) rfl
    ⟨s0, s1, s2, s3, rfl, isW_sub ha hb u0 u1 u2 u3 (borrow4 e0.out e1.out e2.out e3.out), by repeat' (first | with_reducible exact Below.refl _ _ | with_reducible exact Below.refl _ _ | with_reducible refine Below.drew ?_ | with_reducible refine bdrewN ?_ _ | with_reducible refine Below.alloc ?_ ?_ _ | with_reducible refine Below.setCell ?_ ?_ _ | omega | (simp; done) | (simp; omega))⟩

set_option maxHeartbeats 400000 in
set_option maxRecDepth 100000 in
theorem add_any (x y : Int) (a0 a1 a2 a3 b0 b1 b2 b3 : Int) (w : World) (ha : IsW x a0 a1 a2 a3) (hb : IsW y b0 b1 b2 b3) :
    Calls Tryz.prog 11 #[.agg #[.int .u64 a0, .int .u64 a1, .int .u64 a2, .int .u64 a3], .agg #[.int .u64 b0, .int .u64 b1, .int .u64 b2, .int .u64 b3]] w fun e w' => ∃ s0 s1 s2 s3 : Int, e = .returned (.agg #[.int .u64 s0, .int .u64 s1, .int .u64 s2, .int .u64 s3]) ∧ IsW (x + y) s0 s1 s2 s3 ∧ Below w.heap.size w w' := by
  go_enter Tryz.func11, Tryz.ntmps11
  go_wp2_with fail
  refine (addCarry_any x y _ _ _ _ _ _ _ _ _ ha hb).mono ?_
  rintro e w1 ⟨s0, s1, s2, s3, c, rfl, hs, hc, hc0, hc1, hB⟩
  clear hc
  have z1 : w.heap.size + 1 + 1 < w1.heap.size := by have := hB.size; simp at this; omega
  have k20 : w1.cell? ⟨w.heap.size + 1 + 1, 0, none⟩ = some (.int .u64 0) := (hB.cell (p := ⟨w.heap.size + 1 + 1, 0, none⟩) (by first | omega | (simp; done) | (simp; omega))).trans (by go_simp)
  have k21 : w1.cell? ⟨w.heap.size + 1 + 1, 1, none⟩ = some (.int .u64 0) := (hB.cell (p := ⟨w.heap.size + 1 + 1, 1, none⟩) (by first | omega | (simp; done) | (simp; omega))).trans (by go_simp)
  have k22 : w1.cell? ⟨w.heap.size + 1 + 1, 2, none⟩ = some (.int .u64 0) := (hB.cell (p := ⟨w.heap.size + 1 + 1, 2, none⟩) (by first | omega | (simp; done) | (simp; omega))).trans (by go_simp)
  have k23 : w1.cell? ⟨w.heap.size + 1 + 1, 3, none⟩ = some (.int .u64 0) := (hB.cell (p := ⟨w.heap.size + 1 + 1, 3, none⟩) (by first | omega | (simp; done) | (simp; omega))).trans (by go_simp)
  have f20 : w1.frozen? ⟨w.heap.size + 1 + 1, 0, none⟩ = false := (hB.frozen (p := ⟨w.heap.size + 1 + 1, 0, none⟩) (by first | omega | (simp; done) | (simp; omega))).trans (by go_simp)
  have f21 : w1.frozen? ⟨w.heap.size + 1 + 1, 1, none⟩ = false := (hB.frozen (p := ⟨w.heap.size + 1 + 1, 1, none⟩) (by first | omega | (simp; done) | (simp; omega))).trans (by go_simp)
  have f22 : w1.frozen? ⟨w.heap.size + 1 + 1, 2, none⟩ = false := (hB.frozen (p := ⟨w.heap.size + 1 + 1, 2, none⟩) (by first | omega | (simp; done) | (simp; omega))).trans (by go_simp)
  have f23 : w1.frozen? ⟨w.heap.size + 1 + 1, 3, none⟩ = false := (hB.frozen (p := ⟨w.heap.size + 1 + 1, 3, none⟩) (by first | omega | (simp; done) | (simp; omega))).trans (by go_simp)
  have B1 : Below w.heap.size w w1 := Below.trans (by repeat' (first | with_reducible exact Below.refl _ _ | with_reducible exact Below.refl _ _ | with_reducible refine Below.drew ?_ | with_reducible refine bdrewN ?_ _ | with_reducible refine Below.alloc ?_ ?_ _ | with_reducible refine Below.setCell ?_ ?_ _ | omega | (simp; done) | (simp; omega))) (hB.mono (by first | omega | (simp; done) | (simp; omega)))
  clear hB
  go_wp2
  exact bodyPost_ret (v := .agg #[.int .u64 s0, .int .u64 s1, .int .u64 s2, .int .u64 s3]) (by simp [results, Tryz.results11, go_sem, k20, k21, k22, k23, z1]) rfl
    ⟨s0, s1, s2, s3, rfl, hs, by repeat' (first | with_reducible exact B1 | with_reducible exact Below.refl _ _ | with_reducible refine Below.drew ?_ | with_reducible refine bdrewN ?_ _ | with_reducible refine Below.alloc ?_ ?_ _ | with_reducible refine Below.setCell ?_ ?_ _ | omega | (simp; done) | (simp; omega))⟩

set_option maxHeartbeats 1000000 in
set_option maxRecDepth 100000 in
theorem cmp_limbs (a0 a1 a2 a3 b0 b1 b2 b3 : Int) (w : World) :
    Calls Tryz.prog 134 #[.agg #[.int .u64 a0, .int .u64 a1, .int .u64 a2, .int .u64 a3], .agg #[.int .u64 b0, .int .u64 b1, .int .u64 b2, .int .u64 b3]] w fun e w' => e = .returned (.int .i64 (cmpw a0 a1 a2 a3 b0 b1 b2 b3)) ∧ Below w.heap.size w w' := by
  go_enter Tryz.func134, Tryz.ntmps134
  go_wp2
  refine wp_loop_rounds 5 ?_
  rw [rounds_succ]
  go_wp2
  go_quiet (fail)
  go_wp2
  · go_ret
    exact ⟨ret_int (by unfold cmpw; repeat' split
                       all_goals omega), by repeat' (first | with_reducible exact Below.refl _ _ | with_reducible exact Below.refl _ _ | with_reducible refine Below.drew ?_ | with_reducible refine bdrewN ?_ _ | with_reducible refine Below.alloc ?_ ?_ _ | with_reducible refine Below.setCell ?_ ?_ _ | omega | (simp; done) | (simp; omega))⟩
  go_quiet (fail)
  go_wp2
  · go_ret
    exact ⟨ret_int (by unfold cmpw; repeat' split
                       all_goals omega), by repeat' (first | with_reducible exact Below.refl _ _ | with_reducible exact Below.refl _ _ | with_reducible refine Below.drew ?_ | with_reducible refine bdrewN ?_ _ | with_reducible refine Below.alloc ?_ ?_ _ | with_reducible refine Below.setCell ?_ ?_ _ | omega | (simp; done) | (simp; omega))⟩
  rw [rounds_succ]
  go_wp2
  go_quiet (fail)
  go_wp2
  · go_ret
    exact ⟨ret_int (by unfold cmpw; repeat' split
                       all_goals omega), by repeat' (first | with_reducible exact Below.refl _ _ | with_reducible exact Below.refl _ _ | with_reducible refine Below.drew ?_ | with_reducible refine bdrewN ?_ _ | with_reducible refine Below.alloc ?_ ?_ _ | with_reducible refine Below.setCell ?_ ?_ _ | omega | (simp; done) | (simp; omega))⟩
  go_quiet (fail)
  go_wp2
  · go_ret
    exact ⟨ret_int (by unfold cmpw; repeat' split
                       all_goals omega), by repeat' (first | with_reducible exact Below.refl _ _ | with_reducible exact Below.refl _ _ | with_reducible refine Below.drew ?_ | with_reducible refine bdrewN ?_ _ | with_reducible refine Below.alloc ?_ ?_ _ | with_reducible refine Below.setCell ?_ ?_ _ | omega | (simp; done) | (simp; omega))⟩
  rw [rounds_succ]
  go_wp2
  go_quiet (fail)
  go_wp2
  · go_ret
    exact ⟨ret_int (by unfold cmpw; repeat' split
                       all_goals omega), by repeat' (first | with_reducible exact Below.refl _ _ | with_reducible exact Below.refl _ _ | with_reducible refine Below.drew ?_ | with_reducible refine bdrewN ?_ _ | with_reducible refine Below.alloc ?_ ?_ _ | with_reducible refine Below.setCell ?_ ?_ _ | omega | (simp; done) | (simp; omega))⟩
  go_quiet (fail)
  go_wp2
  · go_ret
    exact ⟨ret_int (by unfold cmpw; repeat' split
                       all_goals omega), by repeat' (first | with_reducible exact Below.refl _ _ | with_reducible exact Below.refl _ _ | with_reducible refine Below.drew ?_ | with_reducible refine bdrewN ?_ _ | with_reducible refine Below.alloc ?_ ?_ _ | with_reducible refine Below.setCell ?_ ?_ _ | omega | (simp; done) | (simp; omega))⟩
  rw [rounds_succ]
  go_wp2
  go_quiet (fail)
  go_wp2
  · go_ret
    exact ⟨ret_int (by unfold cmpw; repeat' split
                       all_goals omega), by repeat' (first | with_reducible exact Below.refl _ _ | with_reducible exact Below.refl _ _ | with_reducible refine Below.drew ?_ | with_reducible refine bdrewN ?_ _ | with_reducible refine Below.alloc ?_ ?_ _ | with_reducible refine Below.setCell ?_ ?_ _ | omega | (simp; done) | (simp; omega))⟩
  go_quiet (fail)
  go_wp2
  · go_ret
    exact ⟨ret_int (by unfold cmpw; repeat' split
                       all_goals omega), by repeat' (first | with_reducible exact Below.refl _ _ | with_reducible exact Below.refl _ _ | with_reducible refine Below.drew ?_ | with_reducible refine bdrewN ?_ _ | with_reducible refine Below.alloc ?_ ?_ _ | with_reducible refine Below.setCell ?_ ?_ _ | omega | (simp; done) | (simp; omega))⟩
  rw [rounds_succ]
  go_wp2
  go_ret
  exact ⟨ret_int (by unfold cmpw; repeat' split
                     all_goals omega), by repeat' (first | with_reducible exact Below.refl _ _ | with_reducible exact Below.refl _ _ | with_reducible refine Below.drew ?_ | with_reducible refine bdrewN ?_ _ | with_reducible refine Below.alloc ?_ ?_ _ | with_reducible refine Below.setCell ?_ ?_ _ | omega | (simp; done) | (simp; omega))⟩
theorem cmp_any (x y : Int) (a0 a1 a2 a3 b0 b1 b2 b3 : Int) (w : World) (ha : IsW x a0 a1 a2 a3) (hb : IsW y b0 b1 b2 b3) :
    Calls Tryz.prog 134 #[.agg #[.int .u64 a0, .int .u64 a1, .int .u64 a2, .int .u64 a3], .agg #[.int .u64 b0, .int .u64 b1, .int .u64 b2, .int .u64 b3]] w fun e w' => e = .returned (.int .i64 (cmpv (x % MM) (y % MM))) ∧ Below w.heap.size w w' := by
  refine (cmp_limbs a0 a1 a2 a3 b0 b1 b2 b3 w).mono fun e w' ⟨he, hB⟩ => ⟨?_, hB⟩
  rw [he, cmpw_eq ha.u0 ha.u1 ha.u2 ha.u3 hb.u0 hb.u1 hb.u2 hb.u3, ha.2, hb.2]
end Go.Proofs.YtpadpmkfhljiiaaGreat
/- Plain numbers: how many bits a word has, and powers bit by bit. -/
namespace Go.Proofs.YtpadpmkfhljiiaaGreat
/-- the four limbs as a function -/
def limb (a0 a1 a2 a3 : Int) (i : Nat) : Int := if i = 0 then a0 else if i = 1 then a1 else if i = 2 then a2 else a3
theorem limb_u64 {a0 a1 a2 a3 : Int} (h0 : U64 a0) (h1 : U64 a1) (h2 : U64 a2) (h3 : U64 a3) (i : Nat) : U64 (limb a0 a1 a2 a3 i) := by
  unfold limb; split
  · exact h0
  · split
    · exact h1
    · split
      · exact h2
      · exact h3
theorem scaled {m p q x lo : Int} (hm : 0 < m) (h0 : 0 ≤ lo) (h1 : lo < m) (hp : p ≤ x) (hq : x < q) : m * p ≤ lo + m * x ∧ lo + m * x < m * q := by
  have e1 := Int.mul_le_mul_of_nonneg_left hp (Int.le_of_lt hm)
  have e2 := Int.mul_le_mul_of_nonneg_left (show x + 1 ≤ q by omega) (Int.le_of_lt hm)
  rw [Int.mul_add, Int.mul_one] at e2
  omega
theorem bitLen_range (x : Nat) (h : x < 18446744073709551616) (h0 : x ≠ 0) : 1 ≤ Lib.bitLen x ∧ 2 ^ (Lib.bitLen x - 1) ≤ x ∧ x < 2 ^ Lib.bitLen x ∧ Lib.bitLen x ≤ 64 := by
  obtain ⟨a, b, c⟩ := Lib.bitLenAux_bounds 64 x h h0
  exact ⟨a, b, c, Lib.bitLen_le x 64 (by omega) h⟩
/-- B is how many bits v has -/
def BitsOf (v : Int) (B : Nat) : Prop := v < 2 ^ B ∧ (0 < B → (2 : Int) ^ (B - 1) ≤ v)
theorem bits_limb {a0 a1 a2 a3 : Int} (h0 : U64 a0) (h1 : U64 a1) (h2 : U64 a2) (h3 : U64 a3) (k : Nat) (hk : k ≤ 4) (hne : 0 < k → limb a0 a1 a2 a3 (k - 1) ≠ 0) (hz : ∀ i, k ≤ i → i < 4 → limb a0 a1 a2 a3 i = 0) :
    BitsOf (V a0 a1 a2 a3) (if k = 0 then 0 else 64 * (k - 1) + Lib.bitLen (limb a0 a1 a2 a3 (k - 1)).toNat) := by
  obtain ⟨h00, h01⟩ := h0
  obtain ⟨h10, h11⟩ := h1
  obtain ⟨h20, h21⟩ := h2
  obtain ⟨h30, h31⟩ := h3
  unfold Bd at h01 h11 h21 h31
  by_cases e0 : k = 0
  · subst e0
    have z0 := hz 0 (by omega) (by omega)
    have z1 := hz 1 (by omega) (by omega)
    have z2 := hz 2 (by omega) (by omega)
    have z3 := hz 3 (by omega) (by omega)
    simp only [limb] at z0 z1 z2 z3
    simp at z0 z1 z2 z3
    subst z0 z1 z2 z3
    simp [BitsOf, V, Bd]
  · rw [if_neg e0]
    have hl : ∀ x : Int, 0 ≤ x → x < 18446744073709551616 → x ≠ 0 → 1 ≤ Lib.bitLen x.toNat ∧ (2 : Int) ^ (Lib.bitLen x.toNat - 1) ≤ x ∧ x < 2 ^ Lib.bitLen x.toNat := fun x h0 h1 hn => by
      obtain ⟨a, b, c, _⟩ := bitLen_range x.toNat (by omega) (by omega)
      refine ⟨a, ?_, ?_⟩
      · have : (2 : Int) ^ (Lib.bitLen x.toNat - 1) ≤ (x.toNat : Int) := by exact_mod_cast b
        omega
      · have : (x.toNat : Int) < (2 : Int) ^ Lib.bitLen x.toNat := by exact_mod_cast c
        omega
    have fin : ∀ (m : Nat) (x lo : Int), 0 ≤ x → x < 18446744073709551616 → x ≠ 0 → 0 ≤ lo → lo < 2 ^ m → V a0 a1 a2 a3 = lo + 2 ^ m * x → BitsOf (V a0 a1 a2 a3) (m + Lib.bitLen x.toNat) := fun m x lo hx0 hx1 hn l0 l1 hv => by
      obtain ⟨a, b, c⟩ := hl x hx0 hx1 hn
      obtain ⟨r1, r2⟩ := scaled (show (0 : Int) < 2 ^ m from Int.pow_pos (by omega)) l0 l1 b c
      rw [← hv, ← Int.pow_add] at r1 r2
      exact ⟨r2, fun _ => by rw [show m + Lib.bitLen x.toNat - 1 = m + (Lib.bitLen x.toNat - 1) by omega]; exact r1⟩
    have hn := hne (by omega)
    obtain rfl | rfl | rfl | rfl : k = 1 ∨ k = 2 ∨ k = 3 ∨ k = 4 := by omega
    · have z1 := hz 1 (by omega) (by omega)
      have z2 := hz 2 (by omega) (by omega)
      have z3 := hz 3 (by omega) (by omega)
      simp [limb] at z1 z2 z3 hn
      subst z1 z2 z3
      exact fin 0 a0 0 h00 h01 hn (by omega) (by decide) (by simp [V, Bd])
    · have z2 := hz 2 (by omega) (by omega)
      have z3 := hz 3 (by omega) (by omega)
      simp [limb] at z2 z3 hn
      subst z2 z3
      exact fin 64 a1 a0 h10 h11 hn h00 (by omega) (by simp only [V, Bd]; omega)
    · have z3 := hz 3 (by omega) (by omega)
      simp [limb] at z3 hn
      subst z3
      exact fin 128 a2 (a0 + 18446744073709551616 * a1) h20 h21 hn (by omega) (by omega) (by simp only [V, Bd]; omega)
    · simp [limb] at hn
      exact fin 192 a3 (a0 + 18446744073709551616 * (a1 + 18446744073709551616 * a2)) h30 h31 hn (by omega) (by omega) (by simp only [V, Bd]; omega)
/-- a bit of a word, found in its limb -/
theorem bit_limb {a0 a1 a2 a3 : Int} (h0 : U64 a0) (h1 : U64 a1) (h2 : U64 a2) (h3 : U64 a3) (Y : Nat) (hY : V a0 a1 a2 a3 = (Y : Int)) (j : Nat) (hj : j < 256) : (limb a0 a1 a2 a3 (j / 64)).toNat.testBit (j % 64) = Y.testBit j := by
  obtain ⟨h00, h01⟩ := h0
  obtain ⟨h10, h11⟩ := h1
  obtain ⟨h20, h21⟩ := h2
  obtain ⟨h30, h31⟩ := h3
  unfold Bd at h01 h11 h21 h31
  have e : Y = 2 ^ 64 * (2 ^ 64 * (2 ^ 64 * a3.toNat + a2.toNat) + a1.toNat) + a0.toNat := by
    unfold V Bd at hY; omega
  have d : j / 64 = 0 ∨ j / 64 = 1 ∨ j / 64 = 2 ∨ j / 64 = 3 := by omega
  rw [e, Nat.testBit_two_pow_mul_add _ (by omega), Nat.testBit_two_pow_mul_add _ (by omega), Nat.testBit_two_pow_mul_add _ (by omega)]
  rcases d with d | d | d | d
  · rw [d, if_pos (by omega), show j % 64 = j by omega]; rfl
  · rw [d, if_neg (by omega), if_pos (by omega), show j % 64 = j - 64 by omega]; rfl
  · rw [d, if_neg (by omega), if_neg (by omega), if_pos (by omega), show j % 64 = j - 64 - 64 by omega]; rfl
  · rw [d, if_neg (by omega), if_neg (by omega), if_neg (by omega), show j % 64 = j - 64 - 64 - 64 by omega]; rfl
theorem half_bit (Y j : Nat) : Y / 2 ^ j = 2 * (Y / 2 ^ (j + 1)) + (if Y.testBit j then 1 else 0) := by
  have e : Y / 2 ^ (j + 1) = Y / 2 ^ j / 2 := by rw [Nat.pow_succ, Nat.div_div_eq_div_mul]
  have t : Y.testBit j = decide (Y / 2 ^ j % 2 = 1) := Nat.testBit_eq_decide_div_mod_eq
  rw [e, t]
  by_cases h : Y / 2 ^ j % 2 = 1
  · simp [h]; omega
  · simp [h]; omega
/-- the test of a bit, as the program reckons it -/
theorem and_one (z : Int) (h0 : 0 ≤ z) (h1 : z < 18446744073709551616) : bits .and .u64 z 1 = z % 2 := by
  have := u64_and z 1 h0 h1 (by omega) (by omega)
  rw [this, show (1 : Int).toNat = 1 from rfl, Nat.and_one_is_mod]; omega
theorem bit_val {x : Int} (h : U64 x) (r : Nat) : bits .and .u64 (x / 2 ^ r) 1 = if x.toNat.testBit r then 1 else 0 := by
  obtain ⟨h0, h1⟩ := h
  unfold Bd at h1
  have hp : (0 : Int) < 2 ^ r := Int.pow_pos (by omega)
  have l0 : 0 ≤ x / 2 ^ r := Int.ediv_nonneg h0 (by omega)
  have l1 : x / 2 ^ r ≤ x := Int.ediv_le_self _ h0
  rw [and_one _ l0 (by omega), Nat.testBit_eq_decide_div_mod_eq]
  have e : x / 2 ^ r = ((x.toNat / 2 ^ r : Nat) : Int) := by
    rw [Int.natCast_ediv, Int.natCast_pow, Int.toNat_of_nonneg h0]; rfl
  rw [e]
  generalize x.toNat / 2 ^ r = n
  by_cases h : n % 2 = 1
  · simp [h]; omega
  · simp [h]; omega
end Go.Proofs.YtpadpmkfhljiiaaGreat
/- The document's numbers: rows of digits of base 256. -/
namespace Go.Proofs.YtpadpmkfhljiiaaGreat
open Go.RowKit
/-- the number of the first n digits -/
def dsum (d : Nat → Nat) : Nat → Nat
  | 0 => 0
  | n + 1 => dsum d n + d n * 256 ^ n
theorem dsum_lt {d : Nat → Nat} (h : ∀ i, d i < 256) : ∀ n, dsum d n < 256 ^ n
  | 0 => by simp [dsum]
  | n + 1 => by
    have h1 := dsum_lt h n
    have h2 : (d n + 1) * 256 ^ n ≤ 256 * 256 ^ n := Nat.mul_le_mul_right _ (h n)
    rw [Nat.add_mul, Nat.one_mul] at h2
    rw [dsum, Nat.pow_succ, Nat.mul_comm (256 ^ n) 256]; omega
theorem dsum_ext {d e : Nat → Nat} : ∀ n, (∀ i, i < n → d i = e i) → dsum d n = dsum e n
  | 0, _ => rfl
  | n + 1, h => by rw [dsum, dsum, dsum_ext n (fun i hi => h i (by omega)), h n (by omega)]
theorem dsum_more {d : Nat → Nat} {n : Nat} (h : ∀ i, n ≤ i → d i = 0) : ∀ m, n ≤ m → dsum d m = dsum d n
  | 0, hm => by rw [show n = 0 by omega]
  | m + 1, hm => by
    by_cases e : n = m + 1
    · rw [e]
    · rw [dsum, h m (by omega), Nat.zero_mul, Nat.add_zero, dsum_more h m (by omega)]
theorem dsum_zero {d : Nat → Nat} : ∀ n, (∀ i, i < n → d i = 0) → dsum d n = 0
  | 0, _ => rfl
  | n + 1, h => by rw [dsum, dsum_zero n (fun i hi => h i (by omega)), h n (by omega)]; simp
/-- above j the digits agree -/
theorem dsum_agree {d e : Nat → Nat} (j : Nat) : ∀ n, j ≤ n → (∀ i, j ≤ i → i < n → d i = e i) → dsum d n + dsum e j = dsum e n + dsum d j
  | 0, hn, _ => by obtain rfl : j = 0 := by omega
                   rfl
  | n + 1, hn, h => by
    by_cases q : j = n + 1
    · subst q; omega
    · have := dsum_agree j n (by omega) (fun i h1 h2 => h i h1 (by omega))
      rw [dsum, dsum, h n (by omega) (by omega)]; omega
theorem dsum_less {d e : Nat → Nat} (hd : ∀ i, d i < 256) (j n : Nat) (hj : j < n) (hlt : d j < e j) (h : ∀ i, j + 1 ≤ i → i < n → d i = e i) : dsum d n < dsum e n := by
  have h1 := dsum_agree (j + 1) n (by omega) h
  have h2 := dsum_lt hd j
  have h3 : (d j + 1) * 256 ^ j ≤ e j * 256 ^ j := Nat.mul_le_mul_right _ hlt
  rw [Nat.add_mul, Nat.one_mul] at h3
  have h4 : dsum d (j + 1) < dsum e (j + 1) := by rw [dsum, dsum]; omega
  omega
/-- the digits of a number -/
def dig (X : Nat) (i : Nat) : Nat := if i < 32 then X / 256 ^ i % 256 else 0
theorem dig_lt (X i : Nat) : dig X i < 256 := by unfold dig; split <;> omega
theorem dig_sum (X : Nat) : ∀ n, n ≤ 32 → dsum (dig X) n = X % 256 ^ n
  | 0, _ => by simp [dsum, Nat.mod_one]
  | n + 1, h => by
    rw [dsum, dig_sum X n (by omega), dig, if_pos (by omega), Nat.pow_succ, Nat.mod_mul, Nat.mul_comm (256 ^ n)]
/-- the value is a row of these n digits -/
def RowAt (W : World) (v : Value) (n : Nat) (d : Nat → Nat) : Prop := (∀ i, n ≤ i → d i = 0) ∧ (∀ i, d i < 256) ∧ n ≤ 1073741824 ∧ ∃ ad cap, v = .slice ad n cap ∧ (n ≠ 0 → ∃ g o, ad = some ⟨g, o, none⟩ ∧ ∀ i, i < n → W.cell? ⟨g, o + i, none⟩ = some (.int .i64 (d i : Int)))
theorem RowAt.below {W W' : World} {v : Value} {n : Nat} {d : Nat → Nat} (h : RowAt W v n d) (k : Below W.heap.size W W') : RowAt W' v n d := by
  obtain ⟨h1, h2, h3, ad, cap, e, hc⟩ := h
  refine ⟨h1, h2, h3, ad, cap, e, fun hn => ?_⟩
  obtain ⟨g, o, e1, hc⟩ := hc hn
  exact ⟨g, o, e1, fun i hi => (k.cell (p := ⟨g, o + i, none⟩) (World.block_lt_of_cell? W _ (hc i hi))).trans (hc i hi)⟩
def intsD (d : Nat → Nat) (n : Nat) : List Value := (List.range n).map fun i => .int .i64 (d i : Int)
theorem intsD_snoc (d : Nat → Nat) (n : Nat) : intsD d (n + 1) = intsD d n ++ [.int .i64 (d n : Int)] := by simp [intsD, List.range_succ]
theorem intsD_at (d : Nat → Nat) (n i : Nat) (h : i < n) : (intsD d n)[i]? = some (.int .i64 (d i : Int)) := by simp [intsD, h]
theorem RowAt.own {W : World} {B n : Nat} {v : Value} {d : Nat → Nat} (h : W.ownsRow B 3 1 v n (intsD d n)) (hd : ∀ i, d i < 256) (hz : ∀ i, n ≤ i → d i = 0) (hn : n ≤ 1073741824) : RowAt W v n d := by
  have h' := h
  obtain ⟨_, ⟨rfl, rfl⟩ | ⟨g, c, cur, rfl, hb, hh, _⟩⟩ := h'
  · exact ⟨hz, hd, hn, none, 0, rfl, fun e => absurd rfl e⟩
  · exact ⟨hz, hd, hn, _, c, rfl, fun _ => ⟨g, 0, rfl, fun i hi => by rw [Nat.zero_add, h.cellAt i (by omega), intsD_at d n i hi]⟩⟩
theorem Tryz.infoI : (Tryz.prog.info? 3).map (fun i => (i.zero, i.size, i.bytes)) = some (some (.int .i64 0), 1, 8) := by kernel_rfl
set_option maxHeartbeats 400000 in
theorem digit_is (W : World) (v : Value) (n : Nat) (d : Nat → Nat) (i : Nat) (h : RowAt W v n d) : Calls Tryz.prog 123 #[v, .int .i64 (i : Int)] W fun e w' => e = .returned (.int .i64 (d i : Int)) ∧ w' = W := by
  obtain ⟨hz, _, hn, ad, cap, rfl, hc⟩ := h
  by_cases hi : i < n
  · obtain ⟨g, o, rfl, hcc⟩ := hc (by omega)
    have c := hcc i hi
    have iI : (i : Int) < (n : Int) := by omega
    clear hc hcc hz
    go_enter Tryz.func123, Tryz.ntmps123
    go_wp2
    go_ret
    exact ⟨rfl, rfl⟩
  · have iI : ¬ ((i : Int) < (n : Int)) := by omega
    rw [hz i (by omega)]
    clear hc hz
    go_enter Tryz.func123, Tryz.ntmps123
    go_wp2
    go_ret
    exact ⟨rfl, rfl⟩
set_option maxHeartbeats 400000 in
theorem longer_is (W : World) (ad bd : Option Addr) (n m c1 c2 : Nat) : Calls Tryz.prog 124 #[.slice ad n c1, .slice bd m c2] W fun e w' => e = .returned (.int .i64 ((max n m : Nat) : Int)) ∧ w' = W := by
  by_cases hi : m < n
  · have iI : (m : Int) < (n : Int) := by omega
    rw [show max n m = n by omega]
    go_enter Tryz.func124, Tryz.ntmps124
    go_wp2
    go_ret
    exact ⟨rfl, rfl⟩
  · have iI : ¬ ((m : Int) < (n : Int)) := by omega
    rw [show max n m = m by omega]
    go_enter Tryz.func124, Tryz.ntmps124
    go_wp2
    go_ret
    exact ⟨rfl, rfl⟩
set_option maxHeartbeats 1000000 in
theorem compare_is (W : World) (v u : Value) (n m : Nat) (d e : Nat → Nat) (hv : RowAt W v n d) (hu : RowAt W u m e) (N : Nat) (hN : max n m ≤ N) :
    Calls Tryz.prog 118 #[v, u] W fun r w' => r = .returned (.int .i64 (cmpv (dsum d N : Int) (dsum e N : Int))) ∧ w' = W := by
  have HV : Hid (RowAt W v n d) := hv
  have HU : Hid (RowAt W u m e) := hu
  obtain ⟨hz, hd, hn, ad, cap, rfl, _⟩ := hv
  obtain ⟨hz', hd', hn', bd, cap', rfl, _⟩ := hu
  obtain ⟨K, eK⟩ : ∃ K, K = max n m := ⟨_, rfl⟩
  have e1 : dsum d N = dsum d K := dsum_more (fun i hi => hz i (by omega)) N (by omega)
  have e2 : dsum e N = dsum e K := dsum_more (fun i hi => hz' i (by omega)) N (by omega)
  rw [e1, e2]
  have HD : Hid _ := hd
  have HE : Hid _ := hd'
  have LG : Hid (Calls Tryz.prog 124 #[.slice ad n cap, .slice bd m cap'] W fun e w' => e = .returned (.int .i64 (K : Int)) ∧ w' = W) := by rw [eK]; exact longer_is W ad bd n m cap cap'
  have kI : (K : Int) ≤ 1073741824 := by omega
  clear hz hz' hd hd' e1 e2 eK hN
  go_enter Tryz.func118, Tryz.ntmps118
  go_wp2_with (go_at_call 124; refine Calls.mono LG.out ?_; rintro e0 w' ⟨rfl, hw⟩; (have hw2 := hw.symm); clear hw; subst hw2)
  go_loop [5] (fun s => ∃ j : Nat, s = .int .i64 ((j : Int) - 1) ∧ j ≤ K ∧ (∀ i, j ≤ i → i < K → d i = e i)) (fun s => (intOf s + 1).toNat)
  case atStart => exact ⟨K, rfl, Nat.le_refl _, fun i h1 h2 => by omega⟩
  case round =>
    obtain ⟨j, rfl, hj, hag⟩ := hrel
    have HAG : Hid _ := hag
    clear hag
    rcases j with _ | j
    · go_wp2
      go_ret
      refine ⟨ret_int ?_, rfl⟩
      rw [dsum_ext K (fun i hi => HAG.out i (by omega) hi)]; simp [cmpv]
    · rw [show ((j + 1 : Nat) : Int) - 1 = (j : Int) by omega]
      have jI : (0 : Int) ≤ (j : Int) := by omega
      obtain ⟨x, ex⟩ : ∃ x, x = d j := ⟨_, rfl⟩
      obtain ⟨y, ey⟩ : ∃ y, y = e j := ⟨_, rfl⟩
      have D1 : Hid (Calls Tryz.prog 123 #[.slice ad n cap, .int .i64 (j : Int)] W fun e w' => e = .returned (.int .i64 (x : Int)) ∧ w' = W) := by rw [ex]; exact digit_is W _ n d j HV.out
      have D2 : Hid (Calls Tryz.prog 123 #[.slice bd m cap', .int .i64 (j : Int)] W fun e w' => e = .returned (.int .i64 (y : Int)) ∧ w' = W) := by rw [ey]; exact digit_is W _ m e j HU.out
      have EX : Hid _ := ex
      have EY : Hid _ := ey
      clear ex ey
      go_upto_region 5 with (go_at_call 123; refine Calls.mono D1.out ?_; rintro e0 w' ⟨rfl, hw⟩; (have hw2 := hw.symm); clear hw; subst hw2)
      go_upto_region 6 with (go_at_call 123; refine Calls.mono D2.out ?_; rintro e0 w' ⟨rfl, hw⟩; (have hw2 := hw.symm); clear hw; subst hw2)
      by_cases h1 : x < y
      · have xI : (x : Int) < (y : Int) := by omega
        go_wp2
        go_ret
        refine ⟨ret_int ?_, rfl⟩
        have := dsum_less HD.out j K (by omega) (by rw [← EX.out, ← EY.out]; exact h1) (fun i h1 h2 => HAG.out i (by omega) h2)
        rw [cmpv, if_pos (by omega)]
      · by_cases h2 : y < x
        · have xI : (y : Int) < (x : Int) := by omega
          have xI2 : ¬ ((x : Int) < (y : Int)) := by omega
          go_wp2
          go_ret
          refine ⟨ret_int ?_, rfl⟩
          have := dsum_less HE.out j K (by omega) (by rw [← EX.out, ← EY.out]; exact h2) (fun i h1 h2 => (HAG.out i (by omega) h2).symm)
          rw [cmpv, if_neg (by omega), if_pos (by omega)]
        · obtain rfl : x = y := by omega
          have xI2 : ¬ ((x : Int) < (x : Int)) := by omega
          go_wp2
          go_round
          case rel => exact ⟨j, rfl, by omega, fun i h1 h2 => by by_cases q : i = j; (rw [q, ← EX.out, ← EY.out]); exact HAG.out i (by omega) h2⟩
          case measure => simp [intOf]
end Go.Proofs.YtpadpmkfhljiiaaGreat
/- How many zeros stand ahead of a word. -/
namespace Go.Proofs.YtpadpmkfhljiiaaGreat
open Go.RowKit Go.Shelf
/-- the numbers of math/bits' functions and types at this program -/
def lzRen : Ren := ⟨fun | 129 => 176 | 134 => 127 | n => n, fun | 46 => 80 | 53 => 22 | n => n, fun n => n⟩
theorem lzLays : Lays.n134 Tryz.prog lzRen :=
  { mixed := by kernel_rfl, f129 := by kernel_rfl, f134 := by kernel_rfl,
    t3 := by kernel_rfl, a3 := fun _ => by kernel_rfl, z3 := fun _ => by kernel_rfl, v3 := fun _ => by kernel_rfl,
    t4 := by kernel_rfl, a4 := fun _ => by kernel_rfl, z4 := fun _ => by kernel_rfl, v4 := fun _ => by kernel_rfl,
    t5 := by kernel_rfl, a5 := fun _ => by kernel_rfl, z5 := fun _ => by kernel_rfl, v5 := fun _ => by kernel_rfl,
    t9 := by kernel_rfl, a9 := fun _ => by kernel_rfl, z9 := fun _ => by kernel_rfl, v9 := fun _ => by kernel_rfl,
    t46 := by kernel_rfl, a46 := fun _ => by kernel_rfl, z46 := fun _ => by kernel_rfl, v46 := fun _ => by kernel_rfl,
    t53 := by kernel_rfl, a53 := fun _ => by kernel_rfl, z53 := fun _ => by kernel_rfl, v53 := fun _ => by kernel_rfl }
theorem lz_any (x : Int) (hx : U64 x) (w : World) : Calls Tryz.prog 127 #[.int .u64 x] w fun e w' => e = .returned (.int .i64 (64 - (Lib.bitLen x.toNat : Int))) ∧ w' = w := by
  have h := hx.2
  unfold Bd at h
  exact Any.bits_LeadingZeros64 lzLays x w hx.1 (by omega)
set_option maxHeartbeats 400000 in
/-- how many parts hold all that is not 0 -/
theorem parts_is (w : World) (b n cap : Nat) (v : Nat → Int) (hn : n ≤ 9) (hc : ∀ i, i < n → w.cell? ⟨b, i, none⟩ = some (.int .u64 (v i))) :
    Calls Tryz.prog 126 #[.slice (some ⟨b, 0, none⟩) n cap] w fun e w' => ∃ k : Nat, e = .returned (.int .i64 (k : Int)) ∧ k ≤ n ∧ (0 < k → v (k - 1) ≠ 0) ∧ (∀ i, k ≤ i → i < n → v i = 0) ∧ w' = w := by
  have HC : Hid _ := hc
  clear hc
  go_enter Tryz.func126, Tryz.ntmps126
  go_wp2
  go_loop [3] (fun s => ∃ k : Nat, s = .int .i64 (k : Int) ∧ k ≤ n ∧ (∀ i, k ≤ i → i < n → v i = 0)) (fun s => (intOf s).toNat)
  case atStart => exact ⟨n, rfl, Nat.le_refl _, fun i h1 h2 => by omega⟩
  case round =>
    obtain ⟨k, rfl, hk, hz⟩ := hrel
    have HZ : Hid _ := hz
    clear hz
    rcases k with _ | k
    · go_wp2
      go_ret
      exact ⟨0, rfl, by omega, fun h => absurd h (by omega), HZ.out, rfl⟩
    · have c := HC.out k (by omega)
      have kI : (0 : Int) < ((k + 1 : Nat) : Int) := by omega
      have k1 : ((k + 1 : Nat) : Int) - 1 = (k : Int) := by omega
      have kn : (k : Int) < (n : Int) := by omega
      generalize hv : v k = x at c
      by_cases hx : x = 0
      · subst hx
        have HV : Hid _ := hv
        clear hv
        go_wp2
        go_round
        case rel => exact ⟨k, by first | rfl | go_num, by omega, fun i h1 h2 => by by_cases e : i = k; (rw [e]; exact HV.out); exact HZ.out i (by omega) h2⟩
        case measure => simp [intOf]
      · have HV : Hid _ := hv
        clear hv
        go_wp2
        go_ret
        exact ⟨k + 1, rfl, hk, fun _ => by rw [show k + 1 - 1 = k by omega, HV.out]; exact hx, HZ.out, rfl⟩
theorem box_cell (w : World) (a0 a1 a2 a3 : Int) (t : TypeId) (i : Nat) (h : i < 4) : (w.alloc (.cells #[.int .u64 a0, .int .u64 a1, .int .u64 a2, .int .u64 a3] t)).cell? ⟨w.heap.size, i, none⟩ = some (.int .u64 (limb a0 a1 a2 a3 i)) := by
  rw [World.cell?_alloc_at _ _ _ _ rfl]
  obtain rfl | rfl | rfl | rfl : i = 0 ∨ i = 1 ∨ i = 2 ∨ i = 3 := by omega
  all_goals rfl
set_option maxHeartbeats 1000000 in
/-- B bits are not zeros ahead -/
theorem zerosAhead_any (x : Int) (a0 a1 a2 a3 : Int) (w : World) (ha : IsW x a0 a1 a2 a3) :
    Calls Tryz.prog 109 #[.agg #[.int .u64 a0, .int .u64 a1, .int .u64 a2, .int .u64 a3]] w fun e w' => ∃ B : Nat, e = .returned (.int .i64 (256 - (B : Int))) ∧ B ≤ 256 ∧ BitsOf (V a0 a1 a2 a3) B ∧ Below w.heap.size w w' := by
  have HA : Hid (IsW x a0 a1 a2 a3) := ha
  have hc := box_cell w a0 a1 a2 a3 24
  have HC : Hid _ := hc
  have P1 : Hid _ := parts_is (w.alloc (.cells #[.int .u64 a0, .int .u64 a1, .int .u64 a2, .int .u64 a3] 24)) w.heap.size 4 4 (limb a0 a1 a2 a3) (by omega) hc
  have B1 : Hid (Below w.heap.size w (w.alloc (.cells #[.int .u64 a0, .int .u64 a1, .int .u64 a2, .int .u64 a3] 24))) := (Below.refl _ _).alloc (by omega) _
  clear ha hc
  go_enter Tryz.func109, Tryz.ntmps109
  go_upto_region 2 with (go_at_call 126; refine Calls.mono P1.out ?_; rintro e v1 ⟨k, rfl, hk, hne, hz, rfl⟩; (have HNE : Hid _ := hne); (have HZ : Hid _ := hz); clear hne hz)
  have BB : Hid _ := bits_limb HA.out.u0 HA.out.u1 HA.out.u2 HA.out.u3 k hk HNE.out HZ.out
  rcases k with _ | k
  · have B0 : Hid (BitsOf (V a0 a1 a2 a3) 0) := by have h := BB.out; rw [if_pos rfl] at h; exact h
    clear BB HNE HZ
    go_wp2
    go_ret
    exact ⟨0, rfl, by omega, B0.out, B1.out⟩
  · have c := HC.out k (by omega)
    have kI : ¬ (((k + 1 : Nat) : Int) = 0) := by omega
    have k1 : ((k + 1 : Nat) : Int) - 1 = (k : Int) := by omega
    have kn : (k : Int) < 4 := by omega
    have k4 : ((k + 1 : Nat) : Int) ≤ 4 := by omega
    have hu := limb_u64 HA.out.u0 HA.out.u1 HA.out.u2 HA.out.u3 k
    have bb := BB.out
    rw [if_neg (by omega), show k + 1 - 1 = k by omega] at bb
    have nz := HNE.out (by omega)
    rw [show k + 1 - 1 = k by omega] at nz
    generalize limb a0 a1 a2 a3 k = y at c hu bb nz
    have bl := bitLen_range y.toNat (by have := hu.2; unfold Bd at this; omega) (by have := hu.1; omega)
    obtain ⟨l, el⟩ : ∃ l, l = Lib.bitLen y.toNat := ⟨_, rfl⟩
    have LZ : Hid (∀ W : World, Calls Tryz.prog 127 #[.int .u64 y] W fun e w' => e = .returned (.int .i64 (64 - (l : Int))) ∧ w' = W) := fun W => by rw [el]; exact lz_any y hu W
    rw [← el] at bb bl
    have lI : (l : Int) ≤ 64 := by omega
    have BBB : Hid _ := bb
    clear bb bl nz hu el BB HNE HZ
    obtain ⟨r, er⟩ : ∃ r : Int, r = 4 - ((k + 1 : Nat) : Int) := ⟨_, rfl⟩
    go_wp2_with (go_at_call 127; refine (LZ.out _).mono ?_; rintro e v2 ⟨rfl, rfl⟩)
    go_ret
    refine ⟨64 * k + l, ret_int ?_, by omega, BBB.out, B1.out⟩
    omega
end Go.Proofs.YtpadpmkfhljiiaaGreat
/- The comparisons of package word, for every two words. -/
namespace Go.Proofs.YtpadpmkfhljiiaaGreat
open Go.RowKit

set_option maxHeartbeats 400000 in
set_option maxRecDepth 100000 in
theorem lt_any (x y : Int) (a0 a1 a2 a3 b0 b1 b2 b3 : Int) (w : World) (ha : IsW x a0 a1 a2 a3) (hb : IsW y b0 b1 b2 b3) :
    Calls Tryz.prog 96 #[.agg #[.int .u64 a0, .int .u64 a1, .int .u64 a2, .int .u64 a3], .agg #[.int .u64 b0, .int .u64 b1, .int .u64 b2, .int .u64 b3]] w fun e w' => e = .returned (.bool (decide (x % MM < y % MM))) ∧ Below w.heap.size w w' := by
  go_enter Tryz.func96, Tryz.ntmps96
  go_wp2_with fail
  refine (cmp_any x y _ _ _ _ _ _ _ _ _ ha hb).mono ?_
  rintro e w1 ⟨rfl, hB⟩
  have B1 : Below w.heap.size w w1 := Below.trans (by repeat' (first | with_reducible exact Below.refl _ _ | with_reducible exact Below.refl _ _ | with_reducible refine Below.drew ?_ | with_reducible refine bdrewN ?_ _ | with_reducible refine Below.alloc ?_ ?_ _ | with_reducible refine Below.setCell ?_ ?_ _ | omega | (simp; done) | (simp; omega))) (hB.mono (by first | omega | (simp; done) | (simp; omega)))
  clear hB
  generalize hr : cmpv (x % MM) (y % MM) = r
  have HR : Hid (cmpv (x % MM) (y % MM) = r) := hr
  clear hr
  go_wp2
  go_ret
  exact ⟨ret_bool (by rw [← HR.out]; exact cmpv_lt _ _), by repeat' (first | with_reducible exact B1 | with_reducible exact Below.refl _ _ | with_reducible refine Below.drew ?_ | with_reducible refine bdrewN ?_ _ | with_reducible refine Below.alloc ?_ ?_ _ | with_reducible refine Below.setCell ?_ ?_ _ | omega | (simp; done) | (simp; omega))⟩

set_option maxHeartbeats 400000 in
set_option maxRecDepth 100000 in
theorem gt_any (x y : Int) (a0 a1 a2 a3 b0 b1 b2 b3 : Int) (w : World) (ha : IsW x a0 a1 a2 a3) (hb : IsW y b0 b1 b2 b3) :
    Calls Tryz.prog 99 #[.agg #[.int .u64 a0, .int .u64 a1, .int .u64 a2, .int .u64 a3], .agg #[.int .u64 b0, .int .u64 b1, .int .u64 b2, .int .u64 b3]] w fun e w' => e = .returned (.bool (decide (y % MM < x % MM))) ∧ Below w.heap.size w w' := by
  go_enter Tryz.func99, Tryz.ntmps99
  go_wp2_with fail
  refine (cmp_any x y _ _ _ _ _ _ _ _ _ ha hb).mono ?_
  rintro e w1 ⟨rfl, hB⟩
  have B1 : Below w.heap.size w w1 := Below.trans (by repeat' (first | with_reducible exact Below.refl _ _ | with_reducible exact Below.refl _ _ | with_reducible refine Below.drew ?_ | with_reducible refine bdrewN ?_ _ | with_reducible refine Below.alloc ?_ ?_ _ | with_reducible refine Below.setCell ?_ ?_ _ | omega | (simp; done) | (simp; omega))) (hB.mono (by first | omega | (simp; done) | (simp; omega)))
  clear hB
  generalize hr : cmpv (x % MM) (y % MM) = r
  have HR : Hid (cmpv (x % MM) (y % MM) = r) := hr
  clear hr
  go_wp2
  go_ret
  exact ⟨ret_bool (by rw [← HR.out]; exact cmpv_gt _ _), by repeat' (first | with_reducible exact B1 | with_reducible exact Below.refl _ _ | with_reducible refine Below.drew ?_ | with_reducible refine bdrewN ?_ _ | with_reducible refine Below.alloc ?_ ?_ _ | with_reducible refine Below.setCell ?_ ?_ _ | omega | (simp; done) | (simp; omega))⟩

set_option maxHeartbeats 400000 in
set_option maxRecDepth 100000 in
theorem eq_any (x y : Int) (a0 a1 a2 a3 b0 b1 b2 b3 : Int) (w : World) (ha : IsW x a0 a1 a2 a3) (hb : IsW y b0 b1 b2 b3) :
    Calls Tryz.prog 153 #[.agg #[.int .u64 a0, .int .u64 a1, .int .u64 a2, .int .u64 a3], .agg #[.int .u64 b0, .int .u64 b1, .int .u64 b2, .int .u64 b3]] w fun e w' => e = .returned (.bool (decide (x % MM = y % MM))) ∧ Below w.heap.size w w' := by
  have hq := eqw_run a0 a1 a2 a3 b0 b1 b2 b3
  go_enter Tryz.func153, Tryz.ntmps153
  go_wp2
  go_ret
  exact ⟨ret_bool (ha.eqw hb), by repeat' (first | with_reducible exact Below.refl _ _ | with_reducible exact Below.refl _ _ | with_reducible refine Below.drew ?_ | with_reducible refine bdrewN ?_ _ | with_reducible refine Below.alloc ?_ ?_ _ | with_reducible refine Below.setCell ?_ ?_ _ | omega | (simp; done) | (simp; omega))⟩

set_option maxHeartbeats 400000 in
set_option maxRecDepth 100000 in
theorem isZero_any (x : Int) (a0 a1 a2 a3 : Int) (w : World) (ha : IsW x a0 a1 a2 a3) :
    Calls Tryz.prog 155 #[.agg #[.int .u64 a0, .int .u64 a1, .int .u64 a2, .int .u64 a3]] w fun e w' => e = .returned (.bool (decide (x % MM = 0))) ∧ Below w.heap.size w w' := by
  have hq := eqw_run a0 a1 a2 a3 0 0 0 0
  go_enter Tryz.func155, Tryz.ntmps155
  go_wp2
  go_ret
  exact ⟨ret_bool (ha.eqw isW_0), by repeat' (first | with_reducible exact Below.refl _ _ | with_reducible exact Below.refl _ _ | with_reducible refine Below.drew ?_ | with_reducible refine bdrewN ?_ _ | with_reducible refine Below.alloc ?_ ?_ _ | with_reducible refine Below.setCell ?_ ?_ _ | omega | (simp; done) | (simp; omega))⟩

set_option maxHeartbeats 400000 in
set_option maxRecDepth 100000 in
theorem negative_any (x : Int) (a0 a1 a2 a3 : Int) (w : World) (ha : IsW x a0 a1 a2 a3) :
    Calls Tryz.prog 91 #[.agg #[.int .u64 a0, .int .u64 a1, .int .u64 a2, .int .u64 a3]] w fun e w' => e = .returned (.bool (decide (MM / 2 ≤ x % MM))) ∧ Below w.heap.size w w' := by
  go_enter Tryz.func91, Tryz.ntmps91
  go_wp2
  go_ret
  exact ⟨ret_bool ha.neg, by repeat' (first | with_reducible exact Below.refl _ _ | with_reducible exact Below.refl _ _ | with_reducible refine Below.drew ?_ | with_reducible refine bdrewN ?_ _ | with_reducible refine Below.alloc ?_ ?_ _ | with_reducible refine Below.setCell ?_ ?_ _ | omega | (simp; done) | (simp; omega))⟩

set_option maxHeartbeats 400000 in
set_option maxRecDepth 100000 in
theorem flipSign_any (x : Int) (a0 a1 a2 a3 : Int) (w : World) (ha : IsW x a0 a1 a2 a3) :
    Calls Tryz.prog 97 #[.agg #[.int .u64 a0, .int .u64 a1, .int .u64 a2, .int .u64 a3]] w fun e w' => ∃ s0 s1 s2 s3 : Int, e = .returned (.agg #[.int .u64 s0, .int .u64 s1, .int .u64 s2, .int .u64 s3]) ∧ IsW (x + MM / 2) s0 s1 s2 s3 ∧ Below w.heap.size w w' := by
  go_enter Tryz.func97, Tryz.ntmps97
  go_wp2
  exact bodyPost_ret (v := .agg #[.int .u64 a0, .int .u64 a1, .int .u64 a2, .int .u64 (bits BinOp.xor IntKind.u64 a3 9223372036854775808)]) (by simp [results, Tryz.results97, go_sem]) rfl
    ⟨_, _, _, _, rfl, ha.flip, by repeat' (first | with_reducible exact Below.refl _ _ | with_reducible exact Below.refl _ _ | with_reducible refine Below.drew ?_ | with_reducible refine bdrewN ?_ _ | with_reducible refine Below.alloc ?_ ?_ _ | with_reducible refine Below.setCell ?_ ?_ _ | omega | (simp; done) | (simp; omega))⟩

set_option maxHeartbeats 400000 in
set_option maxRecDepth 100000 in
theorem slt_any (x y : Int) (a0 a1 a2 a3 b0 b1 b2 b3 : Int) (w : World) (ha : IsW x a0 a1 a2 a3) (hb : IsW y b0 b1 b2 b3) :
    Calls Tryz.prog 26 #[.agg #[.int .u64 a0, .int .u64 a1, .int .u64 a2, .int .u64 a3], .agg #[.int .u64 b0, .int .u64 b1, .int .u64 b2, .int .u64 b3]] w fun e w' => e = .returned (.bool (decide ((x + MM / 2) % MM < (y + MM / 2) % MM))) ∧ Below w.heap.size w w' := by
  go_enter Tryz.func26, Tryz.ntmps26
  go_wp2
  go_region_held3 (fun w' => Below w.heap.size w w' ∧ w.heap.size + 1 < w'.heap.size ∧ w'.cell? ⟨w.heap.size, 0, none⟩ = some (.int .u64 a0) ∧ w'.cell? ⟨w.heap.size, 1, none⟩ = some (.int .u64 a1) ∧ w'.cell? ⟨w.heap.size, 2, none⟩ = some (.int .u64 a2) ∧ w'.cell? ⟨w.heap.size, 3, none⟩ = some (.int .u64 a3) ∧ w'.cell? ⟨w.heap.size + 1, 0, none⟩ = some (.int .u64 b0) ∧ w'.cell? ⟨w.heap.size + 1, 1, none⟩ = some (.int .u64 b1) ∧ w'.cell? ⟨w.heap.size + 1, 2, none⟩ = some (.int .u64 b2) ∧ w'.cell? ⟨w.heap.size + 1, 3, none⟩ = some (.int .u64 b3)) (first | (have hzz := hB3.size; go_split_ands; (try dsimp only); refine ⟨?_, ?_, ?_, ?_, ?_, ?_, ?_, ?_, ?_, ?_⟩ <;> first | (with_reducible refine Below.trans ?_ (hB3.mono ?_) <;> first | with_reducible assumption | omega | ((try simp at hzz); omega) | (simp; omega) | ((repeat' (first | with_reducible exact Below.refl _ _ | with_reducible exact Below.refl _ _ | with_reducible refine Below.drew ?_ | with_reducible refine bdrewN ?_ _ | with_reducible refine Below.alloc ?_ ?_ _ | with_reducible refine Below.setCell ?_ ?_ _ | omega | (simp; done) | (simp; omega))); done)) | ((try simp at hzz); omega) | (with_reducible refine (hB3.cell ?_).trans ?_ <;> first | with_reducible assumption | omega | (simp; done) | (simp; omega) | (go_simp; done)) | (with_reducible refine (hB3.frozen ?_).trans ?_ <;> first | with_reducible assumption | omega | (simp; done) | (simp; omega) | (go_simp; done))) | (have hzz := hB2.size; go_split_ands; (try dsimp only); refine ⟨?_, ?_, ?_, ?_, ?_, ?_, ?_, ?_, ?_, ?_⟩ <;> first | (with_reducible refine Below.trans ?_ (hB2.mono ?_) <;> first | with_reducible assumption | omega | ((try simp at hzz); omega) | (simp; omega) | ((repeat' (first | with_reducible exact Below.refl _ _ | with_reducible exact Below.refl _ _ | with_reducible refine Below.drew ?_ | with_reducible refine bdrewN ?_ _ | with_reducible refine Below.alloc ?_ ?_ _ | with_reducible refine Below.setCell ?_ ?_ _ | omega | (simp; done) | (simp; omega))); done)) | ((try simp at hzz); omega) | (with_reducible refine (hB2.cell ?_).trans ?_ <;> first | with_reducible assumption | omega | (simp; done) | (simp; omega) | (go_simp; done)) | (with_reducible refine (hB2.frozen ?_).trans ?_ <;> first | with_reducible assumption | omega | (simp; done) | (simp; omega) | (go_simp; done))) | (have hzz := hB1.size; go_split_ands; (try dsimp only); refine ⟨?_, ?_, ?_, ?_, ?_, ?_, ?_, ?_, ?_, ?_⟩ <;> first | (with_reducible refine Below.trans ?_ (hB1.mono ?_) <;> first | with_reducible assumption | omega | ((try simp at hzz); omega) | (simp; omega) | ((repeat' (first | with_reducible exact Below.refl _ _ | with_reducible exact Below.refl _ _ | with_reducible refine Below.drew ?_ | with_reducible refine bdrewN ?_ _ | with_reducible refine Below.alloc ?_ ?_ _ | with_reducible refine Below.setCell ?_ ?_ _ | omega | (simp; done) | (simp; omega))); done)) | ((try simp at hzz); omega) | (with_reducible refine (hB1.cell ?_).trans ?_ <;> first | with_reducible assumption | omega | (simp; done) | (simp; omega) | (go_simp; done)) | (with_reducible refine (hB1.frozen ?_).trans ?_ <;> first | with_reducible assumption | omega | (simp; done) | (simp; omega) | (go_simp; done))) | ((try dsimp only); refine ⟨?_, ?_, ?_, ?_, ?_, ?_, ?_, ?_, ?_, ?_⟩ <;> first | with_reducible assumption | (simp; done) | (go_simp; done) | ((repeat' (first | with_reducible exact Below.refl _ _ | with_reducible exact Below.refl _ _ | with_reducible refine Below.drew ?_ | with_reducible refine bdrewN ?_ _ | with_reducible refine Below.alloc ?_ ?_ _ | with_reducible refine Below.setCell ?_ ?_ _ | omega | (simp; done) | (simp; omega))); done))) (first
    | (go_at_call_of 97 (a0); refine (flipSign_any x _ _ _ _ _ ha).mono ?_; rintro e w1 ⟨s0, s1, s2, s3, rfl, hs, hB1⟩)
    | (go_at_call_of 97 (b0); refine (flipSign_any y _ _ _ _ _ hb).mono ?_; rintro e w2 ⟨t0, t1, t2, t3, rfl, ht, hB2⟩)
    | (go_at_call 96; refine (lt_any _ _ _ _ _ _ _ _ _ _ _ hs ht).mono ?_; rintro e w3 ⟨rfl, hB3⟩))
  go_split_ands
  go_wp2
  go_ret
  exact ⟨rfl, by assumption⟩

set_option maxHeartbeats 400000 in
set_option maxRecDepth 100000 in
theorem sgt_any (x y : Int) (a0 a1 a2 a3 b0 b1 b2 b3 : Int) (w : World) (ha : IsW x a0 a1 a2 a3) (hb : IsW y b0 b1 b2 b3) :
    Calls Tryz.prog 28 #[.agg #[.int .u64 a0, .int .u64 a1, .int .u64 a2, .int .u64 a3], .agg #[.int .u64 b0, .int .u64 b1, .int .u64 b2, .int .u64 b3]] w fun e w' => e = .returned (.bool (decide ((y + MM / 2) % MM < (x + MM / 2) % MM))) ∧ Below w.heap.size w w' := by
  go_enter Tryz.func28, Tryz.ntmps28
  go_wp2
  go_region_held3 (fun w' => Below w.heap.size w w' ∧ w.heap.size + 1 < w'.heap.size ∧ w'.cell? ⟨w.heap.size, 0, none⟩ = some (.int .u64 a0) ∧ w'.cell? ⟨w.heap.size, 1, none⟩ = some (.int .u64 a1) ∧ w'.cell? ⟨w.heap.size, 2, none⟩ = some (.int .u64 a2) ∧ w'.cell? ⟨w.heap.size, 3, none⟩ = some (.int .u64 a3) ∧ w'.cell? ⟨w.heap.size + 1, 0, none⟩ = some (.int .u64 b0) ∧ w'.cell? ⟨w.heap.size + 1, 1, none⟩ = some (.int .u64 b1) ∧ w'.cell? ⟨w.heap.size + 1, 2, none⟩ = some (.int .u64 b2) ∧ w'.cell? ⟨w.heap.size + 1, 3, none⟩ = some (.int .u64 b3)) (first | (have hzz := hB3.size; go_split_ands; (try dsimp only); refine ⟨?_, ?_, ?_, ?_, ?_, ?_, ?_, ?_, ?_, ?_⟩ <;> first | (with_reducible refine Below.trans ?_ (hB3.mono ?_) <;> first | with_reducible assumption | omega | ((try simp at hzz); omega) | (simp; omega) | ((repeat' (first | with_reducible exact Below.refl _ _ | with_reducible exact Below.refl _ _ | with_reducible refine Below.drew ?_ | with_reducible refine bdrewN ?_ _ | with_reducible refine Below.alloc ?_ ?_ _ | with_reducible refine Below.setCell ?_ ?_ _ | omega | (simp; done) | (simp; omega))); done)) | ((try simp at hzz); omega) | (with_reducible refine (hB3.cell ?_).trans ?_ <;> first | with_reducible assumption | omega | (simp; done) | (simp; omega) | (go_simp; done)) | (with_reducible refine (hB3.frozen ?_).trans ?_ <;> first | with_reducible assumption | omega | (simp; done) | (simp; omega) | (go_simp; done))) | (have hzz := hB2.size; go_split_ands; (try dsimp only); refine ⟨?_, ?_, ?_, ?_, ?_, ?_, ?_, ?_, ?_, ?_⟩ <;> first | (with_reducible refine Below.trans ?_ (hB2.mono ?_) <;> first | with_reducible assumption | omega | ((try simp at hzz); omega) | (simp; omega) | ((repeat' (first | with_reducible exact Below.refl _ _ | with_reducible exact Below.refl _ _ | with_reducible refine Below.drew ?_ | with_reducible refine bdrewN ?_ _ | with_reducible refine Below.alloc ?_ ?_ _ | with_reducible refine Below.setCell ?_ ?_ _ | omega | (simp; done) | (simp; omega))); done)) | ((try simp at hzz); omega) | (with_reducible refine (hB2.cell ?_).trans ?_ <;> first | with_reducible assumption | omega | (simp; done) | (simp; omega) | (go_simp; done)) | (with_reducible refine (hB2.frozen ?_).trans ?_ <;> first | with_reducible assumption | omega | (simp; done) | (simp; omega) | (go_simp; done))) | (have hzz := hB1.size; go_split_ands; (try dsimp only); refine ⟨?_, ?_, ?_, ?_, ?_, ?_, ?_, ?_, ?_, ?_⟩ <;> first | (with_reducible refine Below.trans ?_ (hB1.mono ?_) <;> first | with_reducible assumption | omega | ((try simp at hzz); omega) | (simp; omega) | ((repeat' (first | with_reducible exact Below.refl _ _ | with_reducible exact Below.refl _ _ | with_reducible refine Below.drew ?_ | with_reducible refine bdrewN ?_ _ | with_reducible refine Below.alloc ?_ ?_ _ | with_reducible refine Below.setCell ?_ ?_ _ | omega | (simp; done) | (simp; omega))); done)) | ((try simp at hzz); omega) | (with_reducible refine (hB1.cell ?_).trans ?_ <;> first | with_reducible assumption | omega | (simp; done) | (simp; omega) | (go_simp; done)) | (with_reducible refine (hB1.frozen ?_).trans ?_ <;> first | with_reducible assumption | omega | (simp; done) | (simp; omega) | (go_simp; done))) | ((try dsimp only); refine ⟨?_, ?_, ?_, ?_, ?_, ?_, ?_, ?_, ?_, ?_⟩ <;> first | with_reducible assumption | (simp; done) | (go_simp; done) | ((repeat' (first | with_reducible exact Below.refl _ _ | with_reducible exact Below.refl _ _ | with_reducible refine Below.drew ?_ | with_reducible refine bdrewN ?_ _ | with_reducible refine Below.alloc ?_ ?_ _ | with_reducible refine Below.setCell ?_ ?_ _ | omega | (simp; done) | (simp; omega))); done))) (first
    | (go_at_call_of 97 (a0); refine (flipSign_any x _ _ _ _ _ ha).mono ?_; rintro e w1 ⟨s0, s1, s2, s3, rfl, hs, hB1⟩)
    | (go_at_call_of 97 (b0); refine (flipSign_any y _ _ _ _ _ hb).mono ?_; rintro e w2 ⟨t0, t1, t2, t3, rfl, ht, hB2⟩)
    | (go_at_call 99; refine (gt_any _ _ _ _ _ _ _ _ _ _ _ hs ht).mono ?_; rintro e w3 ⟨rfl, hB3⟩))
  go_split_ands
  go_wp2
  go_ret
  exact ⟨rfl, by assumption⟩
end Go.Proofs.YtpadpmkfhljiiaaGreat
/- What Do reaches: the table of deeds, and the first of them. -/
namespace Go.Proofs.YtpadpmkfhljiiaaGreat
open Go.RowKit

theorem results_cell {fn : Func} {p : Tmp} {ty : TypeId} (h : fn.results = #[.cell p ty]) (tmps : Array Value) (P : Program) (w : World) :
    (results fn tmps).run P w = ((asAddr (tmps.getD p undef)).run P w).andThen fun a w₁ => ((loadVar ty a).run P w₁).andThen fun v w₂ => .ok v w₂ := by
  simp only [results, h]
  simp [Sem.run_bind, Result.andThen]
  split <;> (try rfl)
  split <;> simp_all
theorem bsetCells {B : Nat} {a : World} {b : Nat} : ∀ (vs : List Value) (o : Nat) {w : World}, Below B a w → B ≤ b → Below B a (w.setCells b o vs)
  | [], _, _, h, _ => h
  | _ :: r, o, _, h, hb => bsetCells r (o + 1) (h.setCell (p := ⟨b, o, none⟩) hb _) hb
theorem size_setCells {b : Nat} : ∀ (vs : List Value) (o : Nat) (w : World), (w.setCells b o vs).heap.size = w.heap.size
  | [], _, _ => rfl
  | v :: r, o, w => by rw [World.setCells, size_setCells r (o + 1)]; simp [World.setCell]
/-- The table that deeds makes. -/
def tbl : List Value := [.nilFunc, .func (.func 135) #[] #[], .func (.func 136) #[] #[], .func (.func 137) #[] #[], .func (.func 138) #[] #[], .func (.func 139) #[] #[], .func (.func 140) #[] #[], .func (.func 141) #[] #[], .func (.func 142) #[] #[], .func (.func 143) #[] #[], .func (.func 144) #[] #[], .func (.func 146) #[] #[], .nilFunc, .nilFunc, .nilFunc, .nilFunc, .func (.func 147) #[] #[], .func (.func 149) #[] #[], .func (.func 150) #[] #[], .func (.func 151) #[] #[], .func (.func 152) #[] #[], .func (.func 154) #[] #[], .func (.func 156) #[] #[], .func (.func 157) #[] #[], .func (.func 158) #[] #[], .func (.func 159) #[] #[], .func (.func 160) #[] #[], .func (.func 161) #[] #[], .func (.func 162) #[] #[], .func (.func 163) #[] #[], .func (.func 164) #[] #[]]
theorem there_new (w : World) (C : Array Value) (t : TypeId) : (w.alloc (.cells C t)).there w.heap.size 0 C.size := by
  intro j hj
  have hb : (w.alloc (.cells C t)).heap[w.heap.size]? = some (.cells C t) := by show (w.heap.push _)[w.heap.size]? = _; simp
  refine ⟨?_, ?_⟩
  · simp only [World.cell?, hb]; simp [hj]
  · simp only [World.frozen?, hb]; simp
set_option maxHeartbeats 400000 in
set_option maxRecDepth 100000 in
theorem deeds_any (w : World) : Calls Tryz.prog 111 #[] w fun e w' => e = .returned (.agg tbl.toArray) ∧ Below w.heap.size w w' := by
  go_enter Tryz.func111, Tryz.ntmps111
  go_wp2_with (refine wpList_store_mid rfl 93 _ _ rfl w.heap.size 0 tbl.toArray rfl rfl ?_ (by kernel_rfl) (by kernel_rfl) ?_)
  · exact there_new w _ _
  · have ht := there_new w #[.nilFunc, .nilFunc, .nilFunc, .nilFunc, .nilFunc, .nilFunc, .nilFunc, .nilFunc, .nilFunc, .nilFunc, .nilFunc, .nilFunc, .nilFunc, .nilFunc, .nilFunc, .nilFunc, .nilFunc, .nilFunc, .nilFunc, .nilFunc, .nilFunc, .nilFunc, .nilFunc, .nilFunc, .nilFunc, .nilFunc, .nilFunc, .nilFunc, .nilFunc, .nilFunc, .nilFunc] 93
    have hr := World.rangeAt_setCells_same _ w.heap.size 0 tbl ht
    have hl := run_loadVar_mid (P := Tryz.prog) _ w.heap.size 0 93 tbl _ hr Tryz.underlying93 rfl (by kernel_rfl)
    refine bodyPost_ret (v := .agg tbl.toArray) ?_ rfl ⟨rfl, bsetCells _ _ (by repeat' (first | with_reducible exact Below.refl _ _ | with_reducible exact Below.refl _ _ | with_reducible refine Below.drew ?_ | with_reducible refine bdrewN ?_ _ | with_reducible refine Below.alloc ?_ ?_ _ | with_reducible refine Below.setCell ?_ ?_ _ | omega | (simp; done) | (simp; omega))) (Nat.le_refl _)⟩
    rw [results_cell (fn := Tryz.f111) Tryz.results111]
    simp only [Act.put, Array.getD_eq_getD_getElem?, List.getElem?_toArray, List.getElem?_cons_zero, Option.getD_some, asAddr, Sem.run_pure, Result.andThen_ok, hl]
theorem store_tbl {ops : Array Oper} {rest : List Oper} {op : Oper} {a : Act} {w : World} {Q : Exit → Act → World → Prop} (hgd : op.guard = none) (x y : Operand) (ho : op.op = .store 93 x y)
    (b : Nat) (hx : a.eval x = .pointer (some ⟨b, 0, none⟩)) (hy : a.eval y = .agg tbl.toArray) (ht : w.there b 0 31)
    (h : ∀ w2, Below b w w2 → w2.heap.size = w.heap.size → w2.rangeAt b 0 tbl → wpList Tryz.prog ops Q rest (a.put op.dst undef) w2) : wpList Tryz.prog ops Q (op :: rest) a w :=
  wpList_store_mid hgd 93 x y ho b 0 tbl.toArray hx hy ht (by kernel_rfl) (by kernel_rfl)
    (h _ (bsetCells _ _ (Below.refl _ _) (Nat.le_refl _)) (size_setCells _ _ _) (World.rangeAt_setCells_same w b 0 tbl ht))

set_option maxHeartbeats 400000 in
set_option maxRecDepth 100000 in
theorem deed1_any (x y : Int) (a0 a1 a2 a3 b0 b1 b2 b3 c0 c1 c2 c3 : Int) (w : World) (ha : IsW x a0 a1 a2 a3) (hb : IsW y b0 b1 b2 b3) :
    Calls Tryz.prog 135 #[.agg #[.int .u64 a0, .int .u64 a1, .int .u64 a2, .int .u64 a3], .agg #[.int .u64 b0, .int .u64 b1, .int .u64 b2, .int .u64 b3], .agg #[.int .u64 c0, .int .u64 c1, .int .u64 c2, .int .u64 c3]] w fun e w' => ∃ s0 s1 s2 s3 : Int, e = .returned (.agg #[.int .u64 s0, .int .u64 s1, .int .u64 s2, .int .u64 s3]) ∧ IsW (x + y) s0 s1 s2 s3 ∧ Below w.heap.size w w' := by
  go_enter Tryz.func135, Tryz.ntmps135
  go_wp2_with fail
  refine (add_any x y _ _ _ _ _ _ _ _ _ ha hb).mono ?_
  rintro e w1 ⟨s0, s1, s2, s3, rfl, hs, hB⟩
  have zz : w.heap.size + 1 + 1 + 1 < w1.heap.size := by have := hB.size; simp at this; omega
  have kk0 : w1.cell? ⟨w.heap.size + 1 + 1 + 1, 0, none⟩ = some (.int .u64 0) := (hB.cell (p := ⟨w.heap.size + 1 + 1 + 1, 0, none⟩) (by first | omega | (simp; done) | (simp; omega))).trans (by go_simp)
  have kk1 : w1.cell? ⟨w.heap.size + 1 + 1 + 1, 1, none⟩ = some (.int .u64 0) := (hB.cell (p := ⟨w.heap.size + 1 + 1 + 1, 1, none⟩) (by first | omega | (simp; done) | (simp; omega))).trans (by go_simp)
  have kk2 : w1.cell? ⟨w.heap.size + 1 + 1 + 1, 2, none⟩ = some (.int .u64 0) := (hB.cell (p := ⟨w.heap.size + 1 + 1 + 1, 2, none⟩) (by first | omega | (simp; done) | (simp; omega))).trans (by go_simp)
  have kk3 : w1.cell? ⟨w.heap.size + 1 + 1 + 1, 3, none⟩ = some (.int .u64 0) := (hB.cell (p := ⟨w.heap.size + 1 + 1 + 1, 3, none⟩) (by first | omega | (simp; done) | (simp; omega))).trans (by go_simp)
  have ff0 : w1.frozen? ⟨w.heap.size + 1 + 1 + 1, 0, none⟩ = false := (hB.frozen (p := ⟨w.heap.size + 1 + 1 + 1, 0, none⟩) (by first | omega | (simp; done) | (simp; omega))).trans (by go_simp)
  have ff1 : w1.frozen? ⟨w.heap.size + 1 + 1 + 1, 1, none⟩ = false := (hB.frozen (p := ⟨w.heap.size + 1 + 1 + 1, 1, none⟩) (by first | omega | (simp; done) | (simp; omega))).trans (by go_simp)
  have ff2 : w1.frozen? ⟨w.heap.size + 1 + 1 + 1, 2, none⟩ = false := (hB.frozen (p := ⟨w.heap.size + 1 + 1 + 1, 2, none⟩) (by first | omega | (simp; done) | (simp; omega))).trans (by go_simp)
  have ff3 : w1.frozen? ⟨w.heap.size + 1 + 1 + 1, 3, none⟩ = false := (hB.frozen (p := ⟨w.heap.size + 1 + 1 + 1, 3, none⟩) (by first | omega | (simp; done) | (simp; omega))).trans (by go_simp)
  have BB : Below w.heap.size w w1 := Below.trans (by repeat' (first | with_reducible exact Below.refl _ _ | with_reducible exact Below.refl _ _ | with_reducible refine Below.drew ?_ | with_reducible refine bdrewN ?_ _ | with_reducible refine Below.alloc ?_ ?_ _ | with_reducible refine Below.setCell ?_ ?_ _ | omega | (simp; done) | (simp; omega))) (hB.mono (by first | omega | (simp; done) | (simp; omega)))
  clear hB
  go_wp2
  exact bodyPost_ret (v := .agg #[.int .u64 s0, .int .u64 s1, .int .u64 s2, .int .u64 s3]) (by simp [results, Tryz.results135, go_sem, kk0, kk1, kk2, kk3]) rfl
    ⟨s0, s1, s2, s3, rfl, hs, by repeat' (first | with_reducible exact BB | with_reducible exact Below.refl _ _ | with_reducible refine Below.drew ?_ | with_reducible refine bdrewN ?_ _ | with_reducible refine Below.alloc ?_ ?_ _ | with_reducible refine Below.setCell ?_ ?_ _ | omega | (simp; done) | (simp; omega))⟩
theorem eqf_run (f : FuncId) (W : World) : (binOp .eql 92 (.func (.func f) #[] #[]) .nilFunc).run Tryz.prog W = .ok (.bool false) W := by kernel_rfl

set_option maxHeartbeats 1000000 in
set_option maxRecDepth 100000 in
theorem do1_any (x y : Int) (a0 a1 a2 a3 b0 b1 b2 b3 c0 c1 c2 c3 : Int) (w : World) (ha : IsW x a0 a1 a2 a3) (hb : IsW y b0 b1 b2 b3) :
    Calls Tryz.prog 56 #[.int .i64 1, .agg #[.int .u64 a0, .int .u64 a1, .int .u64 a2, .int .u64 a3], .agg #[.int .u64 b0, .int .u64 b1, .int .u64 b2, .int .u64 b3], .agg #[.int .u64 c0, .int .u64 c1, .int .u64 c2, .int .u64 c3]] w fun e w' => ∃ s0 s1 s2 s3 : Int, e = .returned (.tuple #[.agg #[.int .u64 s0, .int .u64 s1, .int .u64 s2, .int .u64 s3], .bool true]) ∧ IsW (x + y) s0 s1 s2 s3 ∧ Below w.heap.size w w' := by
  go_enter Tryz.func56, Tryz.ntmps56
  go_wp2_with fail
  refine (deeds_any _).mono ?_
  rintro e w1 ⟨rfl, hB⟩
  have z3 : w.heap.size + 1 + 1 + 1 < w1.heap.size := by have := hB.size; (try simp at this); omega
  have z0 : w.heap.size < w1.heap.size := by omega
  have z1 : w.heap.size + 1 < w1.heap.size := by omega
  have z2 : w.heap.size + 1 + 1 < w1.heap.size := by omega
  have ka0 : w1.cell? ⟨w.heap.size, 0, none⟩ = some (.int .u64 a0) := (hB.cell (p := ⟨w.heap.size, 0, none⟩) (by first | omega | (simp; done) | (simp; omega))).trans (by go_simp)
  have ka1 : w1.cell? ⟨w.heap.size, 1, none⟩ = some (.int .u64 a1) := (hB.cell (p := ⟨w.heap.size, 1, none⟩) (by first | omega | (simp; done) | (simp; omega))).trans (by go_simp)
  have ka2 : w1.cell? ⟨w.heap.size, 2, none⟩ = some (.int .u64 a2) := (hB.cell (p := ⟨w.heap.size, 2, none⟩) (by first | omega | (simp; done) | (simp; omega))).trans (by go_simp)
  have ka3 : w1.cell? ⟨w.heap.size, 3, none⟩ = some (.int .u64 a3) := (hB.cell (p := ⟨w.heap.size, 3, none⟩) (by first | omega | (simp; done) | (simp; omega))).trans (by go_simp)
  have kb0 : w1.cell? ⟨w.heap.size + 1, 0, none⟩ = some (.int .u64 b0) := (hB.cell (p := ⟨w.heap.size + 1, 0, none⟩) (by first | omega | (simp; done) | (simp; omega))).trans (by go_simp)
  have kb1 : w1.cell? ⟨w.heap.size + 1, 1, none⟩ = some (.int .u64 b1) := (hB.cell (p := ⟨w.heap.size + 1, 1, none⟩) (by first | omega | (simp; done) | (simp; omega))).trans (by go_simp)
  have kb2 : w1.cell? ⟨w.heap.size + 1, 2, none⟩ = some (.int .u64 b2) := (hB.cell (p := ⟨w.heap.size + 1, 2, none⟩) (by first | omega | (simp; done) | (simp; omega))).trans (by go_simp)
  have kb3 : w1.cell? ⟨w.heap.size + 1, 3, none⟩ = some (.int .u64 b3) := (hB.cell (p := ⟨w.heap.size + 1, 3, none⟩) (by first | omega | (simp; done) | (simp; omega))).trans (by go_simp)
  have kc0 : w1.cell? ⟨w.heap.size + 1 + 1, 0, none⟩ = some (.int .u64 c0) := (hB.cell (p := ⟨w.heap.size + 1 + 1, 0, none⟩) (by first | omega | (simp; done) | (simp; omega))).trans (by go_simp)
  have kc1 : w1.cell? ⟨w.heap.size + 1 + 1, 1, none⟩ = some (.int .u64 c1) := (hB.cell (p := ⟨w.heap.size + 1 + 1, 1, none⟩) (by first | omega | (simp; done) | (simp; omega))).trans (by go_simp)
  have kc2 : w1.cell? ⟨w.heap.size + 1 + 1, 2, none⟩ = some (.int .u64 c2) := (hB.cell (p := ⟨w.heap.size + 1 + 1, 2, none⟩) (by first | omega | (simp; done) | (simp; omega))).trans (by go_simp)
  have kc3 : w1.cell? ⟨w.heap.size + 1 + 1, 3, none⟩ = some (.int .u64 c3) := (hB.cell (p := ⟨w.heap.size + 1 + 1, 3, none⟩) (by first | omega | (simp; done) | (simp; omega))).trans (by go_simp)
  have kr0 : w1.cell? ⟨w.heap.size + 1 + 1 + 1, 0, none⟩ = some (.int .u64 0) := (hB.cell (p := ⟨w.heap.size + 1 + 1 + 1, 0, none⟩) (by first | omega | (simp; done) | (simp; omega))).trans (by go_simp)
  have kr1 : w1.cell? ⟨w.heap.size + 1 + 1 + 1, 1, none⟩ = some (.int .u64 0) := (hB.cell (p := ⟨w.heap.size + 1 + 1 + 1, 1, none⟩) (by first | omega | (simp; done) | (simp; omega))).trans (by go_simp)
  have kr2 : w1.cell? ⟨w.heap.size + 1 + 1 + 1, 2, none⟩ = some (.int .u64 0) := (hB.cell (p := ⟨w.heap.size + 1 + 1 + 1, 2, none⟩) (by first | omega | (simp; done) | (simp; omega))).trans (by go_simp)
  have kr3 : w1.cell? ⟨w.heap.size + 1 + 1 + 1, 3, none⟩ = some (.int .u64 0) := (hB.cell (p := ⟨w.heap.size + 1 + 1 + 1, 3, none⟩) (by first | omega | (simp; done) | (simp; omega))).trans (by go_simp)
  have fr0 : w1.frozen? ⟨w.heap.size + 1 + 1 + 1, 0, none⟩ = false := (hB.frozen (p := ⟨w.heap.size + 1 + 1 + 1, 0, none⟩) (by first | omega | (simp; done) | (simp; omega))).trans (by go_simp)
  have fr1 : w1.frozen? ⟨w.heap.size + 1 + 1 + 1, 1, none⟩ = false := (hB.frozen (p := ⟨w.heap.size + 1 + 1 + 1, 1, none⟩) (by first | omega | (simp; done) | (simp; omega))).trans (by go_simp)
  have fr2 : w1.frozen? ⟨w.heap.size + 1 + 1 + 1, 2, none⟩ = false := (hB.frozen (p := ⟨w.heap.size + 1 + 1 + 1, 2, none⟩) (by first | omega | (simp; done) | (simp; omega))).trans (by go_simp)
  have fr3 : w1.frozen? ⟨w.heap.size + 1 + 1 + 1, 3, none⟩ = false := (hB.frozen (p := ⟨w.heap.size + 1 + 1 + 1, 3, none⟩) (by first | omega | (simp; done) | (simp; omega))).trans (by go_simp)
  have B1 : Below w.heap.size w w1 := Below.trans (by repeat' (first | with_reducible exact Below.refl _ _ | with_reducible exact Below.refl _ _ | with_reducible refine Below.drew ?_ | with_reducible refine bdrewN ?_ _ | with_reducible refine Below.alloc ?_ ?_ _ | with_reducible refine Below.setCell ?_ ?_ _ | omega | (simp; done) | (simp; omega))) (hB.mono (by first | omega | (simp; done) | (simp; omega)))
  clear hB
  go_wp2_with (refine store_tbl rfl _ _ rfl w1.heap.size rfl rfl (there_new w1 _ _) ?_; intro w2 hB hz2 hr2; change Hid _)
  have y3 : w.heap.size + 1 + 1 + 1 < w2.heap.size := by have := hB.size; (try simp at this); omega
  have y0 : w.heap.size < w2.heap.size := by omega
  have y1 : w.heap.size + 1 < w2.heap.size := by omega
  have y2 : w.heap.size + 1 + 1 < w2.heap.size := by omega
  have zt : w1.heap.size < w2.heap.size := by rw [hz2]; simp
  have kt : w2.cell? ⟨w1.heap.size, 1, none⟩ = some (.func (.func 135) #[] #[]) := hr2 1 _ rfl
  have la0 : w2.cell? ⟨w.heap.size, 0, none⟩ = some (.int .u64 a0) := (hB.cell (p := ⟨w.heap.size, 0, none⟩) (by first | omega | (simp; done) | (simp; omega))).trans (by go_simp)
  have la1 : w2.cell? ⟨w.heap.size, 1, none⟩ = some (.int .u64 a1) := (hB.cell (p := ⟨w.heap.size, 1, none⟩) (by first | omega | (simp; done) | (simp; omega))).trans (by go_simp)
  have la2 : w2.cell? ⟨w.heap.size, 2, none⟩ = some (.int .u64 a2) := (hB.cell (p := ⟨w.heap.size, 2, none⟩) (by first | omega | (simp; done) | (simp; omega))).trans (by go_simp)
  have la3 : w2.cell? ⟨w.heap.size, 3, none⟩ = some (.int .u64 a3) := (hB.cell (p := ⟨w.heap.size, 3, none⟩) (by first | omega | (simp; done) | (simp; omega))).trans (by go_simp)
  have lb0 : w2.cell? ⟨w.heap.size + 1, 0, none⟩ = some (.int .u64 b0) := (hB.cell (p := ⟨w.heap.size + 1, 0, none⟩) (by first | omega | (simp; done) | (simp; omega))).trans (by go_simp)
  have lb1 : w2.cell? ⟨w.heap.size + 1, 1, none⟩ = some (.int .u64 b1) := (hB.cell (p := ⟨w.heap.size + 1, 1, none⟩) (by first | omega | (simp; done) | (simp; omega))).trans (by go_simp)
  have lb2 : w2.cell? ⟨w.heap.size + 1, 2, none⟩ = some (.int .u64 b2) := (hB.cell (p := ⟨w.heap.size + 1, 2, none⟩) (by first | omega | (simp; done) | (simp; omega))).trans (by go_simp)
  have lb3 : w2.cell? ⟨w.heap.size + 1, 3, none⟩ = some (.int .u64 b3) := (hB.cell (p := ⟨w.heap.size + 1, 3, none⟩) (by first | omega | (simp; done) | (simp; omega))).trans (by go_simp)
  have lc0 : w2.cell? ⟨w.heap.size + 1 + 1, 0, none⟩ = some (.int .u64 c0) := (hB.cell (p := ⟨w.heap.size + 1 + 1, 0, none⟩) (by first | omega | (simp; done) | (simp; omega))).trans (by go_simp)
  have lc1 : w2.cell? ⟨w.heap.size + 1 + 1, 1, none⟩ = some (.int .u64 c1) := (hB.cell (p := ⟨w.heap.size + 1 + 1, 1, none⟩) (by first | omega | (simp; done) | (simp; omega))).trans (by go_simp)
  have lc2 : w2.cell? ⟨w.heap.size + 1 + 1, 2, none⟩ = some (.int .u64 c2) := (hB.cell (p := ⟨w.heap.size + 1 + 1, 2, none⟩) (by first | omega | (simp; done) | (simp; omega))).trans (by go_simp)
  have lc3 : w2.cell? ⟨w.heap.size + 1 + 1, 3, none⟩ = some (.int .u64 c3) := (hB.cell (p := ⟨w.heap.size + 1 + 1, 3, none⟩) (by first | omega | (simp; done) | (simp; omega))).trans (by go_simp)
  have lr0 : w2.cell? ⟨w.heap.size + 1 + 1 + 1, 0, none⟩ = some (.int .u64 0) := (hB.cell (p := ⟨w.heap.size + 1 + 1 + 1, 0, none⟩) (by first | omega | (simp; done) | (simp; omega))).trans (by go_simp)
  have lr1 : w2.cell? ⟨w.heap.size + 1 + 1 + 1, 1, none⟩ = some (.int .u64 0) := (hB.cell (p := ⟨w.heap.size + 1 + 1 + 1, 1, none⟩) (by first | omega | (simp; done) | (simp; omega))).trans (by go_simp)
  have lr2 : w2.cell? ⟨w.heap.size + 1 + 1 + 1, 2, none⟩ = some (.int .u64 0) := (hB.cell (p := ⟨w.heap.size + 1 + 1 + 1, 2, none⟩) (by first | omega | (simp; done) | (simp; omega))).trans (by go_simp)
  have lr3 : w2.cell? ⟨w.heap.size + 1 + 1 + 1, 3, none⟩ = some (.int .u64 0) := (hB.cell (p := ⟨w.heap.size + 1 + 1 + 1, 3, none⟩) (by first | omega | (simp; done) | (simp; omega))).trans (by go_simp)
  have gr0 : w2.frozen? ⟨w.heap.size + 1 + 1 + 1, 0, none⟩ = false := (hB.frozen (p := ⟨w.heap.size + 1 + 1 + 1, 0, none⟩) (by first | omega | (simp; done) | (simp; omega))).trans (by go_simp)
  have gr1 : w2.frozen? ⟨w.heap.size + 1 + 1 + 1, 1, none⟩ = false := (hB.frozen (p := ⟨w.heap.size + 1 + 1 + 1, 1, none⟩) (by first | omega | (simp; done) | (simp; omega))).trans (by go_simp)
  have gr2 : w2.frozen? ⟨w.heap.size + 1 + 1 + 1, 2, none⟩ = false := (hB.frozen (p := ⟨w.heap.size + 1 + 1 + 1, 2, none⟩) (by first | omega | (simp; done) | (simp; omega))).trans (by go_simp)
  have gr3 : w2.frozen? ⟨w.heap.size + 1 + 1 + 1, 3, none⟩ = false := (hB.frozen (p := ⟨w.heap.size + 1 + 1 + 1, 3, none⟩) (by first | omega | (simp; done) | (simp; omega))).trans (by go_simp)
  have B2 : Below w.heap.size w w2 := Below.trans (by repeat' (first | with_reducible exact B1 | with_reducible exact Below.refl _ _ | with_reducible refine Below.drew ?_ | with_reducible refine bdrewN ?_ _ | with_reducible refine Below.alloc ?_ ?_ _ | with_reducible refine Below.setCell ?_ ?_ _ | omega | (simp; done) | (simp; omega))) (hB.mono (by first | omega | (simp; done) | (simp; omega)))
  clear hB hr2 hz2 z0 z1 z2 ka0 ka1 ka2 ka3 kb0 kb1 kb2 kb3 kc0 kc1 kc2 kc3 kr0 kr1 kr2 kr3 fr0 fr1 fr2 fr3
  unfold Hid
  have hq := eqf_run 135
  go_wp2
  go_region_held3 (fun w' => w'.cell? ⟨w.heap.size, 0, none⟩ = some (.int .u64 a0) ∧ w'.cell? ⟨w.heap.size, 1, none⟩ = some (.int .u64 a1) ∧ w'.cell? ⟨w.heap.size, 2, none⟩ = some (.int .u64 a2) ∧ w'.cell? ⟨w.heap.size, 3, none⟩ = some (.int .u64 a3) ∧ w'.cell? ⟨w.heap.size + 1, 0, none⟩ = some (.int .u64 b0) ∧ w'.cell? ⟨w.heap.size + 1, 1, none⟩ = some (.int .u64 b1) ∧ w'.cell? ⟨w.heap.size + 1, 2, none⟩ = some (.int .u64 b2) ∧ w'.cell? ⟨w.heap.size + 1, 3, none⟩ = some (.int .u64 b3) ∧ w'.cell? ⟨w.heap.size + 1 + 1, 0, none⟩ = some (.int .u64 c0) ∧ w'.cell? ⟨w.heap.size + 1 + 1, 1, none⟩ = some (.int .u64 c1) ∧ w'.cell? ⟨w.heap.size + 1 + 1, 2, none⟩ = some (.int .u64 c2) ∧ w'.cell? ⟨w.heap.size + 1 + 1, 3, none⟩ = some (.int .u64 c3) ∧ w'.cell? ⟨w1.heap.size, 1, none⟩ = some (.func (.func 135) #[] #[])) (first | ((try dsimp only); refine ⟨?_, ?_, ?_, ?_, ?_, ?_, ?_, ?_, ?_, ?_, ?_, ?_, ?_⟩ <;> first | (simp [*]; done) | (go_simp; done)) | (go_split_ands; (try dsimp only); refine ⟨?_, ?_, ?_, ?_, ?_, ?_, ?_, ?_, ?_, ?_, ?_, ?_, ?_⟩ <;> (refine (hB.cell ?_).trans ?_ <;> first | assumption | omega | (simp; done) | (simp; omega) | (go_simp; done))) | (go_split_ands; (try dsimp only); refine ⟨?_, ?_, ?_, ?_, ?_, ?_, ?_, ?_, ?_, ?_, ?_, ?_, ?_⟩ <;> (go_simp; done))) (first
    | (go_at_call 135
       refine (deed1_any x y _ _ _ _ _ _ _ _ _ _ _ _ _ ha hb).mono ?_
       rintro e w3 ⟨s0, s1, s2, s3, rfl, hs, hB⟩
       have qr0 : w3.cell? ⟨w.heap.size + 1 + 1 + 1, 0, none⟩ = some (.int .u64 0) := (hB.cell (p := ⟨w.heap.size + 1 + 1 + 1, 0, none⟩) (by first | omega | (simp; done) | (simp; omega))).trans (by go_simp)
       have qr1 : w3.cell? ⟨w.heap.size + 1 + 1 + 1, 1, none⟩ = some (.int .u64 0) := (hB.cell (p := ⟨w.heap.size + 1 + 1 + 1, 1, none⟩) (by first | omega | (simp; done) | (simp; omega))).trans (by go_simp)
       have qr2 : w3.cell? ⟨w.heap.size + 1 + 1 + 1, 2, none⟩ = some (.int .u64 0) := (hB.cell (p := ⟨w.heap.size + 1 + 1 + 1, 2, none⟩) (by first | omega | (simp; done) | (simp; omega))).trans (by go_simp)
       have qr3 : w3.cell? ⟨w.heap.size + 1 + 1 + 1, 3, none⟩ = some (.int .u64 0) := (hB.cell (p := ⟨w.heap.size + 1 + 1 + 1, 3, none⟩) (by first | omega | (simp; done) | (simp; omega))).trans (by go_simp)
       have pr0 : w3.frozen? ⟨w.heap.size + 1 + 1 + 1, 0, none⟩ = false := (hB.frozen (p := ⟨w.heap.size + 1 + 1 + 1, 0, none⟩) (by first | omega | (simp; done) | (simp; omega))).trans (by go_simp)
       have pr1 : w3.frozen? ⟨w.heap.size + 1 + 1 + 1, 1, none⟩ = false := (hB.frozen (p := ⟨w.heap.size + 1 + 1 + 1, 1, none⟩) (by first | omega | (simp; done) | (simp; omega))).trans (by go_simp)
       have pr2 : w3.frozen? ⟨w.heap.size + 1 + 1 + 1, 2, none⟩ = false := (hB.frozen (p := ⟨w.heap.size + 1 + 1 + 1, 2, none⟩) (by first | omega | (simp; done) | (simp; omega))).trans (by go_simp)
       have pr3 : w3.frozen? ⟨w.heap.size + 1 + 1 + 1, 3, none⟩ = false := (hB.frozen (p := ⟨w.heap.size + 1 + 1 + 1, 3, none⟩) (by first | omega | (simp; done) | (simp; omega))).trans (by go_simp)
       clear lr0 lr1 lr2 lr3 gr0 gr1 gr2 gr3))
  have B3 : Below w.heap.size w w3 := Below.trans (by repeat' (first | with_reducible exact B2 | with_reducible exact Below.refl _ _ | with_reducible refine Below.drew ?_ | with_reducible refine bdrewN ?_ _ | with_reducible refine Below.alloc ?_ ?_ _ | with_reducible refine Below.setCell ?_ ?_ _ | omega | (simp; done) | (simp; omega))) (hB.mono (by first | omega | (simp; done) | (simp; omega)))
  clear hB
  go_wp2
  exact bodyPost_ret (v := .tuple #[.agg #[.int .u64 s0, .int .u64 s1, .int .u64 s2, .int .u64 s3], .bool true]) (by simp [results, Tryz.results56, go_sem, qr0, qr1, qr2, qr3]) rfl
    ⟨s0, s1, s2, s3, rfl, hs, by repeat' (first | with_reducible exact B3 | with_reducible exact Below.refl _ _ | with_reducible refine Below.drew ?_ | with_reducible refine bdrewN ?_ _ | with_reducible refine Below.alloc ?_ ?_ _ | with_reducible refine Below.setCell ?_ ?_ _ | omega | (simp; done) | (simp; omega))⟩
end Go.Proofs.YtpadpmkfhljiiaaGreat
/- The text of 2, run; and awake: in whatever world it returns true. -/
namespace Go.Proofs.YtpadpmkfhljiiaaGreat
open Go.RowKit
set_option maxHeartbeats 1000000 in
set_option maxRecDepth 100000 in
theorem div64_small (lo y : Int) (w : World) (hy : 0 < y) (hl : U64 lo) :
    Calls Tryz.prog 177 #[.int .u64 0, .int .u64 lo, .int .u64 y] w fun e w' => e = .returned (.tuple #[.int .u64 (lo / y), .int .u64 (lo % y)]) ∧ Below w.heap.size w w' ∧ ∃ n, w' = w.drewN n := by
  have h1 : (y == 0) = false := beq_eq_false_iff_ne.2 (by omega)
  have h2 : decide (y ≤ 0) = false := by simp; omega
  go_enter Tryz.func177, Tryz.ntmps177
  go_wp2
  go_quiet (fail)
  go_wp2
  go_ret2
  refine ⟨?_, by repeat' (first | with_reducible exact Below.refl _ _ | with_reducible exact Below.refl _ _ | with_reducible refine Below.drew ?_ | with_reducible refine bdrewN ?_ _ | with_reducible refine Below.alloc ?_ ?_ _ | with_reducible refine Below.setCell ?_ ?_ _ | omega | (simp; done) | (simp; omega)), _, rfl⟩
  have e1 : lo.tdiv y = lo / y := Int.tdiv_eq_ediv_of_nonneg hl.1
  have e3 : 0 ≤ lo / y := Int.ediv_nonneg hl.1 (by omega)
  have e4 : lo / y ≤ lo := Int.ediv_le_self _ hl.1
  have e5 := hl.2
  unfold Bd at e5
  have e6 : lo / y < 18446744073709551616 := by omega
  have e7 : IntKind.u64.wrap (lo / y) = lo / y := by rw [IntKind.wrap_u64]; exact Int.emod_eq_of_lt e3 e6
  have e2 : lo.tmod y = lo % y := Int.tmod_eq_emod_of_nonneg hl.1
  simp [e1, e2, e7]
set_option maxHeartbeats 1000000 in
set_option maxRecDepth 100000 in
theorem shorten2_any (w : World) :
    Calls Tryz.prog 174 #[.agg #[.int .u64 2, .int .u64 0, .int .u64 0, .int .u64 0], .int .u64 10] w fun e w' => e = .returned (.tuple #[.agg #[.int .u64 0, .int .u64 0, .int .u64 0, .int .u64 0], .int .u64 2]) ∧ Below w.heap.size w w' := by
  go_enter Tryz.func174, Tryz.ntmps174
  go_wp2
  refine wp_loop_rounds 5 ?_
  rw [rounds_succ]
  go_wp2_with (go_at_call 177; refine (div64_small _ _ _ (by omega) (u64_lit _ (by omega) (by omega))).mono ?_; rintro e w' ⟨rfl, hB, n, rfl⟩; clear hB; simp only [Int.zero_ediv, Int.zero_emod])
  rw [rounds_succ]
  go_wp2_with (go_at_call 177; refine (div64_small _ _ _ (by omega) (u64_lit _ (by omega) (by omega))).mono ?_; rintro e w' ⟨rfl, hB, n, rfl⟩; clear hB; simp only [Int.zero_ediv, Int.zero_emod])
  rw [rounds_succ]
  go_wp2_with (go_at_call 177; refine (div64_small _ _ _ (by omega) (u64_lit _ (by omega) (by omega))).mono ?_; rintro e w' ⟨rfl, hB, n, rfl⟩; clear hB; simp only [Int.zero_ediv, Int.zero_emod])
  rw [rounds_succ]
  go_wp2_with (go_at_call 177; refine (div64_small _ _ _ (by omega) (u64_lit _ (by omega) (by omega))).mono ?_; rintro e w' ⟨rfl, hB, n, rfl⟩; clear hB; simp only [show (2 : Int) / 10 = 0 from by decide, show (2 : Int) % 10 = 2 from by decide])
  rw [rounds_succ]
  go_wp2
  exact bodyPost_ret (v := .tuple #[.agg #[.int .u64 0, .int .u64 0, .int .u64 0, .int .u64 0], .int .u64 2]) (by simp [results, Tryz.results174, go_sem]) rfl
    ⟨rfl, by repeat' (first | with_reducible exact Below.refl _ _ | with_reducible exact Below.refl _ _ | with_reducible refine Below.drew ?_ | with_reducible refine bdrewN ?_ _ | with_reducible refine Below.alloc ?_ ?_ _ | with_reducible refine Below.setCell ?_ ?_ _ | omega | (simp; done) | (simp; omega))⟩
set_option maxHeartbeats 1000000 in
set_option maxRecDepth 100000 in
theorem write2_any (w : World) :
    Calls Tryz.prog 119 #[.agg #[.int .u64 2, .int .u64 0, .int .u64 0, .int .u64 0], .int .u64 10] w fun e w' => e = .returned (.string ⟨#[50]⟩) ∧ Below w.heap.size w w' := by
  go_enter Tryz.func119, Tryz.ntmps119
  go_wp2
  refine wp_loop_rounds 1 ?_
  rw [rounds_succ]
  go_wp2_with fail
  refine (shorten2_any _).mono ?_
  rintro e w1 ⟨rfl, hB⟩
  have z1 : w.heap.size + 1 < w1.heap.size := by have := hB.size; (try simp at this); omega
  have z0 : w.heap.size < w1.heap.size := by omega
  have ka0 : w1.cell? ⟨w.heap.size, 0, none⟩ = some (.int .u64 2) := (hB.cell (p := ⟨w.heap.size, 0, none⟩) (by first | omega | (simp; done) | (simp; omega))).trans (by go_simp)
  have ka1 : w1.cell? ⟨w.heap.size, 1, none⟩ = some (.int .u64 0) := (hB.cell (p := ⟨w.heap.size, 1, none⟩) (by first | omega | (simp; done) | (simp; omega))).trans (by go_simp)
  have ka2 : w1.cell? ⟨w.heap.size, 2, none⟩ = some (.int .u64 0) := (hB.cell (p := ⟨w.heap.size, 2, none⟩) (by first | omega | (simp; done) | (simp; omega))).trans (by go_simp)
  have ka3 : w1.cell? ⟨w.heap.size, 3, none⟩ = some (.int .u64 0) := (hB.cell (p := ⟨w.heap.size, 3, none⟩) (by first | omega | (simp; done) | (simp; omega))).trans (by go_simp)
  have fa0 : w1.frozen? ⟨w.heap.size, 0, none⟩ = false := (hB.frozen (p := ⟨w.heap.size, 0, none⟩) (by first | omega | (simp; done) | (simp; omega))).trans (by go_simp)
  have fa1 : w1.frozen? ⟨w.heap.size, 1, none⟩ = false := (hB.frozen (p := ⟨w.heap.size, 1, none⟩) (by first | omega | (simp; done) | (simp; omega))).trans (by go_simp)
  have fa2 : w1.frozen? ⟨w.heap.size, 2, none⟩ = false := (hB.frozen (p := ⟨w.heap.size, 2, none⟩) (by first | omega | (simp; done) | (simp; omega))).trans (by go_simp)
  have fa3 : w1.frozen? ⟨w.heap.size, 3, none⟩ = false := (hB.frozen (p := ⟨w.heap.size, 3, none⟩) (by first | omega | (simp; done) | (simp; omega))).trans (by go_simp)
  have kt : w1.cell? ⟨w.heap.size + 1, 77, none⟩ = some (.int .u8 0) := (hB.cell (p := ⟨w.heap.size + 1, 77, none⟩) (by simp)).trans (by go_simp; rfl)
  have ft : w1.frozen? ⟨w.heap.size + 1, 77, none⟩ = false := (hB.frozen (p := ⟨w.heap.size + 1, 77, none⟩) (by simp)).trans (by go_simp)
  have B1 : Below w.heap.size w w1 := Below.trans (by repeat' (first | with_reducible exact Below.refl _ _ | with_reducible exact Below.refl _ _ | with_reducible refine Below.drew ?_ | with_reducible refine bdrewN ?_ _ | with_reducible refine Below.alloc ?_ ?_ _ | with_reducible refine Below.setCell ?_ ?_ _ | omega | (simp; done) | (simp; omega))) (hB.mono (by first | omega | (simp; done) | (simp; omega)))
  clear hB
  go_wp2_with fail
  refine (isZero_any 0 _ _ _ _ _ isW_0).mono ?_
  rintro e w2 ⟨rfl, hB⟩
  have kt2 : w2.cell? ⟨w.heap.size + 1, 77, none⟩ = some (.int .u8 50) := (hB.cell (p := ⟨w.heap.size + 1, 77, none⟩) (by simp; omega)).trans (by go_simp; rfl)
  have hz2 : decide ((0 : Int) % MM = 0) = true := by simp
  rw [hz2]
  have y1 : w.heap.size + 1 < w2.heap.size := by have := hB.size; (try simp at this); omega
  have y0 : w.heap.size < w2.heap.size := by omega
  have B2 : Below w.heap.size w w2 := Below.trans (by repeat' (first | with_reducible exact B1 | with_reducible exact Below.refl _ _ | with_reducible refine Below.drew ?_ | with_reducible refine bdrewN ?_ _ | with_reducible refine Below.alloc ?_ ?_ _ | with_reducible refine Below.setCell ?_ ?_ _ | omega | (simp; done) | (simp; omega))) (hB.mono (by first | omega | (simp; done) | (simp; omega)))
  clear hB kt ft ka0 ka1 ka2 ka3 fa0 fa1 fa2 fa3 hz2
  have hl : (loadCells ⟨w.heap.size + 1, 77, none⟩ 1).run Tryz.prog w2 = .ok ([(50 : Int)].map (Value.int .u8)).toArray w2 :=
    run_loadCells_list (P := Tryz.prog) w2 ⟨w.heap.size + 1, 77, none⟩ [.int .u8 50] (fun j v hv => by
      have hj : j < 1 := (List.getElem?_eq_some_iff.1 hv).1
      have hj0 : j = 0 := by omega
      subst hj0
      simp at hv
      subst hv
      rw [Addr.add_mid]
      exact kt2)
  have hcv : (convert 35 9 (.slice (some ⟨w.heap.size + 1, 77, none⟩) 1 1)).run Tryz.prog w2 = .ok (.string ⟨#[50]⟩) w2 := by
    rw [run_convert_bytes_string w2 _ _ _ _ _ _ Tryz.underlying35 Tryz.underlying5 Tryz.underlying9, run_bytesToString w2 _ _ _ _ hl]
    rfl
  clear hl kt2
  go_wp2
  go_ret
  exact ⟨rfl, by repeat' (first | with_reducible exact B2 | with_reducible exact Below.refl _ _ | with_reducible refine Below.drew ?_ | with_reducible refine bdrewN ?_ _ | with_reducible refine Below.alloc ?_ ?_ _ | with_reducible refine Below.setCell ?_ ?_ _ | omega | (simp; done) | (simp; omega))⟩

set_option maxHeartbeats 1000000 in
set_option maxRecDepth 100000 in
theorem text2_any (w : World) :
    Calls Tryz.prog 74 #[.agg #[.int .u64 2, .int .u64 0, .int .u64 0, .int .u64 0]] w fun e w' => e = .returned (.string ⟨#[50]⟩) ∧ Below w.heap.size w w' := by
  go_enter Tryz.func74, Tryz.ntmps74
  go_wp2_with fail
  refine (write2_any _).mono ?_
  rintro e w1 ⟨rfl, hB⟩
  have B1 : Below w.heap.size w w1 := Below.trans (by repeat' (first | with_reducible exact Below.refl _ _ | with_reducible exact Below.refl _ _ | with_reducible refine Below.drew ?_ | with_reducible refine bdrewN ?_ _ | with_reducible refine Below.alloc ?_ ?_ _ | with_reducible refine Below.setCell ?_ ?_ _ | omega | (simp; done) | (simp; omega))) (hB.mono (by first | omega | (simp; done) | (simp; omega)))
  clear hB
  go_wp2
  go_ret
  exact ⟨rfl, by repeat' (first | with_reducible exact B1 | with_reducible exact Below.refl _ _ | with_reducible refine Below.drew ?_ | with_reducible refine bdrewN ?_ _ | with_reducible refine Below.alloc ?_ ?_ _ | with_reducible refine Below.setCell ?_ ?_ _ | omega | (simp; done) | (simp; omega))⟩

set_option maxHeartbeats 1000000 in
set_option maxRecDepth 100000 in
theorem awake_any (w : World) :
    Calls Tryz.prog 21 #[] w fun e w' => e = .returned (.bool true) ∧ Below w.heap.size w w' := by
  have hq : ∀ (a0 a1 a2 a3 : Int) , ∀ W : World, _ := fun a0 a1 a2 a3 W => eqw_run a0 a1 a2 a3 4 0 0 0 W
  go_enter Tryz.func21, Tryz.ntmps21
  go_wp2_with fail
  refine (do1_any 2 2 _ _ _ _ _ _ _ _ _ _ _ _ _ isW_2 isW_2).mono ?_
  rintro e w1 ⟨s0, s1, s2, s3, rfl, hs, hB⟩
  obtain ⟨rfl, rfl, rfl, rfl⟩ := hs.eq isW_4 rfl
  have z0 : w.heap.size < w1.heap.size := by have := hB.size; (try simp at this); omega
  have ka0 : w1.cell? ⟨w.heap.size, 0, none⟩ = some (.int .u64 2) := (hB.cell (p := ⟨w.heap.size, 0, none⟩) (by first | omega | (simp; done) | (simp; omega))).trans (by go_simp)
  have ka1 : w1.cell? ⟨w.heap.size, 1, none⟩ = some (.int .u64 0) := (hB.cell (p := ⟨w.heap.size, 1, none⟩) (by first | omega | (simp; done) | (simp; omega))).trans (by go_simp)
  have ka2 : w1.cell? ⟨w.heap.size, 2, none⟩ = some (.int .u64 0) := (hB.cell (p := ⟨w.heap.size, 2, none⟩) (by first | omega | (simp; done) | (simp; omega))).trans (by go_simp)
  have ka3 : w1.cell? ⟨w.heap.size, 3, none⟩ = some (.int .u64 0) := (hB.cell (p := ⟨w.heap.size, 3, none⟩) (by first | omega | (simp; done) | (simp; omega))).trans (by go_simp)
  have B1 : Below w.heap.size w w1 := Below.trans (by repeat' (first | with_reducible exact Below.refl _ _ | with_reducible exact Below.refl _ _ | with_reducible refine Below.drew ?_ | with_reducible refine bdrewN ?_ _ | with_reducible refine Below.alloc ?_ ?_ _ | with_reducible refine Below.setCell ?_ ?_ _ | omega | (simp; done) | (simp; omega))) (hB.mono (by first | omega | (simp; done) | (simp; omega)))
  clear hB hs
  go_wp2_with fail
  refine (add_any 2 2 _ _ _ _ _ _ _ _ _ isW_2 isW_2).mono ?_
  rintro e w2 ⟨t0, t1, t2, t3, rfl, ht, hB⟩
  obtain ⟨rfl, rfl, rfl, rfl⟩ := ht.eq isW_4 rfl
  have y0 : w.heap.size < w2.heap.size := by have := hB.size; (try simp at this); omega
  have y1 : w1.heap.size < w2.heap.size := by have := hB.size; simp at this; omega
  have la0 : w2.cell? ⟨w.heap.size, 0, none⟩ = some (.int .u64 2) := (hB.cell (p := ⟨w.heap.size, 0, none⟩) (by first | omega | (simp; done) | (simp; omega))).trans (by go_simp)
  have la1 : w2.cell? ⟨w.heap.size, 1, none⟩ = some (.int .u64 0) := (hB.cell (p := ⟨w.heap.size, 1, none⟩) (by first | omega | (simp; done) | (simp; omega))).trans (by go_simp)
  have la2 : w2.cell? ⟨w.heap.size, 2, none⟩ = some (.int .u64 0) := (hB.cell (p := ⟨w.heap.size, 2, none⟩) (by first | omega | (simp; done) | (simp; omega))).trans (by go_simp)
  have la3 : w2.cell? ⟨w.heap.size, 3, none⟩ = some (.int .u64 0) := (hB.cell (p := ⟨w.heap.size, 3, none⟩) (by first | omega | (simp; done) | (simp; omega))).trans (by go_simp)
  have lb0 : w2.cell? ⟨w1.heap.size, 0, none⟩ = some (.int .u64 4) := (hB.cell (p := ⟨w1.heap.size, 0, none⟩) (by first | omega | (simp; done) | (simp; omega))).trans (by go_simp)
  have lb1 : w2.cell? ⟨w1.heap.size, 1, none⟩ = some (.int .u64 0) := (hB.cell (p := ⟨w1.heap.size, 1, none⟩) (by first | omega | (simp; done) | (simp; omega))).trans (by go_simp)
  have lb2 : w2.cell? ⟨w1.heap.size, 2, none⟩ = some (.int .u64 0) := (hB.cell (p := ⟨w1.heap.size, 2, none⟩) (by first | omega | (simp; done) | (simp; omega))).trans (by go_simp)
  have lb3 : w2.cell? ⟨w1.heap.size, 3, none⟩ = some (.int .u64 0) := (hB.cell (p := ⟨w1.heap.size, 3, none⟩) (by first | omega | (simp; done) | (simp; omega))).trans (by go_simp)
  have B2 : Below w.heap.size w w2 := Below.trans (by repeat' (first | with_reducible exact B1 | with_reducible exact Below.refl _ _ | with_reducible refine Below.drew ?_ | with_reducible refine bdrewN ?_ _ | with_reducible refine Below.alloc ?_ ?_ _ | with_reducible refine Below.setCell ?_ ?_ _ | omega | (simp; done) | (simp; omega))) (hB.mono (by first | omega | (simp; done) | (simp; omega)))
  clear hB ka0 ka1 ka2 ka3 ht
  go_wp2_with fail
  refine (text2_any _).mono ?_
  rintro e w3 ⟨rfl, hB⟩
  have B3 : Below w.heap.size w w3 := Below.trans (by repeat' (first | with_reducible exact B2 | with_reducible exact Below.refl _ _ | with_reducible refine Below.drew ?_ | with_reducible refine bdrewN ?_ _ | with_reducible refine Below.alloc ?_ ?_ _ | with_reducible refine Below.setCell ?_ ?_ _ | omega | (simp; done) | (simp; omega))) (hB.mono (by first | omega | (simp; done) | (simp; omega)))
  clear hB
  go_wp2
  go_ret
  exact ⟨rfl, by repeat' (first | with_reducible exact B3 | with_reducible exact Below.refl _ _ | with_reducible refine Below.drew ?_ | with_reducible refine bdrewN ?_ _ | with_reducible refine Below.alloc ?_ ?_ _ | with_reducible refine Below.setCell ?_ ?_ _ | omega | (simp; done) | (simp; omega))⟩
end Go.Proofs.YtpadpmkfhljiiaaGreat
/- Bit by bit, and the law's own constants. -/
namespace Go.Proofs.YtpadpmkfhljiiaaGreat
open Go.RowKit

set_option maxHeartbeats 1000000 in
set_option maxRecDepth 100000 in
theorem xor_any (a0 a1 a2 a3 b0 b1 b2 b3 : Int) (w : World) :
    Calls Tryz.prog 42 #[.agg #[.int .u64 a0, .int .u64 a1, .int .u64 a2, .int .u64 a3], .agg #[.int .u64 b0, .int .u64 b1, .int .u64 b2, .int .u64 b3]] w fun e w' => e = .returned (.agg #[.int .u64 (bits .xor .u64 a0 b0), .int .u64 (bits .xor .u64 a1 b1), .int .u64 (bits .xor .u64 a2 b2), .int .u64 (bits .xor .u64 a3 b3)]) ∧ Below w.heap.size w w' := by
  go_enter Tryz.func42, Tryz.ntmps42
  go_wp2
  refine wp_loop_rounds 5 ?_
  rw [rounds_succ]
  go_wp2
  go_region
  go_wp2
  rw [rounds_succ]
  go_wp2
  go_region
  go_wp2
  rw [rounds_succ]
  go_wp2
  go_region
  go_wp2
  rw [rounds_succ]
  go_wp2
  go_region
  go_wp2
  rw [rounds_succ]
  go_wp2
  exact bodyPost_ret (v := .agg #[.int .u64 (bits .xor .u64 a0 b0), .int .u64 (bits .xor .u64 a1 b1), .int .u64 (bits .xor .u64 a2 b2), .int .u64 (bits .xor .u64 a3 b3)]) (by simp [results, Tryz.results42, go_sem]) rfl ⟨rfl, by repeat' (first | with_reducible exact Below.refl _ _ | with_reducible exact Below.refl _ _ | with_reducible refine Below.drew ?_ | with_reducible refine bdrewN ?_ _ | with_reducible refine Below.alloc ?_ ?_ _ | with_reducible refine Below.setCell ?_ ?_ _ | omega | (simp; done) | (simp; omega))⟩

set_option maxHeartbeats 1000000 in
set_option maxRecDepth 100000 in
theorem and_any (a0 a1 a2 a3 b0 b1 b2 b3 : Int) (w : World) :
    Calls Tryz.prog 38 #[.agg #[.int .u64 a0, .int .u64 a1, .int .u64 a2, .int .u64 a3], .agg #[.int .u64 b0, .int .u64 b1, .int .u64 b2, .int .u64 b3]] w fun e w' => e = .returned (.agg #[.int .u64 (bits .and .u64 a0 b0), .int .u64 (bits .and .u64 a1 b1), .int .u64 (bits .and .u64 a2 b2), .int .u64 (bits .and .u64 a3 b3)]) ∧ Below w.heap.size w w' := by
  go_enter Tryz.func38, Tryz.ntmps38
  go_wp2
  refine wp_loop_rounds 5 ?_
  rw [rounds_succ]
  go_wp2
  go_region
  go_wp2
  rw [rounds_succ]
  go_wp2
  go_region
  go_wp2
  rw [rounds_succ]
  go_wp2
  go_region
  go_wp2
  rw [rounds_succ]
  go_wp2
  go_region
  go_wp2
  rw [rounds_succ]
  go_wp2
  exact bodyPost_ret (v := .agg #[.int .u64 (bits .and .u64 a0 b0), .int .u64 (bits .and .u64 a1 b1), .int .u64 (bits .and .u64 a2 b2), .int .u64 (bits .and .u64 a3 b3)]) (by simp [results, Tryz.results38, go_sem]) rfl ⟨rfl, by repeat' (first | with_reducible exact Below.refl _ _ | with_reducible exact Below.refl _ _ | with_reducible refine Below.drew ?_ | with_reducible refine bdrewN ?_ _ | with_reducible refine Below.alloc ?_ ?_ _ | with_reducible refine Below.setCell ?_ ?_ _ | omega | (simp; done) | (simp; omega))⟩

set_option maxHeartbeats 1000000 in
set_option maxRecDepth 100000 in
theorem or_any (a0 a1 a2 a3 b0 b1 b2 b3 : Int) (w : World) :
    Calls Tryz.prog 40 #[.agg #[.int .u64 a0, .int .u64 a1, .int .u64 a2, .int .u64 a3], .agg #[.int .u64 b0, .int .u64 b1, .int .u64 b2, .int .u64 b3]] w fun e w' => e = .returned (.agg #[.int .u64 (bits .or .u64 a0 b0), .int .u64 (bits .or .u64 a1 b1), .int .u64 (bits .or .u64 a2 b2), .int .u64 (bits .or .u64 a3 b3)]) ∧ Below w.heap.size w w' := by
  go_enter Tryz.func40, Tryz.ntmps40
  go_wp2
  refine wp_loop_rounds 5 ?_
  rw [rounds_succ]
  go_wp2
  go_region
  go_wp2
  rw [rounds_succ]
  go_wp2
  go_region
  go_wp2
  rw [rounds_succ]
  go_wp2
  go_region
  go_wp2
  rw [rounds_succ]
  go_wp2
  go_region
  go_wp2
  rw [rounds_succ]
  go_wp2
  exact bodyPost_ret (v := .agg #[.int .u64 (bits .or .u64 a0 b0), .int .u64 (bits .or .u64 a1 b1), .int .u64 (bits .or .u64 a2 b2), .int .u64 (bits .or .u64 a3 b3)]) (by simp [results, Tryz.results40, go_sem]) rfl ⟨rfl, by repeat' (first | with_reducible exact Below.refl _ _ | with_reducible exact Below.refl _ _ | with_reducible refine Below.drew ?_ | with_reducible refine bdrewN ?_ _ | with_reducible refine Below.alloc ?_ ?_ _ | with_reducible refine Below.setCell ?_ ?_ _ | omega | (simp; done) | (simp; omega))⟩

end Go.Proofs.YtpadpmkfhljiiaaGreat
