/- Sums, products and powers, their words named ahead. -/
import Derived.Test.YtpadpmkfhljiiaaXb
import Derived.Test.YtpadpmkfhljiiaaWis
namespace Go.Proofs.Ytpadpmkfhljiiaa
open Go.RowKit
theorem isW_ex (v : Int) : ∃ a0 a1 a2 a3 : Int, IsW v a0 a1 a2 a3 := by
  refine ⟨v % 18446744073709551616, v / 18446744073709551616 % 18446744073709551616, v / 340282366920938463463374607431768211456 % 18446744073709551616, v / 6277101735386680763835789423207666416102355444464034512896 % 18446744073709551616, ⟨⟨by omega, by unfold Bd; omega⟩, ⟨by omega, by unfold Bd; omega⟩, ⟨by omega, by unfold Bd; omega⟩, ⟨by omega, by unfold Bd; omega⟩⟩, ?_⟩
  unfold V Bd MM; omega
theorem add_is (x y : Int) (a0 a1 a2 a3 b0 b1 b2 b3 p0 p1 p2 p3 : Int) (w : World) (ha : IsW x a0 a1 a2 a3) (hb : IsW y b0 b1 b2 b3) (hp : IsW (x + y) p0 p1 p2 p3) :
    Calls Try.prog 33 #[.agg #[.int .u64 a0, .int .u64 a1, .int .u64 a2, .int .u64 a3], .agg #[.int .u64 b0, .int .u64 b1, .int .u64 b2, .int .u64 b3]] w fun e w' => e = .returned (.agg #[.int .u64 p0, .int .u64 p1, .int .u64 p2, .int .u64 p3]) ∧ Below w.heap.size w w' := by
  refine (add_any x y a0 a1 a2 a3 b0 b1 b2 b3 w ha hb).mono ?_
  rintro e w' ⟨s0, s1, s2, s3, rfl, hs, hB⟩
  obtain ⟨rfl, rfl, rfl, rfl⟩ := hs.eq hp rfl
  exact ⟨rfl, hB⟩
theorem sub_is (x y : Int) (a0 a1 a2 a3 b0 b1 b2 b3 p0 p1 p2 p3 : Int) (w : World) (ha : IsW x a0 a1 a2 a3) (hb : IsW y b0 b1 b2 b3) (hp : IsW (x - y) p0 p1 p2 p3) :
    Calls Try.prog 34 #[.agg #[.int .u64 a0, .int .u64 a1, .int .u64 a2, .int .u64 a3], .agg #[.int .u64 b0, .int .u64 b1, .int .u64 b2, .int .u64 b3]] w fun e w' => e = .returned (.agg #[.int .u64 p0, .int .u64 p1, .int .u64 p2, .int .u64 p3]) ∧ Below w.heap.size w w' := by
  refine (sub_any x y a0 a1 a2 a3 b0 b1 b2 b3 w ha hb).mono ?_
  rintro e w' ⟨s0, s1, s2, s3, rfl, hs, hB⟩
  obtain ⟨rfl, rfl, rfl, rfl⟩ := hs.eq hp rfl
  exact ⟨rfl, hB⟩
theorem mul_is (x y : Int) (a0 a1 a2 a3 b0 b1 b2 b3 p0 p1 p2 p3 : Int) (w : World) (ha : IsW x a0 a1 a2 a3) (hb : IsW y b0 b1 b2 b3) (hp : IsW (x * y) p0 p1 p2 p3) :
    Calls Try.prog 35 #[.agg #[.int .u64 a0, .int .u64 a1, .int .u64 a2, .int .u64 a3], .agg #[.int .u64 b0, .int .u64 b1, .int .u64 b2, .int .u64 b3]] w fun e w' => e = .returned (.agg #[.int .u64 p0, .int .u64 p1, .int .u64 p2, .int .u64 p3]) ∧ Below w.heap.size w w' := by
  refine (mul_any x y a0 a1 a2 a3 b0 b1 b2 b3 w ha hb).mono ?_
  rintro e w' ⟨s0, s1, s2, s3, rfl, hs, hB⟩
  obtain ⟨rfl, rfl, rfl, rfl⟩ := hs.eq hp rfl
  exact ⟨rfl, hB⟩
theorem exp_is (x y : Int) (Y : Nat) (a0 a1 a2 a3 b0 b1 b2 b3 p0 p1 p2 p3 : Int) (w : World) (ha : IsW x a0 a1 a2 a3) (hb : IsW y b0 b1 b2 b3) (hY : V b0 b1 b2 b3 = (Y : Int)) (hp : IsW (x ^ Y) p0 p1 p2 p3) :
    Calls Try.prog 17 #[.agg #[.int .u64 a0, .int .u64 a1, .int .u64 a2, .int .u64 a3], .agg #[.int .u64 b0, .int .u64 b1, .int .u64 b2, .int .u64 b3]] w fun e w' => e = .returned (.agg #[.int .u64 p0, .int .u64 p1, .int .u64 p2, .int .u64 p3]) ∧ Below w.heap.size w w' := by
  refine (exp_any x y a0 a1 a2 a3 b0 b1 b2 b3 w ha hb Y hY).mono ?_
  rintro e w' ⟨s0, s1, s2, s3, rfl, hs, hB⟩
  obtain ⟨rfl, rfl, rfl, rfl⟩ := hs.eq hp rfl
  exact ⟨rfl, hB⟩
theorem eqw_same (a0 a1 a2 a3 : Int) (W : World) : Sem.run Try.prog (Op.equalIn 10000 24 (.agg #[.int .u64 a0, .int .u64 a1, .int .u64 a2, .int .u64 a3]) (.agg #[.int .u64 a0, .int .u64 a1, .int .u64 a2, .int .u64 a3])) W = .ok true W := by
  rw [eqw_run]; simp [eqw]
theorem eqw_un {x y : Int} (a0 a1 a2 a3 b0 b1 b2 b3 : Int) (ha : IsW x a0 a1 a2 a3) (hb : IsW y b0 b1 b2 b3) (h : x % MM ≠ y % MM) (W : World) : Sem.run Try.prog (Op.equalIn 10000 24 (.agg #[.int .u64 a0, .int .u64 a1, .int .u64 a2, .int .u64 a3]) (.agg #[.int .u64 b0, .int .u64 b1, .int .u64 b2, .int .u64 b3])) W = .ok false W := by
  rw [eqw_run, ha.eqf hb h]
theorem eqw_eq {x y : Int} (a0 a1 a2 a3 b0 b1 b2 b3 : Int) (ha : IsW x a0 a1 a2 a3) (hb : IsW y b0 b1 b2 b3) (h : x % MM = y % MM) (W : World) : Sem.run Try.prog (Op.equalIn 10000 24 (.agg #[.int .u64 a0, .int .u64 a1, .int .u64 a2, .int .u64 a3]) (.agg #[.int .u64 b0, .int .u64 b1, .int .u64 b2, .int .u64 b3])) W = .ok true W := by
  rw [eqw_run, ha.eqt hb h]
/-- the operation at a place of a region that is written out -/
theorem op0 {x : Oper} {r : List Oper} : (x :: r).toArray[0]? = some x := rfl
theorem op1 {a x : Oper} {r : List Oper} : (a :: x :: r).toArray[1]? = some x := rfl
theorem op2 {a b x : Oper} {r : List Oper} : (a :: b :: x :: r).toArray[2]? = some x := rfl
theorem op3 {a b c x : Oper} {r : List Oper} : (a :: b :: c :: x :: r).toArray[3]? = some x := rfl
theorem op4 {a b c d x : Oper} {r : List Oper} : (a :: b :: c :: d :: x :: r).toArray[4]? = some x := rfl
theorem op5 {a b c d e x : Oper} {r : List Oper} : (a :: b :: c :: d :: e :: x :: r).toArray[5]? = some x := rfl
theorem op6 {a b c d e f x : Oper} {r : List Oper} : (a :: b :: c :: d :: e :: f :: x :: r).toArray[6]? = some x := rfl
theorem op7 {a b c d e f g x : Oper} {r : List Oper} : (a :: b :: c :: d :: e :: f :: g :: x :: r).toArray[7]? = some x := rfl
theorem op8 {a b c d e f g h x : Oper} {r : List Oper} : (a :: b :: c :: d :: e :: f :: g :: h :: x :: r).toArray[8]? = some x := rfl
theorem op9 {a b c d e f g h i x : Oper} {r : List Oper} : (a :: b :: c :: d :: e :: f :: g :: h :: i :: x :: r).toArray[9]? = some x := rfl
theorem op10 {a b c d e f g h i j x : Oper} {r : List Oper} : (a :: b :: c :: d :: e :: f :: g :: h :: i :: j :: x :: r).toArray[10]? = some x := rfl
theorem op11 {a b c d e f g h i j k x : Oper} {r : List Oper} : (a :: b :: c :: d :: e :: f :: g :: h :: i :: j :: k :: x :: r).toArray[11]? = some x := rfl
theorem op12 {a b c d e f g h i j k l x : Oper} {r : List Oper} : (a :: b :: c :: d :: e :: f :: g :: h :: i :: j :: k :: l :: x :: r).toArray[12]? = some x := rfl
theorem op13 {a b c d e f g h i j k l m x : Oper} {r : List Oper} : (a :: b :: c :: d :: e :: f :: g :: h :: i :: j :: k :: l :: m :: x :: r).toArray[13]? = some x := rfl
theorem op14 {a b c d e f g h i j k l m n x : Oper} {r : List Oper} : (a :: b :: c :: d :: e :: f :: g :: h :: i :: j :: k :: l :: m :: n :: x :: r).toArray[14]? = some x := rfl
theorem op15 {a b c d e f g h i j k l m n o x : Oper} {r : List Oper} : (a :: b :: c :: d :: e :: f :: g :: h :: i :: j :: k :: l :: m :: n :: o :: x :: r).toArray[15]? = some x := rfl
end Go.Proofs.Ytpadpmkfhljiiaa
