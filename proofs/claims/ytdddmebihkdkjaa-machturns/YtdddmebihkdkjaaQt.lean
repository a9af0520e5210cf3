/- MachTurns: what turns do. -/
import Derived.Test.YtdddmebihkdkjaaQs
import Derived.Test.YtdddmebihkdkjaaVo
namespace Go.Proofs.Ytdddmebihkdkjaa
open Go.RowKit
theorem ov32 {o0 o1 o2 o3 o4 o5 o6 o7 o8 o9 o10 o11 o12 o13 o14 o15 o16 o17 o18 o19 o20 o21 o22 o23 o24 o25 o26 o27 o28 o29 o30 o31 x : Oper} {r : List Oper} : (o0 :: o1 :: o2 :: o3 :: o4 :: o5 :: o6 :: o7 :: o8 :: o9 :: o10 :: o11 :: o12 :: o13 :: o14 :: o15 :: o16 :: o17 :: o18 :: o19 :: o20 :: o21 :: o22 :: o23 :: o24 :: o25 :: o26 :: o27 :: o28 :: o29 :: o30 :: o31 :: x :: r).toArray[32]? = some x := rfl
theorem ov33 {o0 o1 o2 o3 o4 o5 o6 o7 o8 o9 o10 o11 o12 o13 o14 o15 o16 o17 o18 o19 o20 o21 o22 o23 o24 o25 o26 o27 o28 o29 o30 o31 o32 x : Oper} {r : List Oper} : (o0 :: o1 :: o2 :: o3 :: o4 :: o5 :: o6 :: o7 :: o8 :: o9 :: o10 :: o11 :: o12 :: o13 :: o14 :: o15 :: o16 :: o17 :: o18 :: o19 :: o20 :: o21 :: o22 :: o23 :: o24 :: o25 :: o26 :: o27 :: o28 :: o29 :: o30 :: o31 :: o32 :: x :: r).toArray[33]? = some x := rfl
theorem ov34 {o0 o1 o2 o3 o4 o5 o6 o7 o8 o9 o10 o11 o12 o13 o14 o15 o16 o17 o18 o19 o20 o21 o22 o23 o24 o25 o26 o27 o28 o29 o30 o31 o32 o33 x : Oper} {r : List Oper} : (o0 :: o1 :: o2 :: o3 :: o4 :: o5 :: o6 :: o7 :: o8 :: o9 :: o10 :: o11 :: o12 :: o13 :: o14 :: o15 :: o16 :: o17 :: o18 :: o19 :: o20 :: o21 :: o22 :: o23 :: o24 :: o25 :: o26 :: o27 :: o28 :: o29 :: o30 :: o31 :: o32 :: o33 :: x :: r).toArray[34]? = some x := rfl
theorem ov35 {o0 o1 o2 o3 o4 o5 o6 o7 o8 o9 o10 o11 o12 o13 o14 o15 o16 o17 o18 o19 o20 o21 o22 o23 o24 o25 o26 o27 o28 o29 o30 o31 o32 o33 o34 x : Oper} {r : List Oper} : (o0 :: o1 :: o2 :: o3 :: o4 :: o5 :: o6 :: o7 :: o8 :: o9 :: o10 :: o11 :: o12 :: o13 :: o14 :: o15 :: o16 :: o17 :: o18 :: o19 :: o20 :: o21 :: o22 :: o23 :: o24 :: o25 :: o26 :: o27 :: o28 :: o29 :: o30 :: o31 :: o32 :: o33 :: o34 :: x :: r).toArray[35]? = some x := rfl
theorem LF.inAt {w W : World} {b B g k co : Nat} {f y : Ring} {n : Int} (h : LF w W b B (.slice (some ⟨g, 0, none⟩) k co) f n k y) (i : Nat) (hi : i < k) : Rd W g (i * 4) (y i) := by
  obtain ⟨ao, co', e, how⟩ := owns_words h.ow
  injection e with e1 _ e2
  subst e1 e2
  obtain ⟨g', e3, _, hw⟩ := how (by omega)
  injection e3 with e3
  injection e3 with e3 _ _
  subst e3
  have := (hw i hi).rd
  rwa [Nat.zero_add] at this
theorem turn_turn (f : Ring) (n a b : Int) : turnF (turnF f n a b) n a b = f := by
  unfold turnF
  generalize pl (n - a) = p
  generalize pl (n - b) = q
  funext i
  unfold rput
  by_cases h1 : i = p <;> by_cases h2 : i = q <;> by_cases h3 : p = q <;> simp_all
theorem turn_swap (f : Ring) (n a b : Int) : turnF f n a b = turnF f n b a := by
  unfold turnF
  generalize pl (n - a) = p
  generalize pl (n - b) = q
  funext i
  unfold rput
  by_cases h1 : i = p
  · by_cases h2 : i = q
    · subst h1; subst h2; rfl
    · rw [if_neg h2, if_pos h1, if_pos h1]
  · by_cases h2 : i = q
    · rw [if_pos h2, if_neg h1, if_pos h2]
    · rw [if_neg h2, if_neg h1, if_neg h1, if_neg h2]
theorem pl_sub (k q : Nat) (N : Int) (h : (k : Int) - N = (q : Int)) (hq : q < 1024) : pl ((k : Int) - N) = q := by rw [h]; exact pl_nat q hq
theorem turn_left (f : Ring) (n a b : Int) : turnF f n a b (pl (n - a)) = f (pl (n - b)) := by
  unfold turnF rput; by_cases h : pl (n - a) = pl (n - b) <;> simp [h]
theorem turn_right (f : Ring) (n a b : Int) : turnF f n a b (pl (n - b)) = f (pl (n - a)) := by
  unfold turnF rput; simp
theorem wrapI (q : Int) (h0 : -4096 ≤ q) (h1 : q ≤ 4096) : IntKind.i64.wrap q = q := by rw [IntKind.wrap_i64]; omega
end Go.Proofs.Ytdddmebihkdkjaa
