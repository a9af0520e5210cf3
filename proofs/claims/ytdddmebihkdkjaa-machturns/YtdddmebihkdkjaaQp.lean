/- A stack, and a list of words of the law's own. -/
import Derived.Test.YtdddmebihkdkjaaQn
import Derived.Test.YtdddmebihkdkjaaQz
namespace Go.Proofs.Ytdddmebihkdkjaa
open Go.RowKit
theorem owns_only {w w' : World} {B n s b : Nat} {T : TypeId} {v : Value} {xs : List Value} (h : w.ownsRow B T s v n xs) (k : Only b w w') (hb : b < B) : w'.ownsRow B T s v n xs :=
  h.kept (row := some b) ⟨k.os, k.tape, k.output, k.size, fun i hi hn => k.block i hi (fun e => hn (by rw [e]))⟩ (by cases e : v.ownBlock with | none => exact Or.inl rfl | some x => exact Or.inr (fun e2 => by have := (h.lt x e).1; rw [Option.some.inj e2] at this; omega))
structure LF (w W : World) (b B : Nat) (v : Value) (f : Ring) (n : Int) (m : Nat) (x : Ring) : Prop where
  st : Stk W b 0 4096 f n
  ow : W.ownsRow B 30 4 v m (rowW x m)
  hb : b < B
  hB : B ≤ W.heap.size
  ge : w.heap.size ≤ b
  bel : Below w.heap.size w W
theorem LF.call {w W W' : World} {b B m : Nat} {v : Value} {f f' x : Ring} {n n' : Int} (h : LF w W b B v f n m x) (hs : Stk W' b 0 4096 f' n') (k : Only b W W') : LF w W' b B v f' n' m x :=
  ⟨hs, owns_only h.ow k h.hb, h.hb, Nat.le_trans h.hB k.size, h.ge, h.bel.trans (k.below h.ge h.bel.size)⟩
theorem LF.past {w W W' : World} {b B m : Nat} {v : Value} {f x : Ring} {n : Int} (h : LF w W b B v f n m x) (k : Below W.heap.size W W') : LF w W' b B v f n m x :=
  ⟨h.st.past k, owns_past h.ow k, h.hb, Nat.le_trans h.hB k.size, h.ge, h.bel.trans (k.mono h.bel.size)⟩
theorem LF.alloc {w W : World} {b B m : Nat} {v : Value} {f x : Ring} {n : Int} (h : LF w W b B v f n m x) (o : Obj) : LF w (W.alloc o) b B v f n m x := h.past ((Below.refl _ _).alloc (Nat.le_refl _) o)
theorem LF.drew {w W : World} {b B m : Nat} {v : Value} {f x : Ring} {n : Int} (h : LF w W b B v f n m x) : LF w W.drew b B v f n m x := h.past ((Below.refl _ _).drew)
/-- a word more on the list -/
theorem LF.app {w W W2 : World} {b B m : Nat} {v v' : Value} {f x x' : Ring} {n : Int} (h : LF w W b B v f n m x) (ob : Obj) (ho : W2.ownsRow B 30 4 v' (m + 1) (rowW x' (m + 1))) (hg : (W.alloc ob).grownBy W2 v.ownBlock) : LF w W2 b B v' f n (m + 1) x' := by
  have k : Below B W W2 := grown_below (Below.refl B W) h.hB h.ow ob hg
  exact ⟨h.st.below k h.hb, ho, h.hb, Nat.le_trans h.hB k.size, h.ge, h.bel.trans (k.mono (by have := h.hb; have := h.ge; omega))⟩
theorem LF.nil {w W : World} {b : Nat} {f : Ring} {n : Int} (hs : Stk W b 0 4096 f n) (ge : w.heap.size ≤ b) (bel : Below w.heap.size w W) (x : Ring) : LF w W b W.heap.size (.slice none 0 0) f n 0 x :=
  ⟨hs, World.ownsRow_nil _ _ _ _, hs.lt, Nat.le_refl _, ge, bel⟩
theorem WL.below {W W' : World} {B : Nat} {v : Value} {m : Nat} {x : Ring} (h : WL W v m x) (hB : B = W.heap.size) (k : Below B W W') : WL W' v m x := h.past (by rw [← hB]; exact k)
theorem pl_nat (i : Nat) (h : i < 1024) : pl (i : Int) = i := by unfold pl; omega
theorem cnt_nat (m : Nat) (h : m ≤ 1024) : cnt (m : Int) = m := by unfold cnt; omega
theorem told_nat (f x : Ring) (m : Nat) (hm : m ≤ 1024) (h : ∀ i, i < m → f i = x i) (i : Nat) (hi : i < m) : told f (m : Int) i = x i := by
  unfold told; rw [cnt_nat m hm, show ((m : Int) - (m : Int) + (i : Int)) = (i : Int) by omega, pl_nat i (by omega)]; exact h i hi
theorem WL.ext {W : World} {v : Value} {m : Nat} {x y : Ring} (h : WL W v m x) (e : ∀ i, i < m → x i = y i) : WL W v m y := by
  obtain ⟨ad, cap, rfl, h1⟩ := h
  exact ⟨ad, cap, rfl, fun hm => by obtain ⟨g, a, e1, h2⟩ := h1 hm; exact ⟨g, a, e1, fun i hi => by rw [← e i hi]; exact h2 i hi⟩⟩
theorem wrap64_nat (m : Nat) (h : m ≤ 4611686018427387904) : wrap64 ((m : Int) + 1) = ((m + 1 : Nat) : Int) := by rw [wrap64]; omega
theorem wrap64_dec (m : Nat) (h : m ≤ 4611686018427387904) (h0 : 0 < m) : wrap64 ((m : Int) - 1) = ((m - 1 : Nat) : Int) := by rw [wrap64]; omega
end Go.Proofs.Ytdddmebihkdkjaa
