/- Two tables, and what was seen of the first one; UndoMany: numbers. -/
import Derived.Test.YtohfkgfjcnldaaaTyd
import Derived.Test.YtohfkgfjcnldaaaUl
namespace Go.Proofs.Ytohfkgfjcnldaaa
open Go.RowKit Go.Shelf
/-- tables t = b1 (owner 1), u = b2 (owner 2), and a view (AS) -/
structure UW (w W : World) (b1 b2 N : Nat) (A1 : List (Int × Int)) (H1 : List (List (Int × Int))) (A2 : List (Int × Int)) (H2 : List (List (Int × Int))) (xb : Nat) (vk vv : Value) (AS : List (Int × Int)) : Prop where
  ex : ∃ ow, T1 W ow 1 b1 N A1 H1 ∧ T1 W ow 2 b2 N A2 H2 ∧ IsI W ow vk (AS.map Prod.fst) ∧ IsI W ow vv (AS.map Prod.snd) ∧ ow xb = 0 ∧ ∀ x, x < w.heap.size → ow x = 0
  bx : CBox W xb 67 [vk, vv]
  bel : Below w.heap.size w W
section
variable {w W : World} {b1 b2 N xb : Nat} {A1 : List (Int × Int)} {H1 : List (List (Int × Int))} {A2 : List (Int × Int)} {H2 : List (List (Int × Int))} {vk vv : Value} {AS : List (Int × Int)}
theorem UW.past {W' : World} (h : UW w W b1 b2 N A1 H1 A2 H2 xb vk vv AS) (hB : Below W.heap.size W W') : UW w W' b1 b2 N A1 H1 A2 H2 xb vk vv AS := by
  obtain ⟨⟨ow, h1, h2, h3, h4, h5, h6⟩, h7, h8⟩ := h
  exact ⟨⟨grow ow W.heap.size 0, h1.past hB, h2.past hB, h3.past hB, h4.past hB, (grow_lt h7.lt).trans h5, fun x hx => (grow_lt (Nat.lt_of_lt_of_le hx h8.size)).trans (h6 x hx)⟩, h7.but (below_but (S := fun _ => False) hB) id, h8.trans (hB.mono h8.size)⟩
theorem UW.t {f : FuncId} {args : Array Value} {r : Value} {A' : List (Int × Int)} {H' : List (List (Int × Int))} (h : UW w W b1 b2 N A1 H1 A2 H2 xb vk vv AS) (q : ∀ ow, T1 W ow 1 b1 N A1 H1 → Calls Try.prog f args W fun e w' => e = .returned r ∧ T1 w' (grow ow W.heap.size 1) 1 b1 (N + 1) A' H' ∧ Mv ow 1 W w') : Calls Try.prog f args W fun e w' => e = .returned r ∧ UW w w' b1 b2 (N + 1) A' H' A2 H2 xb vk vv AS := by
  obtain ⟨⟨ow, h1, h2, h3, h4, h5, h6⟩, h7, h8⟩ := h
  refine (q ow h1).mono ?_
  rintro e w' ⟨rfl, q1, q2⟩
  have m : Mo (fun x => x = 1) ow _ W w' := Mo.of q2 rfl
  obtain ⟨s1, s2⟩ := m.box h7 (by rw [h5]; omega)
  obtain ⟨l1, l2⟩ := m.low h6 (by omega) h8.size
  exact ⟨rfl, ⟨_, q1, (h2.mo m (by omega)).mono (by omega), h3.mo m (by omega), h4.mo m (by omega), s2.trans h5, l2⟩, s1, h8.trans l1⟩
theorem UW.u {f : FuncId} {args : Array Value} {r : Value} {A' : List (Int × Int)} {H' : List (List (Int × Int))} (h : UW w W b1 b2 N A1 H1 A2 H2 xb vk vv AS) (q : ∀ ow, T1 W ow 2 b2 N A2 H2 → Calls Try.prog f args W fun e w' => e = .returned r ∧ T1 w' (grow ow W.heap.size 2) 2 b2 (N + 1) A' H' ∧ Mv ow 2 W w') : Calls Try.prog f args W fun e w' => e = .returned r ∧ UW w w' b1 b2 (N + 1) A1 H1 A' H' xb vk vv AS := by
  obtain ⟨⟨ow, h1, h2, h3, h4, h5, h6⟩, h7, h8⟩ := h
  refine (q ow h2).mono ?_
  rintro e w' ⟨rfl, q1, q2⟩
  have m : Mo (fun x => x = 2) ow _ W w' := Mo.of q2 rfl
  obtain ⟨s1, s2⟩ := m.box h7 (by rw [h5]; omega)
  obtain ⟨l1, l2⟩ := m.low h6 (by omega) h8.size
  exact ⟨rfl, ⟨_, (h1.mo m (by omega)).mono (by omega), q1, h3.mo m (by omega), h4.mo m (by omega), s2.trans h5, l2⟩, s1, h8.trans l1⟩
theorem UW.marks (h : UW w W b1 b2 N A1 H1 A2 H2 xb vk vv AS) : Calls Try.prog 41 #[.pointer (some ⟨b1, 0, none⟩)] W fun e w' => e = .returned (.int .i64 (H1.length : Int)) ∧ w' = W := by
  obtain ⟨ow, h1, _⟩ := h.ex
  exact marks1 W ow 1 b1 N A1 H1 h1
theorem UW.tells (h : UW w W b1 b2 N A1 H1 A2 H2 xb vk vv A1) (hN : N < 274877906944) : Calls Try.prog 46 #[.pointer (some ⟨b1, 0, none⟩), .agg #[vk, vv]] W fun e w' => e = .returned (.bool true) ∧ UW w w' b1 b2 N A1 H1 A2 H2 xb vk vv A1 := by
  obtain ⟨ow, h1, h2, h3, h4, _⟩ := h.ex
  refine (tells_is W ow 1 b1 N A1 H1 h1 hN vk vv h3 h4).mono ?_
  rintro e w' ⟨rfl, hB⟩
  exact ⟨rfl, h.past hB⟩
/-- what is seen of u, t tells too -/
theorem UW.seenU (h : UW w W b1 b2 N A1 H1 A1 H2 xb vk vv AS) (hN : N < 274877906944) : Calls Try.prog 40 #[.pointer (some ⟨b2, 0, none⟩)] W fun e w' => ∃ ka kc va vc, e = .returned (.agg #[.slice ka A1.length kc, .slice va A1.length vc]) ∧ UW w w' b1 b2 N A1 H1 A1 H2 xb vk vv AS ∧ Calls Try.prog 46 #[.pointer (some ⟨b1, 0, none⟩), .agg #[.slice ka A1.length kc, .slice va A1.length vc]] w' fun e w2 => e = .returned (.bool true) ∧ UW w w2 b1 b2 N A1 H1 A1 H2 xb vk vv AS := by
  obtain ⟨ow, h1, h2, h3, h4, _⟩ := h.ex
  refine (seen_is W ow 2 b2 N A1 H2 h2 hN).mono ?_
  rintro e w' ⟨vk', vv', rfl, hB, ⟨ka, kc, rfl, i1⟩, ⟨va, vc, rfl, i2⟩⟩
  have hU := h.past hB
  refine ⟨ka, kc, va, vc, by simp, hU, ?_⟩
  have T := tells_is w' (grow ow W.heap.size 0) 1 b1 N A1 H1 (h1.past hB) hN _ _ ⟨ka, kc, rfl, i1⟩ ⟨va, vc, rfl, i2⟩
  rw [List.length_map, List.length_map] at T
  refine T.mono ?_
  rintro e w2 ⟨rfl, hB2⟩
  exact ⟨rfl, hU.past hB2⟩
end
theorem UV.newU {w W : World} {b xb N : Nat} {A : List (Int × Int)} {H : List (List (Int × Int))} {vk vv : Value} {AS : List (Int × Int)} (h : UV w W b xb N A H vk vv AS) : Calls Try.prog 37 #[] W fun e w' => ∃ b2, e = .returned (.pointer (some ⟨b2, 0, none⟩)) ∧ UW w w' b b2 N A H [] [] xb vk vv AS := by
  obtain ⟨⟨ow, h1, h2, h3, h4, h5⟩, h6, h7⟩ := h
  refine (new1 W ow 2 N).mono ?_
  rintro e w' ⟨rfl, q1, hB⟩
  exact ⟨_, rfl, ⟨_, h1.past hB, q1, h2.past hB, h3.past hB, (grow_lt h6.lt).trans h4, fun x hx => (grow_lt (Nat.lt_of_lt_of_le hx h7.size)).trans (h5 x hx)⟩, h6.but (below_but (S := fun _ => False) hB) id, h7.trans (hB.mono h7.size)⟩
theorem U0.t {w W : World} {b N : Nat} {A A' : List (Int × Int)} {H H' : List (List (Int × Int))} {f : FuncId} {args : Array Value} {r : Value} (h : U0 w W b N A H) (q : ∀ ow, T1 W ow 1 b N A H → Calls Try.prog f args W fun e w' => e = .returned r ∧ T1 w' (grow ow W.heap.size 1) 1 b (N + 1) A' H' ∧ Mv ow 1 W w') : Calls Try.prog f args W fun e w' => e = .returned r ∧ U0 w w' b (N + 1) A' H' := by
  obtain ⟨ow, h1, h2⟩ := h.ex
  refine (q ow h1).mono ?_
  rintro e w' ⟨rfl, q1, q2⟩
  have m : Mo (fun x => x = 1) ow _ W w' := Mo.of q2 rfl
  obtain ⟨l1, l2⟩ := m.low h2 (by omega) h.bel.size
  exact ⟨rfl, ⟨_, q1, l2⟩, h.bel.trans l1⟩
theorem and10 (X : Int) : ∃ A : Nat, A ≤ 1023 ∧ bits BinOp.and IntKind.i64 X 1023 = (A : Int) := by
  have h : (BitVec.ofInt 64 X &&& BitVec.ofInt 64 1023).toNat ≤ 1023 := by rw [BitVec.toNat_and]; exact Nat.and_le_right
  have e : bits BinOp.and IntKind.i64 X 1023 = IntKind.i64.wrap (((BitVec.ofInt 64 X &&& BitVec.ofInt 64 1023).toNat : Nat) : Int) := rfl
  exact ⟨_, h, e.trans (Go.IntWalk.i64_in _ (by omega))⟩
def mA (n : Nat) : Nat → List (Int × Int)
  | 0 => []
  | i + 1 => setRL (mA n i) ((i * 7 % n : Nat) : Int) (i : Int)
def mH (n i : Nat) : List (List (Int × Int)) := (List.range i).map fun j => mA n (j + 1)
theorem mH_len (n i : Nat) : (mH n i).length = i := by simp [mH]
theorem mH_succ (n i : Nat) : mH n i ++ [mA n (i + 1)] = mH n (i + 1) := by simp [mH, List.range_succ]
theorem mH_at (n i j : Nat) (h : j < i) : (mH n i)[j]? = some (mA n (j + 1)) := by simp [mH, h]
theorem mH_no (n : Nat) : isM (mH n n) (n : Int) = false := by unfold isM; rw [mH_len]; simp
theorem mH_yes (n b : Nat) (h : b < n) : isM (mH n n) (b : Int) = true := by unfold isM; rw [mH_len]; simp; omega
theorem mH_back (n b : Nat) (h : b < n) : bkA (mA n n) (mH n n) (b : Int) = mA n (b + 1) ∧ (bkH (mH n n) (b : Int)).length = b ∧ bkE (mH n n) (b : Int) = 0 := by
  unfold bkA bkH bkE
  rw [mH_yes n b h, if_pos rfl, if_pos rfl, if_pos rfl, Int.toNat_natCast, mH_at n n b h, List.length_take, mH_len]
  exact ⟨rfl, by omega, rfl⟩
theorem mH_stay (n : Nat) : bkA (mA n n) (mH n n) (n : Int) = mA n n ∧ bkH (mH n n) (n : Int) = mH n n ∧ bkE (mH n n) (n : Int) = 30 := by
  unfold bkA bkH bkE
  rw [mH_no]
  exact ⟨rfl, rfl, rfl⟩
end Go.Proofs.Ytohfkgfjcnldaaa
