/- A step of any kind. -/
import Derived.Test.YtdddmebihkdkjaaQk
import Derived.Test.YtdddmebihkdkjaaQl
namespace Go.Proofs.Ytdddmebihkdkjaa
open Go.RowKit
/-- a stack's number behind a step (but for the kinds that are done many times) -/
def nx (kd n N : Int) : Int :=
  if kd = 1 then (if 1024 ≤ n then n else n + 1) else if kd = 2 then (if n < 1 then n else n - 1) else if kd = 4 then (if N < 1 then n else if n < N then n else if 1024 ≤ n then n else n + 1)
  else if kd = 7 then n + 1 else if kd = 10 then n + 1 else if kd = 8 then n - 1 else n
/-- what a step leaves -/
def Stepped (w w' : World) (b c : Nat) (kd n N : Int) : Prop := (∃ f' n', Two w' b c f' n' ∧ (n' = nx kd n N ∨ kd = 13 ∨ kd = 14 ∨ kd = 15) ∧ n - 2100 ≤ n' ∧ n' ≤ n + 2100) ∧ But (BC b c) w w'
theorem stepped_mk {w w' : World} {b c : Nat} {kd n N : Int} {f' : Ring} {n' : Int} (h : Two w' b c f' n') (h1 : n' = nx kd n N ∨ kd = 13 ∨ kd = 14 ∨ kd = 15) (h2 : n - 2100 ≤ n' ∧ n' ≤ n + 2100) (hb : But (BC b c) w w') : Stepped w w' b c kd n N := ⟨⟨f', n', h, h1, h2.1, h2.2⟩, hb⟩
/-- the kinds that look -/
def isL (kd : Int) : Bool := !(decide (7 ≤ kd) && decide (kd ≤ 11) || decide (14 ≤ kd))
theorem looked_any (w : World) (b c : Nat) (f : Ring) (n : Int) (h : Two w b c f n) (hn : n ≤ 4611686018427387904) (hn0 : -4611686018427387904 ≤ n) (kd : Int) (tw : Bool) (N M P : Int) (X Y : W4) (B : Value) (hk : kd ≤ 6 ∨ 11 < kd ∧ kd < 14) : Calls Try.prog 11 #[sideV b c, opV kd tw N M P X Y B] w fun e w' => e = .returned (.bool true) ∧ Stepped w w' b c kd n N := by
  have wu := wrap_up hn hn0
  have wd := wrap_dn hn hn0
  by_cases h1 : kd = 1
  · subst h1
    refine (looked1 w b c f n h hn hn0 tw N M P X Y B).mono ?_
    rintro e w' ⟨rfl, h1, h4⟩
    refine ⟨rfl, stepped_mk h1 (Or.inl ?_) ?_ h4⟩
    · simp only [nx, oPush, wu]; simp; (repeat' split) <;> simp_all
    · simp only [oPush, wu]; (repeat' split) <;> (dsimp only; omega)
  by_cases h2 : kd = 2
  · subst h2
    refine (looked2 w b c f n h hn hn0 tw N M P X Y B).mono ?_
    rintro e w' ⟨rfl, h1, h4⟩
    refine ⟨rfl, stepped_mk h1 (Or.inl ?_) ?_ h4⟩
    · simp only [nx, oPop, wd]; simp; (repeat' split) <;> simp_all
    · simp only [oPop, wd]; (repeat' split) <;> (dsimp only; omega)
  by_cases h3 : kd = 3
  · subst h3
    refine (looked3 w b c f n h hn hn0 tw N M P X Y B).mono ?_
    rintro e w' ⟨rfl, h1, h4⟩
    refine ⟨rfl, stepped_mk h1 (Or.inl (by simp [nx])) (by omega) h4⟩
  by_cases h4 : kd = 4
  · subst h4
    refine (looked4 w b c f n h hn hn0 tw N M P X Y B).mono ?_
    rintro e w' ⟨rfl, h1, h4⟩
    refine ⟨rfl, stepped_mk h1 (Or.inl ?_) ?_ h4⟩
    · simp only [nx, oDup, oPush, wu]; simp; (repeat' split) <;> simp_all
    · simp only [oDup, oPush, wu]; (repeat' split) <;> (dsimp only; omega)
  by_cases h5 : kd = 5
  · subst h5
    refine (looked5 w b c f n h hn hn0 tw N M P X Y B).mono ?_
    rintro e w' ⟨rfl, h1, h4⟩
    refine ⟨rfl, stepped_mk h1 (Or.inl ?_) ?_ h4⟩
    · simp only [nx, oSwap]; simp; (repeat' split) <;> simp_all
    · simp only [oSwap]; (repeat' split) <;> (dsimp only; omega)
  by_cases h6 : kd = 6
  · subst h6
    refine (looked6 w b c f n h hn hn0 tw N M P X Y B).mono ?_
    rintro e w' ⟨rfl, h1, h4⟩
    refine ⟨rfl, stepped_mk h1 (Or.inl ?_) ?_ h4⟩
    · simp only [nx, oExch]; simp; (repeat' split) <;> simp_all
    · simp only [oExch]; (repeat' split) <;> (dsimp only; omega)
  by_cases h12 : kd = 12
  · subst h12
    refine (looked12 w b c f n h hn hn0 tw N M P X Y B).mono ?_
    rintro e w' ⟨rfl, h1, h4⟩
    refine ⟨rfl, stepped_mk h1 (Or.inl (by simp [nx])) (by omega) h4⟩
  by_cases h13 : kd = 13
  · subst h13
    refine (looked13 w b c f n h hn hn0 tw N M P X Y B).mono ?_
    rintro e w' ⟨rfl, ⟨f', n', h1, h2, h3⟩, h4⟩
    exact ⟨rfl, stepped_mk h1 (by simp) (by omega) h4⟩
  refine (looked_other w b c f n h hn hn0 kd (by simpa using h1) (by simpa using h2) (by simpa using h3) (by simpa using h4) (by simpa using h5) (by simpa using h6) (by simpa using h12) (by simpa using h13) tw N M P X Y B).mono ?_
  have h1_ := h1
  have h2_ := h2
  have h4_ := h4
  rintro e w' ⟨rfl, h1, h4⟩
  exact ⟨rfl, stepped_mk h1 (Or.inl (by unfold nx; rw [if_neg h1_, if_neg h2_, if_neg h4_, if_neg (by omega), if_neg (by omega), if_neg (by omega)])) (by omega) h4⟩
theorem unlooked_any (w : World) (b c : Nat) (f : Ring) (n : Int) (h : Two w b c f n) (hn : n ≤ 4611686018427387904) (hn0 : -4611686018427387904 ≤ n) (kd : Int) (tw : Bool) (N M P : Int) (X Y : W4) (B : Value) (hk : 6 < kd) (hk2 : kd < 12 ∨ 14 ≤ kd) : Calls Try.prog 42 #[sideV b c, opV kd tw N M P X Y B] w fun e w' => e = .returned (.bool true) ∧ Stepped w w' b c kd n N := by
  have wu := wrap_up hn hn0
  have wd := wrap_dn hn hn0
  by_cases h7 : kd = 7
  · subst h7
    refine (unlooked7 w b c f n h hn hn0 tw N M P X Y B).mono ?_
    rintro e w' ⟨rfl, h1, h4⟩
    rw [wu] at h1
    refine ⟨rfl, stepped_mk h1 (Or.inl (by simp [nx])) (by omega) h4⟩
  by_cases h8 : kd = 8
  · subst h8
    refine (unlooked8 w b c f n h hn hn0 tw N M P X Y B).mono ?_
    rintro e w' ⟨rfl, h1, h4⟩
    rw [wd] at h1
    refine ⟨rfl, stepped_mk h1 (Or.inl (by simp [nx])) (by omega) h4⟩
  by_cases h9 : kd = 9
  · subst h9
    refine (unlooked9 w b c f n h hn hn0 tw N M P X Y B).mono ?_
    rintro e w' ⟨rfl, h1, h4⟩
    refine ⟨rfl, stepped_mk h1 (Or.inl (by simp [nx])) (by omega) h4⟩
  by_cases h10 : kd = 10
  · subst h10
    refine (unlooked10 w b c f n h hn hn0 tw N M P X Y B).mono ?_
    rintro e w' ⟨rfl, h1, h4⟩
    rw [wu] at h1
    refine ⟨rfl, stepped_mk h1 (Or.inl (by simp [nx])) (by omega) h4⟩
  by_cases h11 : kd = 11
  · subst h11
    refine (unlooked11 w b c f n h hn hn0 tw N M P X Y B).mono ?_
    rintro e w' ⟨rfl, h1, h4⟩
    refine ⟨rfl, stepped_mk h1 (Or.inl (by simp [nx])) (by omega) h4⟩
  by_cases h14 : kd = 14
  · subst h14
    refine (unlooked14 w b c f n h hn hn0 tw N M P X Y B).mono ?_
    rintro e w' ⟨rfl, ⟨f', n', h1, h2, h3⟩, h4⟩
    exact ⟨rfl, stepped_mk h1 (by simp) (by omega) h4⟩
  by_cases h15 : kd = 15
  · subst h15
    refine (unlooked15 w b c f n h hn hn0 tw N M P X Y B).mono ?_
    rintro e w' ⟨rfl, ⟨f', n', h1, h2, h3⟩, h4⟩
    exact ⟨rfl, stepped_mk h1 (by simp) (by omega) h4⟩
  refine (unlooked_other w b c f n h hn hn0 kd (by simpa using h7) (by simpa using h8) (by simpa using h9) (by simpa using h10) (by simpa using h11) (by simpa using h14) (by simpa using h15) tw N M P X Y B).mono ?_
  rintro e w' ⟨rfl, h1, h4⟩
  exact ⟨rfl, stepped_mk h1 (Or.inl (by unfold nx; rw [if_neg (by omega), if_neg (by omega), if_neg (by omega), if_neg h7, if_neg h10, if_neg h8])) (by omega) h4⟩
set_option maxHeartbeats 1000000 in
set_option maxRecDepth 100000 in
theorem stacked_any (w : World) (b c : Nat) (f : Ring) (n : Int) (h : Two w b c f n) (hn : n ≤ 4611686018427387904) (hn0 : -4611686018427387904 ≤ n) (kd : Int) (tw : Bool) (N M P : Int) (X Y : W4) (B : Value) : Calls Try.prog 10 #[sideV b c, opV kd tw N M P X Y B] w fun e w' => e = .returned (.bool true) ∧ Stepped w w' b c kd n N := by
  have b1 : Below w.heap.size w (w.alloc (sideO b c)) := (Below.refl _ _).alloc (Nat.le_refl _) _
  have b2 : Hid (Below w.heap.size w ((w.alloc (sideO b c)).alloc (opO kd tw N M P X Y B))) := b1.alloc b1.size _
  have h2 := h.past b2.out
  have END : Hid (∀ w', Stepped ((w.alloc (sideO b c)).alloc (opO kd tw N M P X Y B)) w' b c kd n N → Stepped w w' b c kd n N) := fun w' hs => ⟨hs.1, (below_but b2.out).trans hs.2⟩
  have LL : Hid (kd ≤ 6 ∨ 11 < kd ∧ kd < 14 → Calls Try.prog 11 #[sideV b c, opV kd tw N M P X Y B] ((w.alloc (sideO b c)).alloc (opO kd tw N M P X Y B)) fun e w' => e = .returned (.bool true) ∧ Stepped ((w.alloc (sideO b c)).alloc (opO kd tw N M P X Y B)) w' b c kd n N) := looked_any _ b c f n h2 hn hn0 kd tw N M P X Y B
  have UU : Hid (6 < kd → kd < 12 ∨ 14 ≤ kd → Calls Try.prog 42 #[sideV b c, opV kd tw N M P X Y B] ((w.alloc (sideO b c)).alloc (opO kd tw N M P X Y B)) fun e w' => e = .returned (.bool true) ∧ Stepped ((w.alloc (sideO b c)).alloc (opO kd tw N M P X Y B)) w' b c kd n N) := unlooked_any _ b c f n h2 hn hn0 kd tw N M P X Y B
  clear h h2 b1 b2
  by_cases c1 : 7 ≤ kd
  · by_cases c2 : kd ≤ 11
    · have C : Hid _ := UU.out (by omega) (by omega)
      clear UU LL
      unfold sideV opV
      go_enter Try.func10, Try.ntmps10
      go_wp2_with (go_at_call 42; refine Calls.mono C.out ?_; rintro e v1 ⟨rfl, h1⟩; (have HE : Hid (Stepped w v1 b c kd n N) := END.out _ h1); clear h1 C END)
      go_ret
      exact ⟨rfl, HE.out⟩
    · by_cases c3 : 14 ≤ kd
      · have C : Hid _ := UU.out (by omega) (by omega)
        clear UU LL
        unfold sideV opV
        go_enter Try.func10, Try.ntmps10
        go_wp2_with (go_at_call 42; refine Calls.mono C.out ?_; rintro e v1 ⟨rfl, h1⟩; (have HE : Hid (Stepped w v1 b c kd n N) := END.out _ h1); clear h1 C END)
        go_ret
        exact ⟨rfl, HE.out⟩
      · have C : Hid _ := LL.out (by omega)
        clear UU LL
        unfold sideV opV
        go_enter Try.func10, Try.ntmps10
        go_wp2_with (go_at_call 11; refine Calls.mono C.out ?_; rintro e v1 ⟨rfl, h1⟩; (have HE : Hid (Stepped w v1 b c kd n N) := END.out _ h1); clear h1 C END)
        go_ret
        exact ⟨rfl, HE.out⟩
  · have c3 : ¬ (14 ≤ kd) := by omega
    have C : Hid _ := LL.out (by omega)
    clear UU LL
    unfold sideV opV
    go_enter Try.func10, Try.ntmps10
    go_wp2_with (go_at_call 11; refine Calls.mono C.out ?_; rintro e v1 ⟨rfl, h1⟩; (have HE : Hid (Stepped w v1 b c kd n N) := END.out _ h1); clear h1 C END)
    go_ret
    exact ⟨rfl, HE.out⟩
end Go.Proofs.Ytdddmebihkdkjaa
