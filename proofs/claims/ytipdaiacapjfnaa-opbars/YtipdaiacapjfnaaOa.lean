/- OpBars: what both say of a code and a kind, and the law's walk. -/
import Derived.Test.YtipdaiacapjfnaaRows
import Derived.WalkKit
import Derived.WalkSpells
import Derived.WalkLawsBesides
import Derived.Deep.QuietTactic
import Derived.BigQuiet
import Derived.Deep.CutRange
import Derived.Deep.DeepCutAuto
import Derived.Deep.RegionHeld3
import Derived.LoopTactic
namespace Go.Proofs.Ytipdaiacapjfnaa
open Go.RowKit
/-- what the document says -/
def bars (c k : Int) : Bool := if k = 2 then (c == 0 || c == 243) else if k = 1 then c == 238 else true
set_option maxHeartbeats 400000 in
theorem bars_op (c k : Int) (w : World) : Calls Try.prog 4 #[.int .i64 c, .int .i64 k] w fun e w' => e = .returned (.bool (bars c k)) ∧ w' = w := by
  go_enter Try.func4, Try.ntmps4
  go_wp2
  all_goals (go_ret; simp_all [bars])
set_option maxHeartbeats 400000 in
theorem bars_ref (c k : Int) (w : World) : Calls Try.prog 5 #[.int .i64 c, .int .i64 k] w fun e w' => e = .returned (.bool (bars c k)) ∧ w' = w := by
  go_enter Try.func5, Try.ntmps5
  go_wp2
  all_goals (go_ret; simp_all [bars])
theorem op0 {x : Oper} {r : List Oper} : (x :: r).toArray[0]? = some x := rfl
theorem op1 {q0 x : Oper} {r : List Oper} : (q0 :: x :: r).toArray[1]? = some x := rfl
theorem op2 {q0 q1 x : Oper} {r : List Oper} : (q0 :: q1 :: x :: r).toArray[2]? = some x := rfl
theorem op3 {q0 q1 q2 x : Oper} {r : List Oper} : (q0 :: q1 :: q2 :: x :: r).toArray[3]? = some x := rfl
theorem op4 {q0 q1 q2 q3 x : Oper} {r : List Oper} : (q0 :: q1 :: q2 :: q3 :: x :: r).toArray[4]? = some x := rfl
theorem op5 {q0 q1 q2 q3 q4 x : Oper} {r : List Oper} : (q0 :: q1 :: q2 :: q3 :: q4 :: x :: r).toArray[5]? = some x := rfl
theorem op6 {q0 q1 q2 q3 q4 q5 x : Oper} {r : List Oper} : (q0 :: q1 :: q2 :: q3 :: q4 :: q5 :: x :: r).toArray[6]? = some x := rfl
theorem op7 {q0 q1 q2 q3 q4 q5 q6 x : Oper} {r : List Oper} : (q0 :: q1 :: q2 :: q3 :: q4 :: q5 :: q6 :: x :: r).toArray[7]? = some x := rfl
theorem op8 {q0 q1 q2 q3 q4 q5 q6 q7 x : Oper} {r : List Oper} : (q0 :: q1 :: q2 :: q3 :: q4 :: q5 :: q6 :: q7 :: x :: r).toArray[8]? = some x := rfl
theorem op9 {q0 q1 q2 q3 q4 q5 q6 q7 q8 x : Oper} {r : List Oper} : (q0 :: q1 :: q2 :: q3 :: q4 :: q5 :: q6 :: q7 :: q8 :: x :: r).toArray[9]? = some x := rfl
theorem op10 {q0 q1 q2 q3 q4 q5 q6 q7 q8 q9 x : Oper} {r : List Oper} : (q0 :: q1 :: q2 :: q3 :: q4 :: q5 :: q6 :: q7 :: q8 :: q9 :: x :: r).toArray[10]? = some x := rfl
theorem op11 {q0 q1 q2 q3 q4 q5 q6 q7 q8 q9 q10 x : Oper} {r : List Oper} : (q0 :: q1 :: q2 :: q3 :: q4 :: q5 :: q6 :: q7 :: q8 :: q9 :: q10 :: x :: r).toArray[11]? = some x := rfl
theorem op12 {q0 q1 q2 q3 q4 q5 q6 q7 q8 q9 q10 q11 x : Oper} {r : List Oper} : (q0 :: q1 :: q2 :: q3 :: q4 :: q5 :: q6 :: q7 :: q8 :: q9 :: q10 :: q11 :: x :: r).toArray[12]? = some x := rfl
theorem op13 {q0 q1 q2 q3 q4 q5 q6 q7 q8 q9 q10 q11 q12 x : Oper} {r : List Oper} : (q0 :: q1 :: q2 :: q3 :: q4 :: q5 :: q6 :: q7 :: q8 :: q9 :: q10 :: q11 :: q12 :: x :: r).toArray[13]? = some x := rfl
theorem op14 {q0 q1 q2 q3 q4 q5 q6 q7 q8 q9 q10 q11 q12 q13 x : Oper} {r : List Oper} : (q0 :: q1 :: q2 :: q3 :: q4 :: q5 :: q6 :: q7 :: q8 :: q9 :: q10 :: q11 :: q12 :: q13 :: x :: r).toArray[14]? = some x := rfl
theorem op15 {q0 q1 q2 q3 q4 q5 q6 q7 q8 q9 q10 q11 q12 q13 q14 x : Oper} {r : List Oper} : (q0 :: q1 :: q2 :: q3 :: q4 :: q5 :: q6 :: q7 :: q8 :: q9 :: q10 :: q11 :: q12 :: q13 :: q14 :: x :: r).toArray[15]? = some x := rfl
theorem op16 {q0 q1 q2 q3 q4 q5 q6 q7 q8 q9 q10 q11 q12 q13 q14 q15 x : Oper} {r : List Oper} : (q0 :: q1 :: q2 :: q3 :: q4 :: q5 :: q6 :: q7 :: q8 :: q9 :: q10 :: q11 :: q12 :: q13 :: q14 :: q15 :: x :: r).toArray[16]? = some x := rfl
/-- the cells of a list of numbers -/
def IntsAt (W : World) (la : Option Addr) (n : Nat) (z : Nat → Int) : Prop := n ≠ 0 → ∃ g o, la = some ⟨g, o, none⟩ ∧ ∀ i, i < n → W.cell? ⟨g, o + i, none⟩ = some (.int .i64 (z i))
theorem IntsAt.below {W W' : World} {la : Option Addr} {n : Nat} {z : Nat → Int} (h : IntsAt W la n z) (k : Below W.heap.size W W') : IntsAt W' la n z := fun hn => by
  obtain ⟨g, o, e, hc⟩ := h hn
  exact ⟨g, o, e, fun i hi => (k.cell (p := ⟨g, o + i, none⟩) (World.block_lt_of_cell? W _ (hc i hi))).trans (hc i hi)⟩
set_option maxHeartbeats 1000000 in
set_option maxRecDepth 100000 in
theorem opBars_walk (w : World) (la : Option Addr) (n cap : Nat) (z : Nat → Int) (kd : Int) (hn : n ≤ 9223372036854775807) (hc : IntsAt w la n z) :
    Calls Try.prog 3 #[.slice la n cap, .int .i64 kd] w fun e w' => e = .returned (.bool true) ∧ Below w.heap.size w w' := by
  have HC : Hid (IntsAt w la n z) := hc
  clear hc
  by_cases hb : 5000 < n
  · have hI : (5000 : Int) < (n : Int) := by omega
    go_enter Try.func3, Try.ntmps3
    go_wp2
    go_ret
    exact ⟨rfl, Below.refl _ _⟩
  · have nI : ¬ (5000 : Int) < (n : Int) := by omega
    have nL : (n : Int) ≤ 5000 := by omega
    go_enter Try.func3, Try.ntmps3
    go_wp2
    go_loopw [5] (fun si wx => ∃ i : Nat, i ≤ n ∧ si = .int .i64 (i : Int) ∧ Below w.heap.size w wx) (fun si _ => n - (intOf si).toNat)
    case atStart => exact ⟨0, by omega, rfl, Below.refl _ _⟩
    case round =>
      obtain ⟨i, hin, rfl, hB⟩ := hrel
      have BB : Hid (Below w.heap.size w wr) := hB
      clear hB
      by_cases hi : i < n
      · have iI : (i : Int) < (n : Int) := by omega
        obtain ⟨g, o, rfl, hcl⟩ := HC.out (by omega)
        have hci := hcl i hi
        obtain ⟨c, ec⟩ : ∃ c, z i = c := ⟨_, rfl⟩
        rw [ec] at hci
        have gl := World.block_lt_of_cell? w _ hci
        have CC : Hid (w.cell? ⟨g, o + i, none⟩ = some (.int .i64 c)) := hci
        clear hcl hci ec
        go_wp2
        go_loopw [6] (fun sd wx => ∃ j : Nat, j ≤ 3 ∧ sd = .int .i64 ((j : Int) - 1) ∧ Below w.heap.size w wx) (fun sd _ => (2 - intOf sd).toNat)
        case atStart => exact ⟨0, by omega, rfl, BB.out⟩
        case round =>
          obtain ⟨j, hj, rfl, hB⟩ := hrel
          clear BB
          have BC : Hid (Below w.heap.size w wr) := hB
          clear hB
          by_cases hj3 : j < 3
          · obtain ⟨d, ed⟩ : ∃ d : Int, (j : Int) - 1 = d := ⟨_, rfl⟩
            rw [ed]
            have d1 : d ≤ 1 := by omega
            have d0 : -1 ≤ d := by omega
            obtain ⟨K, eK⟩ : ∃ K, IntKind.i64.wrap (kd + d) = K := ⟨_, rfl⟩
            have BO : Hid (∀ W : World, Calls Try.prog 4 #[.int .i64 c, .int .i64 K] W fun e w' => e = .returned (.bool (bars c K)) ∧ w' = W) := fun W => bars_op c K W
            have BR : Hid (∀ W : World, Calls Try.prog 5 #[.int .i64 c, .int .i64 K] W fun e w' => e = .returned (.bool (bars c K)) ∧ w' = W) := fun W => bars_ref c K W
            generalize bars c K = bb at BO BR
            have ED : Hid ((j : Int) - 1 = d) := ed
            clear ed
            go_upto_region 9 with fail
            have hS0 : Below w.heap.size w wr.drew ∧ wr.drew.cell? ⟨g, o + i, none⟩ = some (.int .i64 c) := ⟨BC.out.drew, (BC.out.cell (p := ⟨g, o + i, none⟩) gl).trans CC.out⟩
            refine wp_region_held_drew (S := fun w' => Below w.heap.size w w' ∧ w'.cell? ⟨g, o + i, none⟩ = some (.int .i64 c)) (by kernel_rfl) hS0 (fun hHeld => ?_)
            generalize wr.drew = g1 at hS0 hHeld ⊢
            clear hS0
            refine wpAnyH_take (i := 0) (v := .slice (some ⟨g, o, none⟩) n cap) op0 (by kernel_rfl) (by kernel_rfl) (by kernel_rfl) (fun _ _ _ h => h) (Or.inl ⟨by rfl, fun W _ => ?_⟩) hHeld ?_
            · go_simp
            simp only [Act.put, List.setIfInBounds_toArray, List.set_cons_zero, List.set_cons_succ]
            refine wpAnyH_take (i := 1) (v := .int .i64 (i : Int)) op1 (by kernel_rfl) (by kernel_rfl) (by kernel_rfl) (fun _ _ _ h => h) (Or.inl ⟨by rfl, fun W _ => ?_⟩) hHeld ?_
            · go_simp
            simp only [Act.put, List.setIfInBounds_toArray, List.set_cons_zero, List.set_cons_succ]
            refine wpAnyH_take (i := 2) (v := .pointer (some ⟨g, o + i, none⟩)) op2 (by kernel_rfl) (by kernel_rfl) (by kernel_rfl) (fun _ _ _ h => h) (Or.inl ⟨by rfl, fun W _ => ?_⟩) hHeld ?_
            · go_simp
            simp only [Act.put, List.setIfInBounds_toArray, List.set_cons_zero, List.set_cons_succ]
            refine wpAnyH_take (i := 3) (v := .int .i64 c) op3 (by kernel_rfl) (by kernel_rfl) (by kernel_rfl) (fun _ _ _ h => h) (Or.inl ⟨by rfl, fun W hS => ?_⟩) hHeld ?_
            · have k1 := hS.2
              go_simp
            simp only [Act.put, List.setIfInBounds_toArray, List.set_cons_zero, List.set_cons_succ]
            refine wpAnyH_take (i := 4) (v := .int .i64 kd) op4 (by kernel_rfl) (by kernel_rfl) (by kernel_rfl) (fun _ _ _ h => h) (Or.inl ⟨by rfl, fun W _ => ?_⟩) hHeld ?_
            · go_simp
            simp only [Act.put, List.setIfInBounds_toArray, List.set_cons_zero, List.set_cons_succ]
            refine wpAnyH_take (i := 5) (v := .int .i64 d) op5 (by kernel_rfl) (by kernel_rfl) (by kernel_rfl) (fun _ _ _ h => h) (Or.inl ⟨by rfl, fun W _ => ?_⟩) hHeld ?_
            · go_simp
            simp only [Act.put, List.setIfInBounds_toArray, List.set_cons_zero, List.set_cons_succ]
            refine wpAnyH_take (i := 6) (v := .int .i64 K) op6 (by kernel_rfl) (by kernel_rfl) (by kernel_rfl) (fun _ _ _ h => h) (Or.inl ⟨by rfl, fun W _ => ?_⟩) hHeld ?_
            · go_simp
            simp only [Act.put, List.setIfInBounds_toArray, List.set_cons_zero, List.set_cons_succ]
            refine wpAnyH_take (i := 8) (v := .slice (some ⟨g, o, none⟩) n cap) op8 (by kernel_rfl) (by kernel_rfl) (by kernel_rfl) (fun _ _ _ h => h) (Or.inl ⟨by rfl, fun W _ => ?_⟩) hHeld ?_
            · go_simp
            simp only [Act.put, List.setIfInBounds_toArray, List.set_cons_zero, List.set_cons_succ]
            refine wpAnyH_take (i := 9) (v := .int .i64 (i : Int)) op9 (by kernel_rfl) (by kernel_rfl) (by kernel_rfl) (fun _ _ _ h => h) (Or.inl ⟨by rfl, fun W _ => ?_⟩) hHeld ?_
            · go_simp
            simp only [Act.put, List.setIfInBounds_toArray, List.set_cons_zero, List.set_cons_succ]
            refine wpAnyH_take (i := 10) (v := .pointer (some ⟨g, o + i, none⟩)) op10 (by kernel_rfl) (by kernel_rfl) (by kernel_rfl) (fun _ _ _ h => h) (Or.inl ⟨by rfl, fun W _ => ?_⟩) hHeld ?_
            · go_simp
            simp only [Act.put, List.setIfInBounds_toArray, List.set_cons_zero, List.set_cons_succ]
            refine wpAnyH_take (i := 11) (v := .int .i64 c) op11 (by kernel_rfl) (by kernel_rfl) (by kernel_rfl) (fun _ _ _ h => h) (Or.inl ⟨by rfl, fun W hS => ?_⟩) hHeld ?_
            · have k1 := hS.2
              go_simp
            simp only [Act.put, List.setIfInBounds_toArray, List.set_cons_zero, List.set_cons_succ]
            refine wpAnyH_take (i := 12) (v := .int .i64 kd) op12 (by kernel_rfl) (by kernel_rfl) (by kernel_rfl) (fun _ _ _ h => h) (Or.inl ⟨by rfl, fun W _ => ?_⟩) hHeld ?_
            · go_simp
            simp only [Act.put, List.setIfInBounds_toArray, List.set_cons_zero, List.set_cons_succ]
            refine wpAnyH_take (i := 13) (v := .int .i64 d) op13 (by kernel_rfl) (by kernel_rfl) (by kernel_rfl) (fun _ _ _ h => h) (Or.inl ⟨by rfl, fun W _ => ?_⟩) hHeld ?_
            · go_simp
            simp only [Act.put, List.setIfInBounds_toArray, List.set_cons_zero, List.set_cons_succ]
            refine wpAnyH_take (i := 14) (v := .int .i64 K) op14 (by kernel_rfl) (by kernel_rfl) (by kernel_rfl) (fun _ _ _ h => h) (Or.inl ⟨by rfl, fun W _ => ?_⟩) hHeld ?_
            · go_simp
            simp only [Act.put, List.setIfInBounds_toArray, List.set_cons_zero, List.set_cons_succ]
            refine wpAnyH_ready (rs := [7]) (by kernel_rfl) (by simp) ?_
            refine AllReadyH.cons op7 (fun KK hK => ?_) AllReadyH.nil
            rw [if_pos (by rfl)]
            go_simp
            refine (BO.out _).mono ?_
            rintro e w1 ⟨rfl, hw⟩
            have hw2 := hw.symm
            clear hw
            subst hw2
            (try go_wp2_with fail)
            refine hK.out _ _ hHeld (fun _ => ?_)
            clear hK KK
            refine wpAnyH_ready (rs := [15]) (by kernel_rfl) (by simp) ?_
            refine AllReadyH.cons op15 (fun KK hK => ?_) AllReadyH.nil
            rw [if_pos (by rfl)]
            go_simp
            refine (BR.out _).mono ?_
            rintro e w1 ⟨rfl, hw⟩
            have hw2 := hw.symm
            clear hw
            subst hw2
            (try go_wp2_with fail)
            refine hK.out _ _ hHeld (fun _ => ?_)
            clear hK KK
            refine wpAnyH_take (i := 16) (v := .bool false) op16 (by kernel_rfl) (by kernel_rfl) (by kernel_rfl) (fun _ _ _ h => h) (Or.inl ⟨by rfl, fun W _ => ?_⟩) hHeld ?_
            · go_simp
            simp only [Act.put, List.setIfInBounds_toArray, List.set_cons_zero, List.set_cons_succ]
            refine wpAnyH_done (by kernel_rfl) ?_ _
            have B1 : Hid (Below w.heap.size w g1) := hHeld.1
            clear hHeld BO BR eK
            go_wp2
            go_roundw
            case rel => exact ⟨j + 1, by omega, by have := ED.out; first | go_num | (congr 1; omega), B1.out⟩
            case measure => simp [intOf]; have := ED.out; omega
          · obtain rfl : j = 3 := by omega
            go_wp2
            go_roundw
            case rel => exact ⟨i + 1, by omega, by go_num, BC.out⟩
            case measure => simp [intOf]; omega
      · obtain rfl : i = n := by omega
        have B2 : Hid (∀ W : World, Calls Try.prog 4 #[.int .i64 0, .int .i64 2] W fun e w' => e = .returned (.bool true) ∧ w' = W) := fun W => bars_op 0 2 W
        have B1 : Hid (∀ W : World, Calls Try.prog 4 #[.int .i64 0, .int .i64 1] W fun e w' => e = .returned (.bool false) ∧ w' = W) := fun W => bars_op 0 1 W
        go_wp2_with (first
          | (go_at_call_of 4 (2 : Int); refine (B2.out _).mono ?_; rintro e w1 ⟨rfl, hw⟩; (have hw2 := hw.symm); clear hw; subst hw2)
          | (go_at_call_of 4 (1 : Int); refine (B1.out _).mono ?_; rintro e w1 ⟨rfl, hw⟩; (have hw2 := hw.symm); clear hw; subst hw2))
        go_ret
        exact ⟨rfl, BB.out⟩
end Go.Proofs.Ytipdaiacapjfnaa
