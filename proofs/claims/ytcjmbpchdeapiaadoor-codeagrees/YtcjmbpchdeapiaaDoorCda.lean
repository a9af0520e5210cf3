/- Package code: behind (where an instruction that begins at a place ends). -/
import Derived.Test.YtcjmbpchdeapiaaDoorOpe
import Derived.WalkMore
import Derived.ScopeJumps
import Derived.WalkKit
namespace Go.Proofs.YtcjmbpchdeapiaaDoor
open Go.RowKit
/-- how many immediate bytes an instruction has whose row says M, with t as their first -/
def immN (M : Int) (t : Nat) : Nat := if M = -1 then 1 + 2 * (t + 1) else M.toNat
theorem distances_is (t D : Nat) (ht : t < 256) (hD : D = 2 * (t + 1)) (w : World) : Calls Tryd.prog 48 #[.int .u8 (t : Int)] w fun e w' => e = .returned (.int .i64 (D : Int)) ∧ w' = w := by
  have tI : (t : Int) < 256 := by omega
  have e1 : (2 : Int) * ((t : Int) + 1) = (D : Int) := by omega
  have dI : (D : Int) ≤ 512 := by omega
  clear hD
  go_enter Tryd.func48, Tryd.ntmps48
  go_wp2
  go_ret
  exact ⟨rfl, rfl⟩
/-- what behind answers -/
def BeV (L A n : Nat) : Value := if A + 1 + n ≤ L then .tuple #[.int .i64 ((A + 1 + n : Nat) : Int), .bool true] else .tuple #[.int .i64 0, .bool false]
set_option maxHeartbeats 2000000 in
set_option maxRecDepth 100000 in
theorem behind_is (w : World) (g o L cap A t : Nat) (M : Int) (hL : L ≤ 1000000000) (hA : A < L) (hM : M = -1 ∨ (0 ≤ M ∧ M ≤ 32)) (ht : t < 256) (hc : A + 1 < L → w.cell? ⟨g, o + (A + 1), none⟩ = some (.int .u8 (t : Int))) :
    Calls Tryd.prog 32 #[.slice (some ⟨g, o, none⟩) L cap, .int .i64 (A : Int), .int .i64 M] w fun e w' => e = .returned (BeV L A (immN M t)) ∧ w' = w := by
  have LI : (L : Int) ≤ 1000000000 := by omega
  have AI : (A : Int) < (L : Int) := by omega
  obtain ⟨D, eD⟩ : ∃ D, D = 2 * (t + 1) := ⟨_, rfl⟩
  have HD : Hid (∀ W : World, Calls Tryd.prog 48 #[.int .u8 (t : Int)] W fun e w' => e = .returned (.int .i64 (D : Int)) ∧ w' = W) := fun W => distances_is t D ht eD W
  have ED : Hid (D = 2 * (t + 1)) := eD
  have dI : (D : Int) ≤ 512 := by omega
  clear eD
  obtain ⟨n, en⟩ : ∃ n, n = immN M t := ⟨_, rfl⟩
  rw [← en]
  have EN : Hid (n = immN M t) := en
  clear en
  obtain ⟨B, hB⟩ : ∃ B, B = A + 1 := ⟨_, rfl⟩
  have eB : (A : Int) + 1 = (B : Int) := by omega
  have EB : Hid (B = A + 1) := hB
  rw [← hB] at hc
  clear hB
  go_enter Tryd.func32, Tryd.ntmps32
  go_wp2
  refine wp_scope_jumps 0 (fun a' w' => w' = w ∧ ∃ (p due : Nat) (u10 u11 u12 u13 u14 u15 u16 u17 u18 u19 u20 u21 u22 u23 u24 u25 u26 u27 u28 u29 u30 u31 u32 u33 u34 u35 u36 u37 : Value), a' = { tmps := #[.slice (some ⟨g, o, none⟩) L cap, .int .i64 (A : Int), .int .i64 M, undef, undef, undef, .int .i64 0, .bool false, .int .i64 (due : Int), .int .i64 (p : Int), u10, u11, u12, u13, u14, u15, u16, u17, u18, u19, u20, u21, u22, u23, u24, u25, u26, u27, u28, u29, u30, u31, u32, u33, u34, u35, u36, u37], defers := [] } ∧ A + 1 ≤ p ∧ p + due = A + n ∧ p < L) (fun a' _ => (intOf (a'.tmps.getD 8 undef)).toNat) rfl ?_ ?_
  · by_cases h1 : M = -1
    · subst h1
      have n1 : n = 1 + D := by rw [EN.out, ED.out]; rfl
      by_cases hq : (B : Int) = (L : Int)
      · go_wp2
        go_step3
        go_wp2
        simp only [Exit.jump]
        exact bodyPost_ret (results_tmp2 rfl _ _ _) rfl ⟨by unfold BeV; rw [if_neg (by have := EB.out; omega)]; rfl, rfl⟩
      · have bL : (B : Int) < (L : Int) := by have := EB.out; omega
        have k0 := hc (by omega)
        go_wp2
        go_step3
        go_wp2_with (go_at_call 48; refine (HD.out _).mono ?_; rintro e w' ⟨rfl, hw⟩; rw [hw]; clear hw)
        go_step3
        exact ⟨rfl, rfl, B, D, _, _, _, _, _, _, _, _, _, _, _, _, _, _, _, _, _, _, _, _, _, _, _, _, _, _, _, _, rfl, by have := EB.out; omega, by have := EB.out; omega, by omega⟩
    · obtain ⟨m, rfl⟩ : ∃ m : Nat, M = (m : Int) := ⟨M.toNat, by omega⟩
      have n1 : n = m := by rw [EN.out]; unfold immN; rw [if_neg h1]; rfl
      by_cases h0 : m = 0
      · subst h0
        go_wp2
        go_step3
        go_wp2
        simp only [Exit.jump]
        exact bodyPost_ret (results_tmp2 rfl _ _ _) rfl ⟨by unfold BeV; rw [if_pos (by omega)]; have := EB.out; subst n1; rw [this]; rfl, rfl⟩
      · have m0 : ¬ (m : Int) = 0 := by omega
        obtain ⟨d, hd⟩ : ∃ d, m = d + 1 := ⟨m - 1, by omega⟩
        have ed : (m : Int) - 1 = (d : Int) := by omega
        have HDD : Hid (m = d + 1) := hd
        clear hd
        by_cases hq : (B : Int) = (L : Int)
        · go_wp2
          go_step3
          go_wp2
          simp only [Exit.jump]
          exact bodyPost_ret (results_tmp2 rfl _ _ _) rfl ⟨by unfold BeV; rw [if_neg (by have := EB.out; omega)]; rfl, rfl⟩
        · go_wp2
          go_step3
          go_wp2
          go_step3
          exact ⟨rfl, rfl, B, d, _, _, _, _, _, _, _, _, _, _, _, _, _, _, _, _, _, _, _, _, _, _, _, _, _, _, _, _, rfl, by have := EB.out; omega, by have := EB.out; have := HDD.out; omega, by have := EB.out; omega⟩
  · rintro a' w' ⟨rfl, p, due, u10, u11, u12, u13, u14, u15, u16, u17, u18, u19, u20, u21, u22, u23, u24, u25, u26, u27, u28, u29, u30, u31, u32, u33, u34, u35, u36, u37, rfl, hp, hpd, hpL⟩
    obtain ⟨p1, hp1⟩ : ∃ p1, p1 = p + 1 := ⟨_, rfl⟩
    have e1 : (p : Int) + 1 = (p1 : Int) := by omega
    have pb : ¬ (p1 : Int) = (B : Int) := by have := EB.out; omega
    have pL : (p : Int) < (L : Int) := by omega
    have HP1 : Hid (p1 = p + 1) := hp1
    clear hp1
    by_cases h0 : due = 0
    · subst h0
      go_wp2
      simp only [Exit.jump]
      exact bodyPost_ret (results_tmp2 rfl _ _ _) rfl ⟨by unfold BeV; rw [if_pos (by omega)]; have := HP1.out; rw [show A + 1 + n = p1 by omega]; rfl, rfl⟩
    · have d0 : ¬ (due : Int) = 0 := by omega
      have dn : (due : Int) ≤ (A : Int) + n := by omega
      have nn : (n : Int) ≤ 1000 := by
        have h := EN.out
        unfold immN at h
        split at h
        · omega
        · omega
      obtain ⟨d, hd⟩ : ∃ d, due = d + 1 := ⟨due - 1, by omega⟩
      have ed : (due : Int) - 1 = (d : Int) := by omega
      have HDD : Hid (due = d + 1) := hd
      clear hd
      by_cases hq : (p1 : Int) = (L : Int)
      · go_wp2
        simp only [Exit.jump]
        exact bodyPost_ret (results_tmp2 rfl _ _ _) rfl ⟨by unfold BeV; rw [if_neg (by have := HP1.out; omega)]; rfl, rfl⟩
      · by_cases h1 : M = -1
        · subst h1
          go_wp2
          go_step3
          exact ⟨rfl, ⟨rfl, p1, d, _, _, _, _, _, _, _, _, _, _, _, _, _, _, _, _, _, _, _, _, _, _, _, _, _, _, _, _, rfl, by have := HP1.out; omega, by have := HP1.out; have := HDD.out; omega, by have := HP1.out; omega⟩, by have := HDD.out; simp [intOf]; omega⟩
        · go_wp2
          go_step3
          exact ⟨rfl, ⟨rfl, p1, d, _, _, _, _, _, _, _, _, _, _, _, _, _, _, _, _, _, _, _, _, _, _, _, _, _, _, _, _, rfl, by have := HP1.out; omega, by have := HP1.out; have := HDD.out; omega, by have := HP1.out; omega⟩, by have := HDD.out; simp [intOf]; omega⟩
end Go.Proofs.YtcjmbpchdeapiaaDoor
