/- op.Of by the table. -/
import Derived.Test.YtcjmbpchdeapiaaDoorOpd
import Derived.Deep.QuietTactic
import Derived.BigQuiet
import Derived.Deep.CutRange
import Derived.Deep.DeepCutAuto
import Derived.Deep.RegionHeld3
import Derived.LoopTactic
import Derived.Laws.ResultCell
import Derived.Deep.MidRow
namespace Go.Proofs.YtcjmbpchdeapiaaDoor
open Go.RowKit
theorem none_T : ∀ c : Fin 256, (decide ((96 ≤ c.val ∧ c.val < 165) ∨ c.val = 32 ∨ c.val / 16 = 0 ∨ c.val / 16 = 1 ∨ c.val / 16 = 3 ∨ c.val / 16 = 4 ∨ c.val / 16 = 5 ∨ c.val / 16 = 13 ∨ c.val / 16 = 14 ∨ c.val / 16 = 15) || (nameL.getD c.val []).isEmpty) = true := by decide +kernel
set_option maxHeartbeats 1000000 in
theorem nameOf_plain (C : Int) (s : ByteArray) (h : (C < 96 ∧ C ≠ 32) ∨ 164 < C) (w : World) (hs : Calls Tryd.prog 55 #[.int .i64 C] w fun e w' => e = .returned (.string s) ∧ w' = w) :
    Calls Tryd.prog 42 #[.int .i64 C] w fun e w' => e = .returned (.string s) ∧ w' = w := by
  rcases h with ⟨h1, h2⟩ | h1
  · have g1 : ¬ 96 ≤ C := by omega
    have g2 : ¬ 128 ≤ C := by omega
    have g3 : ¬ 144 ≤ C := by omega
    have g4 : ¬ 160 ≤ C := by omega
    go_enter Tryd.func42, Tryd.ntmps42
    go_wp2_with (go_at_call 55; refine hs.mono ?_; rintro e w' ⟨rfl, hw⟩; rw [hw])
    go_ret
    exact ⟨rfl, rfl⟩
  · have g1 : ¬ C ≤ 127 := by omega
    have g2 : ¬ C ≤ 143 := by omega
    have g3 : ¬ C ≤ 159 := by omega
    have g4 : ¬ C ≤ 164 := by omega
    have g5 : 96 ≤ C := by omega
    have g6 : 128 ≤ C := by omega
    have g7 : 144 ≤ C := by omega
    have g8 : 160 ≤ C := by omega
    have g9 : C ≠ 32 := by omega
    go_enter Tryd.func42, Tryd.ntmps42
    go_wp2_with (go_at_call 55; refine hs.mono ?_; rintro e w' ⟨rfl, hw⟩; rw [hw])
    go_ret
    exact ⟨rfl, rfl⟩
theorem nameOf_is (c : Nat) (hc : c < 256) (w : World) (hn : Nms w) : Calls Tryd.prog 42 #[.int .i64 (c : Int)] w fun e w' => e = .returned (.string (nameT c)) ∧ w' = w := by
  by_cases hN : Numb c
  · exact nameOf_num c hN w
  · unfold Numb at hN
    refine nameOf_plain (c : Int) (nameT c) (by omega) w ?_
    have hb := and15 ⟨c, hc⟩
    have hm : c % 16 < 16 := by omega
    have hk : ∀ k, c / 16 = k → 16 * k + c % 16 = c := by omega
    by_cases h0 : c / 16 = 0
    · exact plain_0 (c : Int) (c % 16) hm _ (by omega) hb w (by have := hn 0 _ rfl (c % 16) hm; rw [hk 0 h0] at this; exact this)
    by_cases h1 : c / 16 = 1
    · exact plain_1 (c : Int) (c % 16) hm _ (by omega) hb w (by have := hn 1 _ rfl (c % 16) hm; rw [hk 1 h1] at this; exact this)
    by_cases h3 : c / 16 = 3
    · exact plain_3 (c : Int) (c % 16) hm _ (by omega) hb w (by have := hn 3 _ rfl (c % 16) hm; rw [hk 3 h3] at this; exact this)
    by_cases h4 : c / 16 = 4
    · exact plain_4 (c : Int) (c % 16) hm _ (by omega) hb w (by have := hn 4 _ rfl (c % 16) hm; rw [hk 4 h4] at this; exact this)
    by_cases h5 : c / 16 = 5
    · exact plain_5 (c : Int) (c % 16) hm _ (by omega) hb w (by have := hn 5 _ rfl (c % 16) hm; rw [hk 5 h5] at this; exact this)
    by_cases hD : c / 16 = 13
    · exact plain_13 (c : Int) (c % 16) hm _ (by omega) hb w (by have := hn 13 _ rfl (c % 16) hm; rw [hk 13 hD] at this; exact this)
    by_cases hE : c / 16 = 14
    · exact plain_14 (c : Int) (c % 16) hm _ (by omega) hb w (by have := hn 14 _ rfl (c % 16) hm; rw [hk 14 hE] at this; exact this)
    by_cases hF : c / 16 = 15
    · exact plain_15 (c : Int) (c % 16) hm _ (by omega) hb w (by have := hn 15 _ rfl (c % 16) hm; rw [hk 15 hF] at this; exact this)
    have hz := none_T ⟨c, hc⟩
    rw [decide_eq_false (show ¬ ((96 ≤ c ∧ c < 165) ∨ c = 32 ∨ c / 16 = 0 ∨ c / 16 = 1 ∨ c / 16 = 3 ∨ c / 16 = 4 ∨ c / 16 = 5 ∨ c / 16 = 13 ∨ c / 16 = 14 ∨ c / 16 = 15) by omega), Bool.false_or] at hz
    have he : nameT c = ⟨#[]⟩ := by unfold nameT; rw [List.isEmpty_iff.1 hz]
    rw [he]
    exact plain_none (c : Int) _ rfl (by omega) w
theorem nameOf_out (C : Int) (hC : C < 0 ∨ 255 < C) (w : World) : Calls Tryd.prog 42 #[.int .i64 C] w fun e w' => e = .returned (.string ⟨#[]⟩) ∧ w' = w :=
  nameOf_plain C _ (by omega) w (plain_none C _ rfl (by omega) w)
theorem Nms.past {w W : World} (h : Nms w) (hB : Below w.heap.size w W) : Nms W := fun k g hk i hi =>
  (hB.cell (p := ⟨g, i, none⟩) (World.block_lt_of_cell? w _ (h k g hk i hi))).trans (h k g hk i hi)
/-- is it an instruction? -/
def isOp (c : Nat) : Bool := !(nameL.getD c []).isEmpty
theorem isOp_name (c : Nat) : (nameT c).toList.isEmpty = !isOp c := by
  have e : (nameT c).toList = nameL.getD c [] := by rw [ByteArray.toList_eq]; rfl
  rw [e]; unfold isOp; rw [Bool.not_not]
/-- its row -/
def opv (c : Nat) : Value := .agg #[.int .i64 (c : Int), .string (nameT c), .int .i64 (immT c), .int .i64 (inT c), .int .i64 (outT c), .int .i64 (gasT c), .bool (endsT c)]
def opz : Value := .agg #[.int .i64 0, .string ⟨#[]⟩, .int .i64 0, .int .i64 0, .int .i64 0, .int .i64 0, .bool false]
set_option maxHeartbeats 2000000 in
theorem of_is (c : Nat) (hc : c < 256) (w : World) (hn : Nms w) (hop : isOp c = true) : Calls Tryd.prog 31 #[.int .i64 (c : Int)] w fun e w' => e = .returned (.tuple #[opv c, .bool true]) ∧ Below w.heap.size w w' := by
  have hs : (nameT c).toList.isEmpty = false := by rw [isOp_name, hop]; rfl
  have hA : Below w.heap.size w (w.alloc (.cells #[.int .i64 0, .string ⟨#[]⟩, .int .i64 0, .int .i64 0, .int .i64 0, .int .i64 0, .bool false] 56)) := (Below.refl _ w).alloc (Nat.le_refl _) _
  have HN := nameOf_is c hc _ (hn.past hA)
  have HI := immOf_is c hc
  have HJ := inOf_is c hc
  have HO := outOf_is c hc
  have HG := gasOf_is c hc
  have HE := endsOf_is c hc
  clear hn
  unfold opv
  generalize nameT c = s at *
  generalize immT c = i1 at *
  generalize inT c = i2 at *
  generalize outT c = i3 at *
  generalize gasT c = i4 at *
  generalize endsT c = i5 at *
  go_enter Tryd.func31, Tryd.ntmps31
  go_wp2_with (first
    | (go_at_call 42; refine HN.mono ?_; rintro e w' ⟨rfl, hw⟩; rw [hw])
    | (go_at_call 43; refine (HI _).mono ?_; rintro e w' ⟨rfl, hw⟩; rw [hw])
    | (go_at_call 44; refine (HJ _).mono ?_; rintro e w' ⟨rfl, hw⟩; rw [hw])
    | (go_at_call 45; refine (HO _).mono ?_; rintro e w' ⟨rfl, hw⟩; rw [hw])
    | (go_at_call 46; refine (HG _).mono ?_; rintro e w' ⟨rfl, hw⟩; rw [hw])
    | (go_at_call 47; refine (HE _).mono ?_; rintro e w' ⟨rfl, hw⟩; rw [hw]))
  clear HN HI HJ HO HG HE hA
  refine ⟨rfl, _, (results_cell_tmp rfl _ _ _).trans ?_, rfl, (Below.refl _ w).alloc (Nat.le_refl _) _⟩
  go_simp
set_option maxHeartbeats 2000000 in
theorem of_none (C : Int) (w : World) (HN : ∀ W, Below w.heap.size w W → Calls Tryd.prog 42 #[.int .i64 C] W fun e w' => e = .returned (.string ⟨#[]⟩) ∧ w' = W) : Calls Tryd.prog 31 #[.int .i64 C] w fun e w' => e = .returned (.tuple #[opz, .bool false]) ∧ Below w.heap.size w w' := by
  have hA : Below w.heap.size w (w.alloc (.cells #[.int .i64 0, .string ⟨#[]⟩, .int .i64 0, .int .i64 0, .int .i64 0, .int .i64 0, .bool false] 56)) := (Below.refl _ w).alloc (Nat.le_refl _) _
  have HM := HN _ hA
  have hs : (⟨#[]⟩ : ByteArray).toList.isEmpty = true := by rw [ByteArray.toList_eq]; rfl
  clear HN
  unfold opz
  go_enter Tryd.func31, Tryd.ntmps31
  go_wp2_with (go_at_call 42; refine HM.mono ?_; rintro e w' ⟨rfl, hw⟩; rw [hw])
  clear HM hA hs
  refine ⟨rfl, _, (results_cell_tmp rfl _ _ _).trans ?_, rfl, (Below.refl _ w).alloc (Nat.le_refl _) _⟩
  go_simp
/-- is a number an instruction? -/
def opB (C : Int) : Bool := decide (0 ≤ C ∧ C < 256) && isOp C.toNat
def opV (C : Int) : Value := if opB C then opv C.toNat else opz
theorem of_any (C : Int) (w : World) (hn : Nms w) : Calls Tryd.prog 31 #[.int .i64 C] w fun e w' => e = .returned (.tuple #[opV C, .bool (opB C)]) ∧ Below w.heap.size w w' := by
  unfold opV
  by_cases h : 0 ≤ C ∧ C < 256
  · have e : opB C = isOp C.toNat := by unfold opB; rw [decide_eq_true h]; rfl
    rw [e]
    obtain ⟨c, rfl⟩ : ∃ c : Nat, C = (c : Int) := ⟨C.toNat, by omega⟩
    cases ho : isOp c with
    | true =>
      rw [Int.toNat_natCast, ho, if_pos rfl]
      exact of_is c (by omega) w hn ho
    | false =>
      rw [Int.toNat_natCast, ho, if_neg (by decide)]
      have he : nameT c = ⟨#[]⟩ := by
        have h0 : nameL.getD c [] = [] := by
          unfold isOp at ho
          rw [Bool.not_eq_false'] at ho
          exact List.isEmpty_iff.1 ho
        unfold nameT
        rw [h0]
      exact of_none _ w (fun W hB => by have := nameOf_is c (by omega) W (hn.past hB); rw [he] at this; exact this)
  · have e : opB C = false := by unfold opB; rw [decide_eq_false h]; rfl
    rw [e, if_neg (by decide)]
    exact of_none C w (fun W _ => nameOf_out C (by omega) W)
end Go.Proofs.YtcjmbpchdeapiaaDoor
