/- Package container: checkPieces, the parts of a type, checkTypes, Check. -/
import Derived.Test.YtndhabhlajldeaaBkb
import Derived.WalkKit
import Derived.WalkSpells
import Derived.WalkLawsBesides
import Derived.Deep.QuietTactic
import Derived.BigQuiet
import Derived.BigRegion
import Derived.OwnWalk
import Derived.Laws.OwnMore
import Derived.Deep.CutRange
import Derived.Deep.CutBlock
import Derived.Deep.DeepCutAuto
import Derived.LoopTactic
import Derived.LoopN
import Derived.WalkMore
import Derived.Laws.EntriesVeiled
namespace Go.Proofs.Ytndhabhlajldeaa
open Go.RowKit
theorem drop_at {α : Type} {l : List α} {k : Nat} {x : α} (h : l[k]? = some x) : l.drop k = x :: l.drop (k + 1) := by
  obtain ⟨hk, rfl⟩ := List.getElem?_eq_some_iff.1 h
  exact List.drop_eq_getElem_cons hk
set_option maxHeartbeats 2000000 in
set_option maxRecDepth 100000 in
theorem checkPieces_is {P : Nat → Prop} (w : World) (v : Value) (ll : List (List Nat)) (m : Nat) (h : PL P w v ll) (hm : m ≤ 4294967295) : Calls Try.prog 56 #[v, .int .u64 (m : Int)] w fun e w' => e = .returned (.int .i64 (chkP m ll)) ∧ w' = w := by
  obtain ⟨ad, cap, rfl, hc0, hc1⟩ := h.len
  have HP : Hid (PL P w (.slice ad ll.length cap) ll) := h
  have HD : Hid (chkP m ll = chkP m (ll.drop 0)) := by unfold Hid; rw [List.drop_zero]
  have nI : (ll.length : Int) ≤ 1152921504606846976 := by omega
  have HM : Hid (m ≤ 4294967295) := hm
  generalize hn : ll.length = n at *
  have HN : Hid (ll.length = n) := hn
  clear h hc0 hc1 hm hn
  generalize hr : chkP m ll = r at *
  clear hr
  go_enter Try.func56, Try.ntmps56
  go_wp2
  go_loopw [9] (fun s9 wr => ∃ k : Nat, s9 = .int .i64 (k : Int) ∧ k ≤ n ∧ wr = w ∧ r = chkP m (ll.drop k)) (fun s9 _ => n - (intOf s9).toNat)
  case atStart => exact ⟨0, rfl, by omega, rfl, HD.out⟩
  case round =>
    obtain ⟨k, rfl, hk, rfl, hr⟩ := hrel
    have HR : Hid (r = chkP m (ll.drop k)) := hr
    clear hr HD
    by_cases e : k = n
    · subst e
      have E0 : Hid (r = 0) := by unfold Hid; rw [HR.out, List.drop_eq_nil_of_le (by have := HN.out; omega)]; rfl
      go_wp2
      go_ret
      exact ⟨by rw [E0.out]; rfl, rfl⟩
    · have kn : k < n := by omega
      have knI : (k : Int) < (n : Int) := by omega
      obtain ⟨l, hl⟩ : ∃ l, ll[k]? = some l := ⟨ll[k]'(by have := HN.out; omega), List.getElem?_eq_getElem _⟩
      obtain ⟨g, a, u, rfl, hcell, hb⟩ := HP.out.get hl
      obtain ⟨ad2, cap2, rfl, _, hl1⟩ := hb.len
      have HL : Hid (ll[k]? = some l) := hl
      have mI : (l.length : Int) ≤ 1152921504606846976 := by omega
      have EL : Hid (chkP m (ll.drop k) = if l.length = 0 then 56 else if m < l.length then 2 else chkP m (ll.drop (k + 1))) := by unfold Hid; rw [drop_at HL.out]; rfl
      clear hl hb hl1
      generalize hq : l.length = q at *
      clear hq
      by_cases e0 : q = 0
      · subst e0
        have E0 : Hid (r = 56) := by unfold Hid; rw [HR.out, EL.out, if_pos rfl]
        go_wp2
        go_ret
        exact ⟨by rw [E0.out]; rfl, rfl⟩
      · have wq : IntKind.u64.wrap (q : Int) = (q : Int) := by rw [IntKind.wrap_u64]; omega
        have q0 : ((q : Int) == 0) = false := by simp; omega
        by_cases e1 : m < q
        · have E0 : Hid (r = 2) := by unfold Hid; rw [HR.out, EL.out, if_neg e0, if_pos e1]
          have c1 : (m : Int) < (q : Int) := by omega
          clear e0
          go_wp2
          go_ret
          exact ⟨by rw [E0.out]; rfl, rfl⟩
        · have E0 : Hid (r = chkP m (ll.drop (k + 1))) := by unfold Hid; rw [HR.out, EL.out, if_neg e0, if_neg e1]
          have c1 : ¬ (m : Int) < (q : Int) := by omega
          clear e0 e1
          go_wp2
          go_roundw
          case rel => exact ⟨k + 1, by first | rfl | go_num, by omega, by first | rfl | trivial, E0.out⟩
          case measure => simp [intOf]; omega
theorem of0_is (w : World) (b o : Nat) : Calls Try.prog 106 #[.pointer (some ⟨b, o, none⟩)] w fun e w' => e = .returned (.pointer (some ⟨b, o, none⟩)) ∧ w' = w := by
  go_enter Try.func106, Try.ntmps106
  go_wp2
  go_ret
  exact ⟨rfl, rfl⟩
theorem of1_is (w : World) (b o : Nat) : Calls Try.prog 108 #[.pointer (some ⟨b, o, none⟩)] w fun e w' => e = .returned (.pointer (some ⟨b, o + 1, none⟩)) ∧ w' = w := by
  go_enter Try.func108, Try.ntmps108
  go_wp2
  go_ret
  exact ⟨rfl, rfl⟩
theorem of2_is (w : World) (b o : Nat) : Calls Try.prog 110 #[.pointer (some ⟨b, o, none⟩)] w fun e w' => e = .returned (.pointer (some ⟨b, o + 2, none⟩)) ∧ w' = w := by
  go_enter Try.func110, Try.ntmps110
  go_wp2
  go_ret
  exact ⟨rfl, rfl⟩
set_option maxHeartbeats 1000000 in
theorem right0_is (w : World) (i : Nat) (x : Int) : Calls Try.prog 107 #[.int .i64 (i : Int), .int .i64 x] w fun e w' => e = .returned (.bool (okIn i x)) ∧ w' = w := by
  by_cases e0 : x = 0
  · subst e0
    go_enter Try.func107, Try.ntmps107
    go_wp2
    go_ret
    exact ⟨by simp [okIn], rfl⟩
  have c0 : (x == 0) = false := by simpa using e0
  by_cases e1 : i = 0
  · subst e1
    have E : Hid (okIn 0 x = false) := by unfold Hid okIn; simp [e0]
    clear e0
    generalize okIn 0 x = r at *
    go_enter Try.func107, Try.ntmps107
    go_wp2
    go_ret
    exact ⟨by rw [E.out]; rfl, rfl⟩
  have c1 : (0 : Int) < (i : Int) := by omega
  have E : Hid (okIn i x = (decide (0 < x) && decide (x ≤ 127))) := by unfold Hid okIn; rw [c0, Bool.false_or, decide_eq_true (show 0 < i by omega), Bool.true_and]
  generalize okIn i x = r at *
  clear e0 e1
  by_cases e2 : 0 < x
  · by_cases e3 : x ≤ 127
    · go_enter Try.func107, Try.ntmps107
      go_wp2
      go_ret
      exact ⟨by rw [E.out]; simp [e2, e3], rfl⟩
    · go_enter Try.func107, Try.ntmps107
      go_wp2
      go_ret
      exact ⟨by rw [E.out]; simp [e2, e3], rfl⟩
  · go_enter Try.func107, Try.ntmps107
    go_wp2
    go_ret
    exact ⟨by rw [E.out, decide_eq_false (show ¬ 0 < x by omega)]; rfl, rfl⟩
set_option maxHeartbeats 1000000 in
theorem right1_is (w : World) (i : Nat) (x : Int) : Calls Try.prog 109 #[.int .i64 (i : Int), .int .i64 x] w fun e w' => e = .returned (.bool (okOut i x)) ∧ w' = w := by
  by_cases e0 : x = 128
  · subst e0
    go_enter Try.func109, Try.ntmps109
    go_wp2
    go_ret
    exact ⟨by simp [okOut], rfl⟩
  have c0 : (x == 128) = false := by simpa using e0
  by_cases e1 : i = 0
  · subst e1
    have E : Hid (okOut 0 x = false) := by unfold Hid okOut; simp [e0]
    clear e0
    generalize okOut 0 x = r at *
    go_enter Try.func109, Try.ntmps109
    go_wp2
    go_ret
    exact ⟨by rw [E.out]; rfl, rfl⟩
  have c1 : (0 : Int) < (i : Int) := by omega
  have E : Hid (okOut i x = (decide (0 ≤ x) && decide (x < 128))) := by unfold Hid okOut; rw [c0, Bool.false_or, decide_eq_true (show 0 < i by omega), Bool.true_and]
  generalize okOut i x = r at *
  clear e0 e1
  by_cases e2 : 0 ≤ x
  · by_cases e3 : x < 128
    · go_enter Try.func109, Try.ntmps109
      go_wp2
      go_ret
      exact ⟨by rw [E.out]; simp [e2, e3], rfl⟩
    · go_enter Try.func109, Try.ntmps109
      go_wp2
      go_ret
      exact ⟨by rw [E.out]; simp [e2, e3], rfl⟩
  · go_enter Try.func109, Try.ntmps109
    go_wp2
    go_ret
    exact ⟨by rw [E.out, decide_eq_false (show ¬ 0 ≤ x by omega)]; rfl, rfl⟩
set_option maxHeartbeats 1000000 in
theorem right2_is (w : World) (i : Nat) (x : Int) : Calls Try.prog 111 #[.int .i64 (i : Int), .int .i64 x] w fun e w' => e = .returned (.bool (okMost x)) ∧ w' = w := by
  by_cases e2 : 0 ≤ x
  · by_cases e3 : x ≤ 1023
    · go_enter Try.func111, Try.ntmps111
      go_wp2
      go_ret
      exact ⟨by simp [okMost, e2, e3], rfl⟩
    · go_enter Try.func111, Try.ntmps111
      go_wp2
      go_ret
      exact ⟨by simp [okMost, e2, e3], rfl⟩
  · go_enter Try.func111, Try.ntmps111
    go_wp2
    go_ret
    exact ⟨by rw [okMost, decide_eq_false (show ¬ 0 ≤ x by omega)]; rfl, rfl⟩
def pF (n : Nat) : Value := .func (.func n) #[] #[]
def partsL : List Value := [.int .i64 1, pF 106, pF 107, .int .i64 1, pF 108, pF 109, .int .i64 2, pF 110, pF 111]
def partsV : Value := .agg partsL.toArray
set_option maxHeartbeats 1000000 in
theorem typeParts_is (w : World) : Calls Try.prog 87 #[] w fun e w' => e = .returned partsV ∧ Below w.heap.size w w' := by
  have B0 : Hid (Below w.heap.size w (w.alloc (.cells partsL.toArray 109))) := (Below.refl _ _).alloc (Nat.le_refl _) _
  go_enter Try.func87, Try.ntmps87
  go_wp2
  exact bodyPost_ret (v := partsV) (by simp [results, Try.results87, go_sem, partsV, partsL, pF]) rfl ⟨rfl, B0.out⟩
end Go.Proofs.Ytndhabhlajldeaa
