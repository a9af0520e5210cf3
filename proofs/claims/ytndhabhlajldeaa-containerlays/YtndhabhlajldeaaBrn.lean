/- The laws' helpers: sameBytes. -/
import Derived.Test.YtndhabhlajldeaaBrm
namespace Go.Proofs.Ytndhabhlajldeaa
open Go.RowKit
theorem below_dn {B : Nat} {a w : World} (h : Below B a w) (n : Nat) : Below B a (w.drewN n) := h.trans ⟨rfl, rfl, rfl, Nat.le_refl _, fun _ _ => rfl⟩
set_option maxHeartbeats 4000000 in
set_option maxRecDepth 100000 in
theorem sameBytes_is {P R : Nat → Prop} (w : World) (v u : Value) (x y : List Nat) (h : BL P w v x) (k : BL R w u y) : Calls Try.prog 37 #[v, u] w fun e w' => e = .returned (.bool (decide (x = y))) ∧ Below w.heap.size w w' := by
  obtain ⟨ad, cap, rfl, _, hx⟩ := h.len
  obtain ⟨bd, bp, rfl, _, hy⟩ := k.len
  have HX : Hid (∀ W, Below w.heap.size w W → BL P W (.slice ad x.length cap) x) := fun W hW => h.past hW
  have HY' : Hid (∀ W, Below w.heap.size w W → BL R W (.slice bd y.length bp) y) := fun W hW => k.past hW
  have nI : (x.length : Int) ≤ 1152921504606846976 := by omega
  clear h k
  by_cases e : x.length = y.length
  rotate_left
  · have ne : decide (x = y) = false := by simp only [decide_eq_false_iff_not]; exact fun q => e (by rw [q])
    rw [ne]
    generalize x.length = n at *
    generalize y.length = m at *
    have eI : ¬ (n : Int) = (m : Int) := by omega
    go_enter Try.func37, Try.ntmps37
    go_wp2
    go_ret
    exact ⟨rfl, Below.refl _ _⟩
  rw [← e] at HY' ⊢
  have HE : Hid (y.length = x.length) := e.symm
  clear e
  generalize hN : x.length = n at *
  have HN : Hid (x.length = n) := hN
  clear hN
  go_enter Try.func37, Try.ntmps37
  go_wp2
  go_loopw [5] (fun s5 wr => ∃ k : Nat, s5 = .int .i64 (k : Int) ∧ k ≤ n ∧ x.take k = y.take k ∧ Below w.heap.size w wr) (fun s5 _ => n - (intOf s5).toNat)
  case atStart => exact ⟨0, rfl, by omega, rfl, Below.refl _ _⟩
  case round =>
    obtain ⟨k, rfl, hk, ht, hw⟩ := hrel
    have HW : Hid (Below w.heap.size w wr) := hw
    clear hw
    have HT : Hid (x.take k = y.take k) := ht
    clear ht
    by_cases e : k = n
    · have e9 := e.symm
      clear e
      subst e9
      have E0 : Hid (decide (x = y) = true) := by
        unfold Hid
        have h9 := HT.out
        rw [List.take_of_length_le (by have := HN.out; omega), List.take_of_length_le (by have := HN.out; have := HE.out; omega)] at h9
        simp [h9]
      go_wp2
      go_ret
      exact ⟨by rw [E0.out] <;> rfl, HW.out⟩
    · have kn : (k : Int) < (n : Int) := by omega
      obtain ⟨p, hp⟩ : ∃ p, x[k]? = some p := ⟨x[k]'(by have := HN.out; omega), List.getElem?_eq_getElem _⟩
      obtain ⟨q, hq⟩ : ∃ q, y[k]? = some q := ⟨y[k]'(by have := HN.out; have := HE.out; omega), List.getElem?_eq_getElem _⟩
      obtain ⟨g1, a1, e1, c1⟩ := (HX.out wr HW.out).get hp
      obtain ⟨g2, a2, e2, c2⟩ := (HY'.out wr HW.out).get hq
      subst e1 e2
      by_cases e3 : p = q
      · have HS : Hid (x.take (k + 1) = y.take (k + 1)) := by unfold Hid; rw [take_snoc hp, take_snoc hq, HT.out, e3]
        subst e3
        clear hp hq e
        go_upto_region 6 with fail
        go_quiet (fail)
        go_wp2
        go_roundw
        case rel => exact ⟨k + 1, by first | rfl | go_num, by omega, HS.out, below_dn HW.out _⟩
        case measure => simp [intOf]; omega
      · have E0 : Hid (decide (x = y) = false) := by
          unfold Hid
          simp only [decide_eq_false_iff_not]
          intro q9
          rw [q9, hq] at hp
          exact e3 (Option.some.inj hp).symm
        have pq : ¬ (p : Int) = (q : Int) := by omega
        clear hp hq e
        go_upto_region 6 with fail
        go_quiet (fail)
        go_wp2
        go_ret
        exact ⟨by rw [E0.out] <;> rfl, below_dn HW.out _⟩
end Go.Proofs.Ytndhabhlajldeaa
