/- Package code: ends, stands, pair. -/
import Derived.Test.YtcjmbpchdeapiaaDoorCdc
import Derived.Test.YtcjmbpchdeapiaaDoorNdb
namespace Go.Proofs.YtcjmbpchdeapiaaDoor
open Go.RowKit
theorem BytesOf.hd {W : World} {v : Value} {m : Nat} {b : Nat → Nat} (h : BytesOf W v m b) (hm : m ≤ 9223372036854775807) : Hd W v m (b 0) := by
  obtain ⟨ad, cap, h1, h2, h3, h4⟩ := h
  refine ⟨ad, cap, h1, hm, h2 0, fun hn => ?_⟩
  obtain ⟨g, o, e, hc⟩ := h4 hn
  exact ⟨g, o, e, hc 0 (by omega)⟩
/-- does a row of this code end a section? -/
def endsV (C : Int) : Bool := opB C && endsT C.toNat
theorem opV_ends (C : Int) : ∃ (c : Int) (s : ByteArray) (i j k g : Int), opV C = .agg #[.int .i64 c, .string s, .int .i64 i, .int .i64 j, .int .i64 k, .int .i64 g, .bool (endsV C)] := by
  unfold opV endsV
  cases h : opB C with
  | true => rw [if_pos rfl]; exact ⟨_, _, _, _, _, _, rfl⟩
  | false => rw [if_neg (by decide)]; exact ⟨_, _, _, _, _, _, rfl⟩
set_option maxHeartbeats 1000000 in
theorem ends_is (w : World) (hN : Nms w) (x0 C x3 : Int) (ad : Option Addr) (n cap : Nat) : Calls Tryd.prog 24 #[.agg #[.int .i64 x0, .int .i64 C, .slice ad n cap, .int .i64 x3]] w fun e w' => e = .returned (.bool (endsV C)) ∧ Below w.heap.size w w' := by
  obtain ⟨c, s, i1, i2, i3, i4, hV⟩ := opV_ends C
  have HO : Hid (∀ W : World, Below w.heap.size w W → Calls Tryd.prog 31 #[.int .i64 C] W fun e w' => e = .returned (.tuple #[.agg #[.int .i64 c, .string s, .int .i64 i1, .int .i64 i2, .int .i64 i3, .int .i64 i4, .bool (endsV C)], .bool (opB C)]) ∧ Below W.heap.size W w') := fun W hB => by have := of_any C W (hN.past hB); rw [hV] at this; exact this
  clear hV
  generalize endsV C = b5 at HO ⊢
  generalize opB C = ob at HO
  have B0 : Hid (Below w.heap.size w (w.alloc (.cells #[.int .i64 x0, .int .i64 C, .slice ad n cap, .int .i64 x3] 40))) := (Below.refl _ w).alloc (Nat.le_refl _) _
  go_enter Tryd.func24, Tryd.ntmps24
  go_wp2_with (go_at_call 31; refine (HO.out _ B0.out).mono ?_; rintro e w1 ⟨rfl, hB⟩; (have B1 : Hid (Below w.heap.size w w1) := B0.out.trans (hB.mono B0.out.size)); clear hB)
  go_ret
  exact ⟨rfl, B1.out.alloc B1.out.size _⟩
/-- may it be an instruction? -/
def standsV (x0 C x3 : Int) (m b0 : Nat) : Bool := decide (0 ≤ x0 ∧ x0 ≤ 1048576 ∧ x3 = x0 + 1 + m) && (opB C && fitsB (immT C.toNat) m b0)
theorem nv_ok (C : Int) (n b : Nat) : ∃ a1 a2, NV C n b = .tuple #[.int .i64 a1, .int .i64 a2, .bool (opB C && fitsB (immT C.toNat) n b)] := by
  unfold NV
  split
  · rename_i h; exact ⟨_, _, by rw [h.1, h.2]; rfl⟩
  · rename_i h
    refine ⟨0, 0, ?_⟩
    have : (opB C && fitsB (immT C.toNat) n b) = false := by
      cases h1 : opB C with
      | false => rfl
      | true => cases h2 : fitsB (immT C.toNat) n b with
        | false => rfl
        | true => exact absurd ⟨h1, h2⟩ h
    rw [this]
set_option maxHeartbeats 1000000 in
theorem stands_is (w : World) (hN : Nms w) (x0 C x3 : Int) (v : Value) (m : Nat) (b : Nat → Nat) (hm : m ≤ 140737488355328) (hv : BytesOf w v m b) : Calls Tryd.prog 52 #[.agg #[.int .i64 x0, .int .i64 C, v, .int .i64 x3]] w fun e w' => e = .returned (.bool (standsV x0 C x3 m (b 0))) ∧ Below w.heap.size w w' := by
  obtain ⟨a1, a2, hNV⟩ := nv_ok C m (b 0)
  have HO : Hid (∀ W : World, Below w.heap.size w W → Calls Tryd.prog 57 #[.int .i64 C, v] W fun e w' => e = .returned (.tuple #[.int .i64 a1, .int .i64 a2, .bool (opB C && fitsB (immT C.toNat) m (b 0))]) ∧ Below W.heap.size W w') := fun W hB => by have := needs_is C v m (b 0) W (hN.past hB) ((hv.below rfl hB).hd (by omega)); rw [hNV] at this; exact this
  clear hNV
  unfold standsV
  generalize (opB C && fitsB (immT C.toNat) m (b 0)) = ok at HO ⊢
  obtain ⟨ad, cap, rfl, _⟩ := hv
  have B0 : Hid (Below w.heap.size w (w.alloc (.cells #[.int .i64 x0, .int .i64 C, .slice ad m cap, .int .i64 x3] 40))) := (Below.refl _ w).alloc (Nat.le_refl _) _
  have mI : (m : Int) ≤ 140737488355328 := by omega
  by_cases h0 : x0 < 0
  · rw [decide_eq_false (by omega), Bool.false_and]
    go_enter Tryd.func52, Tryd.ntmps52
    go_wp2
    go_ret
    exact ⟨rfl, B0.out⟩
  · by_cases h1 : (1048576 : Int) < x0
    · rw [decide_eq_false (by omega), Bool.false_and]
      go_enter Tryd.func52, Tryd.ntmps52
      go_wp2
      go_ret
      exact ⟨rfl, B0.out⟩
    · have p0 : 0 ≤ x0 := by omega
      have p1 : x0 ≤ 1048576 := by omega
      by_cases h2 : x3 = x0 + 1 + (m : Int)
      · rw [decide_eq_true ⟨p0, p1, h2⟩, Bool.true_and]
        subst h2
        go_enter Tryd.func52, Tryd.ntmps52
        go_wp2_with (go_at_call 57; refine (HO.out _ B0.out).mono ?_; rintro e w1 ⟨rfl, hB⟩; (have B1 : Hid (Below w.heap.size w w1) := B0.out.trans (hB.mono B0.out.size)); clear hB)
        go_ret
        exact ⟨rfl, B1.out⟩
      · rw [decide_eq_false (by omega), Bool.false_and]
        go_enter Tryd.func52, Tryd.ntmps52
        go_wp2
        go_ret
        exact ⟨rfl, B0.out⟩
end Go.Proofs.YtcjmbpchdeapiaaDoor
