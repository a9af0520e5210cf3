/- The law's 'hexed' and 'digit'. -/
import Derived.Test.YteggikojfkmbkaaDoorKo
import Derived.BigQuiet
import Derived.LoopTactic
namespace Go.Proofs.YteggikojfkmbkaaDoor
open Go.RowKit
def dig (c : Nat) : Nat := if 97 ≤ c then (c + 256 - 97 + 10) % 256 else (c + 256 - 48) % 256
set_option maxHeartbeats 400000 in
theorem digit_is (c : Nat) (hc : c < 256) (w : World) : Calls Tryd.prog 37 #[.int .u8 (c : Int)] w fun e w' => e = .returned (.int .u8 (dig c : Nat)) ∧ w' = w := by
  by_cases h : 97 ≤ c
  · have hI : (97 : Int) ≤ (c : Int) := by omega
    have e1 : IntKind.u8.wrap ((c : Int) - 97) = (c : Int) - 97 := by rw [IntKind.wrap_u8]; omega
    have e2 : IntKind.u8.wrap ((c : Int) - 97 + 10) = (dig c : Nat) := by rw [IntKind.wrap_u8, dig, if_pos h]; omega
    go_enter Tryd.func37, Tryd.ntmps37
    go_wp2
    go_ret
    exact ⟨rfl, rfl⟩
  · have hI : (c : Int) < 97 := by omega
    have e2 : IntKind.u8.wrap ((c : Int) - 48) = (dig c : Nat) := by rw [IntKind.wrap_u8, dig, if_neg h]; omega
    go_enter Tryd.func37, Tryd.ntmps37
    go_wp2
    go_ret
    exact ⟨rfl, rfl⟩
/-- is this the hash, in digits? -/
def hexOk (h : Nat → Int) (s : ByteArray) : Prop := ∀ i, i < 32 → h i = (((16 * dig (s.data.toList.getD (2 * i) 0).toNat) % 256 + dig (s.data.toList.getD (2 * i + 1) 0).toNat) % 256 : Nat)
theorem str_ix (s : ByteArray) (j : Nat) (h : j < s.size) (W : World) : Sem.run Tryd.prog (Instr.index 9 (.string s) (.int .i64 (j : Int))) W = .ok (.int .u8 ((s.data.toList.getD j 0).toNat : Int)) W := by
  have h' : j < s.data.toList.length := by rw [Array.length_toList]; exact h
  have e : s[j]? = some (s.data.toList.getD j 0) := by
    rw [List.getD_eq_getElem?_getD, List.getElem?_eq_getElem h', getElem?_pos s j h]
    rfl
  simp [Instr.index, asIntOf, run_underlying Tryd.underlying9, e]
set_option maxHeartbeats 1000000 in
set_option maxRecDepth 100000 in
theorem hexed_is (h : Nat → Int) (s : ByteArray) (w : World) (hs : s.size = 64) (hx : hexOk h s) :
    Calls Tryd.prog 29 #[.agg (rowB 32 h).toArray, .string s] w fun e w' => e = .returned (.bool true) ∧ Below w.heap.size w w' := by
  obtain ⟨cs, hcs⟩ : ∃ cs, cs = (rowB 32 h).toArray := ⟨_, rfl⟩
  rw [← hcs]
  have HC : Hid (cs = (rowB 32 h).toArray) := hcs
  have HX : Hid _ := hx
  have IX : Hid _ := str_ix s
  have HS : Hid (s.size = 64) := hs
  clear hcs hx
  have hs' : (s.size : Int) = 64 := by omega
  go_enter Tryd.func29, Tryd.ntmps29
  go_wp2
  go_loopw [5] (fun i wr => ∃ k : Nat, k ≤ 32 ∧ i = .int .i64 k ∧ Below w.heap.size w wr ∧ RowB wr w.heap.size 32 h) (fun i _ => 32 - (intOf i).toNat)
  case atStart =>
    rw [HC.out]
    exact ⟨0, Nat.zero_le _, rfl, (Below.refl _ _).alloc (by omega) _, RowB.new w _ 32 h⟩
  case round =>
    obtain ⟨k, hk, rfl, hB, hR⟩ := hrel
    by_cases hk5 : k < 32
    · have kI : ((k : Int) < 32) := by omega
      obtain ⟨j0, ej0⟩ : ∃ j0 : Nat, j0 = 2 * k := ⟨_, rfl⟩
      obtain ⟨j1, ej1⟩ : ∃ j1 : Nat, j1 = 2 * k + 1 := ⟨_, rfl⟩
      have m0 : (2 : Int) * (k : Int) = (j0 : Int) := by omega
      have m1 : (j0 : Int) + 1 = (j1 : Int) := by omega
      have q0 : IntKind.i64.wrap (j0 : Int) = (j0 : Int) := by rw [IntKind.wrap_i64]; omega
      have q1 : IntKind.i64.wrap (j1 : Int) = (j1 : Int) := by rw [IntKind.wrap_i64]; omega
      have i0 := IX.out j0 (by have := HS.out; omega)
      have i1 := IX.out j1 (by have := HS.out; omega)
      have ev := HX.out k hk5
      rw [← ej1, ← ej0] at ev
      have l0 := (s.data.toList.getD j0 0).toNat_lt
      have l1 := (s.data.toList.getD j1 0).toNat_lt
      generalize (s.data.toList.getD j0 0).toNat = x0 at i0 ev l0
      generalize (s.data.toList.getD j1 0).toNat = x1 at i1 ev l1
      have D0 : Hid _ := fun W => digit_is x0 l0 W
      have D1 : Hid _ := fun W => digit_is x1 l1 W
      have w0 : IntKind.u8.wrap (16 * (dig x0 : Nat)) = ((16 * dig x0 % 256 : Nat) : Int) := by rw [IntKind.wrap_u8]; omega
      have w1 : IntKind.u8.wrap (((16 * dig x0 % 256 : Nat) : Int) + (dig x1 : Nat)) = h k := by rw [IntKind.wrap_u8, ev]; omega
      have cb := (hR k hk5).1
      generalize ((dig x0 : Nat) : Int) = y0 at D0 w0
      generalize ((dig x1 : Nat) : Int) = y1 at D1 w1
      generalize ((16 * dig x0 % 256 : Nat) : Int) = z0 at w0 w1
      generalize h k = z1 at cb w1
      have HR : Hid _ := hR
      clear ev ej0 ej1 hR l0 l1
      go_wp2
      go_quiet ((first | (go_at_call_of 37 (x0 : Int); refine Calls.quiet_of_same (D0.out _)) | (go_at_call 37; refine Calls.quiet_of_same (D1.out _))))
      go_wp2
      go_roundw
      case rel => exact ⟨k + 1, by omega, by go_num, bdrewN hB nq, fun i hi => HR.out i hi⟩
      case measure => simp [intOf]; omega
    · obtain rfl : k = 32 := by omega
      go_wp2
      go_ret
      exact ⟨rfl, hB⟩
end Go.Proofs.YteggikojfkmbkaaDoor
