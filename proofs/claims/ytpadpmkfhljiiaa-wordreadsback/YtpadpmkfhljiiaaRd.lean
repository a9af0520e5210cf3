/- The document's 'small', 'cut', 'bit', 'word'. -/
import Derived.Test.YtpadpmkfhljiiaaRb
import Derived.Test.YtpadpmkfhljiiaaXi
import Derived.Deep.QuietTactic
import Derived.BigQuiet
namespace Go.Proofs.Ytpadpmkfhljiiaa
open Go.RowKit
theorem dsum_split (d : Nat → Nat) (a : Nat) : ∀ b, dsum d (a + b) = dsum d a + 256 ^ a * dsum (fun r => d (a + r)) b
  | 0 => by simp [dsum]
  | b + 1 => by
    rw [← Nat.add_assoc, dsum, dsum_split d a b, dsum, Nat.mul_add, Nat.pow_add]
    have : d (a + b) * (256 ^ a * 256 ^ b) = 256 ^ a * (d (a + b) * 256 ^ b) := by rw [Nat.mul_left_comm]
    omega
theorem dsum_front (d : Nat → Nat) (k : Nat) : dsum d (k + 1) = d 0 + 256 * dsum (fun r => d (1 + r)) k := by
  have := dsum_split d 1 k
  rw [Nat.add_comm 1 k] at this
  rw [this]; simp [dsum]
theorem dsum_mod {d : Nat → Nat} (hd : ∀ i, d i < 256) (n c : Nat) : dsum d n % 256 ^ c = dsum (fun i => if i < c then d i else 0) n := by
  by_cases h : n ≤ c
  · have h1 := dsum_lt hd n
    have h2 : 256 ^ n ≤ 256 ^ c := Nat.pow_le_pow_right (by omega) h
    rw [Nat.mod_eq_of_lt (by omega)]
    exact dsum_ext n fun i hi => by rw [if_pos (by omega)]
  · obtain ⟨b, rfl⟩ : ∃ b, n = c + b := ⟨n - c, by omega⟩
    rw [dsum_split, Nat.add_mul_mod_self_left, Nat.mod_eq_of_lt (dsum_lt hd c)]
    rw [dsum_more (n := c) (fun i hi => by simp only [show ¬ (i < c) by omega, if_false]) (c + b) (by omega)]
    exact dsum_ext c fun i hi => by rw [if_pos hi]
def cutD (d : Nat → Nat) (c i : Nat) : Nat := if i < c then d i else 0
def oneD (i : Nat) : Nat := if i = 0 then 1 else 0
theorem cutD_lt {d : Nat → Nat} (hd : ∀ i, d i < 256) (c i : Nat) : cutD d c i < 256 := by unfold cutD; split; exact hd i; omega
theorem cutD_sum {d : Nat → Nat} (hd : ∀ i, d i < 256) (n c : Nat) : dsum (cutD d c) n = dsum d n % 256 ^ c := (dsum_mod hd n c).symm
set_option maxHeartbeats 1000000 in
set_option maxRecDepth 100000 in
/-- small(1) -/
theorem small1_is (w : World) : Calls Try.prog 66 #[.int .i64 1] w fun e w' => ∃ v, e = .returned v ∧ RowAt w' v 1 oneD ∧ Below w.heap.size w w' := by
  obtain ⟨i0, hi, hz0, hz1, hz2⟩ := info_parts Try.infoI
  have t1 : Int.tmod 1 256 = 1 := by decide
  have t2 : Int.tdiv 1 256 = 0 := by decide
  have N0 : Hid (w.ownsRow w.heap.size 3 1 (.slice none 0 0) 0 []) := World.ownsRow_nil _ _ _ _
  go_enter Try.func66, Try.ntmps66
  go_wp2
  refine wp_loop_rounds 3 ?_
  rw [rounds_succ]
  go_wp2_with (at_builtin; refine wpList_append_own _ rfl _ _ 52 rfl w.heap.size 3 i0 (.int .i64 0) 1 8 Try.underlying52 hi hz0 hz1 hz2 rfl (by decide) _ _ _ rfl (World.ownsRow.alloc N0.out _) ⟨w.heap.size, 0, none⟩ 1 1 [.int .i64 1] rfl rfl (fun j u hj => (by have hj0 : j = 0 := (by have := (List.getElem?_eq_some_iff.1 hj).1; simpa using this); subst hj0; simp at hj; subst hj; simp [Addr.add])) (fun u hu => (by rw [List.mem_singleton.1 hu]; rfl)) (by unfold maxLen; omega) (by omega) (by simp) ?_; intro v' w1 hown' hgrow _)
  have R : Hid (w1.ownsRow w.heap.size 3 1 v' 1 (intsD oneD 1)) := by unfold Hid; simpa [intsD, oneD] using hown'
  have B1 : Hid (Below w.heap.size w w1) := Below.grown ((Below.refl _ _).alloc (Nat.le_refl _) _) hgrow (by simp) (fun k h => by cases h)
  clear hown' hgrow
  go_wp2
  rw [rounds_succ]
  go_wp2
  go_ret
  exact ⟨_, rfl, RowAt.own R.out (fun i => by unfold oneD; split <;> omega) (fun i hi => by unfold oneD; rw [if_neg (by omega)]) (by omega), B1.out⟩
set_option maxHeartbeats 1000000 in
set_option maxRecDepth 100000 in
/-- the first c digits -/
theorem cut_is (w : World) (v : Value) (n : Nat) (d : Nat → Nat) (hv : RowAt w v n d) (c : Nat) (hc : c ≤ 1048576) :
    Calls Try.prog 67 #[v, .int .i64 (c : Int)] w fun e w' => ∃ u, e = .returned u ∧ RowAt w' u (min c n) (cutD d c) ∧ Below w.heap.size w w' := by
  obtain ⟨K, eK⟩ : ∃ K, K = min c n := ⟨_, rfl⟩
  rw [← eK]
  have EK : Hid (K = min c n) := eK
  obtain ⟨hz, hd, hn, ad, cap, rfl, hcc⟩ := hv
  obtain ⟨i0, hi, hz0, hz1, hz2⟩ := info_parts Try.infoI
  have HC : Hid _ := hcc
  have HZ : Hid _ := hz
  have HD : Hid _ := hd
  have cI : (c : Int) ≤ 1048576 := by omega
  have nI : (n : Int) ≤ 1073741824 := by omega
  have kI0 : K ≤ 1048576 := by omega
  clear hcc hz hd eK
  go_enter Try.func67, Try.ntmps67
  go_wp2
  go_loopw [5, 6] (fun s5 i wr => ∃ k : Nat, k ≤ K ∧ i = .int .i64 k ∧ wr.ownsRow w.heap.size 3 1 s5 k (intsD (cutD d c) k) ∧ Below w.heap.size w wr) (fun _ i _ => K - (intOf i).toNat)
  case atStart => exact ⟨0, by omega, rfl, World.ownsRow_nil _ _ _ _, Below.refl _ _⟩
  case round =>
    obtain ⟨k, hk, rfl, hown, hB⟩ := hrel
    have HOW : Hid _ := hown
    have HB : Hid _ := hB
    have b0 := hB.size
    by_cases hk5 : k < K
    · have kI : (k : Int) < (c : Int) := by have := EK.out; omega
      have kI2 : (k : Int) < (n : Int) := by have := EK.out; omega
      have kn : k < n := by omega
      obtain ⟨g, o, rfl, hcl⟩ := HC.out (by omega)
      have cell := (hB.cell (p := ⟨g, o + k, none⟩) (World.block_lt_of_cell? w _ (hcl k (by omega)))).trans (hcl k (by omega))
      obtain ⟨y, ey⟩ : ∃ y, y = d k := ⟨_, rfl⟩
      rw [← ey] at cell
      have EY : Hid (y = (cutD d c) k) := by unfold Hid cutD; rw [if_pos (by omega)]; exact ey
      clear hown hB hcl ey
      go_wp2_with (at_builtin; refine wpList_append_own _ rfl _ _ 52 rfl w.heap.size 3 i0 (.int .i64 0) 1 8 Try.underlying52 hi hz0 hz1 hz2 rfl (by decide) _ _ _ rfl (World.ownsRow.alloc HOW.out _) ⟨wr.heap.size, 0, none⟩ 1 1 [.int .i64 (y : Int)] rfl rfl (fun j u hj => (by have hj0 : j = 0 := (by have := (List.getElem?_eq_some_iff.1 hj).1; simpa using this); subst hj0; simp at hj; subst hj; simp [Addr.add])) (fun u hu => (by rw [List.mem_singleton.1 hu]; rfl)) (by unfold maxLen; omega) (by omega) (by simp; omega) ?_; intro v' w1 hown' hgrow _)
      have R : Hid _ := of_step EY.out HOW.out HB.out hown' hgrow
      clear hown' hgrow
      go_wp2
      go_roundw
      case rel => exact ⟨k + 1, by omega, by go_num, R.out⟩
      case measure => simp [intOf]; omega
    · obtain rfl : k = K := by omega
      clear hown hB
      have FIN : Hid (RowAt wr u5 k (cutD d c)) := RowAt.own HOW.out (cutD_lt HD.out c) (fun i hi => by
        unfold cutD
        by_cases q : i < c
        · rw [if_pos q]; exact HZ.out i (by have := EK.out; omega)
        · rw [if_neg q]) (by omega)
      by_cases hcn : n < c
      · have k1 : (k : Int) < (c : Int) := by have := EK.out; omega
        have k2 : ¬ ((k : Int) < (n : Int)) := by have := EK.out; omega
        go_wp2
        go_ret
        exact ⟨_, rfl, FIN.out, HB.out⟩
      · have k1 : ¬ ((k : Int) < (c : Int)) := by have := EK.out; omega
        go_wp2
        go_ret
        exact ⟨_, rfl, FIN.out, HB.out⟩
end Go.Proofs.Ytpadpmkfhljiiaa
