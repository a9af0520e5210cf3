/- Sums, products and powers, their words named ahead. -/
import Derived.Test.YtpadpmkfhljiiaaGreatM3
import Derived.Deep.QuietTactic
import Derived.BigQuiet
import Derived.Deep.RegionWith
namespace Go.Proofs.YtpadpmkfhljiiaaGreat
open Go.RowKit
theorem isW_ex (v : Int) : ∃ a0 a1 a2 a3 : Int, IsW v a0 a1 a2 a3 := by
  refine ⟨v % 18446744073709551616, v / 18446744073709551616 % 18446744073709551616, v / 340282366920938463463374607431768211456 % 18446744073709551616, v / 6277101735386680763835789423207666416102355444464034512896 % 18446744073709551616, ⟨⟨by omega, by unfold Bd; omega⟩, ⟨by omega, by unfold Bd; omega⟩, ⟨by omega, by unfold Bd; omega⟩, ⟨by omega, by unfold Bd; omega⟩⟩, ?_⟩
  unfold V Bd MM; omega
theorem add_is (x y : Int) (a0 a1 a2 a3 b0 b1 b2 b3 p0 p1 p2 p3 : Int) (w : World) (ha : IsW x a0 a1 a2 a3) (hb : IsW y b0 b1 b2 b3) (hp : IsW (x + y) p0 p1 p2 p3) :
    Calls Tryz.prog 11 #[.agg #[.int .u64 a0, .int .u64 a1, .int .u64 a2, .int .u64 a3], .agg #[.int .u64 b0, .int .u64 b1, .int .u64 b2, .int .u64 b3]] w fun e w' => e = .returned (.agg #[.int .u64 p0, .int .u64 p1, .int .u64 p2, .int .u64 p3]) ∧ Below w.heap.size w w' := by
  refine (add_any x y a0 a1 a2 a3 b0 b1 b2 b3 w ha hb).mono ?_
  rintro e w' ⟨s0, s1, s2, s3, rfl, hs, hB⟩
  obtain ⟨rfl, rfl, rfl, rfl⟩ := hs.eq hp rfl
  exact ⟨rfl, hB⟩
theorem sub_is (x y : Int) (a0 a1 a2 a3 b0 b1 b2 b3 p0 p1 p2 p3 : Int) (w : World) (ha : IsW x a0 a1 a2 a3) (hb : IsW y b0 b1 b2 b3) (hp : IsW (x - y) p0 p1 p2 p3) :
    Calls Tryz.prog 13 #[.agg #[.int .u64 a0, .int .u64 a1, .int .u64 a2, .int .u64 a3], .agg #[.int .u64 b0, .int .u64 b1, .int .u64 b2, .int .u64 b3]] w fun e w' => e = .returned (.agg #[.int .u64 p0, .int .u64 p1, .int .u64 p2, .int .u64 p3]) ∧ Below w.heap.size w w' := by
  refine (sub_any x y a0 a1 a2 a3 b0 b1 b2 b3 w ha hb).mono ?_
  rintro e w' ⟨s0, s1, s2, s3, rfl, hs, hB⟩
  obtain ⟨rfl, rfl, rfl, rfl⟩ := hs.eq hp rfl
  exact ⟨rfl, hB⟩
theorem mul_is (x y : Int) (a0 a1 a2 a3 b0 b1 b2 b3 p0 p1 p2 p3 : Int) (w : World) (ha : IsW x a0 a1 a2 a3) (hb : IsW y b0 b1 b2 b3) (hp : IsW (x * y) p0 p1 p2 p3) :
    Calls Tryz.prog 15 #[.agg #[.int .u64 a0, .int .u64 a1, .int .u64 a2, .int .u64 a3], .agg #[.int .u64 b0, .int .u64 b1, .int .u64 b2, .int .u64 b3]] w fun e w' => e = .returned (.agg #[.int .u64 p0, .int .u64 p1, .int .u64 p2, .int .u64 p3]) ∧ Below w.heap.size w w' := by
  refine (mul_any x y a0 a1 a2 a3 b0 b1 b2 b3 w ha hb).mono ?_
  rintro e w' ⟨s0, s1, s2, s3, rfl, hs, hB⟩
  obtain ⟨rfl, rfl, rfl, rfl⟩ := hs.eq hp rfl
  exact ⟨rfl, hB⟩
theorem exp_is (x y : Int) (Y : Nat) (a0 a1 a2 a3 b0 b1 b2 b3 p0 p1 p2 p3 : Int) (w : World) (ha : IsW x a0 a1 a2 a3) (hb : IsW y b0 b1 b2 b3) (hY : V b0 b1 b2 b3 = (Y : Int)) (hp : IsW (x ^ Y) p0 p1 p2 p3) :
    Calls Tryz.prog 145 #[.agg #[.int .u64 a0, .int .u64 a1, .int .u64 a2, .int .u64 a3], .agg #[.int .u64 b0, .int .u64 b1, .int .u64 b2, .int .u64 b3]] w fun e w' => e = .returned (.agg #[.int .u64 p0, .int .u64 p1, .int .u64 p2, .int .u64 p3]) ∧ Below w.heap.size w w' := by
  refine (exp_any x y a0 a1 a2 a3 b0 b1 b2 b3 w ha hb Y hY).mono ?_
  rintro e w' ⟨s0, s1, s2, s3, rfl, hs, hB⟩
  obtain ⟨rfl, rfl, rfl, rfl⟩ := hs.eq hp rfl
  exact ⟨rfl, hB⟩
theorem eqw_same (a0 a1 a2 a3 : Int) (W : World) : Sem.run Tryz.prog (Op.equalIn 10000 24 (.agg #[.int .u64 a0, .int .u64 a1, .int .u64 a2, .int .u64 a3]) (.agg #[.int .u64 a0, .int .u64 a1, .int .u64 a2, .int .u64 a3])) W = .ok true W := by
  rw [eqw_run]; simp [eqw]
theorem eqw_un {x y : Int} (a0 a1 a2 a3 b0 b1 b2 b3 : Int) (ha : IsW x a0 a1 a2 a3) (hb : IsW y b0 b1 b2 b3) (h : x % MM ≠ y % MM) (W : World) : Sem.run Tryz.prog (Op.equalIn 10000 24 (.agg #[.int .u64 a0, .int .u64 a1, .int .u64 a2, .int .u64 a3]) (.agg #[.int .u64 b0, .int .u64 b1, .int .u64 b2, .int .u64 b3])) W = .ok false W := by
  rw [eqw_run, ha.eqf hb h]
theorem eqw_eq {x y : Int} (a0 a1 a2 a3 b0 b1 b2 b3 : Int) (ha : IsW x a0 a1 a2 a3) (hb : IsW y b0 b1 b2 b3) (h : x % MM = y % MM) (W : World) : Sem.run Tryz.prog (Op.equalIn 10000 24 (.agg #[.int .u64 a0, .int .u64 a1, .int .u64 a2, .int .u64 a3]) (.agg #[.int .u64 b0, .int .u64 b1, .int .u64 b2, .int .u64 b3])) W = .ok true W := by
  rw [eqw_run, ha.eqt hb h]
/-- the operation at a place of a region that is written out -/
theorem op0 {x : Oper} {r : List Oper} : (x :: r).toArray[0]? = some x := rfl
theorem op1 {a x : Oper} {r : List Oper} : (a :: x :: r).toArray[1]? = some x := rfl
theorem op2 {a b x : Oper} {r : List Oper} : (a :: b :: x :: r).toArray[2]? = some x := rfl
theorem op3 {a b c x : Oper} {r : List Oper} : (a :: b :: c :: x :: r).toArray[3]? = some x := rfl
theorem op4 {a b c d x : Oper} {r : List Oper} : (a :: b :: c :: d :: x :: r).toArray[4]? = some x := rfl
theorem op5 {a b c d e x : Oper} {r : List Oper} : (a :: b :: c :: d :: e :: x :: r).toArray[5]? = some x := rfl
theorem op6 {a b c d e f x : Oper} {r : List Oper} : (a :: b :: c :: d :: e :: f :: x :: r).toArray[6]? = some x := rfl
theorem op7 {a b c d e f g x : Oper} {r : List Oper} : (a :: b :: c :: d :: e :: f :: g :: x :: r).toArray[7]? = some x := rfl
theorem op8 {a b c d e f g h x : Oper} {r : List Oper} : (a :: b :: c :: d :: e :: f :: g :: h :: x :: r).toArray[8]? = some x := rfl
theorem op9 {a b c d e f g h i x : Oper} {r : List Oper} : (a :: b :: c :: d :: e :: f :: g :: h :: i :: x :: r).toArray[9]? = some x := rfl
theorem op10 {a b c d e f g h i j x : Oper} {r : List Oper} : (a :: b :: c :: d :: e :: f :: g :: h :: i :: j :: x :: r).toArray[10]? = some x := rfl
theorem op11 {a b c d e f g h i j k x : Oper} {r : List Oper} : (a :: b :: c :: d :: e :: f :: g :: h :: i :: j :: k :: x :: r).toArray[11]? = some x := rfl
theorem op12 {a b c d e f g h i j k l x : Oper} {r : List Oper} : (a :: b :: c :: d :: e :: f :: g :: h :: i :: j :: k :: l :: x :: r).toArray[12]? = some x := rfl
theorem op13 {a b c d e f g h i j k l m x : Oper} {r : List Oper} : (a :: b :: c :: d :: e :: f :: g :: h :: i :: j :: k :: l :: m :: x :: r).toArray[13]? = some x := rfl
theorem op14 {a b c d e f g h i j k l m n x : Oper} {r : List Oper} : (a :: b :: c :: d :: e :: f :: g :: h :: i :: j :: k :: l :: m :: n :: x :: r).toArray[14]? = some x := rfl
theorem op15 {a b c d e f g h i j k l m n o x : Oper} {r : List Oper} : (a :: b :: c :: d :: e :: f :: g :: h :: i :: j :: k :: l :: m :: n :: o :: x :: r).toArray[15]? = some x := rfl
end Go.Proofs.YtpadpmkfhljiiaaGreat
/- The document's 'small', 'cut', 'bit', 'word'. -/
namespace Go.Proofs.YtpadpmkfhljiiaaGreat
open Go.RowKit
theorem dsum_split (d : Nat → Nat) (a : Nat) : ∀ b, dsum d (a + b) = dsum d a + 256 ^ a * dsum (fun r => d (a + r)) b
  | 0 => by simp [dsum]
  | b + 1 => by
    rw [← Nat.add_assoc, dsum, dsum_split d a b, dsum, Nat.mul_add, Nat.pow_add]
    have : d (a + b) * (256 ^ a * 256 ^ b) = 256 ^ a * (d (a + b) * 256 ^ b) := by rw [Nat.mul_left_comm]
    omega
theorem dsum_front (d : Nat → Nat) (k : Nat) : dsum d (k + 1) = d 0 + 256 * dsum (fun r => d (1 + r)) k := by
  have := dsum_split d 1 k
  rw [Nat.add_comm 1 k] at this
  rw [this]; simp [dsum]
theorem dsum_mod {d : Nat → Nat} (hd : ∀ i, d i < 256) (n c : Nat) : dsum d n % 256 ^ c = dsum (fun i => if i < c then d i else 0) n := by
  by_cases h : n ≤ c
  · have h1 := dsum_lt hd n
    have h2 : 256 ^ n ≤ 256 ^ c := Nat.pow_le_pow_right (by omega) h
    rw [Nat.mod_eq_of_lt (by omega)]
    exact dsum_ext n fun i hi => by rw [if_pos (by omega)]
  · obtain ⟨b, rfl⟩ : ∃ b, n = c + b := ⟨n - c, by omega⟩
    rw [dsum_split, Nat.add_mul_mod_self_left, Nat.mod_eq_of_lt (dsum_lt hd c)]
    rw [dsum_more (n := c) (fun i hi => by simp only [show ¬ (i < c) by omega, if_false]) (c + b) (by omega)]
    exact dsum_ext c fun i hi => by rw [if_pos hi]
def cutD (d : Nat → Nat) (c i : Nat) : Nat := if i < c then d i else 0
def oneD (i : Nat) : Nat := if i = 0 then 1 else 0
theorem cutD_lt {d : Nat → Nat} (hd : ∀ i, d i < 256) (c i : Nat) : cutD d c i < 256 := by unfold cutD; split; exact hd i; omega
theorem cutD_sum {d : Nat → Nat} (hd : ∀ i, d i < 256) (n c : Nat) : dsum (cutD d c) n = dsum d n % 256 ^ c := (dsum_mod hd n c).symm
set_option maxHeartbeats 1000000 in
set_option maxRecDepth 100000 in
/-- small(1) -/
theorem small1_is (w : World) : Calls Tryz.prog 108 #[.int .i64 1] w fun e w' => ∃ v, e = .returned v ∧ RowAt w' v 1 oneD ∧ Below w.heap.size w w' := by
  obtain ⟨i0, hi, hz0, hz1, hz2⟩ := info_parts Tryz.infoI
  have t1 : Int.tmod 1 256 = 1 := by decide
  have t2 : Int.tdiv 1 256 = 0 := by decide
  have N0 : Hid (w.ownsRow w.heap.size 3 1 (.slice none 0 0) 0 []) := World.ownsRow_nil _ _ _ _
  go_enter Tryz.func108, Tryz.ntmps108
  go_wp2
  refine wp_loop_rounds 3 ?_
  rw [rounds_succ]
  go_wp2_with (at_builtin; refine wpList_append_own _ rfl _ _ 61 rfl w.heap.size 3 i0 (.int .i64 0) 1 8 Tryz.underlying61 hi hz0 hz1 hz2 rfl (by decide) _ _ _ rfl (World.ownsRow.alloc N0.out _) ⟨w.heap.size, 0, none⟩ 1 1 [.int .i64 1] rfl rfl (fun j u hj => (by have hj0 : j = 0 := (by have := (List.getElem?_eq_some_iff.1 hj).1; simpa using this); subst hj0; simp at hj; subst hj; simp [Addr.add])) (fun u hu => (by rw [List.mem_singleton.1 hu]; rfl)) (by unfold maxLen; omega) (by omega) (by simp) ?_; intro v' w1 hown' hgrow _)
  have R : Hid (w1.ownsRow w.heap.size 3 1 v' 1 (intsD oneD 1)) := by unfold Hid; simpa [intsD, oneD] using hown'
  have B1 : Hid (Below w.heap.size w w1) := Below.grown ((Below.refl _ _).alloc (Nat.le_refl _) _) hgrow (by simp) (fun k h => by cases h)
  clear hown' hgrow
  go_wp2
  rw [rounds_succ]
  go_wp2
  go_ret
  exact ⟨_, rfl, RowAt.own R.out (fun i => by unfold oneD; split <;> omega) (fun i hi => by unfold oneD; rw [if_neg (by omega)]) (by omega), B1.out⟩
set_option maxHeartbeats 1000000 in
set_option maxRecDepth 100000 in
/-- the first c digits -/
theorem cut_is (w : World) (v : Value) (n : Nat) (d : Nat → Nat) (hv : RowAt w v n d) (c : Nat) (hc : c ≤ 1048576) :
    Calls Tryz.prog 133 #[v, .int .i64 (c : Int)] w fun e w' => ∃ u, e = .returned u ∧ RowAt w' u (min c n) (cutD d c) ∧ Below w.heap.size w w' := by
  obtain ⟨K, eK⟩ : ∃ K, K = min c n := ⟨_, rfl⟩
  rw [← eK]
  have EK : Hid (K = min c n) := eK
  obtain ⟨hz, hd, hn, ad, cap, rfl, hcc⟩ := hv
  obtain ⟨i0, hi, hz0, hz1, hz2⟩ := info_parts Tryz.infoI
  have HC : Hid _ := hcc
  have HZ : Hid _ := hz
  have HD : Hid _ := hd
  have cI : (c : Int) ≤ 1048576 := by omega
  have nI : (n : Int) ≤ 1073741824 := by omega
  have kI0 : K ≤ 1048576 := by omega
  clear hcc hz hd eK
  go_enter Tryz.func133, Tryz.ntmps133
  go_wp2
  go_loopw [5, 6] (fun s5 i wr => ∃ k : Nat, k ≤ K ∧ i = .int .i64 k ∧ wr.ownsRow w.heap.size 3 1 s5 k (intsD (cutD d c) k) ∧ Below w.heap.size w wr) (fun _ i _ => K - (intOf i).toNat)
  case atStart => exact ⟨0, by omega, rfl, World.ownsRow_nil _ _ _ _, Below.refl _ _⟩
  case round =>
    obtain ⟨k, hk, rfl, hown, hB⟩ := hrel
    have HOW : Hid _ := hown
    have HB : Hid _ := hB
    have b0 := hB.size
    by_cases hk5 : k < K
    · have kI : (k : Int) < (c : Int) := by have := EK.out; omega
      have kI2 : (k : Int) < (n : Int) := by have := EK.out; omega
      have kn : k < n := by omega
      obtain ⟨g, o, rfl, hcl⟩ := HC.out (by omega)
      have cell := (hB.cell (p := ⟨g, o + k, none⟩) (World.block_lt_of_cell? w _ (hcl k (by omega)))).trans (hcl k (by omega))
      obtain ⟨y, ey⟩ : ∃ y, y = d k := ⟨_, rfl⟩
      rw [← ey] at cell
      have EY : Hid (y = (cutD d c) k) := by unfold Hid cutD; rw [if_pos (by omega)]; exact ey
      clear hown hB hcl ey
      go_wp2_with (at_builtin; refine wpList_append_own _ rfl _ _ 61 rfl w.heap.size 3 i0 (.int .i64 0) 1 8 Tryz.underlying61 hi hz0 hz1 hz2 rfl (by decide) _ _ _ rfl (World.ownsRow.alloc HOW.out _) ⟨wr.heap.size, 0, none⟩ 1 1 [.int .i64 (y : Int)] rfl rfl (fun j u hj => (by have hj0 : j = 0 := (by have := (List.getElem?_eq_some_iff.1 hj).1; simpa using this); subst hj0; simp at hj; subst hj; simp [Addr.add])) (fun u hu => (by rw [List.mem_singleton.1 hu]; rfl)) (by unfold maxLen; omega) (by omega) (by simp; omega) ?_; intro v' w1 hown' hgrow _)
      have R : Hid _ := of_step EY.out HOW.out HB.out hown' hgrow
      clear hown' hgrow
      go_wp2
      go_roundw
      case rel => exact ⟨k + 1, by omega, by go_num, R.out⟩
      case measure => simp [intOf]; omega
    · obtain rfl : k = K := by omega
      clear hown hB
      have FIN : Hid (RowAt wr u5 k (cutD d c)) := RowAt.own HOW.out (cutD_lt HD.out c) (fun i hi => by
        unfold cutD
        by_cases q : i < c
        · rw [if_pos q]; exact HZ.out i (by have := EK.out; omega)
        · rw [if_neg q]) (by omega)
      by_cases hcn : n < c
      · have k1 : (k : Int) < (c : Int) := by have := EK.out; omega
        have k2 : ¬ ((k : Int) < (n : Int)) := by have := EK.out; omega
        go_wp2
        go_ret
        exact ⟨_, rfl, FIN.out, HB.out⟩
      · have k1 : ¬ ((k : Int) < (c : Int)) := by have := EK.out; omega
        go_wp2
        go_ret
        exact ⟨_, rfl, FIN.out, HB.out⟩
end Go.Proofs.YtpadpmkfhljiiaaGreat
/- The document's 'bit' and 'word'. -/
namespace Go.Proofs.YtpadpmkfhljiiaaGreat
open Go.RowKit
set_option maxHeartbeats 1000000 in
theorem bit_is (W : World) (v : Value) (n : Nat) (d : Nat → Nat) (hv : RowAt W v n d) (i : Nat) (hi : i ≤ 1048576) :
    Calls Tryz.prog 132 #[v, .int .i64 (i : Int)] W fun e w' => e = .returned (.int .i64 ((d (i / 8) / 2 ^ (i % 8) % 2 : Nat) : Int)) ∧ w' = W := by
  obtain ⟨q, eq⟩ : ∃ q : Nat, q = i / 8 := ⟨_, rfl⟩
  obtain ⟨r, er⟩ : ∃ r : Nat, r = i % 8 := ⟨_, rfl⟩
  rw [← eq, ← er]
  have hdb := hv.2.1 q
  obtain ⟨z, ez⟩ : ∃ z, z = d q := ⟨_, rfl⟩
  have DG : Hid (Calls Tryz.prog 123 #[v, .int .i64 (q : Int)] W fun e w' => e = .returned (.int .i64 (z : Int)) ∧ w' = W) := by rw [ez]; exact digit_is W v n d q hv
  rw [← ez] at hdb ⊢
  have t1 : Int.tdiv (i : Int) 8 = (q : Int) := by rw [Int.tdiv_eq_ediv_of_nonneg (by omega)]; omega
  have t2 : Int.tmod (i : Int) 8 = (r : Int) := by rw [Int.tmod_eq_emod_of_nonneg (by omega)]; omega
  have w1 : IntKind.i64.wrap (q : Int) = (q : Int) := by rw [IntKind.wrap_i64]; omega
  have w2 : IntKind.i64.wrap (r : Int) = (r : Int) := by rw [IntKind.wrap_i64]; omega
  have r8 : r < 8 := by omega
  clear eq er hv ez
  go_enter Tryz.func132, Tryz.ntmps132
  go_wp2_with (go_at_call 123; refine Calls.mono DG.out ?_; rintro e0 w' ⟨rfl, hw⟩; (have hw2 := hw.symm); clear hw; subst hw2)
  go_loop [5, 6] (fun c j => ∃ m : Nat, m ≤ r ∧ j = .int .i64 m ∧ c = .int .i64 ((z / 2 ^ m : Nat) : Int)) (fun _ j => r - (intOf j).toNat)
  case atStart => exact ⟨0, by omega, rfl, by rw [Nat.pow_zero, Nat.div_one]⟩
  case round =>
    obtain ⟨m, hm, rfl, rfl⟩ := hrel
    have l1 : z / 2 ^ m ≤ z := Nat.div_le_self _ _
    by_cases hmr : m < r
    · have mI : (m : Int) < (r : Int) := by omega
      have m8 : (m : Int) < 8 := by omega
      have e1 : z / 2 ^ (m + 1) = z / 2 ^ m / 2 := by rw [Nat.pow_succ, Nat.div_div_eq_div_mul]
      have E1 : Hid _ := e1
      generalize z / 2 ^ m = u at e1 l1 E1
      have t3 : Int.tdiv (u : Int) 2 = ((u / 2 : Nat) : Int) := by rw [Int.tdiv_eq_ediv_of_nonneg (by omega)]; omega
      have w3 : IntKind.i64.wrap ((u / 2 : Nat) : Int) = ((u / 2 : Nat) : Int) := by rw [IntKind.wrap_i64]; omega
      clear e1
      go_wp2
      go_round
      case rel => exact ⟨m + 1, by omega, by go_num, by rw [E1.out]; first | rfl | (congr 1; omega)⟩
      case measure => simp [intOf]; omega
    · obtain rfl : m = r := by omega
      have mI : ¬ ((m : Int) < (m : Int)) := by omega
      generalize hu : z / 2 ^ m = u at l1 ⊢
      have HU : Hid (z / 2 ^ m = u) := hu
      clear hu
      have t3 : Int.tmod (u : Int) 2 = ((u % 2 : Nat) : Int) := by rw [Int.tmod_eq_emod_of_nonneg (by omega)]; omega
      have w3 : IntKind.i64.wrap ((u % 2 : Nat) : Int) = ((u % 2 : Nat) : Int) := by rw [IntKind.wrap_i64]; omega
      go_wp2
      go_ret
      exact ⟨ret_int (by rw [← HU.out, Int.natCast_ediv, Int.natCast_pow]; rfl), rfl⟩
theorem dig_bit (X i : Nat) (hi : i < 256) : dig X (i / 8) / 2 ^ (i % 8) % 2 = if X.testBit i then 1 else 0 := by
  have e : (dig X (i / 8)).testBit (i % 8) = X.testBit i := by
    rw [dig, if_pos (by omega), show (256 : Nat) ^ (i / 8) = 2 ^ (8 * (i / 8)) by rw [Nat.pow_mul], show (256 : Nat) = 2 ^ 8 from rfl, Nat.testBit_mod_two_pow, Nat.testBit_div_two_pow]
    rw [show i % 8 + 8 * (i / 8) = i by omega]; simp; omega
  rw [Nat.testBit_eq_decide_div_mod_eq] at e
  rw [← e]
  generalize dig X (i / 8) / 2 ^ (i % 8) = n
  by_cases h : n % 2 = 1
  · simp [h]
  · simp [h]; omega
/-- cells of 64 bits -/
def RowU (W : World) (b n : Nat) (v : Nat → Nat) : Prop := ∀ i, i < n → W.cell? ⟨b, i, none⟩ = some (.int .u64 (v i : Int)) ∧ W.frozen? ⟨b, i, none⟩ = false
theorem RowU.set {w : World} {b n : Nat} {v u : Nat → Nat} (h : RowU w b n v) (k x : Nat) (hk : u k = x) (ho : ∀ i, i < n → i ≠ k → u i = v i) : RowU (w.setCell ⟨b, k, none⟩ (.int .u64 (x : Int))) b n u := fun i hi => by
  refine ⟨?_, by rw [World.frozen?_setCell]; exact (h i hi).2⟩
  by_cases e : i = k
  · subst e; rw [World.cell?_setCell_same _ _ _ (h i hi).1, hk]
  · rw [World.cell?_setCell_other _ _ _ _ (by intro e'; injection e' with _ e' _; exact e e'.symm), ho i hi e]; exact (h i hi).1
/-- what limb q holds while the digits from j on are laid -/
def lw (d : Nat → Nat) (j q : Nat) : Nat := if 8 * q + 8 ≤ j then 0 else if j ≤ 8 * q then dsum (fun r => d (8 * q + r)) 8 else dsum (fun r => d (j + r)) (8 * q + 8 - j)
theorem lw_step (d : Nat → Nat) (j : Nat) : lw d j (j / 8) = lw d (j + 1) (j / 8) * 256 + d j := by
  obtain ⟨q, eq⟩ : ∃ q, q = j / 8 := ⟨_, rfl⟩
  rw [← eq]
  have e0 : ∀ k, dsum (fun r => d (j + r)) (k + 1) = dsum (fun r => d (j + 1 + r)) k * 256 + d j := fun k => by
    rw [dsum_front, Nat.add_zero, Nat.mul_comm, Nat.add_comm]
    congr 2
    apply congrFun
    apply congrArg
    funext r; rw [Nat.add_assoc]
  unfold lw
  rw [if_neg (by omega)]
  by_cases h1 : 8 * q + 8 ≤ j + 1
  · rw [if_pos h1]
    by_cases h2 : j ≤ 8 * q
    · omega
    · rw [if_neg h2, show 8 * q + 8 - j = 0 + 1 by omega, e0]; simp [dsum]
  · rw [if_neg h1, if_neg (show ¬ (j + 1 ≤ 8 * q) by omega)]
    by_cases h2 : j ≤ 8 * q
    · rw [if_pos h2]
      obtain rfl : j = 8 * q := by omega
      rw [show 8 * q + 8 - (8 * q + 1) = 7 by omega]; exact e0 7
    · rw [if_neg h2, show 8 * q + 8 - j = (8 * q + 8 - (j + 1)) + 1 by omega, e0]
theorem lw_other (d : Nat → Nat) (j i : Nat) (h : i ≠ j / 8) : lw d j i = lw d (j + 1) i := by
  unfold lw
  by_cases h1 : 8 * i + 8 ≤ j
  · rw [if_pos h1, if_pos (show 8 * i + 8 ≤ j + 1 by omega)]
  · have h1' : ¬ (8 * i + 8 ≤ j + 1) := by omega
    by_cases h2 : j ≤ 8 * i
    · have h2' : j + 1 ≤ 8 * i := by omega
      rw [if_neg h1, if_pos h2, if_neg h1', if_pos h2']
    · omega
theorem lw_lt {d : Nat → Nat} (hd : ∀ i, d i < 256) (j : Nat) : lw d (j + 1) (j / 8) < 72057594037927936 := by
  unfold lw
  split
  · omega
  · split
    · omega
    · have h := dsum_lt (d := fun r => d (j + 1 + r)) (fun i => hd _) (8 * (j / 8) + 8 - (j + 1))
      have h2 : 256 ^ (8 * (j / 8) + 8 - (j + 1)) ≤ 256 ^ 7 := Nat.pow_le_pow_right (by omega) (by omega)
      have h3 : (256 : Nat) ^ 7 = 72057594037927936 := by decide
      omega
theorem lw_end {d : Nat → Nat} (hd : ∀ i, d i < 256) : IsW (dsum d 32 : Int) (lw d 0 0 : Int) (lw d 0 1 : Int) (lw d 0 2 : Int) (lw d 0 3 : Int) := by
  have hl : ∀ q, lw d 0 q = dsum (fun r => d (8 * q + r)) 8 := fun q => by unfold lw; rw [if_neg (by omega), if_pos (by omega)]
  have hb : ∀ q, lw d 0 q < 18446744073709551616 := fun q => by
    rw [hl]
    have := dsum_lt (d := fun r => d (8 * q + r)) (fun i => hd _) 8
    have h3 : (256 : Nat) ^ 8 = 18446744073709551616 := by decide
    omega
  have hs : dsum d 32 = lw d 0 0 + 18446744073709551616 * (lw d 0 1 + 18446744073709551616 * (lw d 0 2 + 18446744073709551616 * lw d 0 3)) := by
    have a1 := dsum_split d 8 24
    have a2 := dsum_split (fun r => d (8 + r)) 8 16
    have a3 := dsum_split (fun r => d (16 + r)) 8 8
    have p8 : (256 : Nat) ^ 8 = 18446744073709551616 := by decide
    have c1 : (fun r => d (8 + (8 + r))) = fun r => d (16 + r) := by funext r; congr 1; omega
    have c2 : (fun r => d (16 + (8 + r))) = fun r => d (24 + r) := by funext r; congr 1; omega
    have l0 : lw d 0 0 = dsum d 8 := by rw [hl]; exact dsum_ext 8 fun i _ => by simp
    rw [hl 1, hl 2, hl 3, l0]
    simp only [p8] at a1 a2 a3
    rw [c1] at a2
    rw [c2] at a3
    rw [show 8 + 24 = 32 from rfl] at a1
    rw [show 8 + 16 = 24 from rfl] at a2
    rw [show 8 + 8 = 16 from rfl] at a3
    rw [a1, a2, a3]
  have h0 := hb 0
  have h1 := hb 1
  have h2 := hb 2
  have h3 := hb 3
  refine isW_of ⟨by omega, by unfold Bd; omega⟩ ⟨by omega, by unfold Bd; omega⟩ ⟨by omega, by unfold Bd; omega⟩ ⟨by omega, by unfold Bd; omega⟩ 0 ?_
  rw [hs]; unfold V Bd; omega
set_option maxHeartbeats 2000000 in
set_option maxRecDepth 100000 in
theorem word_is (w : World) (v : Value) (n : Nat) (d : Nat → Nat) (hv : RowAt w v n d) :
    Calls Tryz.prog 77 #[v] w fun e w' => ∃ s0 s1 s2 s3 : Int, e = .returned (.agg #[.int .u64 s0, .int .u64 s1, .int .u64 s2, .int .u64 s3]) ∧ IsW (dsum d 32 : Int) s0 s1 s2 s3 ∧ Below w.heap.size w w' := by
  have HV : Hid (RowAt w v n d) := hv
  have HD : Hid _ := hv.2.1
  clear hv
  have B0 : Hid (∀ o1 o2, Below w.heap.size w ((w.alloc o1).alloc o2)) := fun o1 o2 => ((Below.refl _ _).alloc (Nat.le_refl _) _).alloc (by simp) _
  have R0 : Hid (Box ((w.alloc (.cells #[.int .u64 0, .int .u64 0, .int .u64 0, .int .u64 0] 24)).alloc (.cells #[.int .u64 0, .int .u64 0, .int .u64 0, .int .u64 0] 24)) w.heap.size 0 0 0 0) := (Box.new w 24 0 0 0 0).alloc _
  have R1 : Hid (RowU ((w.alloc (.cells #[.int .u64 0, .int .u64 0, .int .u64 0, .int .u64 0] 24)).alloc (.cells #[.int .u64 0, .int .u64 0, .int .u64 0, .int .u64 0] 24)) (w.heap.size + 1) 4 (lw d 32)) := fun i hi => by
    have h := Box.new (w.alloc (.cells #[.int .u64 0, .int .u64 0, .int .u64 0, .int .u64 0] 24)) 24 0 0 0 0
    rw [World.size_alloc] at h
    have h2 := h.1 i hi
    have e : lw d 32 i = 0 := by unfold lw; rw [if_pos (by omega)]
    have e2 : limb 0 0 0 0 i = 0 := by unfold limb; split; rfl; split; rfl; split <;> rfl
    rw [e2] at h2
    exact ⟨by rw [h2, e]; rfl, h.2 i hi⟩
  go_enter Tryz.func77, Tryz.ntmps77
  go_wp2
  go_loopw [4] (fun s wr => ∃ j : Nat, s = .int .i64 ((j : Int) - 1) ∧ j ≤ 32 ∧ Below w.heap.size w wr ∧ Box wr w.heap.size 0 0 0 0 ∧ RowU wr (w.heap.size + 1) 4 (lw d j)) (fun s _ => (intOf s + 1).toNat)
  case atStart => exact ⟨32, rfl, by omega, B0.out _ _, R0.out, R1.out⟩
  case round =>
    obtain ⟨j, rfl, hj, hB, hbx, hR⟩ := hrel
    clear R0 R1 B0
    have HBx : Hid (Box wr w.heap.size 0 0 0 0) := hbx
    have HB : Hid (Below w.heap.size w wr) := hB
    have HRo : Hid (RowU wr (w.heap.size + 1) 4 (lw d j)) := hR
    clear hbx hB hR
    rcases j with _ | j
    · obtain ⟨r0, r1, r2, r3, f0, f1, f2, f3⟩ := Box.facts HBx.out
      have p0 := (HRo.out 0 (by omega)).1
      have p1 := (HRo.out 1 (by omega)).1
      have p2 := (HRo.out 2 (by omega)).1
      have p3 := (HRo.out 3 (by omega)).1
      have HE : Hid _ := lw_end HD.out
      generalize ((lw d 0 0 : Nat) : Int) = s0 at p0 HE
      generalize ((lw d 0 1 : Nat) : Int) = s1 at p1 HE
      generalize ((lw d 0 2 : Nat) : Int) = s2 at p2 HE
      generalize ((lw d 0 3 : Nat) : Int) = s3 at p3 HE
      go_wp2
      exact bodyPost_ret (v := .agg #[.int .u64 s0, .int .u64 s1, .int .u64 s2, .int .u64 s3]) (by simp [results, Tryz.results77, go_sem, r0, r1, r2, r3]) rfl ⟨s0, s1, s2, s3, rfl, HE.out, below_put HB.out (Nat.le_refl _) _ _ _ _⟩
    · rw [show ((j + 1 : Nat) : Int) - 1 = (j : Int) by omega]
      obtain ⟨q, eq⟩ : ∃ q : Nat, q = j / 8 := ⟨_, rfl⟩
      have t1 : Int.tdiv (j : Int) 8 = (q : Int) := by rw [Int.tdiv_eq_ediv_of_nonneg (by omega)]; omega
      have w1 : IntKind.i64.wrap (q : Int) = (q : Int) := by rw [IntKind.wrap_i64]; omega
      have jI : (0 : Int) ≤ (j : Int) := by omega
      have qI : (q : Int) < 4 := by omega
      have q4 : q < 4 := by omega
      have c1 := (HRo.out q q4).1
      have f1 := (HRo.out q q4).2
      have st := lw_step d j
      have lt := lw_lt HD.out j
      have hdj := HD.out j
      rw [← eq] at st lt
      obtain ⟨y, ey⟩ : ∃ y, y = d j := ⟨_, rfl⟩
      have DG : Hid (∀ W : World, Below w.heap.size w W → Calls Tryz.prog 123 #[v, .int .i64 (j : Int)] W fun e w' => e = .returned (.int .i64 (y : Int)) ∧ w' = W) := fun W hW => by rw [ey]; exact digit_is W v n d j (HV.out.below hW)
      rw [← ey] at st hdj
      obtain ⟨z, ez⟩ : ∃ z, z = lw d (j + 1) q := ⟨_, rfl⟩
      obtain ⟨u, eu⟩ : ∃ u, u = lw d j q := ⟨_, rfl⟩
      rw [← ez] at c1 st lt
      rw [← eu] at st
      have m1 : IntKind.u64.wrap ((z : Int) * 256) = ((z * 256 : Nat) : Int) := by rw [IntKind.wrap_u64]; omega
      have m2 : IntKind.u64.wrap (y : Int) = (y : Int) := by rw [IntKind.wrap_u64]; omega
      have m3 : IntKind.u64.wrap (((z * 256 : Nat) : Int) + (y : Int)) = (u : Int) := by rw [IntKind.wrap_u64]; omega
      have m4 : IntKind.u64.wrap ((z : Int) * 256 + (y : Int)) = (u : Int) := by rw [IntKind.wrap_u64]; omega
      have STEP : Hid (∀ W, Below w.heap.size w W → Box W w.heap.size 0 0 0 0 → RowU W (w.heap.size + 1) 4 (lw d (j + 1)) → Below w.heap.size w (W.setCell ⟨w.heap.size + 1, q, none⟩ (.int .u64 (u : Int))) ∧ Box (W.setCell ⟨w.heap.size + 1, q, none⟩ (.int .u64 (u : Int))) w.heap.size 0 0 0 0 ∧ RowU (W.setCell ⟨w.heap.size + 1, q, none⟩ (.int .u64 (u : Int))) (w.heap.size + 1) 4 (lw d j)) := fun W h1 h2 h3 =>
        ⟨h1.setCell (by simp) _, h2.other _ _ (by simp), h3.set q u eu.symm (fun i _ hi => lw_other d j i (by rw [← eq]; exact hi))⟩
      clear st lt hdj ey ez eu eq
      go_upto_region 5 with fail
      go_region_with (go_at_call 123; refine (DG.out _ (Below.drew HB.out)).mono ?_; rintro e0 w' ⟨rfl, hw⟩; (have hw2 := hw.symm); clear hw; subst hw2)
      all_goals
        go_wp2
        go_roundw
        case rel => exact ⟨j, rfl, by omega, Below.drew (STEP.out wr HB.out HBx.out HRo.out).1, Box.drew (STEP.out wr HB.out HBx.out HRo.out).2.1, (STEP.out wr HB.out HBx.out HRo.out).2.2⟩
        case measure => simp [intOf]
end Go.Proofs.YtpadpmkfhljiiaaGreat
/- The document's 'times': the plain product of two rows. -/
namespace Go.Proofs.YtpadpmkfhljiiaaGreat
open Go.RowKit
/-- cells of numbers, which may be written -/
def RowI (W : World) (g N : Nat) (f : Nat → Nat) : Prop := ∀ j, j < N → W.cell? ⟨g, j, none⟩ = some (.int .i64 (f j : Int)) ∧ W.frozen? ⟨g, j, none⟩ = false
theorem RowI.lt {W : World} {g N : Nat} {f : Nat → Nat} (h : RowI W g N f) (hN : 0 < N) : g < W.heap.size := World.block_lt_of_cell? W _ (h 0 hN).1
/-- one digit is turned -/
def setD (f : Nat → Nat) (s y : Nat) (j : Nat) : Nat := if j = s then y else f j
theorem RowI.set {w : World} {g N : Nat} {f : Nat → Nat} (h : RowI w g N f) (s y : Nat) : RowI (w.setCell ⟨g, s, none⟩ (.int .i64 (y : Int))) g N (setD f s y) := fun j hj => by
  refine ⟨?_, by rw [World.frozen?_setCell]; exact (h j hj).2⟩
  unfold setD
  by_cases e : j = s
  · subst e; rw [World.cell?_setCell_same _ _ _ (h j hj).1, if_pos rfl]
  · rw [World.cell?_setCell_other _ _ _ _ (by intro e'; injection e' with _ e' _; exact e e'.symm), if_neg e]; exact (h j hj).1
theorem dsum_set (f : Nat → Nat) (s y : Nat) : ∀ N, s < N → dsum (setD f s y) N + f s * 256 ^ s = dsum f N + y * 256 ^ s
  | 0, h => absurd h (by omega)
  | N + 1, h => by
    by_cases e : s = N
    · subst e
      rw [dsum, dsum, dsum_ext s (d := setD f s y) (e := f) (fun i hi => by unfold setD; rw [if_neg (by omega)])]
      simp only [setD, if_true]; omega
    · have := dsum_set f s y N (by omega)
      rw [dsum, dsum, show setD f s y N = f N by unfold setD; rw [if_neg (by omega)]]; omega
/-- the step of the product -/
theorem times_step {P D x c nn i k N : Nat} {f e : Nat → Nat} (hs : i + k < N) (hx : x = f (i + k)) (hnn : nn = x + D * e k + c) (h : dsum f N + c * 256 ^ (i + k) = P + D * 256 ^ i * dsum e k) :
    dsum (setD f (i + k) (nn % 256)) N + nn / 256 * 256 ^ (i + (k + 1)) = P + D * 256 ^ i * dsum e (k + 1) := by
  have h1 := dsum_set f (i + k) (nn % 256) N hs
  have h2 : nn / 256 * 256 ^ (i + (k + 1)) + nn % 256 * 256 ^ (i + k) = nn * 256 ^ (i + k) := by
    rw [show i + (k + 1) = (i + k) + 1 by omega, Nat.pow_succ, Nat.mul_comm (256 ^ (i + k)) 256, ← Nat.mul_assoc, ← Nat.add_mul]
    congr 1; omega
  have h3 : nn * 256 ^ (i + k) = f (i + k) * 256 ^ (i + k) + D * e k * 256 ^ (i + k) + c * 256 ^ (i + k) := by rw [hnn, hx, Nat.add_mul, Nat.add_mul]
  have h4 : D * 256 ^ i * dsum e (k + 1) = D * 256 ^ i * dsum e k + D * e k * 256 ^ (i + k) := by
    rw [dsum, Nat.mul_add, Nat.pow_add]
    congr 1
    rw [Nat.mul_assoc, Nat.mul_assoc, Nat.mul_left_comm (256 ^ i)]
  omega
theorem times_end {n m i c : Nat} {d e f : Nat → Nat} (N : Nat) (hd : ∀ i, d i < 256) (he : ∀ i, e i < 256) (hz : e m = 0) (h : dsum f N + c * 256 ^ (i + (m + 1)) = dsum d i * dsum e m + d i * 256 ^ i * dsum e (m + 1)) (_hn : i < n) :
    dsum f N = dsum d (i + 1) * dsum e m := by
  have e1 : dsum e (m + 1) = dsum e m := by rw [dsum, hz]; simp
  rw [e1, ← Nat.add_mul] at h
  have e2 : dsum d (i + 1) = dsum d i + d i * 256 ^ i := rfl
  rw [← e2] at h
  have b1 := dsum_lt hd (i + 1)
  have b2 := dsum_lt he m
  have b3 : dsum d (i + 1) * dsum e m < 256 ^ (i + (m + 1)) := by
    rw [show i + (m + 1) = (i + 1) + m by omega, Nat.pow_add]
    exact Nat.mul_lt_mul'' b1 b2
  rcases Nat.eq_zero_or_pos c with hc | hc
  · rw [hc] at h; omega
  · have : 1 * 256 ^ (i + (m + 1)) ≤ c * 256 ^ (i + (m + 1)) := Nat.mul_le_mul_right _ hc
    omega
theorem setD_lt {f : Nat → Nat} (hf : ∀ i, f i < 256) (s y i : Nat) (hy : y < 256) : setD f s y i < 256 := by unfold setD; split; exact hy; exact hf i
theorem RowAt.ofRowI {W : World} {g N c : Nat} {f : Nat → Nat} (h : RowI W g N f) (hf : ∀ i, f i < 256) (hN : N ≤ 1073741824) : RowAt W (.slice (some ⟨g, 0, none⟩) N c) N (cutD f N) :=
  ⟨fun i hi => by unfold cutD; rw [if_neg (by omega)], cutD_lt hf N, hN, _, c, rfl, fun _ => ⟨g, 0, rfl, fun i hi => by rw [Nat.zero_add, (h i hi).1]; unfold cutD; rw [if_pos hi]⟩⟩
theorem cutD_same (f : Nat → Nat) (N : Nat) : dsum (cutD f N) N = dsum f N := dsum_ext N fun i hi => by unfold cutD; rw [if_pos hi]
theorem made_at (N j : Nat) (h : j < N) : (madeCells #[Value.int .i64 0] (N * 1)).toList[j]? = some (.int .i64 0) := by
  simp [madeCells, h, Nat.mod_one]
theorem RowI.made {w1 : World} {B g N : Nat} (h : w1.ownsRow B 3 1 (.slice (some ⟨g, 0, none⟩) N N) N (madeCells #[Value.int .i64 0] (N * 1)).toList) : RowI w1 g N (fun _ => 0) := fun j hj =>
  ⟨by rw [h.cellAt j (by omega), made_at N j hj]; rfl, h.frozenAt j⟩
set_option maxHeartbeats 4000000 in
set_option maxRecDepth 100000 in
theorem times_is (w : World) (v u : Value) (n m : Nat) (d e : Nat → Nat) (hv : RowAt w v n d) (hu : RowAt w u m e) (hn : n ≤ 1000) (hm : m ≤ 1000) :
    Calls Tryz.prog 85 #[v, u] w fun r w' => ∃ x f, r = .returned x ∧ RowAt w' x (n + m + 1) f ∧ dsum f (n + m + 1) = dsum d n * dsum e m ∧ Below w.heap.size w w' := by
  have HV : Hid (RowAt w v n d) := hv
  have HU : Hid (RowAt w u m e) := hu
  obtain ⟨hz, hd, _, ad, cap, rfl, hc⟩ := hv
  obtain ⟨hz', hd', _, bd, cap', rfl, _⟩ := hu
  obtain ⟨i0, hi, hz0, hz1, hz2⟩ := info_parts Tryz.infoI
  have HC : Hid _ := hc
  have HD : Hid _ := hd
  have HE : Hid _ := hd'
  have HZ : Hid (e m = 0) := hz' m (Nat.le_refl _)
  obtain ⟨N, eN⟩ : ∃ N, N = n + m + 1 := ⟨_, rfl⟩
  rw [← eN]
  have ENN : Hid (N = n + m + 1) := eN
  obtain ⟨nm, enm⟩ : ∃ nm, nm = n + m := ⟨_, rfl⟩
  have a1 : (n : Int) + (m : Int) = (nm : Int) := by omega
  have a2 : (nm : Int) + 1 = (N : Int) := by omega
  have w1 : IntKind.i64.wrap (nm : Int) = (nm : Int) := by rw [IntKind.wrap_i64]; omega
  have w2 : IntKind.i64.wrap (N : Int) = (N : Int) := by rw [IntKind.wrap_i64]; omega
  have nI : (n : Int) ≤ 1000 := by omega
  have mI : (m : Int) ≤ 1000 := by omega
  have NI : N ≤ 2001 := by omega
  have N0 : 0 < N := by omega
  clear hz hz' hd hd' hc eN enm
  go_enter Tryz.func85, Tryz.ntmps85
  go_upto_region 2 with (at_make; refine wpList_make_full _ rfl _ _ 61 rfl w.heap.size 3 i0 (.int .i64 0) 1 Tryz.underlying61 hi hz0 hz1 .i64 .i64 _ _ N rfl rfl rfl rfl (by rw [hz2]; omega) (by unfold maxLen; omega) (Nat.le_refl _) ?_; intro v1 hown hgrow; (have R1 : Hid (RowI v1 w.heap.size N (fun _ => 0)) := RowI.made hown); (have B1 : Hid (Below w.heap.size w v1) := Below.grown (Below.refl _ _) hgrow (Nat.le_refl _) (fun k h => by cases h)); clear hown hgrow)
  go_wp2
  generalize hg : w.heap.size = g at R1 ⊢
  have HG : Hid (w.heap.size = g) := hg
  clear hg
  go_loopw [6] (fun s wr => ∃ (i : Nat) (f : Nat → Nat), i ≤ n ∧ s = .int .i64 i ∧ (∀ j, f j < 256) ∧ dsum f N = dsum d i * dsum e m ∧ RowI wr g N f ∧ Below w.heap.size w wr) (fun s _ => n - (intOf s).toNat)
  case atStart => exact ⟨0, fun _ => 0, by omega, rfl, fun _ => (by decide : (0 : Nat) < 256), by rw [dsum_zero N (fun _ _ => rfl)]; simp [dsum], R1.out, B1.out⟩
  case round =>
    obtain ⟨i, f, hin, rfl, hf, hs, hR, hB⟩ := hrel
    clear R1 B1
    by_cases hi5 : i < n
    · have iI : (i : Int) < (n : Int) := by omega
      have F0 : Hid _ := hf
      have S0 : Hid _ := hs
      have RR : Hid _ := hR
      have BB : Hid _ := hB
      obtain ⟨P, eP⟩ : ∃ P, P = dsum d i * dsum e m := ⟨_, rfl⟩
      obtain ⟨D, eD⟩ : ∃ D, D = d i := ⟨_, rfl⟩
      have D256 : D < 256 := by rw [eD]; exact HD.out i
      have EP : Hid (P = dsum d i * dsum e m) := eP
      have ED : Hid (D = d i) := eD
      obtain ⟨ga, oa, rfl, hcl⟩ := HC.out (by omega)
      have ca0 := hcl i hi5
      rw [← eD] at ca0
      have gal := World.block_lt_of_cell? w _ ca0
      have CA : Hid _ := ca0
      clear hf hs hR hB hcl eP eD
      go_wp2
      go_loopw [7, 8] (fun sc sk wx => ∃ (k c : Nat) (f : Nat → Nat), k ≤ m + 1 ∧ c < 256 ∧ sc = .int .i64 c ∧ sk = .int .i64 k ∧ (∀ j, f j < 256) ∧ dsum f N + c * 256 ^ (i + k) = P + D * 256 ^ i * dsum e k ∧ RowI wx g N f ∧ Below w.heap.size w wx) (fun _ sk _ => m + 1 - (intOf sk).toNat)
      case atStart => exact ⟨0, 0, f, by omega, by omega, rfl, rfl, F0.out, by rw [EP.out, S0.out]; simp [dsum], RR.out, BB.out⟩
      case round =>
        obtain ⟨k, c, h, hk, hc, rfl, rfl, hh, hs, hR, hB⟩ := hrel
        clear F0 S0 RR BB
        have HH : Hid (∀ j, h j < 256) := hh
        have HS : Hid _ := hs
        have HR : Hid (RowI wr g N h) := hR
        have HB : Hid (Below w.heap.size w wr) := hB
        by_cases hkm : k < m + 1
        · have kI : (k : Int) ≤ (m : Int) := by omega
          obtain ⟨s, es⟩ : ∃ s, s = i + k := ⟨_, rfl⟩
          have a3 : (i : Int) + (k : Int) = (s : Int) := by omega
          have w3 : IntKind.i64.wrap (s : Int) = (s : Int) := by rw [IntKind.wrap_i64]; omega
          have sN : s < N := by have := ENN.out; omega
          have sI : (s : Int) < (N : Int) := by omega
          obtain ⟨x, ex⟩ : ∃ x, x = h s := ⟨_, rfl⟩
          obtain ⟨y, ey⟩ : ∃ y, y = e k := ⟨_, rfl⟩
          have cx := (hR s sN).1
          have fx := (hR s sN).2
          rw [← ex] at cx
          have ca := (hB.cell (p := ⟨ga, oa + i, none⟩) gal).trans CA.out
          have DG : Hid (∀ W : World, Below w.heap.size w W → Calls Tryz.prog 123 #[.slice bd m cap', .int .i64 (k : Int)] W fun e w' => e = .returned (.int .i64 (y : Int)) ∧ w' = W) := fun W hW => by rw [ey]; exact digit_is W _ m e k (HU.out.below hW)
          have x256 : x < 256 := by rw [ex]; exact hh s
          have y256 : y < 256 := by rw [ey]; exact HE.out k
          obtain ⟨p, ep⟩ : ∃ p, p = D * y := ⟨_, rfl⟩
          have pb : p ≤ 65025 := by rw [ep]; exact Nat.mul_le_mul (show D ≤ 255 by omega) (show y ≤ 255 by omega)
          obtain ⟨nn, enn⟩ : ∃ nn, nn = x + p + c := ⟨_, rfl⟩
          have STEP : Hid (dsum (setD h s (nn % 256)) N + nn / 256 * 256 ^ (i + (k + 1)) = P + D * 256 ^ i * dsum e (k + 1)) := by
            have := times_step (f := h) (e := e) (P := P) (D := D) (x := x) (c := c) (nn := nn) (i := i) (k := k) (N := N) (by omega) (by rw [ex, es]) (by rw [enn, ep, ey]) HS.out
            unfold Hid
            rw [es]; exact this
          have b1 : (D : Int) * (y : Int) = (p : Int) := by rw [ep]; exact (Int.natCast_mul D y).symm
          have b2 : IntKind.i64.wrap (p : Int) = (p : Int) := by rw [IntKind.wrap_i64]; omega
          have b3 : (x : Int) + (p : Int) + (c : Int) = (nn : Int) := by omega
          have b4 : IntKind.i64.wrap (nn : Int) = (nn : Int) := by rw [IntKind.wrap_i64]; omega
          have b5 : IntKind.i64.wrap ((x : Int) + (p : Int)) = (x : Int) + (p : Int) := by rw [IntKind.wrap_i64]; omega
          have b6 : Int.tmod (nn : Int) 256 = ((nn % 256 : Nat) : Int) := by rw [Int.tmod_eq_emod_of_nonneg (by omega)]; omega
          have b7 : Int.tdiv (nn : Int) 256 = ((nn / 256 : Nat) : Int) := by rw [Int.tdiv_eq_ediv_of_nonneg (by omega)]; omega
          have nb : nn ≤ 65535 := by omega
          obtain ⟨r, er⟩ : ∃ r, r = nn % 256 := ⟨_, rfl⟩
          obtain ⟨c', ec'⟩ : ∃ c', c' = nn / 256 := ⟨_, rfl⟩
          rw [← er] at b6 STEP
          rw [← ec'] at b7 STEP
          have b8 : IntKind.i64.wrap (r : Int) = (r : Int) := by rw [IntKind.wrap_i64]; omega
          have b9 : IntKind.i64.wrap (c' : Int) = (c' : Int) := by rw [IntKind.wrap_i64]; omega
          have r256 : r < 256 := by omega
          have c256 : c' < 256 := by omega
          have nnI : (nn : Int) ≤ 65535 := by omega
          clear er ec' enn ep ex ey es hs hh hR hB pb
          go_upto_region 9 with fail
          go_quiet ((go_at_call 123; exact Calls.quiet_of_same (DG.out _ (bdrewN HB.out _))))
          go_wp2
          go_roundw
          case rel => exact ⟨k + 1, c', setD h s r, by omega, c256, rfl, by go_num, fun j => setD_lt HH.out s r j r256, STEP.out, RowI.set (fun j hj => HR.out j hj) s r, Below.setCell (bdrewN HB.out nq) (Nat.le_of_eq HG.out) _⟩
          case measure => simp [intOf]; omega
        · obtain rfl : k = m + 1 := by omega
          have kI : ¬ (((m + 1 : Nat) : Int) ≤ (m : Int)) := by omega
          have FSu : Hid (dsum h N = dsum d (i + 1) * dsum e m) := times_end (n := n) N HD.out HE.out HZ.out (by rw [← ED.out, ← EP.out]; exact HS.out) hi5
          clear hs hh hR hB HS
          go_wp2
          go_roundw
          case rel => exact ⟨i + 1, h, by omega, by go_num, HH.out, FSu.out, HR.out, HB.out⟩
          case measure => simp [intOf]; omega
    · obtain rfl : i = n := by omega
      have iI : ¬ ((i : Int) < (i : Int)) := by omega
      have F0 : Hid _ := hf
      have S0 : Hid _ := hs
      have RR : Hid (RowI wr g N f) := hR
      have BB : Hid _ := hB
      clear hf hs hR hB
      go_wp2
      go_ret
      exact ⟨_, rfl, cutD f N, RowAt.ofRowI RR.out F0.out (by omega), by rw [cutD_same]; exact S0.out, BB.out⟩
end Go.Proofs.YtpadpmkfhljiiaaGreat
/- The document's 'plus' and 'full' (as in Rh, for the seat that has no Sum). -/
namespace Go.Proofs.YtpadpmkfhljiiaaGreat
open Go.RowKit
theorem intsD_set (f : Nat → Nat) (i y : Nat) : intsD (setD f i y) (i + 1) = intsD f i ++ [.int .i64 (y : Int)] := by
  rw [intsD_snoc]
  congr 1
  · simp only [intsD]
    apply List.map_congr_left
    intro j hj
    have : j < i := List.mem_range.1 hj
    rw [setD, if_neg (by omega)]
  · rw [setD, if_pos rfl]
theorem dsum_setD (f : Nat → Nat) (i y : Nat) : dsum (setD f i y) (i + 1) = dsum f i + y * 256 ^ i := by
  rw [dsum, dsum_ext i (d := setD f i y) (e := f) (fun j hj => by rw [setD, if_neg (by omega)])]
  rw [setD, if_pos rfl]
theorem plus_step {f d e : Nat → Nat} {i c nn : Nat} (hnn : nn = d i + e i + c) (h : dsum f i + c * 256 ^ i = dsum d i + dsum e i) : dsum (setD f i (nn % 256)) (i + 1) + nn / 256 * 256 ^ (i + 1) = dsum d (i + 1) + dsum e (i + 1) := by
  rw [dsum_setD, dsum, dsum]
  have h2 : nn / 256 * 256 ^ (i + 1) + nn % 256 * 256 ^ i = nn * 256 ^ i := by
    rw [Nat.pow_succ, Nat.mul_comm (256 ^ i) 256, ← Nat.mul_assoc, ← Nat.add_mul]
    congr 1; omega
  have h3 : nn * 256 ^ i = d i * 256 ^ i + e i * 256 ^ i + c * 256 ^ i := by rw [hnn, Nat.add_mul, Nat.add_mul]
  omega
theorem own_set {W0 wr w1 : World} {v v' : Value} {o : Obj} {f : Nat → Nat} {k y : Nat} (hown : wr.ownsRow W0.heap.size 3 1 v k (intsD f k)) (hB : Below W0.heap.size W0 wr)
    (hown' : w1.ownsRow W0.heap.size 3 1 v' (k + 1) (intsD f k ++ [.int .i64 (y : Int)])) (hg : (wr.alloc o).grownBy w1 v.ownBlock) :
    w1.ownsRow W0.heap.size 3 1 v' (k + 1) (intsD (setD f k y) (k + 1)) ∧ Below W0.heap.size W0 w1 := by
  rw [intsD_set]
  exact ⟨hown', Below.grown (hB.alloc hB.size o) hg (by have := hB.size; simp; omega) (fun q h => (hown.lt q h).1)⟩
/-- what 'plus' gives -/
def PlusRes (d e : Nat → Nat) (K : Nat) (w : World) (r : Ending) (w' : World) : Prop := ∃ x f, r = .returned x ∧ RowAt w' x (K + 1) f ∧ dsum f (K + 1) = dsum d K + dsum e K ∧ Below w.heap.size w w'
set_option maxHeartbeats 4000000 in
set_option maxRecDepth 100000 in
theorem plus_is (w : World) (v u : Value) (n m : Nat) (d e : Nat → Nat) (hv : RowAt w v n d) (hu : RowAt w u m e) (hn : n ≤ 1000) (hm : m ≤ 1000) (K : Nat) (hK : K = max n m) :
    Calls Tryz.prog 78 #[v, u] w (PlusRes d e K w) := by
  have HV : Hid (RowAt w v n d) := hv
  have HU : Hid (RowAt w u m e) := hu
  have HZ : Hid (d K = 0 ∧ e K = 0) := ⟨hv.1 K (by omega), hu.1 K (by omega)⟩
  have HD : Hid (∀ i, d i < 256) := hv.2.1
  have HE : Hid (∀ i, e i < 256) := hu.2.1
  obtain ⟨_, _, _, ad, cap, rfl, _⟩ := hv
  obtain ⟨_, _, _, bd, cap', rfl, _⟩ := hu
  obtain ⟨i0, hi, hz0, hz1, hz2⟩ := info_parts Tryz.infoI
  have LG : Hid (∀ W, Calls Tryz.prog 124 #[.slice ad n cap, .slice bd m cap'] W fun e w' => e = .returned (.int .i64 (K : Int)) ∧ w' = W) := fun W => by rw [hK]; exact longer_is W ad bd n m cap cap'
  have K1 : K ≤ 1000 := by omega
  clear hK
  go_enter Tryz.func78, Tryz.ntmps78
  go_wp2
  go_loopw [5, 6, 7] (fun s5 sc si wr => ∃ (i c : Nat) (f : Nat → Nat), i ≤ K + 1 ∧ c ≤ 1 ∧ (i = K + 1 → c = 0) ∧ sc = .int .i64 c ∧ si = .int .i64 i ∧ (∀ j, f j < 256) ∧ (∀ j, i ≤ j → f j = 0) ∧ dsum f i + c * 256 ^ i = dsum d i + dsum e i ∧ wr.ownsRow w.heap.size 3 1 s5 i (intsD f i) ∧ Below w.heap.size w wr) (fun _ _ si _ => K + 1 - (intOf si).toNat)
  case atStart => exact ⟨0, 0, fun _ => 0, by omega, by omega, fun _ => rfl, rfl, rfl, fun _ => (by decide : (0 : Nat) < 256), fun _ _ => rfl, by simp [dsum], World.ownsRow_nil _ _ _ _, Below.refl _ _⟩
  case round =>
    obtain ⟨i, c, f, hik, hc1, hend, rfl, rfl, hf, hfz, hs, hown, hB⟩ := hrel
    have HOW : Hid _ := hown
    have HB : Hid (Below w.heap.size w wr) := hB
    have HS : Hid _ := hs
    have HF : Hid (∀ j, f j < 256) := hf
    have HFZ : Hid (∀ j, i ≤ j → f j = 0) := hfz
    have b0 := hB.size
    by_cases hi5 : i < K + 1
    · have iI : (i : Int) ≤ (K : Int) := by omega
      obtain ⟨x, ex⟩ : ∃ x, x = d i := ⟨_, rfl⟩
      obtain ⟨y, ey⟩ : ∃ y, y = e i := ⟨_, rfl⟩
      have x256 : x < 256 := by rw [ex]; exact HD.out i
      have y256 : y < 256 := by rw [ey]; exact HE.out i
      have D1 : Hid (Calls Tryz.prog 123 #[.slice ad n cap, .int .i64 (i : Int)] wr fun e w' => e = .returned (.int .i64 (x : Int)) ∧ w' = wr) := by rw [ex]; exact digit_is wr _ n d i (HV.out.below hB)
      have D2 : Hid (Calls Tryz.prog 123 #[.slice bd m cap', .int .i64 (i : Int)] wr fun e w' => e = .returned (.int .i64 (y : Int)) ∧ w' = wr) := by rw [ey]; exact digit_is wr _ m e i (HU.out.below hB)
      obtain ⟨nn, enn⟩ : ∃ nn, nn = x + y + c := ⟨_, rfl⟩
      have ST : Hid (dsum (setD f i (nn % 256)) (i + 1) + nn / 256 * 256 ^ (i + 1) = dsum d (i + 1) + dsum e (i + 1)) := plus_step (by rw [enn, ex, ey]) hs
      have HC : Hid (nn / 256 ≤ 1 ∧ (i + 1 = K + 1 → nn / 256 = 0)) := ⟨by omega, fun h => by
        obtain rfl : i = K := by omega
        have h2 := HZ.out
        rw [← ex, ← ey] at h2
        omega⟩
      have b3 : (x : Int) + (y : Int) + (c : Int) = (nn : Int) := by omega
      have b4 : IntKind.i64.wrap (nn : Int) = (nn : Int) := by rw [IntKind.wrap_i64]; omega
      have b5 : IntKind.i64.wrap ((x : Int) + (y : Int)) = (x : Int) + (y : Int) := by rw [IntKind.wrap_i64]; omega
      obtain ⟨r, er⟩ : ∃ r, r = nn % 256 := ⟨_, rfl⟩
      obtain ⟨c', ec'⟩ : ∃ c', c' = nn / 256 := ⟨_, rfl⟩
      rw [← er, ← ec'] at ST
      rw [← ec'] at HC
      have b6 : Int.tmod (nn : Int) 256 = (r : Int) := by rw [Int.tmod_eq_emod_of_nonneg (by omega)]; omega
      have b7 : Int.tdiv (nn : Int) 256 = (c' : Int) := by rw [Int.tdiv_eq_ediv_of_nonneg (by omega)]; omega
      have t4 : (nn : Int) % 256 = (r : Int) := by omega
      have b8 : IntKind.i64.wrap (r : Int) = (r : Int) := by rw [IntKind.wrap_i64]; omega
      have b9 : IntKind.i64.wrap (c' : Int) = (c' : Int) := by rw [IntKind.wrap_i64]; omega
      have r256 : r < 256 := by omega
      have nnI : (nn : Int) ≤ 511 := by omega
      have iI2 : (i : Int) ≤ 1000 := by omega
      clear er ec' enn ex ey hs hf hfz hown hB hend
      go_upto_region 6 with (go_at_call 124; refine (LG.out _).mono ?_; rintro e0 w' ⟨rfl, hw⟩; (have hw2 := hw.symm); clear hw; subst hw2)
      go_wp2_with fail
      refine Calls.mono D1.out ?_
      rintro e0 w' ⟨rfl, hw⟩
      have hw2 := hw.symm
      clear hw
      subst hw2
      go_wp2_with fail
      refine Calls.mono D2.out ?_
      rintro e0 w' ⟨rfl, hw⟩
      have hw2 := hw.symm
      clear hw
      subst hw2
      go_wp2_with (at_builtin; refine wpList_append_own _ rfl _ _ 61 rfl w.heap.size 3 i0 (.int .i64 0) 1 8 Tryz.underlying61 hi hz0 hz1 hz2 rfl (by decide) _ _ _ rfl (World.ownsRow.alloc HOW.out _) ⟨wr.heap.size, 0, none⟩ 1 1 [.int .i64 (r : Int)] rfl rfl (fun j u hj => (by have hj0 : j = 0 := (by have := (List.getElem?_eq_some_iff.1 hj).1; simpa using this); subst hj0; simp at hj; subst hj; (first | (simp [Addr.add]; done) | (simp [Addr.add]; first | exact t4 | omega)))) (fun u hu => (by rw [List.mem_singleton.1 hu]; rfl)) (by unfold maxLen; omega) (by omega) (by simp; omega) ?_; intro v' w1 hown' hgrow _)
      have R : Hid _ := own_set HOW.out HB.out hown' hgrow
      clear hown' hgrow
      go_wp2
      go_roundw
      case rel => exact ⟨i + 1, c', setD f i r, by omega, HC.out.1, HC.out.2, rfl, by go_num, fun j => setD_lt HF.out i r j r256, fun j hj => by rw [setD, if_neg (by omega)]; exact HFZ.out j (by omega), ST.out, R.out⟩
      case measure => simp [intOf]; omega
    · obtain rfl : i = K + 1 := by omega
      have iI : ¬ (((K + 1 : Nat) : Int) ≤ (K : Int)) := by omega
      have hc0 := hend rfl
      have FSu : Hid (dsum f (K + 1) = dsum d K + dsum e K) := by
        have h := hs
        have e1 : dsum d (K + 1) = dsum d K := by rw [dsum, HZ.out.1]; simp
        have e2 : dsum e (K + 1) = dsum e K := by rw [dsum, HZ.out.2]; simp
        rw [hc0, e1, e2, Nat.zero_mul, Nat.add_zero] at h
        exact h
      clear hs hf hfz hown hB hend
      go_wp2_with (go_at_call 124; refine (LG.out _).mono ?_; rintro e0 w' ⟨rfl, hw⟩; (have hw2 := hw.symm); clear hw; subst hw2)
      go_ret
      exact ⟨_, f, rfl, RowAt.own HOW.out HF.out HFZ.out (by omega), FSu.out, HB.out⟩
theorem dsum_full : dsum (setD (fun _ => 0) 32 1) 33 = 256 ^ 32 := by
  rw [dsum_setD, dsum_zero 32 (fun _ _ => rfl), Nat.zero_add, Nat.one_mul]
set_option maxHeartbeats 1000000 in
set_option maxRecDepth 100000 in
theorem full_is (w : World) : Calls Tryz.prog 82 #[] w fun e w' => ∃ v, e = .returned v ∧ RowAt w' v 33 (setD (fun _ => 0) 32 1) ∧ Below w.heap.size w w' := by
  obtain ⟨i0, hi, hz0, hz1, hz2⟩ := info_parts Tryz.infoI
  go_enter Tryz.func82, Tryz.ntmps82
  go_upto_region 2 with (at_make; refine wpList_make_full _ rfl _ _ 61 rfl w.heap.size 3 i0 (.int .i64 0) 1 Tryz.underlying61 hi hz0 hz1 .i64 .i64 _ _ 33 rfl rfl rfl rfl (by rw [hz2]; omega) (by unfold maxLen; omega) (Nat.le_refl _) ?_; intro v1 hown hgrow; (have R1 : Hid (RowI v1 w.heap.size 33 (fun _ => 0)) := RowI.made hown); (have B1 : Hid (Below w.heap.size w v1) := Below.grown (Below.refl _ _) hgrow (Nat.le_refl _) (fun k h => by cases h)); clear hown hgrow)
  have c := (R1.out 32 (by omega)).1
  have f := (R1.out 32 (by omega)).2
  have R2 : Hid (RowI (v1.setCell ⟨w.heap.size, 32, none⟩ (.int .i64 1)) w.heap.size 33 (setD (fun _ => 0) 32 1)) := RowI.set R1.out 32 1
  have B2 : Hid (Below w.heap.size w (v1.setCell ⟨w.heap.size, 32, none⟩ (.int .i64 1))) := Below.setCell B1.out (Nat.le_refl _) _
  go_wp2
  go_ret
  refine ⟨_, rfl, ?_, B2.out⟩
  have h := RowAt.ofRowI (c := 33) R2.out (fun i => setD_lt (fun _ => (by decide : (0 : Nat) < 256)) 32 1 i (by omega)) (by omega)
  have e : cutD (setD (fun _ => 0) 32 1) 33 = setD (fun _ => 0) 32 1 := by
    funext i
    unfold cutD
    by_cases q : i < 33
    · rw [if_pos q]
    · rw [if_neg q, setD, if_neg (by omega)]
  rw [e] at h
  exact h
end Go.Proofs.YtpadpmkfhljiiaaGreat
/- The document's 'minus'. -/
namespace Go.Proofs.YtpadpmkfhljiiaaGreat
open Go.RowKit
theorem minus_step {f d e : Nat → Nat} {i c y c' : Nat} (hy : y + e i + c = d i + c' * 256) (h : dsum f i + dsum e i = dsum d i + c * 256 ^ i) : dsum (setD f i y) (i + 1) + dsum e (i + 1) = dsum d (i + 1) + c' * 256 ^ (i + 1) := by
  rw [dsum_setD, dsum, dsum, Nat.pow_succ, Nat.mul_comm (256 ^ i) 256, ← Nat.mul_assoc]
  have h2 : (y + e i + c) * 256 ^ i = (d i + c' * 256) * 256 ^ i := by rw [hy]
  rw [Nat.add_mul, Nat.add_mul, Nat.add_mul] at h2
  omega
/-- its block, if it has one, is not below B -/
def Above (x : Value) (B : Nat) : Prop := ∀ g o k c, x = .slice (some ⟨g, o, none⟩) k c → B ≤ g
theorem own_above {W : World} {B n : Nat} {v : Value} {cs : List Value} (h : W.ownsRow B 3 1 v n cs) : Above v B := by
  obtain ⟨_, ⟨rfl, rfl⟩ | ⟨g, c, cur, rfl, hb, hh, _⟩⟩ := h
  · intro g o k c e; cases e
  · intro g' o k c' e; cases e; exact hb
/-- what 'minus' gives -/
def MinusRes (d e : Nat → Nat) (K : Nat) (w : World) (r : Ending) (w' : World) : Prop := ∃ x f, r = .returned x ∧ RowAt w' x K f ∧ dsum f K + dsum e K = dsum d K ∧ Above x w.heap.size ∧ Below w.heap.size w w'
set_option maxHeartbeats 4000000 in
set_option maxRecDepth 100000 in
theorem minus_is (w : World) (v u : Value) (n m : Nat) (d e : Nat → Nat) (hv : RowAt w v n d) (hu : RowAt w u m e) (hn : n ≤ 1000) (hm : m ≤ 1000) (K : Nat) (hK : K = max n m) (hle : dsum e K ≤ dsum d K) :
    Calls Tryz.prog 81 #[v, u] w (MinusRes d e K w) := by
  have HV : Hid (RowAt w v n d) := hv
  have HU : Hid (RowAt w u m e) := hu
  have HD : Hid (∀ i, d i < 256) := hv.2.1
  have HE : Hid (∀ i, e i < 256) := hu.2.1
  have HL : Hid (dsum e K ≤ dsum d K) := hle
  obtain ⟨_, _, _, ad, cap, rfl, _⟩ := hv
  obtain ⟨_, _, _, bd, cap', rfl, _⟩ := hu
  obtain ⟨i0, hi, hz0, hz1, hz2⟩ := info_parts Tryz.infoI
  have LG : Hid (∀ W, Calls Tryz.prog 124 #[.slice ad n cap, .slice bd m cap'] W fun e w' => e = .returned (.int .i64 (K : Int)) ∧ w' = W) := fun W => by rw [hK]; exact longer_is W ad bd n m cap cap'
  have K1 : K ≤ 1000 := by omega
  clear hK hle
  go_enter Tryz.func81, Tryz.ntmps81
  go_wp2
  go_loopw [5, 6, 7] (fun s5 sc si wr => ∃ (i c : Nat) (f : Nat → Nat), i ≤ K ∧ c ≤ 1 ∧ sc = .int .i64 c ∧ si = .int .i64 i ∧ (∀ j, f j < 256) ∧ (∀ j, i ≤ j → f j = 0) ∧ dsum f i + dsum e i = dsum d i + c * 256 ^ i ∧ wr.ownsRow w.heap.size 3 1 s5 i (intsD f i) ∧ Below w.heap.size w wr) (fun _ _ si _ => K - (intOf si).toNat)
  case atStart => exact ⟨0, 0, fun _ => 0, by omega, by omega, rfl, rfl, fun _ => (by decide : (0 : Nat) < 256), fun _ _ => rfl, by simp [dsum], World.ownsRow_nil _ _ _ _, Below.refl _ _⟩
  case round =>
    obtain ⟨i, c, f, hik, hc1, rfl, rfl, hf, hfz, hs, hown, hB⟩ := hrel
    have HOW : Hid _ := hown
    have HB : Hid (Below w.heap.size w wr) := hB
    have HS : Hid _ := hs
    have HF : Hid (∀ j, f j < 256) := hf
    have HFZ : Hid (∀ j, i ≤ j → f j = 0) := hfz
    have b0 := hB.size
    by_cases hi5 : i < K
    · have iI : (i : Int) < (K : Int) := by omega
      obtain ⟨x, ex⟩ : ∃ x, x = d i := ⟨_, rfl⟩
      obtain ⟨y, ey⟩ : ∃ y, y = e i := ⟨_, rfl⟩
      have x256 : x < 256 := by rw [ex]; exact HD.out i
      have y256 : y < 256 := by rw [ey]; exact HE.out i
      have D1 : Hid (Calls Tryz.prog 123 #[.slice ad n cap, .int .i64 (i : Int)] wr fun e w' => e = .returned (.int .i64 (x : Int)) ∧ w' = wr) := by rw [ex]; exact digit_is wr _ n d i (HV.out.below hB)
      have D2 : Hid (Calls Tryz.prog 123 #[.slice bd m cap', .int .i64 (i : Int)] wr fun e w' => e = .returned (.int .i64 (y : Int)) ∧ w' = wr) := by rw [ey]; exact digit_is wr _ m e i (HU.out.below hB)
      obtain ⟨nn, enn⟩ : ∃ nn : Int, (x : Int) - (y : Int) - (c : Int) = nn := ⟨_, rfl⟩
      have b4 : IntKind.i64.wrap nn = nn := by rw [IntKind.wrap_i64]; omega
      have b5 : IntKind.i64.wrap ((x : Int) - (y : Int)) = (x : Int) - (y : Int) := by rw [IntKind.wrap_i64]; omega
      have iI2 : (i : Int) ≤ 1000 := by omega
      obtain ⟨r, c', hrc⟩ : ∃ r c' : Nat, (nn < 0 ∧ nn + 256 = (r : Int) ∧ c' = 1) ∨ (0 ≤ nn ∧ nn = (r : Int) ∧ c' = 0) := by
        by_cases hneg : nn < 0
        · exact ⟨(nn + 256).toNat, 1, Or.inl ⟨hneg, by omega, rfl⟩⟩
        · exact ⟨nn.toNat, 0, Or.inr ⟨by omega, by omega, rfl⟩⟩
      have r256 : r < 256 := by omega
      have ST : Hid (dsum (setD f i r) (i + 1) + dsum e (i + 1) = dsum d (i + 1) + c' * 256 ^ (i + 1)) := minus_step (by rw [← ex, ← ey]; omega) hs
      have rI : (r : Int) < 256 := by omega
      have C1 : Hid (c' ≤ 1) := by unfold Hid; omega
      have b8 : IntKind.i64.wrap (r : Int) = (r : Int) := by rw [IntKind.wrap_i64]; omega
      clear ex ey hs hf hfz hown hB
      go_upto_region 6 with (go_at_call 124; refine (LG.out _).mono ?_; rintro e0 w' ⟨rfl, hw⟩; (have hw2 := hw.symm); clear hw; subst hw2)
      go_wp2_with fail
      refine Calls.mono D1.out ?_
      rintro e0 w' ⟨rfl, hw⟩
      have hw2 := hw.symm
      clear hw
      subst hw2
      go_wp2_with fail
      refine Calls.mono D2.out ?_
      rintro e0 w' ⟨rfl, hw⟩
      have hw2 := hw.symm
      clear hw
      subst hw2
      rcases hrc with ⟨hneg, hr, rfl⟩ | ⟨hpos, rfl, rfl⟩
      · go_wp2_with (at_builtin; refine wpList_append_own _ rfl _ _ 61 rfl w.heap.size 3 i0 (.int .i64 0) 1 8 Tryz.underlying61 hi hz0 hz1 hz2 rfl (by decide) _ _ _ rfl (World.ownsRow.alloc HOW.out _) ⟨wr.heap.size, 0, none⟩ 1 1 [.int .i64 (r : Int)] rfl rfl (fun j u hj => (by have hj0 : j = 0 := (by have := (List.getElem?_eq_some_iff.1 hj).1; simpa using this); subst hj0; simp at hj; subst hj; (first | (simp [Addr.add]; done) | (simp [Addr.add]; omega)))) (fun u hu => (by rw [List.mem_singleton.1 hu]; rfl)) (by unfold maxLen; omega) (by omega) (by simp; omega) ?_; intro v' w1 hown' hgrow _)
        have R : Hid _ := own_set HOW.out HB.out hown' hgrow
        clear hown' hgrow
        go_wp2
        go_roundw
        case rel => exact ⟨i + 1, 1, setD f i r, by omega, C1.out, rfl, by go_num, fun j => setD_lt HF.out i r j r256, fun j hj => by rw [setD, if_neg (by omega)]; exact HFZ.out j (by omega), ST.out, R.out⟩
        case measure => simp [intOf]; omega
      · have rneg : ¬ (r : Int) < 0 := by omega
        go_wp2_with (at_builtin; refine wpList_append_own _ rfl _ _ 61 rfl w.heap.size 3 i0 (.int .i64 0) 1 8 Tryz.underlying61 hi hz0 hz1 hz2 rfl (by decide) _ _ _ rfl (World.ownsRow.alloc HOW.out _) ⟨wr.heap.size, 0, none⟩ 1 1 [.int .i64 (r : Int)] rfl rfl (fun j u hj => (by have hj0 : j = 0 := (by have := (List.getElem?_eq_some_iff.1 hj).1; simpa using this); subst hj0; simp at hj; subst hj; (first | (simp [Addr.add]; done) | (simp [Addr.add]; omega)))) (fun u hu => (by rw [List.mem_singleton.1 hu]; rfl)) (by unfold maxLen; omega) (by omega) (by simp; omega) ?_; intro v' w1 hown' hgrow _)
        have R : Hid _ := own_set HOW.out HB.out hown' hgrow
        clear hown' hgrow
        go_wp2
        go_roundw
        case rel => exact ⟨i + 1, 0, setD f i r, by omega, C1.out, rfl, by go_num, fun j => setD_lt HF.out i r j r256, fun j hj => by rw [setD, if_neg (by omega)]; exact HFZ.out j (by omega), ST.out, R.out⟩
        case measure => simp [intOf]; omega
    · obtain rfl : i = K := by omega
      have FSu : Hid (dsum f i + dsum e i = dsum d i) := by
        have h1 := HL.out
        have h2 := dsum_lt HF.out i
        have h3 := hs
        rcases Nat.lt_or_ge c 1 with h | h
        · obtain rfl : c = 0 := by omega
          rw [Nat.zero_mul, Nat.add_zero] at h3; exact h3
        · obtain rfl : c = 1 := by omega
          rw [Nat.one_mul] at h3
          unfold Hid; omega
      clear hs hf hfz hown hB
      go_wp2_with (go_at_call 124; refine (LG.out _).mono ?_; rintro e0 w' ⟨rfl, hw⟩; (have hw2 := hw.symm); clear hw; subst hw2)
      go_ret
      exact ⟨_, f, rfl, RowAt.own HOW.out HF.out HFZ.out (by omega), FSu.out, own_above HOW.out, HB.out⟩
end Go.Proofs.YtpadpmkfhljiiaaGreat
