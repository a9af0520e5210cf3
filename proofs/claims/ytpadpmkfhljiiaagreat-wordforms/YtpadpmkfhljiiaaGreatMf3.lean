/- The document's 'of' (a word's digits), 'none', and its comparisons. -/
import Derived.Test.YtpadpmkfhljiiaaGreatMf1
import Derived.Test.YtpadpmkfhljiiaaGreatMf2
import Derived.Deep.QuietTactic
import Derived.BigQuiet
import Derived.Deep.MidRow
import Derived.Deep.RegionWith
namespace Go.Proofs.YtpadpmkfhljiiaaGreat
open Go.RowKit
theorem dig_limb {a0 a1 a2 a3 : Int} (h0 : U64 a0) (h1 : U64 a1) (h2 : U64 a2) (h3 : U64 a3) (X : Nat) (hX : V a0 a1 a2 a3 = (X : Int)) (i : Nat) (hi : i < 32) : ((limb a0 a1 a2 a3 (i / 8)).toNat / 256 ^ (i % 8)) % 256 = dig X i := by
  obtain ⟨h00, h01⟩ := h0
  obtain ⟨h10, h11⟩ := h1
  obtain ⟨h20, h21⟩ := h2
  obtain ⟨h30, h31⟩ := h3
  unfold Bd at h01 h11 h21 h31
  unfold V Bd at hX
  rw [dig, if_pos hi]
  obtain ⟨q, eq⟩ : ∃ q, q = i / 8 := ⟨_, rfl⟩
  obtain ⟨r, er⟩ : ∃ r, r = i % 8 := ⟨_, rfl⟩
  rw [show i = 8 * q + r by omega, show (8 * q + r) / 8 = q by omega, show (8 * q + r) % 8 = r by omega, Nat.pow_add, ← Nat.div_div_eq_div_mul]
  have hq : q = 0 ∨ q = 1 ∨ q = 2 ∨ q = 3 := by omega
  have hr : r = 0 ∨ r = 1 ∨ r = 2 ∨ r = 3 ∨ r = 4 ∨ r = 5 ∨ r = 6 ∨ r = 7 := by omega
  have key : ∃ hi : Nat, X / 256 ^ (8 * q) = (limb a0 a1 a2 a3 q).toNat + 18446744073709551616 * hi := by
    rcases hq with rfl | rfl | rfl | rfl
    · exact ⟨X / 18446744073709551616, by simp only [limb]; simp; omega⟩
    · exact ⟨X / 340282366920938463463374607431768211456, by simp only [limb]; simp; omega⟩
    · exact ⟨X / 6277101735386680763835789423207666416102355444464034512896, by simp only [limb]; simp; omega⟩
    · exact ⟨0, by simp only [limb]; simp; omega⟩
  obtain ⟨hh, key⟩ := key
  rw [key]
  generalize (limb a0 a1 a2 a3 q).toNat = l
  rcases hr with rfl | rfl | rfl | rfl | rfl | rfl | rfl | rfl <;> simp only [Nat.reducePow, Nat.pow_zero] <;> omega
theorem of_step {W0 wr w1 : World} {v v' : Value} {o : Obj} {d : Nat → Nat} {k y : Nat} (hy : y = d k) (hown : wr.ownsRow W0.heap.size 3 1 v k (intsD d k)) (hB : Below W0.heap.size W0 wr)
    (hown' : w1.ownsRow W0.heap.size 3 1 v' (k + 1) (intsD d k ++ [.int .i64 (y : Int)])) (hg : (wr.alloc o).grownBy w1 v.ownBlock) :
    w1.ownsRow W0.heap.size 3 1 v' (k + 1) (intsD d (k + 1)) ∧ Below W0.heap.size W0 w1 := by
  rw [intsD_snoc, ← hy]
  exact ⟨hown', Below.grown (hB.alloc hB.size o) hg (by have := hB.size; simp; omega) (fun q h => (hown.lt q h).1)⟩
set_option maxHeartbeats 2000000 in
set_option maxRecDepth 100000 in
theorem of_is (x : Int) (a0 a1 a2 a3 : Int) (w : World) (ha : IsW x a0 a1 a2 a3) (X : Nat) (hX : V a0 a1 a2 a3 = (X : Int)) :
    Calls Tryz.prog 79 #[.agg #[.int .u64 a0, .int .u64 a1, .int .u64 a2, .int .u64 a3]] w fun e w' => ∃ v, e = .returned v ∧ RowAt w' v 32 (dig X) ∧ Below w.heap.size w w' := by
  have HA : Hid (IsW x a0 a1 a2 a3) := ha
  have HX : Hid (V a0 a1 a2 a3 = (X : Int)) := hX
  obtain ⟨i0, hi, hz0, hz1, hz2⟩ := info_parts Tryz.infoI
  have B1 : Hid (Below w.heap.size w (w.alloc (.cells #[.int .u64 a0, .int .u64 a1, .int .u64 a2, .int .u64 a3] 24))) := (Below.refl _ _).alloc (by omega) _
  have hc := box_cell w a0 a1 a2 a3 24
  have HC : Hid _ := hc
  clear ha hX hc
  go_enter Tryz.func79, Tryz.ntmps79
  go_wp2
  obtain ⟨W0, e0⟩ : ∃ W0, w.alloc (.cells #[.int .u64 a0, .int .u64 a1, .int .u64 a2, .int .u64 a3] 24) = W0 := ⟨_, rfl⟩
  rw [e0] at B1 HC ⊢
  have z0 : w.heap.size < W0.heap.size := World.block_lt_of_cell? W0 _ (HC.out 0 (by omega))
  clear e0
  go_loopw [3, 4] (fun s3 i wr => ∃ k : Nat, k ≤ 32 ∧ i = .int .i64 k ∧ wr.ownsRow W0.heap.size 3 1 s3 k (intsD (dig X) k) ∧ Below W0.heap.size W0 wr) (fun _ i _ => 32 - (intOf i).toNat)
  case atStart => exact ⟨0, by omega, rfl, World.ownsRow_nil _ _ _ _, Below.refl _ _⟩
  case round =>
    obtain ⟨k, hk, rfl, hown, hB⟩ := hrel
    have HOW : Hid _ := hown
    have HB : Hid _ := hB
    have b0 := hB.size
    by_cases hk5 : k < 32
    · have kI : (k : Int) < 32 := by omega
      obtain ⟨q, eq⟩ : ∃ q : Nat, q = k / 8 := ⟨_, rfl⟩
      obtain ⟨r, er⟩ : ∃ r : Nat, r = k % 8 := ⟨_, rfl⟩
      have t1 : Int.tdiv (k : Int) 8 = (q : Int) := by rw [Int.tdiv_eq_ediv_of_nonneg (by omega)]; omega
      have t2 : Int.tmod (k : Int) 8 = (r : Int) := by rw [Int.tmod_eq_emod_of_nonneg (by omega)]; omega
      have w1 : IntKind.i64.wrap (q : Int) = (q : Int) := by rw [IntKind.wrap_i64]; omega
      have w2 : IntKind.i64.wrap (r : Int) = (r : Int) := by rw [IntKind.wrap_i64]; omega
      have qI : (q : Int) < 4 := by omega
      have r8 : r < 8 := by omega
      have cell := (hB.cell (p := ⟨w.heap.size, q, none⟩) z0).trans (HC.out q (by omega))
      have hu := limb_u64 HA.out.u0 HA.out.u1 HA.out.u2 HA.out.u3 q
      have hd := dig_limb HA.out.u0 HA.out.u1 HA.out.u2 HA.out.u3 X HX.out k hk5
      rw [← eq, ← er] at hd
      generalize limb a0 a1 a2 a3 q = z at cell hu hd
      obtain ⟨zn, rfl⟩ : ∃ zn : Nat, z = (zn : Int) := ⟨z.toNat, by have := hu.1; omega⟩
      have zb : zn < 18446744073709551616 := by have := hu.2; unfold Bd at this; omega
      rw [Int.toNat_natCast] at hd
      have HD : Hid _ := hd
      clear hd hu eq er hown hB
      go_wp2
      go_loop [5, 6] (fun c j => ∃ m : Nat, m ≤ r ∧ j = .int .i64 m ∧ c = .int .u64 ((zn / 256 ^ m : Nat) : Int)) (fun _ j => r - (intOf j).toNat)
      case atStart => exact ⟨0, by omega, rfl, by rw [Nat.pow_zero, Nat.div_one]⟩
      case round =>
        obtain ⟨m, hm, rfl, rfl⟩ := hrel
        by_cases hmr : m < r
        · have mI : (m : Int) < (r : Int) := by omega
          have m8 : (m : Int) < 8 := by omega
          have e1 : zn / 256 ^ (m + 1) = zn / 256 ^ m / 256 := by rw [Nat.pow_succ, Nat.div_div_eq_div_mul]
          have l1 : zn / 256 ^ m ≤ zn := Nat.div_le_self _ _
          have E1 : Hid _ := e1
          generalize zn / 256 ^ m = u at e1 l1 E1
          have t3 : Int.tdiv (u : Int) 256 = ((u / 256 : Nat) : Int) := by rw [Int.tdiv_eq_ediv_of_nonneg (by omega)]; omega
          have w3 : IntKind.u64.wrap ((u / 256 : Nat) : Int) = ((u / 256 : Nat) : Int) := by rw [IntKind.wrap_u64]; omega
          clear e1
          go_wp2
          go_round
          case rel => exact ⟨m + 1, by omega, by go_num, by rw [E1.out]; first | rfl | (congr 1; omega)⟩
          case measure => simp [intOf]; omega
        · obtain rfl : m = r := by omega
          have mI : ¬ ((m : Int) < (m : Int)) := by omega
          have l1 : zn / 256 ^ m ≤ zn := Nat.div_le_self _ _
          generalize zn / 256 ^ m = u at HD l1
          obtain ⟨y, ey⟩ : ∃ y : Nat, y = u % 256 := ⟨_, rfl⟩
          have t3 : Int.tmod (u : Int) 256 = (y : Int) := by rw [Int.tmod_eq_emod_of_nonneg (by omega)]; omega
          have t4 : (u : Int) % 256 = (y : Int) := by omega
          have w3 : IntKind.u64.wrap (y : Int) = (y : Int) := by rw [IntKind.wrap_u64]; omega
          have w4 : IntKind.i64.wrap (y : Int) = (y : Int) := by rw [IntKind.wrap_i64]; omega
          have EY : Hid (y = dig X k) := by have h := HD.out; unfold Hid; rw [← h, ey]
          clear ey HD
          go_wp2_with (at_builtin; refine wpList_append_own _ rfl _ _ 61 rfl W0.heap.size 3 i0 (.int .i64 0) 1 8 Tryz.underlying61 hi hz0 hz1 hz2 rfl (by decide) _ _ _ rfl (World.ownsRow.alloc HOW.out _) ⟨wr.heap.size, 0, none⟩ 1 1 [.int .i64 (y : Int)] rfl rfl (fun j u hj => (by have hj0 : j = 0 := (by have := (List.getElem?_eq_some_iff.1 hj).1; simpa using this); subst hj0; simp at hj; subst hj; (first | (simp [Addr.add]; done) | (simp [Addr.add]; first | exact t4 | omega)))) (fun u hu => (by rw [List.mem_singleton.1 hu]; rfl)) (by unfold maxLen; omega) (by omega) (by simp; omega) ?_; intro v' w1 hown' hgrow _)
          have R : Hid _ := of_step EY.out HOW.out HB.out hown' hgrow
          clear hown' hgrow
          go_wp2
          go_roundw
          case rel => exact ⟨k + 1, by omega, by go_num, R.out⟩
          case measure => simp [intOf]; omega
    · obtain rfl : k = 32 := by omega
      clear hown hB
      go_wp2
      go_ret
      exact ⟨_, rfl, RowAt.own HOW.out (dig_lt X) (fun i hi => by rw [dig, if_neg (by omega)]) (by omega), Below.trans B1.out (HB.out.mono (by omega))⟩
end Go.Proofs.YtpadpmkfhljiiaaGreat
/- Sums, products and powers, their words named ahead. -/
namespace Go.Proofs.YtpadpmkfhljiiaaGreat
open Go.RowKit
theorem isW_ex (v : Int) : ∃ a0 a1 a2 a3 : Int, IsW v a0 a1 a2 a3 := by
  refine ⟨v % 18446744073709551616, v / 18446744073709551616 % 18446744073709551616, v / 340282366920938463463374607431768211456 % 18446744073709551616, v / 6277101735386680763835789423207666416102355444464034512896 % 18446744073709551616, ⟨⟨by omega, by unfold Bd; omega⟩, ⟨by omega, by unfold Bd; omega⟩, ⟨by omega, by unfold Bd; omega⟩, ⟨by omega, by unfold Bd; omega⟩⟩, ?_⟩
  unfold V Bd MM; omega
theorem eqw_same (a0 a1 a2 a3 : Int) (W : World) : Sem.run Tryz.prog (Op.equalIn 10000 24 (.agg #[.int .u64 a0, .int .u64 a1, .int .u64 a2, .int .u64 a3]) (.agg #[.int .u64 a0, .int .u64 a1, .int .u64 a2, .int .u64 a3])) W = .ok true W := by
  rw [eqw_run]; simp [eqw]
/-- the operation at a place of a region that is written out -/
theorem op0 {x : Oper} {r : List Oper} : (x :: r).toArray[0]? = some x := rfl
theorem op1 {a x : Oper} {r : List Oper} : (a :: x :: r).toArray[1]? = some x := rfl
theorem op2 {a b x : Oper} {r : List Oper} : (a :: b :: x :: r).toArray[2]? = some x := rfl
theorem op3 {a b c x : Oper} {r : List Oper} : (a :: b :: c :: x :: r).toArray[3]? = some x := rfl
theorem op4 {a b c d x : Oper} {r : List Oper} : (a :: b :: c :: d :: x :: r).toArray[4]? = some x := rfl
theorem op5 {a b c d e x : Oper} {r : List Oper} : (a :: b :: c :: d :: e :: x :: r).toArray[5]? = some x := rfl
theorem op6 {a b c d e f x : Oper} {r : List Oper} : (a :: b :: c :: d :: e :: f :: x :: r).toArray[6]? = some x := rfl
theorem op7 {a b c d e f g x : Oper} {r : List Oper} : (a :: b :: c :: d :: e :: f :: g :: x :: r).toArray[7]? = some x := rfl
theorem op8 {a b c d e f g h x : Oper} {r : List Oper} : (a :: b :: c :: d :: e :: f :: g :: h :: x :: r).toArray[8]? = some x := rfl
theorem op9 {a b c d e f g h i x : Oper} {r : List Oper} : (a :: b :: c :: d :: e :: f :: g :: h :: i :: x :: r).toArray[9]? = some x := rfl
theorem op10 {a b c d e f g h i j x : Oper} {r : List Oper} : (a :: b :: c :: d :: e :: f :: g :: h :: i :: j :: x :: r).toArray[10]? = some x := rfl
theorem op11 {a b c d e f g h i j k x : Oper} {r : List Oper} : (a :: b :: c :: d :: e :: f :: g :: h :: i :: j :: k :: x :: r).toArray[11]? = some x := rfl
theorem op12 {a b c d e f g h i j k l x : Oper} {r : List Oper} : (a :: b :: c :: d :: e :: f :: g :: h :: i :: j :: k :: l :: x :: r).toArray[12]? = some x := rfl
theorem op13 {a b c d e f g h i j k l m x : Oper} {r : List Oper} : (a :: b :: c :: d :: e :: f :: g :: h :: i :: j :: k :: l :: m :: x :: r).toArray[13]? = some x := rfl
theorem op14 {a b c d e f g h i j k l m n x : Oper} {r : List Oper} : (a :: b :: c :: d :: e :: f :: g :: h :: i :: j :: k :: l :: m :: n :: x :: r).toArray[14]? = some x := rfl
theorem op15 {a b c d e f g h i j k l m n o x : Oper} {r : List Oper} : (a :: b :: c :: d :: e :: f :: g :: h :: i :: j :: k :: l :: m :: n :: o :: x :: r).toArray[15]? = some x := rfl
end Go.Proofs.YtpadpmkfhljiiaaGreat
/- The document's 'small', 'cut', 'bit', 'word'. -/
namespace Go.Proofs.YtpadpmkfhljiiaaGreat
open Go.RowKit
theorem dsum_split (d : Nat → Nat) (a : Nat) : ∀ b, dsum d (a + b) = dsum d a + 256 ^ a * dsum (fun r => d (a + r)) b
  | 0 => by simp [dsum]
  | b + 1 => by
    rw [← Nat.add_assoc, dsum, dsum_split d a b, dsum, Nat.mul_add, Nat.pow_add]
    have : d (a + b) * (256 ^ a * 256 ^ b) = 256 ^ a * (d (a + b) * 256 ^ b) := by rw [Nat.mul_left_comm]
    omega
theorem dsum_front (d : Nat → Nat) (k : Nat) : dsum d (k + 1) = d 0 + 256 * dsum (fun r => d (1 + r)) k := by
  have := dsum_split d 1 k
  rw [Nat.add_comm 1 k] at this
  rw [this]; simp [dsum]
theorem dsum_mod {d : Nat → Nat} (hd : ∀ i, d i < 256) (n c : Nat) : dsum d n % 256 ^ c = dsum (fun i => if i < c then d i else 0) n := by
  by_cases h : n ≤ c
  · have h1 := dsum_lt hd n
    have h2 : 256 ^ n ≤ 256 ^ c := Nat.pow_le_pow_right (by omega) h
    rw [Nat.mod_eq_of_lt (by omega)]
    exact dsum_ext n fun i hi => by rw [if_pos (by omega)]
  · obtain ⟨b, rfl⟩ : ∃ b, n = c + b := ⟨n - c, by omega⟩
    rw [dsum_split, Nat.add_mul_mod_self_left, Nat.mod_eq_of_lt (dsum_lt hd c)]
    rw [dsum_more (n := c) (fun i hi => by simp only [show ¬ (i < c) by omega, if_false]) (c + b) (by omega)]
    exact dsum_ext c fun i hi => by rw [if_pos hi]
def cutD (d : Nat → Nat) (c i : Nat) : Nat := if i < c then d i else 0
theorem cutD_sum {d : Nat → Nat} (hd : ∀ i, d i < 256) (n c : Nat) : dsum (cutD d c) n = dsum d n % 256 ^ c := (dsum_mod hd n c).symm
end Go.Proofs.YtpadpmkfhljiiaaGreat
/- The document's 'times': the plain product of two rows. -/
namespace Go.Proofs.YtpadpmkfhljiiaaGreat
open Go.RowKit
/-- cells of numbers, which may be written -/
def RowI (W : World) (g N : Nat) (f : Nat → Nat) : Prop := ∀ j, j < N → W.cell? ⟨g, j, none⟩ = some (.int .i64 (f j : Int)) ∧ W.frozen? ⟨g, j, none⟩ = false
theorem RowI.lt {W : World} {g N : Nat} {f : Nat → Nat} (h : RowI W g N f) (hN : 0 < N) : g < W.heap.size := World.block_lt_of_cell? W _ (h 0 hN).1
/-- one digit is turned -/
def setD (f : Nat → Nat) (s y : Nat) (j : Nat) : Nat := if j = s then y else f j
theorem RowI.set {w : World} {g N : Nat} {f : Nat → Nat} (h : RowI w g N f) (s y : Nat) : RowI (w.setCell ⟨g, s, none⟩ (.int .i64 (y : Int))) g N (setD f s y) := fun j hj => by
  refine ⟨?_, by rw [World.frozen?_setCell]; exact (h j hj).2⟩
  unfold setD
  by_cases e : j = s
  · subst e; rw [World.cell?_setCell_same _ _ _ (h j hj).1, if_pos rfl]
  · rw [World.cell?_setCell_other _ _ _ _ (by intro e'; injection e' with _ e' _; exact e e'.symm), if_neg e]; exact (h j hj).1
theorem dsum_set (f : Nat → Nat) (s y : Nat) : ∀ N, s < N → dsum (setD f s y) N + f s * 256 ^ s = dsum f N + y * 256 ^ s
  | 0, h => absurd h (by omega)
  | N + 1, h => by
    by_cases e : s = N
    · subst e
      rw [dsum, dsum, dsum_ext s (d := setD f s y) (e := f) (fun i hi => by unfold setD; rw [if_neg (by omega)])]
      simp only [setD, if_true]; omega
    · have := dsum_set f s y N (by omega)
      rw [dsum, dsum, show setD f s y N = f N by unfold setD; rw [if_neg (by omega)]]; omega
theorem setD_lt {f : Nat → Nat} (hf : ∀ i, f i < 256) (s y i : Nat) (hy : y < 256) : setD f s y i < 256 := by unfold setD; split; exact hy; exact hf i
theorem made_at (N j : Nat) (h : j < N) : (madeCells #[Value.int .i64 0] (N * 1)).toList[j]? = some (.int .i64 0) := by
  simp [madeCells, h, Nat.mod_one]
theorem RowI.made {w1 : World} {B g N : Nat} (h : w1.ownsRow B 3 1 (.slice (some ⟨g, 0, none⟩) N N) N (madeCells #[Value.int .i64 0] (N * 1)).toList) : RowI w1 g N (fun _ => 0) := fun j hj =>
  ⟨by rw [h.cellAt j (by omega), made_at N j hj]; rfl, h.frozenAt j⟩
end Go.Proofs.YtpadpmkfhljiiaaGreat
/- Numbers of many parts of 64 bits, and what a long division reckons: no condition, no Go text. -/
namespace Go.Proofs.YtpadpmkfhljiiaaGreat
theorem Bd_pos : 0 < Bd := by unfold Bd; omega
theorem Bp (n : Nat) : (0 : Int) < Bd ^ n := Int.pow_pos Bd_pos
/-- the number of the first n parts -/
def nv (r : Nat → Int) : Nat → Int
  | 0 => 0
  | n + 1 => nv r n + r n * Bd ^ n
/-- the parts from k on -/
def sh (r : Nat → Int) (k : Nat) (i : Nat) : Int := r (k + i)
theorem nv_range {r : Nat → Int} (h : ∀ i, U64 (r i)) : ∀ n, 0 ≤ nv r n ∧ nv r n < Bd ^ n
  | 0 => by simp [nv]
  | n + 1 => by
    obtain ⟨h1, h2⟩ := nv_range h n
    have h3 := Bp n
    have h4 : (r n + 1) * Bd ^ n ≤ Bd * Bd ^ n := Int.mul_le_mul_of_nonneg_right (h n).2 (Int.le_of_lt h3)
    have h5 : 0 ≤ r n * Bd ^ n := Int.mul_nonneg (h n).1 (Int.le_of_lt h3)
    rw [Int.add_mul, Int.one_mul] at h4
    rw [nv, Int.pow_succ, Int.mul_comm (Bd ^ n) Bd]; omega
theorem nv_ext {r s : Nat → Int} : ∀ n, (∀ i, i < n → r i = s i) → nv r n = nv s n
  | 0, _ => rfl
  | n + 1, h => by rw [nv, nv, nv_ext n (fun i hi => h i (by omega)), h n (by omega)]
theorem nv_split (r : Nat → Int) (a : Nat) : ∀ k, nv r (a + k) = nv r a + Bd ^ a * nv (sh r a) k
  | 0 => by simp [nv]
  | k + 1 => by
    rw [← Nat.add_assoc, nv, nv_split r a k, nv, Int.mul_add, Int.pow_add]
    show _ = _ + (_ + Bd ^ a * (r (a + k) * Bd ^ k))
    rw [Int.mul_left_comm (Bd ^ a)]; omega
theorem nv_zero {r : Nat → Int} : ∀ n, (∀ i, i < n → r i = 0) → nv r n = 0
  | 0, _ => rfl
  | n + 1, h => by rw [nv, nv_zero n (fun i hi => h i (by omega)), h n (by omega)]; simp
theorem nv_more {r : Nat → Int} (n m : Nat) (h : n ≤ m) (hz : ∀ i, n ≤ i → i < m → r i = 0) : nv r m = nv r n := by
  obtain ⟨k, rfl⟩ := Nat.exists_eq_add_of_le h
  have hz' : nv (sh r n) k = 0 := nv_zero k (fun i hi => hz _ (by omega) (by omega))
  rw [nv_split, hz']; simp
theorem nv_set (q : Nat → Int) (k : Nat) (d : Int) : ∀ n, k < n → q k = 0 → nv (fun i => if i = k then d else q i) n = nv q n + d * Bd ^ k
  | 0, h, _ => absurd h (by omega)
  | n + 1, h, h0 => by
    by_cases e : k = n
    · subst e
      have hx : nv (fun i => if i = k then d else q i) k = nv q k := nv_ext k (fun i hi => if_neg (by omega))
      rw [nv, nv, hx, h0]; simp
    · rw [nv, nv, nv_set q k d n (by omega) h0]
      simp only [if_neg (fun h' : n = k => e h'.symm)]; omega
theorem sh_u64 {r : Nat → Int} (h : ∀ i, U64 (r i)) (k : Nat) : ∀ i, U64 (sh r k i) := fun i => h (k + i)
/-- what is below a power has no parts from there on -/
theorem nv_top {r : Nat → Int} (h : ∀ i, U64 (r i)) (a k : Nat) (hl : nv r (a + k) < Bd ^ a) : nv (sh r a) k = 0 := by
  have h1 := (nv_range (sh_u64 h a) k).1
  have h2 := (nv_range h a).1
  rw [nv_split] at hl
  by_cases e : nv (sh r a) k = 0
  · exact e
  · have h3 : Bd ^ a * 1 ≤ Bd ^ a * nv (sh r a) k := Int.mul_le_mul_of_nonneg_left (by omega) (Int.le_of_lt (Bp a))
    omega
/-- a column of the division: behind it stand n + 1 parts, the divisor's number is D -/
structure Col (r : Nat → Int) (n a : Nat) (D : Int) : Prop where
  u : ∀ i, U64 (r i)
  d0 : 0 < D
  dn : D < Bd ^ n
  lt : nv r 9 < D * Bd ^ (a + 1)
  fits : a + n < 9
theorem Col.high {r : Nat → Int} {n a : Nat} {D : Int} (c : Col r n a D) : nv (sh r (a + n + 1)) (8 - a - n) = 0 := by
  have hf := c.fits
  refine nv_top c.u _ _ ?_
  rw [show a + n + 1 + (8 - a - n) = 9 by omega]
  refine Int.lt_of_lt_of_le c.lt ?_
  have := Int.mul_le_mul_of_nonneg_right (Int.le_of_lt c.dn) (Int.le_of_lt (Bp (a + 1)))
  rw [← Int.pow_add] at this
  rwa [show a + n + 1 = n + (a + 1) by omega]
theorem nv_three (r : Nat → Int) (n a : Nat) (h : a + n < 9) (hz : nv (sh r (a + n + 1)) (8 - a - n) = 0) : nv r 9 = nv r a + Bd ^ a * nv (sh r a) (n + 1) := by
  have h1 := nv_split r (a + n + 1) (8 - a - n)
  rw [show a + n + 1 + (8 - a - n) = 9 by omega, hz] at h1
  rw [h1, show a + n + 1 = a + (n + 1) by omega, nv_split]; simp
theorem Col.whole {r : Nat → Int} {n a : Nat} {D : Int} (c : Col r n a D) : nv r 9 = nv r a + Bd ^ a * nv (sh r a) (n + 1) := nv_three r n a c.fits c.high
theorem Col.below {r : Nat → Int} {n a : Nat} {D : Int} (c : Col r n a D) : 0 ≤ nv (sh r a) (n + 1) ∧ nv (sh r a) (n + 1) < D * Bd := by
  refine ⟨(nv_range (sh_u64 c.u a) _).1, ?_⟩
  have h1 := c.whole
  have h2 := c.lt
  have h3 := (nv_range c.u a).1
  rw [h1, Int.pow_succ, Int.mul_comm (Bd ^ a) Bd, ← Int.mul_assoc, Int.mul_comm (D * Bd) (Bd ^ a)] at h2
  exact Int.lt_of_mul_lt_mul_left (show Bd ^ a * nv (sh r a) (n + 1) < Bd ^ a * (D * Bd) by omega) (Int.le_of_lt (Bp a))
theorem Col.digit {r : Nat → Int} {n a : Nat} {D : Int} (c : Col r n a D) : 0 ≤ nv (sh r a) (n + 1) / D ∧ nv (sh r a) (n + 1) / D < Bd := by
  have h := c.below
  exact ⟨Int.ediv_nonneg h.1 (Int.le_of_lt c.d0), Int.ediv_lt_of_lt_mul c.d0 (by rw [Int.mul_comm]; exact h.2)⟩
/-- the guess: of the highest two parts by the divisor's highest -/
theorem Col.guess {r d : Nat → Int} {m a : Nat} {D : Int} (c : Col r (m + 1) a D) (hd : ∀ i, U64 (d i)) (hD : D = nv d (m + 1)) : nv (sh r a) (m + 1 + 1) / D * d m ≤ r (a + (m + 1)) * Bd + r (a + m) := by
  have h0 := c.digit.1
  have h1 : nv (sh r a) (m + 1 + 1) / D * D ≤ nv (sh r a) (m + 1 + 1) := Int.ediv_mul_le _ (by have := c.d0; omega)
  have h2 : d m * Bd ^ m ≤ D := by rw [hD, nv]; have := (nv_range hd m).1; omega
  have h3 := (nv_range (sh_u64 c.u a) m).2
  have h4 : nv (sh r a) (m + 1 + 1) = nv (sh r a) m + (r (a + m) + r (a + (m + 1)) * Bd) * Bd ^ m := by
    rw [nv, nv, Int.pow_succ, Int.add_mul, Int.mul_comm (Bd ^ m) Bd, ← Int.mul_assoc]
    show _ + r (a + m) * _ + r (a + (m + 1)) * _ * _ = _
    omega
  generalize nv (sh r a) (m + 1 + 1) / D = k at h0 h1
  have h5 : k * (d m * Bd ^ m) ≤ k * D := Int.mul_le_mul_of_nonneg_left h2 h0
  rw [h4] at h1
  have h6 : Bd ^ m * (k * d m) < Bd ^ m * (r (a + (m + 1)) * Bd + r (a + m) + 1) := by
    rw [Int.mul_add, Int.mul_one, Int.mul_comm (Bd ^ m) (k * d m), Int.mul_assoc, Int.mul_comm (Bd ^ m), Int.add_comm (r (a + (m + 1)) * Bd)]; omega
  have h7 := Int.lt_of_mul_lt_mul_left h6 (Int.le_of_lt (Bp m))
  omega
/-- what is taken off, and what is left: so long as it is there -/
structure Off (r d : Nat → Int) (n a : Nat) (k : Int) (s : Nat → Int) (b : Bool) : Prop where
  u : ∀ i, U64 (s i)
  same : ∀ i, i < a ∨ a + n < i → s i = r i
  yes : b = true → nv (sh r a) (n + 1) = nv (sh s a) (n + 1) + k * nv d n
  no : b = false → nv (sh r a) (n + 1) < k * nv d n
theorem Off.left {r d s : Nat → Int} {n a : Nat} {k D : Int} (h : Off r d n a k s true) (c : Col r n a D) (hD : D = nv d n) (hk : k = nv (sh r a) (n + 1) / D) : nv r 9 = nv s 9 + k * (D * Bd ^ a) ∧ nv s 9 < D * Bd ^ a := by
  have h1 := h.yes rfl
  have hf := c.fits
  have e1 := c.whole
  have hz : nv (sh s (a + n + 1)) (8 - a - n) = 0 := by
    rw [← c.high]; exact nv_ext _ (fun i _ => h.same _ (Or.inr (by omega)))
  have e2 := nv_three s n a hf hz
  have e3 : nv s a = nv r a := nv_ext a (fun i hi => h.same _ (Or.inl hi))
  rw [← hD] at h1
  have h2 : nv (sh s a) (n + 1) = nv (sh r a) (n + 1) % D := by
    have := Int.mul_ediv_add_emod (nv (sh r a) (n + 1)) D
    rw [← hk, Int.mul_comm D k] at this
    omega
  have h3 : nv (sh s a) (n + 1) + 1 ≤ D := by have := Int.emod_lt_of_pos (nv (sh r a) (n + 1)) c.d0; omega
  have h4 := (nv_range c.u a).2
  have h5 := Int.mul_le_mul_of_nonneg_left h3 (Int.le_of_lt (Bp a))
  rw [Int.mul_add, Int.mul_one] at h5
  refine ⟨?_, ?_⟩
  · rw [e1, e2, e3, h1, Int.mul_add, ← Int.mul_assoc k D, Int.mul_comm (k * D) (Bd ^ a)]; omega
  · rw [e2, e3, Int.mul_comm D]; omega
theorem Col.none {r : Nat → Int} {n a : Nat} {D : Int} (c : Col r n a D) (hk : nv (sh r a) (n + 1) / D = 0) : nv r 9 < D * Bd ^ a := by
  have e1 := c.whole
  have h2 : nv (sh r a) (n + 1) + 1 ≤ D := by
    have h3 := Int.mul_ediv_add_emod (nv (sh r a) (n + 1)) D
    have := Int.emod_lt_of_pos (nv (sh r a) (n + 1)) c.d0
    rw [hk, Int.mul_zero] at h3; omega
  have h4 := (nv_range c.u a).2
  have h5 := Int.mul_le_mul_of_nonneg_left h2 (Int.le_of_lt (Bp a))
  rw [Int.mul_add, Int.mul_one] at h5
  rw [e1, Int.mul_comm D]; omega
/-- one part of taking off -/
theorem off_step {r0 r d : Nat → Int} {a i : Nat} {k c b c' b' p s : Int} (h : nv (sh r0 a) i + (b + c) * Bd ^ i = nv (sh r a) i + k * nv d i) (e1 : d i * k + c = c' * Bd + p) (e2 : r0 (a + i) - p - b = s - Bd * b') :
    nv (sh r0 a) (i + 1) + (b' + c') * Bd ^ (i + 1) = nv (sh (fun j => if j = a + i then s else r j) a) (i + 1) + k * nv d (i + 1) := by
  have hx : nv (sh (fun j => if j = a + i then s else r j) a) i = nv (sh r a) i := nv_ext i (fun j hj => by simp only [sh]; rw [if_neg (by omega)])
  have hy : sh (fun j => if j = a + i then s else r j) a i = s := by simp [sh]
  rw [nv, nv, nv, hx, hy, Int.mul_add, ← Int.mul_assoc k, Int.pow_succ]
  show _ + r0 (a + i) * _ + _ = _
  have e3 : r0 (a + i) * Bd ^ i + (b' + c') * (Bd ^ i * Bd) = (s + k * d i + (b + c)) * Bd ^ i := by
    rw [Int.mul_comm (Bd ^ i) Bd, ← Int.mul_assoc, ← Int.add_mul]
    congr 1
    rw [Int.add_mul, Int.mul_comm k (d i), Int.mul_comm b' Bd]
    omega
  have e4 : (s + k * d i + (b + c)) * Bd ^ i = s * Bd ^ i + k * d i * Bd ^ i + (b + c) * Bd ^ i := by rw [Int.add_mul, Int.add_mul]
  rw [e4] at e3
  omega
theorem off_end {r0 r d : Nat → Int} {a n : Nat} {k c b b' s : Int} (h : nv (sh r0 a) n + (b + c) * Bd ^ n = nv (sh r a) n + k * nv d n) (e2 : r0 (a + n) - c - b = s - Bd * b') :
    nv (sh r0 a) (n + 1) + b' * Bd ^ (n + 1) = nv (sh (fun j => if j = a + n then s else r j) a) (n + 1) + k * nv d n := by
  have hx : nv (sh (fun j => if j = a + n then s else r j) a) n = nv (sh r a) n := nv_ext n (fun j hj => by simp only [sh]; rw [if_neg (by omega)])
  have hy : sh (fun j => if j = a + n then s else r j) a n = s := by simp [sh]
  rw [nv, nv, hx, hy, Int.pow_succ]
  show _ + r0 (a + n) * _ + _ = _
  have e3 : r0 (a + n) * Bd ^ n + b' * (Bd ^ n * Bd) = (s + (b + c)) * Bd ^ n := by
    rw [Int.mul_comm (Bd ^ n) Bd, ← Int.mul_assoc, ← Int.add_mul]
    congr 1
    rw [Int.mul_comm b' Bd]; omega
  have e4 : (s + (b + c)) * Bd ^ n = s * Bd ^ n + (b + c) * Bd ^ n := by rw [Int.add_mul]
  rw [e4] at e3
  omega
theorem Off.of {r0 s d : Nat → Int} {a n : Nat} {k b : Int} (hu : ∀ i, U64 (s i)) (hs : ∀ i, i < a ∨ a + n < i → s i = r0 i) (h : nv (sh r0 a) (n + 1) + b * Bd ^ (n + 1) = nv (sh s a) (n + 1) + k * nv d n) (hb0 : 0 ≤ b) (hb1 : b ≤ 1) : Off r0 d n a k s (b == 0) := by
  have h1 := nv_range (sh_u64 hu a) (n + 1)
  refine ⟨hu, hs, fun e => ?_, fun e => ?_⟩
  · have : b = 0 := by simpa using e
    rw [this, Int.zero_mul] at h; omega
  · have : b = 1 := by have : ¬ b = 0 := by simpa using e
                       omega
    rw [this, Int.one_mul] at h; omega
/-- the start of the division -/
theorem div_start {u v : Nat → Int} {n m k : Nat} {P : Int} (hu : ∀ i, U64 (u i)) (hv : ∀ i, U64 (v i)) (hP : 0 < P) (hn : v n ≠ 0) (hm : m ≤ 8) (hz : ∀ i, m ≤ i → i < 8 → u i = 0) (hk : m ≤ n + k) : nv u 8 * P < nv v (n + 1) * P * Bd ^ k := by
  have h1 : nv u 8 < Bd ^ m := by rw [nv_more m 8 hm hz]; exact (nv_range hu m).2
  have h2 : Bd ^ n ≤ nv v (n + 1) := by
    rw [nv]
    have h3 := (nv_range hv n).1
    have h4 := Int.mul_le_mul_of_nonneg_right (show 1 ≤ v n by have := (hv n).1; omega) (Int.le_of_lt (Bp n))
    rw [Int.one_mul] at h4; omega
  have h5 : Bd ^ m ≤ Bd ^ n * Bd ^ k := by
    rw [← Int.pow_add]
    obtain ⟨j, hj⟩ := Nat.exists_eq_add_of_le hk
    rw [hj, Int.pow_add]
    have := Int.mul_le_mul_of_nonneg_left (show 1 ≤ Bd ^ j by have := Bp j; omega) (Int.le_of_lt (Bp m))
    omega
  have h6 := Int.mul_le_mul_of_nonneg_right h2 (Int.le_of_lt (Bp k))
  have h7 := Int.mul_lt_mul_of_pos_right (show nv u 8 < nv v (n + 1) * Bd ^ k by omega) hP
  rw [Int.mul_assoc, Int.mul_comm P, ← Int.mul_assoc]; exact h7
/-- the end of the division -/
theorem div_end {U v P Q T : Int} (hP : 0 < P) (hv : 0 < v) (h : U * P = Q * (v * P) + T) (h0 : 0 ≤ T) (hT : T < v * P) : Q = U / v ∧ T = (U % v) * P := by
  have h1 : T = (U - Q * v) * P := by rw [Int.sub_mul, Int.mul_assoc]; omega
  have h2 : 0 ≤ U - Q * v := by
    by_cases e : 0 ≤ U - Q * v
    · exact e
    · have := Int.mul_lt_mul_of_pos_right (show U - Q * v < 0 by omega) hP
      omega
  have h3 : U - Q * v < v := Int.lt_of_mul_lt_mul_right (by rw [← h1]; exact hT) (Int.le_of_lt hP)
  have h4 : U % v = U - Q * v := by
    have e : U = (U - Q * v) + v * Q := by rw [Int.mul_comm v Q]; omega
    conv => lhs; rw [e]
    rw [Int.add_mul_emod_self_left, Int.emod_eq_of_lt h2 h3]
  refine ⟨?_, by rw [h4]; exact h1⟩
  have h5 := Int.mul_ediv_add_emod U v
  rw [h4] at h5
  have h6 : v * (U / v) = v * Q := by rw [Int.mul_comm v Q]; omega
  exact (Int.eq_of_mul_eq_mul_left (by omega) h6).symm
end Go.Proofs.YtpadpmkfhljiiaaGreat
/- Rows of 8 and of 9 numbers in a block: that they lie there and may be written; loads, stores, new blocks. -/
namespace Go.Proofs.YtpadpmkfhljiiaaGreat
open Go.RowKit
/-- the first n cells of block b are the numbers v, and may be written -/
def Row (w : World) (b n : Nat) (v : Nat → Int) : Prop := ∀ i, i < n → w.cell? ⟨b, i, none⟩ = some (.int .u64 (v i)) ∧ w.frozen? ⟨b, i, none⟩ = false
def rowL (n : Nat) (v : Nat → Int) : List Value := (List.range n).map fun i => .int .u64 (v i)
theorem rowL_len (n : Nat) (v : Nat → Int) : (rowL n v).length = n := by simp [rowL]
theorem rowL_at (n : Nat) (v : Nat → Int) (i : Nat) (h : i < n) : (rowL n v)[i]? = some (.int .u64 (v i)) := by simp [rowL, h]
theorem Row.lt {w : World} {b n : Nat} {v : Nat → Int} (h : Row w b n v) (hn : 0 < n) : b < w.heap.size := World.block_lt_of_cell? w _ (h 0 hn).1
theorem Row.below {w w' : World} {B b n : Nat} {v : Nat → Int} (h : Row w b n v) (k : Below B w w') (hb : b < B) : Row w' b n v := fun i hi =>
  ⟨(k.cell (p := ⟨b, i, none⟩) hb).trans (h i hi).1, (k.frozen (p := ⟨b, i, none⟩) hb).trans (h i hi).2⟩
theorem Row.drew {w : World} {b n : Nat} {v : Nat → Int} (h : Row w b n v) : Row w.drew b n v := fun i hi => by simpa using h i hi
theorem Row.alloc {w : World} {b n : Nat} {v : Nat → Int} (h : Row w b n v) (o : Obj) : Row (w.alloc o) b n v := fun i hi => by
  have hb := World.block_lt_of_cell? w _ (h i hi).1
  exact ⟨by rw [World.cell?_alloc_lt _ _ _ hb]; exact (h i hi).1, by rw [World.frozen?_alloc_past _ _ _ hb]; exact (h i hi).2⟩
theorem Row.set_other {w : World} {b n : Nat} {v : Nat → Int} (h : Row w b n v) (p : Addr) (x : Value) (hp : p.block ≠ b) : Row (w.setCell p x) b n v := fun i hi =>
  ⟨by rw [World.cell?_setCell_other _ _ _ _ (by intro e; subst e; exact hp rfl)]; exact (h i hi).1, by rw [World.frozen?_setCell]; exact (h i hi).2⟩
theorem Row.set {w : World} {b n : Nat} {v : Nat → Int} (h : Row w b n v) (k : Nat) (x : Int) : Row (w.setCell ⟨b, k, none⟩ (.int .u64 x)) b n (fun i => if i = k then x else v i) := fun i hi => by
  refine ⟨?_, by rw [World.frozen?_setCell]; exact (h i hi).2⟩
  dsimp only
  by_cases e : i = k
  · subst e; rw [World.cell?_setCell_same _ _ _ (h i hi).1, if_pos rfl]
  · rw [World.cell?_setCell_other _ _ _ _ (by intro e'; injection e' with _ e' _; exact e e'.symm), if_neg e]; exact (h i hi).1
theorem Row.new (w : World) (t : TypeId) (n : Nat) (v : Nat → Int) : Row (w.alloc (.cells (rowL n v).toArray t)) w.heap.size n v := fun i hi => by
  rw [World.cell?_alloc_at _ _ _ _ rfl]
  exact ⟨by simp [rowL, hi], by simp [World.frozen?_alloc_at]⟩
theorem Row.range {w : World} {b n : Nat} {v : Nat → Int} (h : Row w b n v) : w.rangeAt b 0 (rowL n v) := fun j x hx => by
  have hj : j < n := by have := (List.getElem?_eq_some_iff.1 hx).1; rwa [rowL_len] at this
  rw [rowL_at n v j hj] at hx; rw [Nat.zero_add, ← hx]; exact (h j hj).1
theorem Row.there {w : World} {b n : Nat} {v : Nat → Int} (h : Row w b n v) : w.there b 0 n := fun j hj => by
  rw [Nat.zero_add, (h j hj).1]; exact ⟨rfl, (h j hj).2⟩
theorem Row.of_range {w : World} {b n : Nat} {u v : Nat → Int} (h : Row w b n u) : Row (w.setCells b 0 (rowL n v)) b n v := fun i hi => by
  have := World.rangeAt_setCells_same w b 0 (rowL n v) (by rw [rowL_len]; exact h.there) i _ (rowL_at n v i hi)
  rw [Nat.zero_add] at this
  exact ⟨this, by rw [World.frozen?_setCells]; exact (h i hi).2⟩
theorem Row.set_others {b n c : Nat} {v : Nat → Int} (hc : c ≠ b) : ∀ (vs : List Value) (o : Nat) {w : World}, Row w b n v → Row (w.setCells c o vs) b n v
  | [], _, _, h => h
  | x :: r, o, w, h => by rw [World.setCells]; exact Row.set_others hc r (o + 1) (h.set_other _ _ hc)
theorem Box.set_others {b c : Nat} {a0 a1 a2 a3 : Int} (hc : c ≠ b) : ∀ (vs : List Value) (o : Nat) {w : World}, Box w b a0 a1 a2 a3 → Box (w.setCells c o vs) b a0 a1 a2 a3
  | [], _, _, h => h
  | x :: r, o, w, h => by rw [World.setCells]; exact Box.set_others hc r (o + 1) (h.other _ _ hc)
theorem below_setCells {B : Nat} {a : World} (b : Nat) (hb : B ≤ b) : ∀ (vs : List Value) (o : Nat) (w : World), Below B a w → Below B a (w.setCells b o vs)
  | [], _, _, h => h
  | v :: r, o, w, h => by rw [World.setCells]; exact below_setCells b hb r (o + 1) _ (h.setCell hb v)
theorem results_ct {fn : Func} {p q : Tmp} {ty : TypeId} (h : fn.results = #[.cell p ty, .tmp q]) (tmps : Array Value) (P : Program) (w : World) (a : Addr) (ha : tmps.getD p undef = .pointer (some a)) {v x : Value} (hx : tmps.getD q undef = x) (hl : (loadVar ty a).run P w = .ok v w) : (results fn tmps).run P w = .ok (.tuple #[v, x]) w := by
  have ha' : tmps[p]?.getD undef = .pointer (some a) := by simpa using ha
  have hx' : tmps[q]?.getD undef = x := by simpa using hx
  simp only [results, h]
  simp [ha', hx', hl, asAddr]
theorem results_c {fn : Func} {p : Tmp} {ty : TypeId} (h : fn.results = #[.cell p ty]) (tmps : Array Value) (P : Program) (w : World) (a : Addr) (ha : tmps.getD p undef = .pointer (some a)) {v : Value} (hl : (loadVar ty a).run P w = .ok v w) : (results fn tmps).run P w = .ok v w := by
  have ha' : tmps[p]?.getD undef = .pointer (some a) := by simpa using ha
  simp only [results, h]
  simp [ha', hl, asAddr]
theorem Box.row {w : World} {b : Nat} {a0 a1 a2 a3 : Int} (h : Box w b a0 a1 a2 a3) (i : Nat) (hi : i < 4) : w.cell? ⟨b, i, none⟩ = some (.int .u64 (limb a0 a1 a2 a3 i)) := h.1 i hi
end Go.Proofs.YtpadpmkfhljiiaaGreat
/- The document's 'bit' and 'word'. -/
namespace Go.Proofs.YtpadpmkfhljiiaaGreat
open Go.RowKit
/-- cells of 64 bits -/
def RowU (W : World) (b n : Nat) (v : Nat → Nat) : Prop := ∀ i, i < n → W.cell? ⟨b, i, none⟩ = some (.int .u64 (v i : Int)) ∧ W.frozen? ⟨b, i, none⟩ = false
theorem RowU.set {w : World} {b n : Nat} {v u : Nat → Nat} (h : RowU w b n v) (k x : Nat) (hk : u k = x) (ho : ∀ i, i < n → i ≠ k → u i = v i) : RowU (w.setCell ⟨b, k, none⟩ (.int .u64 (x : Int))) b n u := fun i hi => by
  refine ⟨?_, by rw [World.frozen?_setCell]; exact (h i hi).2⟩
  by_cases e : i = k
  · subst e; rw [World.cell?_setCell_same _ _ _ (h i hi).1, hk]
  · rw [World.cell?_setCell_other _ _ _ _ (by intro e'; injection e' with _ e' _; exact e e'.symm), ho i hi e]; exact (h i hi).1
/-- what limb q holds while the digits from j on are laid -/
def lw (d : Nat → Nat) (j q : Nat) : Nat := if 8 * q + 8 ≤ j then 0 else if j ≤ 8 * q then dsum (fun r => d (8 * q + r)) 8 else dsum (fun r => d (j + r)) (8 * q + 8 - j)
theorem lw_step (d : Nat → Nat) (j : Nat) : lw d j (j / 8) = lw d (j + 1) (j / 8) * 256 + d j := by
  obtain ⟨q, eq⟩ : ∃ q, q = j / 8 := ⟨_, rfl⟩
  rw [← eq]
  have e0 : ∀ k, dsum (fun r => d (j + r)) (k + 1) = dsum (fun r => d (j + 1 + r)) k * 256 + d j := fun k => by
    rw [dsum_front, Nat.add_zero, Nat.mul_comm, Nat.add_comm]
    congr 2
    apply congrFun
    apply congrArg
    funext r; rw [Nat.add_assoc]
  unfold lw
  rw [if_neg (by omega)]
  by_cases h1 : 8 * q + 8 ≤ j + 1
  · rw [if_pos h1]
    by_cases h2 : j ≤ 8 * q
    · omega
    · rw [if_neg h2, show 8 * q + 8 - j = 0 + 1 by omega, e0]; simp [dsum]
  · rw [if_neg h1, if_neg (show ¬ (j + 1 ≤ 8 * q) by omega)]
    by_cases h2 : j ≤ 8 * q
    · rw [if_pos h2]
      obtain rfl : j = 8 * q := by omega
      rw [show 8 * q + 8 - (8 * q + 1) = 7 by omega]; exact e0 7
    · rw [if_neg h2, show 8 * q + 8 - j = (8 * q + 8 - (j + 1)) + 1 by omega, e0]
theorem lw_other (d : Nat → Nat) (j i : Nat) (h : i ≠ j / 8) : lw d j i = lw d (j + 1) i := by
  unfold lw
  by_cases h1 : 8 * i + 8 ≤ j
  · rw [if_pos h1, if_pos (show 8 * i + 8 ≤ j + 1 by omega)]
  · have h1' : ¬ (8 * i + 8 ≤ j + 1) := by omega
    by_cases h2 : j ≤ 8 * i
    · have h2' : j + 1 ≤ 8 * i := by omega
      rw [if_neg h1, if_pos h2, if_neg h1', if_pos h2']
    · omega
theorem lw_lt {d : Nat → Nat} (hd : ∀ i, d i < 256) (j : Nat) : lw d (j + 1) (j / 8) < 72057594037927936 := by
  unfold lw
  split
  · omega
  · split
    · omega
    · have h := dsum_lt (d := fun r => d (j + 1 + r)) (fun i => hd _) (8 * (j / 8) + 8 - (j + 1))
      have h2 : 256 ^ (8 * (j / 8) + 8 - (j + 1)) ≤ 256 ^ 7 := Nat.pow_le_pow_right (by omega) (by omega)
      have h3 : (256 : Nat) ^ 7 = 72057594037927936 := by decide
      omega
theorem lw_end {d : Nat → Nat} (hd : ∀ i, d i < 256) : IsW (dsum d 32 : Int) (lw d 0 0 : Int) (lw d 0 1 : Int) (lw d 0 2 : Int) (lw d 0 3 : Int) := by
  have hl : ∀ q, lw d 0 q = dsum (fun r => d (8 * q + r)) 8 := fun q => by unfold lw; rw [if_neg (by omega), if_pos (by omega)]
  have hb : ∀ q, lw d 0 q < 18446744073709551616 := fun q => by
    rw [hl]
    have := dsum_lt (d := fun r => d (8 * q + r)) (fun i => hd _) 8
    have h3 : (256 : Nat) ^ 8 = 18446744073709551616 := by decide
    omega
  have hs : dsum d 32 = lw d 0 0 + 18446744073709551616 * (lw d 0 1 + 18446744073709551616 * (lw d 0 2 + 18446744073709551616 * lw d 0 3)) := by
    have a1 := dsum_split d 8 24
    have a2 := dsum_split (fun r => d (8 + r)) 8 16
    have a3 := dsum_split (fun r => d (16 + r)) 8 8
    have p8 : (256 : Nat) ^ 8 = 18446744073709551616 := by decide
    have c1 : (fun r => d (8 + (8 + r))) = fun r => d (16 + r) := by funext r; congr 1; omega
    have c2 : (fun r => d (16 + (8 + r))) = fun r => d (24 + r) := by funext r; congr 1; omega
    have l0 : lw d 0 0 = dsum d 8 := by rw [hl]; exact dsum_ext 8 fun i _ => by simp
    rw [hl 1, hl 2, hl 3, l0]
    simp only [p8] at a1 a2 a3
    rw [c1] at a2
    rw [c2] at a3
    rw [show 8 + 24 = 32 from rfl] at a1
    rw [show 8 + 16 = 24 from rfl] at a2
    rw [show 8 + 8 = 16 from rfl] at a3
    rw [a1, a2, a3]
  have h0 := hb 0
  have h1 := hb 1
  have h2 := hb 2
  have h3 := hb 3
  refine isW_of ⟨by omega, by unfold Bd; omega⟩ ⟨by omega, by unfold Bd; omega⟩ ⟨by omega, by unfold Bd; omega⟩ ⟨by omega, by unfold Bd; omega⟩ 0 ?_
  rw [hs]; unfold V Bd; omega
set_option maxHeartbeats 2000000 in
set_option maxRecDepth 100000 in
theorem word_is (w : World) (v : Value) (n : Nat) (d : Nat → Nat) (hv : RowAt w v n d) :
    Calls Tryz.prog 77 #[v] w fun e w' => ∃ s0 s1 s2 s3 : Int, e = .returned (.agg #[.int .u64 s0, .int .u64 s1, .int .u64 s2, .int .u64 s3]) ∧ IsW (dsum d 32 : Int) s0 s1 s2 s3 ∧ Below w.heap.size w w' := by
  have HV : Hid (RowAt w v n d) := hv
  have HD : Hid _ := hv.2.1
  clear hv
  have B0 : Hid (∀ o1 o2, Below w.heap.size w ((w.alloc o1).alloc o2)) := fun o1 o2 => ((Below.refl _ _).alloc (Nat.le_refl _) _).alloc (by simp) _
  have R0 : Hid (Box ((w.alloc (.cells #[.int .u64 0, .int .u64 0, .int .u64 0, .int .u64 0] 24)).alloc (.cells #[.int .u64 0, .int .u64 0, .int .u64 0, .int .u64 0] 24)) w.heap.size 0 0 0 0) := (Box.new w 24 0 0 0 0).alloc _
  have R1 : Hid (RowU ((w.alloc (.cells #[.int .u64 0, .int .u64 0, .int .u64 0, .int .u64 0] 24)).alloc (.cells #[.int .u64 0, .int .u64 0, .int .u64 0, .int .u64 0] 24)) (w.heap.size + 1) 4 (lw d 32)) := fun i hi => by
    have h := Box.new (w.alloc (.cells #[.int .u64 0, .int .u64 0, .int .u64 0, .int .u64 0] 24)) 24 0 0 0 0
    rw [World.size_alloc] at h
    have h2 := h.1 i hi
    have e : lw d 32 i = 0 := by unfold lw; rw [if_pos (by omega)]
    have e2 : limb 0 0 0 0 i = 0 := by unfold limb; split; rfl; split; rfl; split <;> rfl
    rw [e2] at h2
    exact ⟨by rw [h2, e]; rfl, h.2 i hi⟩
  go_enter Tryz.func77, Tryz.ntmps77
  go_wp2
  go_loopw [4] (fun s wr => ∃ j : Nat, s = .int .i64 ((j : Int) - 1) ∧ j ≤ 32 ∧ Below w.heap.size w wr ∧ Box wr w.heap.size 0 0 0 0 ∧ RowU wr (w.heap.size + 1) 4 (lw d j)) (fun s _ => (intOf s + 1).toNat)
  case atStart => exact ⟨32, rfl, by omega, B0.out _ _, R0.out, R1.out⟩
  case round =>
    obtain ⟨j, rfl, hj, hB, hbx, hR⟩ := hrel
    clear R0 R1 B0
    have HBx : Hid (Box wr w.heap.size 0 0 0 0) := hbx
    have HB : Hid (Below w.heap.size w wr) := hB
    have HRo : Hid (RowU wr (w.heap.size + 1) 4 (lw d j)) := hR
    clear hbx hB hR
    rcases j with _ | j
    · obtain ⟨r0, r1, r2, r3, f0, f1, f2, f3⟩ := Box.facts HBx.out
      have p0 := (HRo.out 0 (by omega)).1
      have p1 := (HRo.out 1 (by omega)).1
      have p2 := (HRo.out 2 (by omega)).1
      have p3 := (HRo.out 3 (by omega)).1
      have HE : Hid _ := lw_end HD.out
      generalize ((lw d 0 0 : Nat) : Int) = s0 at p0 HE
      generalize ((lw d 0 1 : Nat) : Int) = s1 at p1 HE
      generalize ((lw d 0 2 : Nat) : Int) = s2 at p2 HE
      generalize ((lw d 0 3 : Nat) : Int) = s3 at p3 HE
      go_wp2
      exact bodyPost_ret (v := .agg #[.int .u64 s0, .int .u64 s1, .int .u64 s2, .int .u64 s3]) (by simp [results, Tryz.results77, go_sem, r0, r1, r2, r3]) rfl ⟨s0, s1, s2, s3, rfl, HE.out, below_put HB.out (Nat.le_refl _) _ _ _ _⟩
    · rw [show ((j + 1 : Nat) : Int) - 1 = (j : Int) by omega]
      obtain ⟨q, eq⟩ : ∃ q : Nat, q = j / 8 := ⟨_, rfl⟩
      have t1 : Int.tdiv (j : Int) 8 = (q : Int) := by rw [Int.tdiv_eq_ediv_of_nonneg (by omega)]; omega
      have w1 : IntKind.i64.wrap (q : Int) = (q : Int) := by rw [IntKind.wrap_i64]; omega
      have jI : (0 : Int) ≤ (j : Int) := by omega
      have qI : (q : Int) < 4 := by omega
      have q4 : q < 4 := by omega
      have c1 := (HRo.out q q4).1
      have f1 := (HRo.out q q4).2
      have st := lw_step d j
      have lt := lw_lt HD.out j
      have hdj := HD.out j
      rw [← eq] at st lt
      obtain ⟨y, ey⟩ : ∃ y, y = d j := ⟨_, rfl⟩
      have DG : Hid (∀ W : World, Below w.heap.size w W → Calls Tryz.prog 123 #[v, .int .i64 (j : Int)] W fun e w' => e = .returned (.int .i64 (y : Int)) ∧ w' = W) := fun W hW => by rw [ey]; exact digit_is W v n d j (HV.out.below hW)
      rw [← ey] at st hdj
      obtain ⟨z, ez⟩ : ∃ z, z = lw d (j + 1) q := ⟨_, rfl⟩
      obtain ⟨u, eu⟩ : ∃ u, u = lw d j q := ⟨_, rfl⟩
      rw [← ez] at c1 st lt
      rw [← eu] at st
      have m1 : IntKind.u64.wrap ((z : Int) * 256) = ((z * 256 : Nat) : Int) := by rw [IntKind.wrap_u64]; omega
      have m2 : IntKind.u64.wrap (y : Int) = (y : Int) := by rw [IntKind.wrap_u64]; omega
      have m3 : IntKind.u64.wrap (((z * 256 : Nat) : Int) + (y : Int)) = (u : Int) := by rw [IntKind.wrap_u64]; omega
      have m4 : IntKind.u64.wrap ((z : Int) * 256 + (y : Int)) = (u : Int) := by rw [IntKind.wrap_u64]; omega
      have STEP : Hid (∀ W, Below w.heap.size w W → Box W w.heap.size 0 0 0 0 → RowU W (w.heap.size + 1) 4 (lw d (j + 1)) → Below w.heap.size w (W.setCell ⟨w.heap.size + 1, q, none⟩ (.int .u64 (u : Int))) ∧ Box (W.setCell ⟨w.heap.size + 1, q, none⟩ (.int .u64 (u : Int))) w.heap.size 0 0 0 0 ∧ RowU (W.setCell ⟨w.heap.size + 1, q, none⟩ (.int .u64 (u : Int))) (w.heap.size + 1) 4 (lw d j)) := fun W h1 h2 h3 =>
        ⟨h1.setCell (by simp) _, h2.other _ _ (by simp), h3.set q u eu.symm (fun i _ hi => lw_other d j i (by rw [← eq]; exact hi))⟩
      clear st lt hdj ey ez eu eq
      go_upto_region 5 with fail
      go_region_with (go_at_call 123; refine (DG.out _ (Below.drew HB.out)).mono ?_; rintro e0 w' ⟨rfl, hw⟩; (have hw2 := hw.symm); clear hw; subst hw2)
      all_goals
        go_wp2
        go_roundw
        case rel => exact ⟨j, rfl, by omega, Below.drew (STEP.out wr HB.out HBx.out HRo.out).1, Box.drew (STEP.out wr HB.out HBx.out HRo.out).2.1, (STEP.out wr HB.out HBx.out HRo.out).2.2⟩
        case measure => simp [intOf]
end Go.Proofs.YtpadpmkfhljiiaaGreat
/- The document's 'plus' and 'full' (as in Rh, for the seat that has no Sum). -/
namespace Go.Proofs.YtpadpmkfhljiiaaGreat
open Go.RowKit
end Go.Proofs.YtpadpmkfhljiiaaGreat
/- The document's 'minus'. -/
namespace Go.Proofs.YtpadpmkfhljiiaaGreat
open Go.RowKit
/-- its block, if it has one, is not below B -/
def Above (x : Value) (B : Nat) : Prop := ∀ g o k c, x = .slice (some ⟨g, o, none⟩) k c → B ≤ g
end Go.Proofs.YtpadpmkfhljiiaaGreat
