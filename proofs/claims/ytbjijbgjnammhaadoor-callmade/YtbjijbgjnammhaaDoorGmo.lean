/- A word's digits, its size, whether it is a number of 64 bits: the document's. -/
import Derived.Test.YtbjijbgjnammhaaDoorRa
import Derived.Test.YtbjijbgjnammhaaDoorGma
namespace Go.Proofs.YtbjijbgjnammhaaDoor.Wds
open Go.RowKit
theorem box_cell (w : World) (a0 a1 a2 a3 : Int) (t : TypeId) (i : Nat) (h : i < 4) : (w.alloc (.cells #[.int .u64 a0, .int .u64 a1, .int .u64 a2, .int .u64 a3] t)).cell? ⟨w.heap.size, i, none⟩ = some (.int .u64 (limb a0 a1 a2 a3 i)) := by
  rw [World.cell?_alloc_at _ _ _ _ rfl]
  obtain rfl | rfl | rfl | rfl : i = 0 ∨ i = 1 ∨ i = 2 ∨ i = 3 := by omega
  all_goals rfl
theorem dig_limb {a0 a1 a2 a3 : Int} (h0 : U64 a0) (h1 : U64 a1) (h2 : U64 a2) (h3 : U64 a3) (X : Nat) (hX : V a0 a1 a2 a3 = (X : Int)) (i : Nat) (hi : i < 32) : ((limb a0 a1 a2 a3 (i / 8)).toNat / 256 ^ (i % 8)) % 256 = dig X i := by
  obtain ⟨h00, h01⟩ := h0
  obtain ⟨h10, h11⟩ := h1
  obtain ⟨h20, h21⟩ := h2
  obtain ⟨h30, h31⟩ := h3
  unfold Bd at h01 h11 h21 h31
  unfold V Bd at hX
  rw [dig, if_pos hi]
  obtain ⟨q, eq⟩ : ∃ q, q = i / 8 := ⟨_, rfl⟩
  obtain ⟨r, er⟩ : ∃ r, r = i % 8 := ⟨_, rfl⟩
  rw [show i = 8 * q + r by omega, show (8 * q + r) / 8 = q by omega, show (8 * q + r) % 8 = r by omega, Nat.pow_add, ← Nat.div_div_eq_div_mul]
  have hq : q = 0 ∨ q = 1 ∨ q = 2 ∨ q = 3 := by omega
  have hr : r = 0 ∨ r = 1 ∨ r = 2 ∨ r = 3 ∨ r = 4 ∨ r = 5 ∨ r = 6 ∨ r = 7 := by omega
  have key : ∃ hi : Nat, X / 256 ^ (8 * q) = (limb a0 a1 a2 a3 q).toNat + 18446744073709551616 * hi := by
    rcases hq with rfl | rfl | rfl | rfl
    · exact ⟨X / 18446744073709551616, by simp only [limb]; simp; omega⟩
    · exact ⟨X / 340282366920938463463374607431768211456, by simp only [limb]; simp; omega⟩
    · exact ⟨X / 6277101735386680763835789423207666416102355444464034512896, by simp only [limb]; simp; omega⟩
    · exact ⟨0, by simp only [limb]; simp; omega⟩
  obtain ⟨hh, key⟩ := key
  rw [key]
  generalize (limb a0 a1 a2 a3 q).toNat = l
  rcases hr with rfl | rfl | rfl | rfl | rfl | rfl | rfl | rfl <;> simp only [Nat.reducePow, Nat.pow_zero] <;> omega
theorem of_step {W0 wr w1 : World} {v v' : Value} {o : Obj} {d : Nat → Nat} {k y : Nat} (hy : y = d k) (hown : wr.ownsRow W0.heap.size 3 1 v k (intsD d k)) (hB : Below W0.heap.size W0 wr)
    (hown' : w1.ownsRow W0.heap.size 3 1 v' (k + 1) (intsD d k ++ [.int .i64 (y : Int)])) (hg : (wr.alloc o).grownBy w1 v.ownBlock) :
    w1.ownsRow W0.heap.size 3 1 v' (k + 1) (intsD d (k + 1)) ∧ Below W0.heap.size W0 w1 := by
  rw [intsD_snoc, ← hy]
  exact ⟨hown', Below.grown (hB.alloc hB.size o) hg (by have := hB.size; simp; omega) (fun q h => (hown.lt q h).1)⟩
set_option maxHeartbeats 2000000 in
set_option maxRecDepth 100000 in
theorem of_is (x : Int) (a0 a1 a2 a3 : Int) (w : World) (ha : IsW x a0 a1 a2 a3) (X : Nat) (hX : V a0 a1 a2 a3 = (X : Int)) :
    Calls Tryd.prog 12 #[.agg #[.int .u64 a0, .int .u64 a1, .int .u64 a2, .int .u64 a3]] w fun e w' => ∃ v, e = .returned v ∧ RowAt w' v 32 (dig X) ∧ Below w.heap.size w w' := by
  have HA : Hid (IsW x a0 a1 a2 a3) := ha
  have HX : Hid (V a0 a1 a2 a3 = (X : Int)) := hX
  obtain ⟨i0, hi, hz0, hz1, hz2⟩ := info_parts Tryd.infoI
  have B1 : Hid (Below w.heap.size w (w.alloc (.cells #[.int .u64 a0, .int .u64 a1, .int .u64 a2, .int .u64 a3] 26))) := (Below.refl _ _).alloc (by omega) _
  have hc := box_cell w a0 a1 a2 a3 26
  have HC : Hid _ := hc
  clear ha hX hc
  go_enter Tryd.func12, Tryd.ntmps12
  go_wp2
  obtain ⟨W0, e0⟩ : ∃ W0, w.alloc (.cells #[.int .u64 a0, .int .u64 a1, .int .u64 a2, .int .u64 a3] 26) = W0 := ⟨_, rfl⟩
  rw [e0] at B1 HC ⊢
  have z0 : w.heap.size < W0.heap.size := World.block_lt_of_cell? W0 _ (HC.out 0 (by omega))
  clear e0
  go_loopw [3, 4] (fun s3 i wr => ∃ k : Nat, k ≤ 32 ∧ i = .int .i64 k ∧ wr.ownsRow W0.heap.size 3 1 s3 k (intsD (dig X) k) ∧ Below W0.heap.size W0 wr) (fun _ i _ => 32 - (intOf i).toNat)
  case atStart => exact ⟨0, by omega, rfl, World.ownsRow_nil _ _ _ _, Below.refl _ _⟩
  case round =>
    obtain ⟨k, hk, rfl, hown, hB⟩ := hrel
    have HOW : Hid _ := hown
    have HB : Hid _ := hB
    have b0 := hB.size
    by_cases hk5 : k < 32
    · have kI : (k : Int) < 32 := by omega
      obtain ⟨q, eq⟩ : ∃ q : Nat, q = k / 8 := ⟨_, rfl⟩
      obtain ⟨r, er⟩ : ∃ r : Nat, r = k % 8 := ⟨_, rfl⟩
      have t1 : Int.tdiv (k : Int) 8 = (q : Int) := by rw [Int.tdiv_eq_ediv_of_nonneg (by omega)]; omega
      have t2 : Int.tmod (k : Int) 8 = (r : Int) := by rw [Int.tmod_eq_emod_of_nonneg (by omega)]; omega
      have w1 : IntKind.i64.wrap (q : Int) = (q : Int) := by rw [IntKind.wrap_i64]; omega
      have w2 : IntKind.i64.wrap (r : Int) = (r : Int) := by rw [IntKind.wrap_i64]; omega
      have qI : (q : Int) < 4 := by omega
      have r8 : r < 8 := by omega
      have cell := (hB.cell (p := ⟨w.heap.size, q, none⟩) z0).trans (HC.out q (by omega))
      have hu := limb_u64 HA.out.u0 HA.out.u1 HA.out.u2 HA.out.u3 q
      have hd := dig_limb HA.out.u0 HA.out.u1 HA.out.u2 HA.out.u3 X HX.out k hk5
      rw [← eq, ← er] at hd
      generalize limb a0 a1 a2 a3 q = z at cell hu hd
      obtain ⟨zn, rfl⟩ : ∃ zn : Nat, z = (zn : Int) := ⟨z.toNat, by have := hu.1; omega⟩
      have zb : zn < 18446744073709551616 := by have := hu.2; unfold Bd at this; omega
      rw [Int.toNat_natCast] at hd
      have HD : Hid _ := hd
      clear hd hu eq er hown hB
      go_wp2
      go_loop [5, 6] (fun c j => ∃ m : Nat, m ≤ r ∧ j = .int .i64 m ∧ c = .int .u64 ((zn / 256 ^ m : Nat) : Int)) (fun _ j => r - (intOf j).toNat)
      case atStart => exact ⟨0, by omega, rfl, by rw [Nat.pow_zero, Nat.div_one]⟩
      case round =>
        obtain ⟨m, hm, rfl, rfl⟩ := hrel
        by_cases hmr : m < r
        · have mI : (m : Int) < (r : Int) := by omega
          have m8 : (m : Int) < 8 := by omega
          have e1 : zn / 256 ^ (m + 1) = zn / 256 ^ m / 256 := by rw [Nat.pow_succ, Nat.div_div_eq_div_mul]
          have l1 : zn / 256 ^ m ≤ zn := Nat.div_le_self _ _
          have E1 : Hid _ := e1
          generalize zn / 256 ^ m = u at e1 l1 E1
          have t3 : Int.tdiv (u : Int) 256 = ((u / 256 : Nat) : Int) := by rw [Int.tdiv_eq_ediv_of_nonneg (by omega)]; omega
          have w3 : IntKind.u64.wrap ((u / 256 : Nat) : Int) = ((u / 256 : Nat) : Int) := by rw [IntKind.wrap_u64]; omega
          clear e1
          go_wp2
          go_round
          case rel => exact ⟨m + 1, by omega, by go_num, by rw [E1.out]; first | rfl | (congr 1; omega)⟩
          case measure => simp [intOf]; omega
        · obtain rfl : m = r := by omega
          have mI : ¬ ((m : Int) < (m : Int)) := by omega
          have l1 : zn / 256 ^ m ≤ zn := Nat.div_le_self _ _
          generalize zn / 256 ^ m = u at HD l1
          obtain ⟨y, ey⟩ : ∃ y : Nat, y = u % 256 := ⟨_, rfl⟩
          have t3 : Int.tmod (u : Int) 256 = (y : Int) := by rw [Int.tmod_eq_emod_of_nonneg (by omega)]; omega
          have t4 : (u : Int) % 256 = (y : Int) := by omega
          have w3 : IntKind.u64.wrap (y : Int) = (y : Int) := by rw [IntKind.wrap_u64]; omega
          have w4 : IntKind.i64.wrap (y : Int) = (y : Int) := by rw [IntKind.wrap_i64]; omega
          have EY : Hid (y = dig X k) := by have h := HD.out; unfold Hid; rw [← h, ey]
          clear ey HD
          go_wp2_with (at_builtin; refine wpList_append_own _ rfl _ _ 42 rfl W0.heap.size 3 i0 (.int .i64 0) 1 8 Tryd.underlying42 hi hz0 hz1 hz2 rfl (by decide) _ _ _ rfl (World.ownsRow.alloc HOW.out _) ⟨wr.heap.size, 0, none⟩ 1 1 [.int .i64 (y : Int)] rfl rfl (fun j u hj => (by have hj0 : j = 0 := (by have := (List.getElem?_eq_some_iff.1 hj).1; simpa using this); subst hj0; simp at hj; subst hj; (first | (simp [Addr.add]; done) | (simp [Addr.add]; first | exact t4 | omega)))) (fun u hu => (by rw [List.mem_singleton.1 hu]; rfl)) (by unfold maxLen; omega) (by omega) (by simp; omega) ?_; intro v' w1 hown' hgrow _)
          have R : Hid _ := of_step EY.out HOW.out HB.out hown' hgrow
          clear hown' hgrow
          go_wp2
          go_roundw
          case rel => exact ⟨k + 1, by omega, by go_num, R.out⟩
          case measure => simp [intOf]; omega
    · obtain rfl : k = 32 := by omega
      clear hown hB
      go_wp2
      go_ret
      exact ⟨_, rfl, RowAt.own HOW.out (dig_lt X) (fun i hi => by rw [dig, if_neg (by omega)]) (by omega), Below.trans B1.out (HB.out.mono (by omega))⟩
end Go.Proofs.YtbjijbgjnammhaaDoor.Wds
