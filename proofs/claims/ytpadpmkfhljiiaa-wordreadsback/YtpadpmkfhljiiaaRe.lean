/- The document's 'bit' and 'word'. -/
import Derived.Test.YtpadpmkfhljiiaaRd
import Derived.Deep.RegionWith
namespace Go.Proofs.Ytpadpmkfhljiiaa
open Go.RowKit
set_option maxHeartbeats 1000000 in
theorem bit_is (W : World) (v : Value) (n : Nat) (d : Nat → Nat) (hv : RowAt W v n d) (i : Nat) (hi : i ≤ 1048576) :
    Calls Try.prog 69 #[v, .int .i64 (i : Int)] W fun e w' => e = .returned (.int .i64 ((d (i / 8) / 2 ^ (i % 8) % 2 : Nat) : Int)) ∧ w' = W := by
  obtain ⟨q, eq⟩ : ∃ q : Nat, q = i / 8 := ⟨_, rfl⟩
  obtain ⟨r, er⟩ : ∃ r : Nat, r = i % 8 := ⟨_, rfl⟩
  rw [← eq, ← er]
  have hdb := hv.2.1 q
  obtain ⟨z, ez⟩ : ∃ z, z = d q := ⟨_, rfl⟩
  have DG : Hid (Calls Try.prog 96 #[v, .int .i64 (q : Int)] W fun e w' => e = .returned (.int .i64 (z : Int)) ∧ w' = W) := by rw [ez]; exact digit_is W v n d q hv
  rw [← ez] at hdb ⊢
  have t1 : Int.tdiv (i : Int) 8 = (q : Int) := by rw [Int.tdiv_eq_ediv_of_nonneg (by omega)]; omega
  have t2 : Int.tmod (i : Int) 8 = (r : Int) := by rw [Int.tmod_eq_emod_of_nonneg (by omega)]; omega
  have w1 : IntKind.i64.wrap (q : Int) = (q : Int) := by rw [IntKind.wrap_i64]; omega
  have w2 : IntKind.i64.wrap (r : Int) = (r : Int) := by rw [IntKind.wrap_i64]; omega
  have r8 : r < 8 := by omega
  clear eq er hv ez
  go_enter Try.func69, Try.ntmps69
  go_wp2_with (go_at_call 96; refine Calls.mono DG.out ?_; rintro e0 w' ⟨rfl, hw⟩; (have hw2 := hw.symm); clear hw; subst hw2)
  go_loop [5, 6] (fun c j => ∃ m : Nat, m ≤ r ∧ j = .int .i64 m ∧ c = .int .i64 ((z / 2 ^ m : Nat) : Int)) (fun _ j => r - (intOf j).toNat)
  case atStart => exact ⟨0, by omega, rfl, by rw [Nat.pow_zero, Nat.div_one]⟩
  case round =>
    obtain ⟨m, hm, rfl, rfl⟩ := hrel
    have l1 : z / 2 ^ m ≤ z := Nat.div_le_self _ _
    by_cases hmr : m < r
    · have mI : (m : Int) < (r : Int) := by omega
      have m8 : (m : Int) < 8 := by omega
      have e1 : z / 2 ^ (m + 1) = z / 2 ^ m / 2 := by rw [Nat.pow_succ, Nat.div_div_eq_div_mul]
      have E1 : Hid _ := e1
      generalize z / 2 ^ m = u at e1 l1 E1
      have t3 : Int.tdiv (u : Int) 2 = ((u / 2 : Nat) : Int) := by rw [Int.tdiv_eq_ediv_of_nonneg (by omega)]; omega
      have w3 : IntKind.i64.wrap ((u / 2 : Nat) : Int) = ((u / 2 : Nat) : Int) := by rw [IntKind.wrap_i64]; omega
      clear e1
      go_wp2
      go_round
      case rel => exact ⟨m + 1, by omega, by go_num, by rw [E1.out]; first | rfl | (congr 1; omega)⟩
      case measure => simp [intOf]; omega
    · obtain rfl : m = r := by omega
      have mI : ¬ ((m : Int) < (m : Int)) := by omega
      generalize hu : z / 2 ^ m = u at l1 ⊢
      have HU : Hid (z / 2 ^ m = u) := hu
      clear hu
      have t3 : Int.tmod (u : Int) 2 = ((u % 2 : Nat) : Int) := by rw [Int.tmod_eq_emod_of_nonneg (by omega)]; omega
      have w3 : IntKind.i64.wrap ((u % 2 : Nat) : Int) = ((u % 2 : Nat) : Int) := by rw [IntKind.wrap_i64]; omega
      go_wp2
      go_ret
      exact ⟨ret_int (by rw [← HU.out, Int.natCast_ediv, Int.natCast_pow]; rfl), rfl⟩
theorem dig_bit (X i : Nat) (hi : i < 256) : dig X (i / 8) / 2 ^ (i % 8) % 2 = if X.testBit i then 1 else 0 := by
  have e : (dig X (i / 8)).testBit (i % 8) = X.testBit i := by
    rw [dig, if_pos (by omega), show (256 : Nat) ^ (i / 8) = 2 ^ (8 * (i / 8)) by rw [Nat.pow_mul], show (256 : Nat) = 2 ^ 8 from rfl, Nat.testBit_mod_two_pow, Nat.testBit_div_two_pow]
    rw [show i % 8 + 8 * (i / 8) = i by omega]; simp; omega
  rw [Nat.testBit_eq_decide_div_mod_eq] at e
  rw [← e]
  generalize dig X (i / 8) / 2 ^ (i % 8) = n
  by_cases h : n % 2 = 1
  · simp [h]
  · simp [h]; omega
/-- cells of 64 bits -/
def RowU (W : World) (b n : Nat) (v : Nat → Nat) : Prop := ∀ i, i < n → W.cell? ⟨b, i, none⟩ = some (.int .u64 (v i : Int)) ∧ W.frozen? ⟨b, i, none⟩ = false
theorem RowU.set {w : World} {b n : Nat} {v u : Nat → Nat} (h : RowU w b n v) (k x : Nat) (hk : u k = x) (ho : ∀ i, i < n → i ≠ k → u i = v i) : RowU (w.setCell ⟨b, k, none⟩ (.int .u64 (x : Int))) b n u := fun i hi => by
  refine ⟨?_, by rw [World.frozen?_setCell]; exact (h i hi).2⟩
  by_cases e : i = k
  · subst e; rw [World.cell?_setCell_same _ _ _ (h i hi).1, hk]
  · rw [World.cell?_setCell_other _ _ _ _ (by intro e'; injection e' with _ e' _; exact e e'.symm), ho i hi e]; exact (h i hi).1
/-- what limb q holds while the digits from j on are laid -/
def lw (d : Nat → Nat) (j q : Nat) : Nat := if 8 * q + 8 ≤ j then 0 else if j ≤ 8 * q then dsum (fun r => d (8 * q + r)) 8 else dsum (fun r => d (j + r)) (8 * q + 8 - j)
theorem lw_step (d : Nat → Nat) (j : Nat) : lw d j (j / 8) = lw d (j + 1) (j / 8) * 256 + d j := by
  obtain ⟨q, eq⟩ : ∃ q, q = j / 8 := ⟨_, rfl⟩
  rw [← eq]
  have e0 : ∀ k, dsum (fun r => d (j + r)) (k + 1) = dsum (fun r => d (j + 1 + r)) k * 256 + d j := fun k => by
    rw [dsum_front, Nat.add_zero, Nat.mul_comm, Nat.add_comm]
    congr 2
    apply congrFun
    apply congrArg
    funext r; rw [Nat.add_assoc]
  unfold lw
  rw [if_neg (by omega)]
  by_cases h1 : 8 * q + 8 ≤ j + 1
  · rw [if_pos h1]
    by_cases h2 : j ≤ 8 * q
    · omega
    · rw [if_neg h2, show 8 * q + 8 - j = 0 + 1 by omega, e0]; simp [dsum]
  · rw [if_neg h1, if_neg (show ¬ (j + 1 ≤ 8 * q) by omega)]
    by_cases h2 : j ≤ 8 * q
    · rw [if_pos h2]
      obtain rfl : j = 8 * q := by omega
      rw [show 8 * q + 8 - (8 * q + 1) = 7 by omega]; exact e0 7
    · rw [if_neg h2, show 8 * q + 8 - j = (8 * q + 8 - (j + 1)) + 1 by omega, e0]
theorem lw_other (d : Nat → Nat) (j i : Nat) (h : i ≠ j / 8) : lw d j i = lw d (j + 1) i := by
  unfold lw
  by_cases h1 : 8 * i + 8 ≤ j
  · rw [if_pos h1, if_pos (show 8 * i + 8 ≤ j + 1 by omega)]
  · have h1' : ¬ (8 * i + 8 ≤ j + 1) := by omega
    by_cases h2 : j ≤ 8 * i
    · have h2' : j + 1 ≤ 8 * i := by omega
      rw [if_neg h1, if_pos h2, if_neg h1', if_pos h2']
    · omega
theorem lw_lt {d : Nat → Nat} (hd : ∀ i, d i < 256) (j : Nat) : lw d (j + 1) (j / 8) < 72057594037927936 := by
  unfold lw
  split
  · omega
  · split
    · omega
    · have h := dsum_lt (d := fun r => d (j + 1 + r)) (fun i => hd _) (8 * (j / 8) + 8 - (j + 1))
      have h2 : 256 ^ (8 * (j / 8) + 8 - (j + 1)) ≤ 256 ^ 7 := Nat.pow_le_pow_right (by omega) (by omega)
      have h3 : (256 : Nat) ^ 7 = 72057594037927936 := by decide
      omega
theorem lw_end {d : Nat → Nat} (hd : ∀ i, d i < 256) : IsW (dsum d 32 : Int) (lw d 0 0 : Int) (lw d 0 1 : Int) (lw d 0 2 : Int) (lw d 0 3 : Int) := by
  have hl : ∀ q, lw d 0 q = dsum (fun r => d (8 * q + r)) 8 := fun q => by unfold lw; rw [if_neg (by omega), if_pos (by omega)]
  have hb : ∀ q, lw d 0 q < 18446744073709551616 := fun q => by
    rw [hl]
    have := dsum_lt (d := fun r => d (8 * q + r)) (fun i => hd _) 8
    have h3 : (256 : Nat) ^ 8 = 18446744073709551616 := by decide
    omega
  have hs : dsum d 32 = lw d 0 0 + 18446744073709551616 * (lw d 0 1 + 18446744073709551616 * (lw d 0 2 + 18446744073709551616 * lw d 0 3)) := by
    have a1 := dsum_split d 8 24
    have a2 := dsum_split (fun r => d (8 + r)) 8 16
    have a3 := dsum_split (fun r => d (16 + r)) 8 8
    have p8 : (256 : Nat) ^ 8 = 18446744073709551616 := by decide
    have c1 : (fun r => d (8 + (8 + r))) = fun r => d (16 + r) := by funext r; congr 1; omega
    have c2 : (fun r => d (16 + (8 + r))) = fun r => d (24 + r) := by funext r; congr 1; omega
    have l0 : lw d 0 0 = dsum d 8 := by rw [hl]; exact dsum_ext 8 fun i _ => by simp
    rw [hl 1, hl 2, hl 3, l0]
    simp only [p8] at a1 a2 a3
    rw [c1] at a2
    rw [c2] at a3
    rw [show 8 + 24 = 32 from rfl] at a1
    rw [show 8 + 16 = 24 from rfl] at a2
    rw [show 8 + 8 = 16 from rfl] at a3
    rw [a1, a2, a3]
  have h0 := hb 0
  have h1 := hb 1
  have h2 := hb 2
  have h3 := hb 3
  refine isW_of ⟨by omega, by unfold Bd; omega⟩ ⟨by omega, by unfold Bd; omega⟩ ⟨by omega, by unfold Bd; omega⟩ ⟨by omega, by unfold Bd; omega⟩ 0 ?_
  rw [hs]; unfold V Bd; omega
set_option maxHeartbeats 2000000 in
set_option maxRecDepth 100000 in
theorem word_is (w : World) (v : Value) (n : Nat) (d : Nat → Nat) (hv : RowAt w v n d) :
    Calls Try.prog 70 #[v] w fun e w' => ∃ s0 s1 s2 s3 : Int, e = .returned (.agg #[.int .u64 s0, .int .u64 s1, .int .u64 s2, .int .u64 s3]) ∧ IsW (dsum d 32 : Int) s0 s1 s2 s3 ∧ Below w.heap.size w w' := by
  have HV : Hid (RowAt w v n d) := hv
  have HD : Hid _ := hv.2.1
  clear hv
  have B0 : Hid (∀ o1 o2, Below w.heap.size w ((w.alloc o1).alloc o2)) := fun o1 o2 => ((Below.refl _ _).alloc (Nat.le_refl _) _).alloc (by simp) _
  have R0 : Hid (Box ((w.alloc (.cells #[.int .u64 0, .int .u64 0, .int .u64 0, .int .u64 0] 24)).alloc (.cells #[.int .u64 0, .int .u64 0, .int .u64 0, .int .u64 0] 24)) w.heap.size 0 0 0 0) := (Box.new w 24 0 0 0 0).alloc _
  have R1 : Hid (RowU ((w.alloc (.cells #[.int .u64 0, .int .u64 0, .int .u64 0, .int .u64 0] 24)).alloc (.cells #[.int .u64 0, .int .u64 0, .int .u64 0, .int .u64 0] 24)) (w.heap.size + 1) 4 (lw d 32)) := fun i hi => by
    have h := Box.new (w.alloc (.cells #[.int .u64 0, .int .u64 0, .int .u64 0, .int .u64 0] 24)) 24 0 0 0 0
    rw [World.size_alloc] at h
    have h2 := h.1 i hi
    have e : lw d 32 i = 0 := by unfold lw; rw [if_pos (by omega)]
    have e2 : limb 0 0 0 0 i = 0 := by unfold limb; split; rfl; split; rfl; split <;> rfl
    rw [e2] at h2
    exact ⟨by rw [h2, e]; rfl, h.2 i hi⟩
  go_enter Try.func70, Try.ntmps70
  go_wp2
  go_loopw [4] (fun s wr => ∃ j : Nat, s = .int .i64 ((j : Int) - 1) ∧ j ≤ 32 ∧ Below w.heap.size w wr ∧ Box wr w.heap.size 0 0 0 0 ∧ RowU wr (w.heap.size + 1) 4 (lw d j)) (fun s _ => (intOf s + 1).toNat)
  case atStart => exact ⟨32, rfl, by omega, B0.out _ _, R0.out, R1.out⟩
  case round =>
    obtain ⟨j, rfl, hj, hB, hbx, hR⟩ := hrel
    clear R0 R1 B0
    have HBx : Hid (Box wr w.heap.size 0 0 0 0) := hbx
    have HB : Hid (Below w.heap.size w wr) := hB
    have HRo : Hid (RowU wr (w.heap.size + 1) 4 (lw d j)) := hR
    clear hbx hB hR
    rcases j with _ | j
    · obtain ⟨r0, r1, r2, r3, f0, f1, f2, f3⟩ := Box.facts HBx.out
      have p0 := (HRo.out 0 (by omega)).1
      have p1 := (HRo.out 1 (by omega)).1
      have p2 := (HRo.out 2 (by omega)).1
      have p3 := (HRo.out 3 (by omega)).1
      have HE : Hid _ := lw_end HD.out
      generalize ((lw d 0 0 : Nat) : Int) = s0 at p0 HE
      generalize ((lw d 0 1 : Nat) : Int) = s1 at p1 HE
      generalize ((lw d 0 2 : Nat) : Int) = s2 at p2 HE
      generalize ((lw d 0 3 : Nat) : Int) = s3 at p3 HE
      go_wp2
      exact bodyPost_ret (v := .agg #[.int .u64 s0, .int .u64 s1, .int .u64 s2, .int .u64 s3]) (by simp [results, Try.results70, go_sem, r0, r1, r2, r3]) rfl ⟨s0, s1, s2, s3, rfl, HE.out, below_put HB.out (Nat.le_refl _) _ _ _ _⟩
    · rw [show ((j + 1 : Nat) : Int) - 1 = (j : Int) by omega]
      obtain ⟨q, eq⟩ : ∃ q : Nat, q = j / 8 := ⟨_, rfl⟩
      have t1 : Int.tdiv (j : Int) 8 = (q : Int) := by rw [Int.tdiv_eq_ediv_of_nonneg (by omega)]; omega
      have w1 : IntKind.i64.wrap (q : Int) = (q : Int) := by rw [IntKind.wrap_i64]; omega
      have jI : (0 : Int) ≤ (j : Int) := by omega
      have qI : (q : Int) < 4 := by omega
      have q4 : q < 4 := by omega
      have c1 := (HRo.out q q4).1
      have f1 := (HRo.out q q4).2
      have st := lw_step d j
      have lt := lw_lt HD.out j
      have hdj := HD.out j
      rw [← eq] at st lt
      obtain ⟨y, ey⟩ : ∃ y, y = d j := ⟨_, rfl⟩
      have DG : Hid (∀ W : World, Below w.heap.size w W → Calls Try.prog 96 #[v, .int .i64 (j : Int)] W fun e w' => e = .returned (.int .i64 (y : Int)) ∧ w' = W) := fun W hW => by rw [ey]; exact digit_is W v n d j (HV.out.below hW)
      rw [← ey] at st hdj
      obtain ⟨z, ez⟩ : ∃ z, z = lw d (j + 1) q := ⟨_, rfl⟩
      obtain ⟨u, eu⟩ : ∃ u, u = lw d j q := ⟨_, rfl⟩
      rw [← ez] at c1 st lt
      rw [← eu] at st
      have m1 : IntKind.u64.wrap ((z : Int) * 256) = ((z * 256 : Nat) : Int) := by rw [IntKind.wrap_u64]; omega
      have m2 : IntKind.u64.wrap (y : Int) = (y : Int) := by rw [IntKind.wrap_u64]; omega
      have m3 : IntKind.u64.wrap (((z * 256 : Nat) : Int) + (y : Int)) = (u : Int) := by rw [IntKind.wrap_u64]; omega
      have m4 : IntKind.u64.wrap ((z : Int) * 256 + (y : Int)) = (u : Int) := by rw [IntKind.wrap_u64]; omega
      have STEP : Hid (∀ W, Below w.heap.size w W → Box W w.heap.size 0 0 0 0 → RowU W (w.heap.size + 1) 4 (lw d (j + 1)) → Below w.heap.size w (W.setCell ⟨w.heap.size + 1, q, none⟩ (.int .u64 (u : Int))) ∧ Box (W.setCell ⟨w.heap.size + 1, q, none⟩ (.int .u64 (u : Int))) w.heap.size 0 0 0 0 ∧ RowU (W.setCell ⟨w.heap.size + 1, q, none⟩ (.int .u64 (u : Int))) (w.heap.size + 1) 4 (lw d j)) := fun W h1 h2 h3 =>
        ⟨h1.setCell (by simp) _, h2.other _ _ (by simp), h3.set q u eu.symm (fun i _ hi => lw_other d j i (by rw [← eq]; exact hi))⟩
      clear st lt hdj ey ez eu eq
      go_upto_region 5 with fail
      go_region_with (go_at_call 96; refine (DG.out _ (Below.drew HB.out)).mono ?_; rintro e0 w' ⟨rfl, hw⟩; (have hw2 := hw.symm); clear hw; subst hw2)
      all_goals
        go_wp2
        go_roundw
        case rel => exact ⟨j, rfl, by omega, Below.drew (STEP.out wr HB.out HBx.out HRo.out).1, Box.drew (STEP.out wr HB.out HBx.out HRo.out).2.1, (STEP.out wr HB.out HBx.out HRo.out).2.2⟩
        case measure => simp [intOf]
end Go.Proofs.Ytpadpmkfhljiiaa
