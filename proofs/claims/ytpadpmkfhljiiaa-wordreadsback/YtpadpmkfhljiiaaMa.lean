/- word.shorten: the quotient by a base, and the lowest digit. -/
import Derived.Test.YtpadpmkfhljiiaaDb
import Derived.Test.YtpadpmkfhljiiaaBx
namespace Go.Proofs.Ytpadpmkfhljiiaa
open Go.RowKit
theorem q_lt {r A B : Nat} (hr : r < B) (hA : A < 18446744073709551616) : (r * 18446744073709551616 + A) / B < 18446744073709551616 := by
  rw [Nat.div_lt_iff_lt_mul (by omega)]
  have h : (r + 1) * 18446744073709551616 ≤ B * 18446744073709551616 := Nat.mul_le_mul_right _ hr
  rw [Nat.mul_comm B] at h
  omega
theorem short_num {A0 A1 A2 A3 B q0 q1 q2 q3 r0 r1 r2 r3 : Nat} (h3 : B * q3 + r3 = A3) (h2 : B * q2 + r2 = r3 * 18446744073709551616 + A2) (h1 : B * q1 + r1 = r2 * 18446744073709551616 + A1) (h0 : B * q0 + r0 = r1 * 18446744073709551616 + A0) (hr : r0 < B) :
    (A0 + 18446744073709551616 * (A1 + 18446744073709551616 * (A2 + 18446744073709551616 * A3))) / B = q0 + 18446744073709551616 * (q1 + 18446744073709551616 * (q2 + 18446744073709551616 * q3)) ∧ (A0 + 18446744073709551616 * (A1 + 18446744073709551616 * (A2 + 18446744073709551616 * A3))) % B = r0 := by
  have e : A0 + 18446744073709551616 * (A1 + 18446744073709551616 * (A2 + 18446744073709551616 * A3)) = r0 + B * (q0 + 18446744073709551616 * (q1 + 18446744073709551616 * (q2 + 18446744073709551616 * q3))) := by
    simp only [Nat.mul_add, Nat.mul_left_comm B]
    omega
  rw [e]
  exact ⟨by rw [Nat.add_mul_div_left _ _ (by omega), Nat.div_eq_of_lt hr, Nat.zero_add], by rw [Nat.add_mul_mod_self_left, Nat.mod_eq_of_lt hr]⟩
theorem four_cases (i : Nat) (h : i < 4) : i = 0 ∨ i = 1 ∨ i = 2 ∨ i = 3 := by omega
theorem Box.upd {W : World} {b : Nat} {a0 a1 a2 a3 c0 c1 c2 c3 : Int} (h : Box W b a0 a1 a2 a3) (k : Nat) (y : Int) (hk : k < 4) (he : ∀ i, i < 4 → limb c0 c1 c2 c3 i = if i = k then y else limb a0 a1 a2 a3 i) : Box (W.setCell ⟨b, k, none⟩ (.int .u64 y)) b c0 c1 c2 c3 := by
  refine ⟨fun i hi => ?_, fun i hi => by rw [World.frozen?_setCell]; exact h.2 i hi⟩
  rw [he i hi]
  by_cases e : i = k
  · subst e; rw [World.cell?_setCell_same _ _ _ (h.1 i hi), if_pos rfl]
  · rw [World.cell?_setCell_other _ _ _ _ (by intro e'; injection e' with _ e' _; exact e e'.symm), if_neg e]; exact h.1 i hi
theorem Bx.upd {w W : World} {r b : Nat} {a0 a1 a2 a3 c0 c1 c2 c3 : Int} (h : Bx w [(r, 0, 0, 0, 0), (b, a0, a1, a2, a3)] W) (hr : r ≠ b) (k : Nat) (y : Int) (hk : k < 4) (he : ∀ i, i < 4 → limb c0 c1 c2 c3 i = if i = k then y else limb a0 a1 a2 a3 i) : Bx w [(r, 0, 0, 0, 0), (b, c0, c1, c2, c3)] (W.setCell ⟨b, k, none⟩ (.int .u64 y)) := by
  have hb := h.low (b, a0, a1, a2, a3) (List.Mem.tail _ (List.Mem.head _))
  refine ⟨h.bel.setCell hb _, fun p hp => ?_, fun p hp => ?_⟩
  · simp only [List.mem_cons, List.not_mem_nil, or_false] at hp
    rcases hp with rfl | rfl
    · exact h.low (r, 0, 0, 0, 0) (List.Mem.head _)
    · exact hb
  · simp only [List.mem_cons, List.not_mem_nil, or_false] at hp
    rcases hp with rfl | rfl
    · exact (h.box (r, 0, 0, 0, 0) (List.Mem.head _)).other _ _ (fun e => hr e.symm)
    · exact (h.box (b, a0, a1, a2, a3) (List.Mem.tail _ (List.Mem.head _))).upd k y hk he
set_option maxHeartbeats 4000000 in
set_option maxRecDepth 100000 in
theorem shorten_is (A0 A1 A2 A3 B : Nat) (l0 : A0 < 18446744073709551616) (l1 : A1 < 18446744073709551616) (l2 : A2 < 18446744073709551616) (l3 : A3 < 18446744073709551616) (hB : 1 < B) (hB2 : B < 18446744073709551616) :
    ∃ q0 q1 q2 q3 r : Nat, (q0 < 18446744073709551616 ∧ q1 < 18446744073709551616 ∧ q2 < 18446744073709551616 ∧ q3 < 18446744073709551616) ∧
      (A0 + 18446744073709551616 * (A1 + 18446744073709551616 * (A2 + 18446744073709551616 * A3))) / B = q0 + 18446744073709551616 * (q1 + 18446744073709551616 * (q2 + 18446744073709551616 * q3)) ∧ (A0 + 18446744073709551616 * (A1 + 18446744073709551616 * (A2 + 18446744073709551616 * A3))) % B = r ∧
      ∀ w : World, Calls Try.prog 108 #[.agg #[.int .u64 (A0 : Int), .int .u64 (A1 : Int), .int .u64 (A2 : Int), .int .u64 (A3 : Int)], .int .u64 (B : Int)] w fun e w' => e = .returned (.tuple #[.agg #[.int .u64 (q0 : Int), .int .u64 (q1 : Int), .int .u64 (q2 : Int), .int .u64 (q3 : Int)], .int .u64 (r : Int)]) ∧ Below w.heap.size w w' := by
  obtain ⟨q3, e3⟩ : ∃ q, q = (0 * 18446744073709551616 + A3) / B := ⟨_, rfl⟩
  obtain ⟨r3, f3⟩ : ∃ r, r = (0 * 18446744073709551616 + A3) % B := ⟨_, rfl⟩
  obtain ⟨q2, e2⟩ : ∃ q, q = (r3 * 18446744073709551616 + A2) / B := ⟨_, rfl⟩
  obtain ⟨r2, f2⟩ : ∃ r, r = (r3 * 18446744073709551616 + A2) % B := ⟨_, rfl⟩
  obtain ⟨q1, e1⟩ : ∃ q, q = (r2 * 18446744073709551616 + A1) / B := ⟨_, rfl⟩
  obtain ⟨r1, f1⟩ : ∃ r, r = (r2 * 18446744073709551616 + A1) % B := ⟨_, rfl⟩
  obtain ⟨q0, e0⟩ : ∃ q, q = (r1 * 18446744073709551616 + A0) / B := ⟨_, rfl⟩
  obtain ⟨r0, f0⟩ : ∃ r, r = (r1 * 18446744073709551616 + A0) % B := ⟨_, rfl⟩
  have g3 : r3 < B := by rw [f3]; exact Nat.mod_lt _ (by omega)
  have g2 : r2 < B := by rw [f2]; exact Nat.mod_lt _ (by omega)
  have g1 : r1 < B := by rw [f1]; exact Nat.mod_lt _ (by omega)
  have g0 : r0 < B := by rw [f0]; exact Nat.mod_lt _ (by omega)
  have nums := short_num (A0 := A0) (A1 := A1) (A2 := A2) (A3 := A3) (B := B) (q0 := q0) (q1 := q1) (q2 := q2) (q3 := q3) (r0 := r0) (r1 := r1) (r2 := r2) (r3 := r3) (by rw [e3, f3, Nat.zero_mul, Nat.zero_add]; exact Nat.div_add_mod _ _) (by rw [e2, f2]; exact Nat.div_add_mod _ _) (by rw [e1, f1]; exact Nat.div_add_mod _ _) (by rw [e0, f0]; exact Nat.div_add_mod _ _) g0
  refine ⟨q0, q1, q2, q3, r0, ⟨by rw [e0]; exact q_lt g1 l0, by rw [e1]; exact q_lt g2 l1, by rw [e2]; exact q_lt g3 l2, by rw [e3]; exact q_lt (by omega) l3⟩, nums.1, nums.2, fun w => ?_⟩
  have D3 : Hid (∀ W : World, Calls Try.prog 141 #[.int .u64 (0 : Int), .int .u64 (A3 : Int), .int .u64 (B : Int)] W fun e w' => e = .returned (.tuple #[.int .u64 (q3 : Int), .int .u64 (r3 : Int)]) ∧ Below W.heap.size W w') := fun W => div64_is 0 A3 B q3 r3 hB2 (by omega) l3 e3 f3 W
  have D2 : Hid (∀ W : World, Calls Try.prog 141 #[.int .u64 (r3 : Int), .int .u64 (A2 : Int), .int .u64 (B : Int)] W fun e w' => e = .returned (.tuple #[.int .u64 (q2 : Int), .int .u64 (r2 : Int)]) ∧ Below W.heap.size W w') := fun W => div64_is r3 A2 B q2 r2 hB2 g3 l2 e2 f2 W
  have D1 : Hid (∀ W : World, Calls Try.prog 141 #[.int .u64 (r2 : Int), .int .u64 (A1 : Int), .int .u64 (B : Int)] W fun e w' => e = .returned (.tuple #[.int .u64 (q1 : Int), .int .u64 (r1 : Int)]) ∧ Below W.heap.size W w') := fun W => div64_is r2 A1 B q1 r1 hB2 g2 l1 e1 f1 W
  have D0 : Hid (∀ W : World, Calls Try.prog 141 #[.int .u64 (r1 : Int), .int .u64 (A0 : Int), .int .u64 (B : Int)] W fun e w' => e = .returned (.tuple #[.int .u64 (q0 : Int), .int .u64 (r0 : Int)]) ∧ Below W.heap.size W w') := fun W => div64_is r1 A0 B q0 r0 hB2 g1 l0 e0 f0 W
  clear e0 e1 e2 e3 f0 f1 f2 f3 g0 g1 g2 g3 nums l0 l1 l2 l3 hB hB2
  have K4 : Hid (Bx w [(w.heap.size + 1, 0, 0, 0, 0), (w.heap.size, (A0 : Int), (A1 : Int), (A2 : Int), (A3 : Int))] ((w.alloc (.cells #[.int .u64 (A0 : Int), .int .u64 (A1 : Int), .int .u64 (A2 : Int), .int .u64 (A3 : Int)] 24)).alloc (.cells #[.int .u64 0, .int .u64 0, .int .u64 0, .int .u64 0] 24))) := by
    have h := ((Bx.start w).alloc (A0 : Int) (A1 : Int) (A2 : Int) (A3 : Int)).alloc 0 0 0 0
    (try simp only [World.size_alloc] at h)
    exact h
  go_enter Try.func108, Try.ntmps108
  go_upto_region 1 with fail
  generalize (w.alloc (.cells #[.int .u64 (A0 : Int), .int .u64 (A1 : Int), .int .u64 (A2 : Int), .int .u64 (A3 : Int)] 24)).alloc (.cells #[.int .u64 0, .int .u64 0, .int .u64 0, .int .u64 0] 24) = v4 at K4 ⊢
  go_wp2
  refine wp_loop_rounds 5 ?_
  obtain ⟨c0, c1, c2, c3, z0, z1, z2, z3⟩ := K4.out.f0 (List.Mem.tail _ (List.Mem.head _))
  rw [rounds_succ]
  go_wp2_with (go_at_call 141; refine (D3.out _).mono ?_; rintro e y3 ⟨rfl, hB⟩; (have J3 : Hid (Bx w [(w.heap.size + 1, 0, 0, 0, 0), (w.heap.size, (A0 : Int), (A1 : Int), (A2 : Int), (A3 : Int))] y3) := K4.out.past hB); clear hB K4 c0 c1 c2 c3 z0 z1 z2 z3; obtain ⟨c0, c1, c2, c3, z0, z1, z2, z3⟩ := J3.out.f0 (List.Mem.tail _ (List.Mem.head _)))
  have K3 : Hid (Bx w [(w.heap.size + 1, 0, 0, 0, 0), (w.heap.size, (A0 : Int), (A1 : Int), (A2 : Int), (q3 : Int))] (y3.setCell ⟨w.heap.size, 3, none⟩ (.int .u64 (q3 : Int)))) := J3.out.upd (by omega) 3 _ (by omega) (fun i hi => by rcases four_cases i hi with rfl | rfl | rfl | rfl <;> rfl)
  clear J3 c0 c1 c2 c3 z0 z1 z2 z3
  generalize y3.setCell ⟨w.heap.size, 3, none⟩ (.int .u64 (q3 : Int)) = v3 at K3 ⊢
  obtain ⟨c0, c1, c2, c3, z0, z1, z2, z3⟩ := K3.out.f0 (List.Mem.tail _ (List.Mem.head _))
  rw [rounds_succ]
  go_wp2_with (go_at_call 141; refine (D2.out _).mono ?_; rintro e y2 ⟨rfl, hB⟩; (have J2 : Hid (Bx w [(w.heap.size + 1, 0, 0, 0, 0), (w.heap.size, (A0 : Int), (A1 : Int), (A2 : Int), (q3 : Int))] y2) := K3.out.past hB); clear hB K3 c0 c1 c2 c3 z0 z1 z2 z3; obtain ⟨c0, c1, c2, c3, z0, z1, z2, z3⟩ := J2.out.f0 (List.Mem.tail _ (List.Mem.head _)))
  have K2 : Hid (Bx w [(w.heap.size + 1, 0, 0, 0, 0), (w.heap.size, (A0 : Int), (A1 : Int), (q2 : Int), (q3 : Int))] (y2.setCell ⟨w.heap.size, 2, none⟩ (.int .u64 (q2 : Int)))) := J2.out.upd (by omega) 2 _ (by omega) (fun i hi => by rcases four_cases i hi with rfl | rfl | rfl | rfl <;> rfl)
  clear J2 c0 c1 c2 c3 z0 z1 z2 z3
  generalize y2.setCell ⟨w.heap.size, 2, none⟩ (.int .u64 (q2 : Int)) = v2 at K2 ⊢
  obtain ⟨c0, c1, c2, c3, z0, z1, z2, z3⟩ := K2.out.f0 (List.Mem.tail _ (List.Mem.head _))
  rw [rounds_succ]
  go_wp2_with (go_at_call 141; refine (D1.out _).mono ?_; rintro e y1 ⟨rfl, hB⟩; (have J1 : Hid (Bx w [(w.heap.size + 1, 0, 0, 0, 0), (w.heap.size, (A0 : Int), (A1 : Int), (q2 : Int), (q3 : Int))] y1) := K2.out.past hB); clear hB K2 c0 c1 c2 c3 z0 z1 z2 z3; obtain ⟨c0, c1, c2, c3, z0, z1, z2, z3⟩ := J1.out.f0 (List.Mem.tail _ (List.Mem.head _)))
  have K1 : Hid (Bx w [(w.heap.size + 1, 0, 0, 0, 0), (w.heap.size, (A0 : Int), (q1 : Int), (q2 : Int), (q3 : Int))] (y1.setCell ⟨w.heap.size, 1, none⟩ (.int .u64 (q1 : Int)))) := J1.out.upd (by omega) 1 _ (by omega) (fun i hi => by rcases four_cases i hi with rfl | rfl | rfl | rfl <;> rfl)
  clear J1 c0 c1 c2 c3 z0 z1 z2 z3
  generalize y1.setCell ⟨w.heap.size, 1, none⟩ (.int .u64 (q1 : Int)) = v1 at K1 ⊢
  obtain ⟨c0, c1, c2, c3, z0, z1, z2, z3⟩ := K1.out.f0 (List.Mem.tail _ (List.Mem.head _))
  rw [rounds_succ]
  go_wp2_with (go_at_call 141; refine (D0.out _).mono ?_; rintro e y0 ⟨rfl, hB⟩; (have J0 : Hid (Bx w [(w.heap.size + 1, 0, 0, 0, 0), (w.heap.size, (A0 : Int), (q1 : Int), (q2 : Int), (q3 : Int))] y0) := K1.out.past hB); clear hB K1 c0 c1 c2 c3 z0 z1 z2 z3; obtain ⟨c0, c1, c2, c3, z0, z1, z2, z3⟩ := J0.out.f0 (List.Mem.tail _ (List.Mem.head _)))
  have K0 : Hid (Bx w [(w.heap.size + 1, 0, 0, 0, 0), (w.heap.size, (q0 : Int), (q1 : Int), (q2 : Int), (q3 : Int))] (y0.setCell ⟨w.heap.size, 0, none⟩ (.int .u64 (q0 : Int)))) := J0.out.upd (by omega) 0 _ (by omega) (fun i hi => by rcases four_cases i hi with rfl | rfl | rfl | rfl <;> rfl)
  clear J0 c0 c1 c2 c3 z0 z1 z2 z3
  generalize y0.setCell ⟨w.heap.size, 0, none⟩ (.int .u64 (q0 : Int)) = v0 at K0 ⊢
  obtain ⟨c0, c1, c2, c3, _⟩ := K0.out.f0 (List.Mem.tail _ (List.Mem.head _))
  obtain ⟨z0, z1, z2, z3, y0, y1, y2, y3⟩ := K0.out.f0 (List.Mem.head _)
  rw [rounds_succ]
  go_wp2
  exact bodyPost_ret (v := .tuple #[.agg #[.int .u64 (q0 : Int), .int .u64 (q1 : Int), .int .u64 (q2 : Int), .int .u64 (q3 : Int)], .int .u64 (r0 : Int)]) (by simp [results, Try.results108, go_sem, z0, z1, z2, z3]) rfl ⟨rfl, below_put K0.out.bel (by omega) _ _ _ _⟩
/-- what a sign counts as a digit; 255: it is none -/
def digv (c : Nat) : Nat := if 48 ≤ c ∧ c ≤ 57 then c - 48 else if 97 ≤ c ∧ c ≤ 102 then c - 87 else if 65 ≤ c ∧ c ≤ 70 then c - 55 else 255
set_option maxHeartbeats 1000000 in
theorem digitOf_is (c : Nat) (hc : c < 256) (w : World) : Calls Try.prog 106 #[.int .u8 (c : Int)] w fun e w' => e = .returned (.int .u64 (digv c : Int)) ∧ w' = w := by
  obtain ⟨y, ey⟩ : ∃ y, y = digv c := ⟨_, rfl⟩
  rw [← ey]
  unfold digv at ey
  by_cases h1 : 48 ≤ c ∧ c ≤ 57
  · rw [if_pos h1] at ey
    have i1 : (48 : Int) ≤ (c : Int) := by omega
    have i2 : (c : Int) ≤ 57 := by omega
    have v1 : (c : Int) - 48 = (y : Int) := by omega
    have v2 : IntKind.u8.wrap (y : Int) = (y : Int) := by rw [IntKind.wrap_u8]; omega
    have v3 : IntKind.u64.wrap (y : Int) = (y : Int) := by rw [IntKind.wrap_u64]; omega
    clear ey h1
    go_enter Try.func106, Try.ntmps106
    go_wp2
    go_ret
    exact ⟨rfl, rfl⟩
  · rw [if_neg h1] at ey
    by_cases h2 : 97 ≤ c ∧ c ≤ 102
    · rw [if_pos h2] at ey
      obtain ⟨t, et⟩ : ∃ t, t = c - 97 := ⟨_, rfl⟩
      have i0 : ¬ (c : Int) ≤ 57 := by omega
      have i1 : (97 : Int) ≤ (c : Int) := by omega
      have i2 : (c : Int) ≤ 102 := by omega
      have i3 : (48 : Int) ≤ (c : Int) := by omega
      have v1 : (c : Int) - 97 = (t : Int) := by omega
      have v2 : IntKind.u8.wrap (t : Int) = (t : Int) := by rw [IntKind.wrap_u8]; omega
      have v3 : IntKind.u64.wrap (t : Int) = (t : Int) := by rw [IntKind.wrap_u64]; omega
      have v4 : (t : Int) + 10 = (y : Int) := by omega
      have v5 : IntKind.u64.wrap (y : Int) = (y : Int) := by rw [IntKind.wrap_u64]; omega
      clear ey et h1 h2
      go_enter Try.func106, Try.ntmps106
      go_wp2
      go_ret
      exact ⟨rfl, rfl⟩
    · rw [if_neg h2] at ey
      by_cases h3 : 65 ≤ c ∧ c ≤ 70
      · rw [if_pos h3] at ey
        obtain ⟨t, et⟩ : ∃ t, t = c - 65 := ⟨_, rfl⟩
        have i0 : ¬ (c : Int) ≤ 57 := by omega
        have i1 : ¬ (97 : Int) ≤ (c : Int) := by omega
        have i2 : (c : Int) ≤ 70 := by omega
        have i3 : (48 : Int) ≤ (c : Int) := by omega
        have i4 : (65 : Int) ≤ (c : Int) := by omega
        have v1 : (c : Int) - 65 = (t : Int) := by omega
        have v2 : IntKind.u8.wrap (t : Int) = (t : Int) := by rw [IntKind.wrap_u8]; omega
        have v3 : IntKind.u64.wrap (t : Int) = (t : Int) := by rw [IntKind.wrap_u64]; omega
        have v4 : (t : Int) + 10 = (y : Int) := by omega
        have v5 : IntKind.u64.wrap (y : Int) = (y : Int) := by rw [IntKind.wrap_u64]; omega
        clear ey et h1 h2 h3
        go_enter Try.func106, Try.ntmps106
        go_wp2
        go_ret
        exact ⟨rfl, rfl⟩
      · rw [if_neg h3] at ey
        subst ey
        have a1 : decide ((48 : Int) ≤ (c : Int)) = true ∧ decide ((c : Int) ≤ 57) = false ∨ decide ((48 : Int) ≤ (c : Int)) = false := by simp; omega
        have a2 : decide ((97 : Int) ≤ (c : Int)) = true ∧ decide ((c : Int) ≤ 102) = false ∨ decide ((97 : Int) ≤ (c : Int)) = false := by simp; omega
        have a3 : decide ((65 : Int) ≤ (c : Int)) = true ∧ decide ((c : Int) ≤ 70) = false ∨ decide ((65 : Int) ≤ (c : Int)) = false := by simp; omega
        clear h1 h2 h3
        rcases a1 with ⟨b1, b2⟩ | b1 <;> rcases a2 with ⟨d1, d2⟩ | d1 <;> rcases a3 with ⟨f1, f2⟩ | f1
        all_goals (simp only [decide_eq_true_eq, decide_eq_false_iff_not] at *; go_enter Try.func106, Try.ntmps106; go_wp2; go_ret; exact ⟨rfl, rfl⟩)
end Go.Proofs.Ytpadpmkfhljiiaa
