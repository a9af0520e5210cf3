/- Exp: powers, bit by bit. -/
import Derived.Test.YtpadpmkfhljiiaaXa
import Derived.Test.YtpadpmkfhljiiaaWq
import Derived.Test.YtpadpmkfhljiiaaWt
import Derived.Deep.DeepCutAuto
namespace Go.Proofs.Ytpadpmkfhljiiaa
open Go.RowKit
/-- block b holds this word, and may be written -/
def Box (W : World) (b : Nat) (a0 a1 a2 a3 : Int) : Prop := (∀ i, i < 4 → W.cell? ⟨b, i, none⟩ = some (.int .u64 (limb a0 a1 a2 a3 i))) ∧ ∀ i, i < 4 → W.frozen? ⟨b, i, none⟩ = false
theorem Box.lt {W : World} {b : Nat} {a0 a1 a2 a3 : Int} (h : Box W b a0 a1 a2 a3) : b < W.heap.size := World.block_lt_of_cell? W _ (h.1 0 (by omega))
theorem Box.below {W W' : World} {B b : Nat} {a0 a1 a2 a3 : Int} (h : Box W b a0 a1 a2 a3) (k : Below B W W') (hb : b < B) : Box W' b a0 a1 a2 a3 :=
  ⟨fun i hi => (k.cell (p := ⟨b, i, none⟩) hb).trans (h.1 i hi), fun i hi => (k.frozen (p := ⟨b, i, none⟩) hb).trans (h.2 i hi)⟩
theorem Box.new (W : World) (t : TypeId) (a0 a1 a2 a3 : Int) : Box (W.alloc (.cells #[.int .u64 a0, .int .u64 a1, .int .u64 a2, .int .u64 a3] t)) W.heap.size a0 a1 a2 a3 :=
  ⟨fun i hi => box_cell W a0 a1 a2 a3 t i hi, fun i _ => by simp [World.frozen?_alloc_at]⟩
theorem Box.alloc {W : World} {b : Nat} {a0 a1 a2 a3 : Int} (h : Box W b a0 a1 a2 a3) (o : Obj) : Box (W.alloc o) b a0 a1 a2 a3 := h.below ((Below.refl _ _).alloc (Nat.le_refl _) _) h.lt
theorem Box.other {W : World} {b : Nat} {a0 a1 a2 a3 : Int} (h : Box W b a0 a1 a2 a3) (p : Addr) (x : Value) (hp : p.block ≠ b) : Box (W.setCell p x) b a0 a1 a2 a3 :=
  ⟨fun i hi => by rw [World.cell?_setCell_other _ _ _ _ (by intro e; subst e; exact hp rfl)]; exact h.1 i hi, fun i hi => by rw [World.frozen?_setCell]; exact h.2 i hi⟩
theorem Box.facts {W : World} {b : Nat} {a0 a1 a2 a3 : Int} (h : Box W b a0 a1 a2 a3) : W.cell? ⟨b, 0, none⟩ = some (.int .u64 a0) ∧ W.cell? ⟨b, 1, none⟩ = some (.int .u64 a1) ∧ W.cell? ⟨b, 2, none⟩ = some (.int .u64 a2) ∧ W.cell? ⟨b, 3, none⟩ = some (.int .u64 a3) ∧
    W.frozen? ⟨b, 0, none⟩ = false ∧ W.frozen? ⟨b, 1, none⟩ = false ∧ W.frozen? ⟨b, 2, none⟩ = false ∧ W.frozen? ⟨b, 3, none⟩ = false :=
  ⟨h.1 0 (by omega), h.1 1 (by omega), h.1 2 (by omega), h.1 3 (by omega), h.2 0 (by omega), h.2 1 (by omega), h.2 2 (by omega), h.2 3 (by omega)⟩
theorem Box.drew {W : World} {b : Nat} {a0 a1 a2 a3 : Int} (h : Box W b a0 a1 a2 a3) : Box W.drew b a0 a1 a2 a3 := h
/-- a word is laid over another -/
def put4 (W : World) (b : Nat) (s0 s1 s2 s3 : Int) : World := (((W.setCell ⟨b, 0, none⟩ (.int .u64 s0)).setCell ⟨b, 1, none⟩ (.int .u64 s1)).setCell ⟨b, 2, none⟩ (.int .u64 s2)).setCell ⟨b, 3, none⟩ (.int .u64 s3)
theorem Box.put {W : World} {b : Nat} {a0 a1 a2 a3 : Int} (h : Box W b a0 a1 a2 a3) (s0 s1 s2 s3 : Int) : Box (put4 W b s0 s1 s2 s3) b s0 s1 s2 s3 := by
  obtain ⟨c0, c1, c2, c3, f0, f1, f2, f3⟩ := h.facts
  unfold put4
  refine ⟨fun i hi => ?_, fun i hi => by simp only [World.frozen?_setCell]; exact h.2 i hi⟩
  obtain rfl | rfl | rfl | rfl : i = 0 ∨ i = 1 ∨ i = 2 ∨ i = 3 := by omega
  all_goals (show _ = some _; go_simp; rfl)
theorem Box.put_other {W : World} {b c : Nat} {a0 a1 a2 a3 : Int} (h : Box W b a0 a1 a2 a3) (hc : c ≠ b) (s0 s1 s2 s3 : Int) : Box (put4 W c s0 s1 s2 s3) b a0 a1 a2 a3 :=
  (((h.other _ _ hc).other _ _ hc).other _ _ hc).other _ _ hc
theorem below_put {B c : Nat} {w W : World} (h : Below B w W) (hc : B ≤ c) (s0 s1 s2 s3 : Int) : Below B w (put4 W c s0 s1 s2 s3) := (((h.setCell hc _).setCell hc _).setCell hc _).setCell hc _
/-- while the power is made -/
structure ExpInv (w : World) (c : Nat) (a0 a1 a2 a3 b0 b1 b2 b3 s0 s1 s2 s3 : Int) (W : World) : Prop where
  bel : Below w.heap.size w W
  ba : Box W w.heap.size a0 a1 a2 a3
  bb : Box W (w.heap.size + 1) b0 b1 b2 b3
  br : Box W (w.heap.size + 1 + 1) 0 0 0 0
  bp : Box W c s0 s1 s2 s3
theorem ExpInv.past {w W W' : World} {c : Nat} {a0 a1 a2 a3 b0 b1 b2 b3 s0 s1 s2 s3 : Int} (h : ExpInv w c a0 a1 a2 a3 b0 b1 b2 b3 s0 s1 s2 s3 W) (k : Below W.heap.size W W') : ExpInv w c a0 a1 a2 a3 b0 b1 b2 b3 s0 s1 s2 s3 W' :=
  ⟨h.bel.trans (k.mono h.bel.size), h.ba.below k h.ba.lt, h.bb.below k h.bb.lt, h.br.below k h.br.lt, h.bp.below k h.bp.lt⟩
theorem ExpInv.put {w W : World} {c : Nat} {a0 a1 a2 a3 b0 b1 b2 b3 s0 s1 s2 s3 : Int} (h : ExpInv w c a0 a1 a2 a3 b0 b1 b2 b3 s0 s1 s2 s3 W) (hc : w.heap.size + 1 + 1 < c) (t0 t1 t2 t3 : Int) : ExpInv w c a0 a1 a2 a3 b0 b1 b2 b3 t0 t1 t2 t3 (put4 W c t0 t1 t2 t3) :=
  ⟨below_put h.bel (by omega) _ _ _ _, h.ba.put_other (by omega) _ _ _ _, h.bb.put_other (by omega) _ _ _ _, h.br.put_other (by omega) _ _ _ _, h.bp.put _ _ _ _⟩
set_option maxHeartbeats 2000000 in
set_option maxRecDepth 100000 in
theorem exp_any (x y : Int) (a0 a1 a2 a3 b0 b1 b2 b3 : Int) (w : World) (ha : IsW x a0 a1 a2 a3) (hb : IsW y b0 b1 b2 b3) (Y : Nat) (hY : V b0 b1 b2 b3 = (Y : Int)) :
    Calls Try.prog 17 #[.agg #[.int .u64 a0, .int .u64 a1, .int .u64 a2, .int .u64 a3], .agg #[.int .u64 b0, .int .u64 b1, .int .u64 b2, .int .u64 b3]] w fun e w' => ∃ s0 s1 s2 s3 : Int, e = .returned (.agg #[.int .u64 s0, .int .u64 s1, .int .u64 s2, .int .u64 s3]) ∧ IsW (x ^ Y) s0 s1 s2 s3 ∧ Below w.heap.size w w' := by
  have HA : Hid (IsW x a0 a1 a2 a3) := ha
  have HB : Hid (IsW y b0 b1 b2 b3) := hb
  have HY : Hid (V b0 b1 b2 b3 = (Y : Int)) := hY
  have I0 : Hid (Below w.heap.size w (((w.alloc (.cells #[.int .u64 a0, .int .u64 a1, .int .u64 a2, .int .u64 a3] 24)).alloc (.cells #[.int .u64 b0, .int .u64 b1, .int .u64 b2, .int .u64 b3] 24)).alloc (.cells #[.int .u64 0, .int .u64 0, .int .u64 0, .int .u64 0] 24))) := by
    unfold Hid; repeat' (first | with_reducible exact Below.refl _ _ | with_reducible exact Below.refl _ _ | with_reducible refine Below.drew ?_ | with_reducible refine bdrewN ?_ _ | with_reducible refine Below.alloc ?_ ?_ _ | with_reducible refine Below.setCell ?_ ?_ _ | omega | (simp; done) | (simp; omega))
  have A0 : Hid (∀ W, W = (((w.alloc (.cells #[.int .u64 a0, .int .u64 a1, .int .u64 a2, .int .u64 a3] 24)).alloc (.cells #[.int .u64 b0, .int .u64 b1, .int .u64 b2, .int .u64 b3] 24)).alloc (.cells #[.int .u64 0, .int .u64 0, .int .u64 0, .int .u64 0] 24)) →
      Box W w.heap.size a0 a1 a2 a3 ∧ Box W (w.heap.size + 1) b0 b1 b2 b3 ∧ Box W (w.heap.size + 1 + 1) 0 0 0 0) := fun W e => by
    subst e
    have h2 := Box.new (w.alloc (.cells #[.int .u64 a0, .int .u64 a1, .int .u64 a2, .int .u64 a3] 24)) 24 b0 b1 b2 b3
    have h3 := Box.new ((w.alloc (.cells #[.int .u64 a0, .int .u64 a1, .int .u64 a2, .int .u64 a3] 24)).alloc (.cells #[.int .u64 b0, .int .u64 b1, .int .u64 b2, .int .u64 b3] 24)) 24 0 0 0 0
    rw [World.size_alloc] at h2 h3
    rw [World.size_alloc] at h3
    exact ⟨((Box.new w 24 a0 a1 a2 a3).alloc _).alloc _, h2.alloc _, h3⟩
  clear ha hb hY
  go_enter Try.func17, Try.ntmps17
  go_wp2_with fail
  refine (fromUint_any 1 _).mono ?_
  rintro e v1 ⟨rfl, hB⟩
  obtain ⟨h1, h2, h3⟩ := A0.out _ rfl
  have W1 : Hid (Below w.heap.size w v1) := Below.trans I0.out (hB.mono I0.out.size)
  have BA : Hid (Box v1 w.heap.size a0 a1 a2 a3) := h1.below hB h1.lt
  have BB : Hid (Box v1 (w.heap.size + 1) b0 b1 b2 b3) := h2.below hB h2.lt
  have BR : Hid (Box v1 (w.heap.size + 1 + 1) 0 0 0 0) := h3.below hB h3.lt
  have zc : w.heap.size + 1 + 1 < v1.heap.size := Box.lt BR.out
  clear hB h1 h2 h3 A0 I0
  go_upto_region 2 with fail
  have X1 : Hid (ExpInv w v1.heap.size a0 a1 a2 a3 b0 b1 b2 b3 1 0 0 0 (v1.alloc (.cells #[.int .u64 1, .int .u64 0, .int .u64 0, .int .u64 0] 24))) := ⟨Below.alloc W1.out W1.out.size _, Box.alloc BA.out _, Box.alloc BB.out _, Box.alloc BR.out _, Box.new v1 24 1 0 0 0⟩
  generalize v1.alloc (.cells #[.int .u64 1, .int .u64 0, .int .u64 0, .int .u64 0] 24) = v2 at X1 ⊢
  generalize v1.heap.size = c at zc X1 ⊢
  clear W1 BA BB BR
  obtain ⟨cb0, cb1, cb2, cb3, _⟩ := Box.facts X1.out.bb
  go_wp2_with fail
  refine (zerosAhead_any y b0 b1 b2 b3 _ HB.out).mono ?_
  rintro e v3 ⟨B, rfl, hB256, hbits, hB⟩
  have X3 : Hid (ExpInv w c a0 a1 a2 a3 b0 b1 b2 b3 1 0 0 0 v3) := ExpInv.past X1.out hB
  have S0 : Hid (IsW (x ^ (Y / 2 ^ B)) 1 0 0 0) := by
    have h1 := hbits.1
    rw [HY.out] at h1
    have h2 : Y < 2 ^ B := by exact_mod_cast h1
    unfold Hid
    rw [Nat.div_eq_of_lt h2, Int.pow_zero]; exact isW_1
  have eB : (255 : Int) - (256 - (B : Int)) = (B : Int) - 1 := by omega
  have bI : (B : Int) ≤ 256 := by omega
  clear hB hbits cb0 cb1 cb2 cb3 X1
  go_wp2
  go_loopw [6] (fun i wr => ∃ (j : Nat) (s0 s1 s2 s3 : Int), i = .int .i64 ((j : Int) - 1) ∧ j ≤ 256 ∧ IsW (x ^ (Y / 2 ^ j)) s0 s1 s2 s3 ∧ ExpInv w c a0 a1 a2 a3 b0 b1 b2 b3 s0 s1 s2 s3 wr) (fun i _ => (intOf i + 1).toNat)
  case atStart => exact ⟨B, 1, 0, 0, 0, by first | rfl | go_num, hB256, S0.out, X3.out⟩
  case round =>
    obtain ⟨j, s0, s1, s2, s3, rfl, hj, hs, hX⟩ := hrel
    clear X3 S0 eB bI hB256
    have HS : Hid (IsW (x ^ (Y / 2 ^ j)) s0 s1 s2 s3) := hs
    have X : Hid (ExpInv w c a0 a1 a2 a3 b0 b1 b2 b3 s0 s1 s2 s3 wr) := hX
    clear hs hX
    rcases j with _ | j
    · obtain ⟨p0, p1, p2, p3, _⟩ := Box.facts X.out.bp
      obtain ⟨r0, r1, r2, r3, f0, f1, f2, f3⟩ := Box.facts X.out.br
      go_wp2
      exact bodyPost_ret (v := .agg #[.int .u64 s0, .int .u64 s1, .int .u64 s2, .int .u64 s3]) (by simp [results, Try.results17, go_sem, r0, r1, r2, r3]) rfl ⟨s0, s1, s2, s3, rfl, by have h := HS.out; rw [Nat.pow_zero, Nat.div_one] at h; exact h, below_put X.out.bel (by omega) _ _ _ _⟩
    · rw [show ((j + 1 : Nat) : Int) - 1 = (j : Int) by omega]
      obtain ⟨p0, p1, p2, p3, q0, q1, q2, q3⟩ := Box.facts X.out.bp
      have jI : (0 : Int) ≤ (j : Int) := by omega
      go_upto_region 6 with (go_at_call 35; refine (mul_any _ _ _ _ _ _ _ _ _ _ _ HS.out HS.out).mono ?_; rintro e x1 ⟨t0, t1, t2, t3, rfl, ht, hB⟩; (have HT : Hid (IsW (x ^ (Y / 2 ^ (j + 1)) * x ^ (Y / 2 ^ (j + 1))) t0 t1 t2 t3) := ht); (have X1 : Hid (ExpInv w c a0 a1 a2 a3 b0 b1 b2 b3 s0 s1 s2 s3 x1) := ExpInv.past X.out hB); clear ht hB p0 p1 p2 p3 q0 q1 q2 q3; obtain ⟨p0, p1, p2, p3, q0, q1, q2, q3⟩ := Box.facts X1.out.bp)
      have X2 : Hid (ExpInv w c a0 a1 a2 a3 b0 b1 b2 b3 t0 t1 t2 t3 ((((x1.setCell ⟨c, 0, none⟩ (.int .u64 t0)).setCell ⟨c, 1, none⟩ (.int .u64 t1)).setCell ⟨c, 2, none⟩ (.int .u64 t2)).setCell ⟨c, 3, none⟩ (.int .u64 t3))) := ExpInv.put X1.out zc t0 t1 t2 t3
      generalize ((((x1.setCell ⟨c, 0, none⟩ (.int .u64 t0)).setCell ⟨c, 1, none⟩ (.int .u64 t1)).setCell ⟨c, 2, none⟩ (.int .u64 t2)).setCell ⟨c, 3, none⟩ (.int .u64 t3)) = x2 at X2 ⊢
      clear X X1 p0 p1 p2 p3 q0 q1 q2 q3
      obtain ⟨p0, p1, p2, p3, q0, q1, q2, q3⟩ := Box.facts X2.out.bp
      obtain ⟨d, ed⟩ : ∃ d : Nat, d = j / 64 := ⟨_, rfl⟩
      obtain ⟨r, er⟩ : ∃ r : Nat, r = j % 64 := ⟨_, rfl⟩
      have t1' : Int.tdiv (j : Int) 64 = (d : Int) := by rw [Int.tdiv_eq_ediv_of_nonneg (by omega)]; omega
      have t2' : Int.tmod (j : Int) 64 = (r : Int) := by rw [Int.tmod_eq_emod_of_nonneg (by omega)]; omega
      have w1 : IntKind.i64.wrap (d : Int) = (d : Int) := by rw [IntKind.wrap_i64]; omega
      have w2 : IntKind.i64.wrap (r : Int) = (r : Int) := by rw [IntKind.wrap_i64]; omega
      have w3 : IntKind.u64.wrap (r : Int) = (r : Int) := by rw [IntKind.wrap_u64]; omega
      have dI : (d : Int) < 4 := by omega
      have d4 : d < 4 := by omega
      have r64 : (r : Int) < 64 := by omega
      have r0' : (0 : Int) ≤ (r : Int) := by omega
      have m5 : min r 64 = r := by omega
      have cd := X2.out.bb.1 d d4
      have hu := limb_u64 HB.out.u0 HB.out.u1 HB.out.u2 HB.out.u3 d
      have hbit := bit_limb HB.out.u0 HB.out.u1 HB.out.u2 HB.out.u3 Y HY.out j (by omega)
      rw [← ed, ← er] at hbit
      have hv := bit_val hu r
      rw [hbit] at hv
      have hh := half_bit Y j
      generalize limb b0 b1 b2 b3 d = z at cd hv
      have HH : Hid _ := hh
      clear hu hbit ed er hh
      by_cases hbt : Y.testBit j = true
      · have hv1 : bits .and .u64 (z / 2 ^ r) 1 = 1 := by rw [hv, if_pos hbt]
        obtain ⟨a0', a1', a2', a3', _⟩ := Box.facts X2.out.ba
        clear hv
        go_upto_region 4 with (go_at_call 35; refine (mul_any _ _ _ _ _ _ _ _ _ _ _ HT.out HA.out).mono ?_; rintro e x3 ⟨u0, u1, u2, u3, rfl, ht, hB⟩; (have HU : Hid (IsW (x ^ (Y / 2 ^ (j + 1)) * x ^ (Y / 2 ^ (j + 1)) * x) u0 u1 u2 u3) := ht); (have X3 : Hid (ExpInv w c a0 a1 a2 a3 b0 b1 b2 b3 t0 t1 t2 t3 x3) := ExpInv.past X2.out hB); clear ht hB p0 p1 p2 p3 q0 q1 q2 q3; obtain ⟨p0, p1, p2, p3, q0, q1, q2, q3⟩ := Box.facts X3.out.bp)
        have X4 : Hid (ExpInv w c a0 a1 a2 a3 b0 b1 b2 b3 u0 u1 u2 u3 ((((x3.setCell ⟨c, 0, none⟩ (.int .u64 u0)).setCell ⟨c, 1, none⟩ (.int .u64 u1)).setCell ⟨c, 2, none⟩ (.int .u64 u2)).setCell ⟨c, 3, none⟩ (.int .u64 u3))) := ExpInv.put X3.out zc u0 u1 u2 u3
        generalize ((((x3.setCell ⟨c, 0, none⟩ (.int .u64 u0)).setCell ⟨c, 1, none⟩ (.int .u64 u1)).setCell ⟨c, 2, none⟩ (.int .u64 u2)).setCell ⟨c, 3, none⟩ (.int .u64 u3)) = x4 at X4 ⊢
        clear X2 X3 p0 p1 p2 p3 q0 q1 q2 q3 cd a0' a1' a2' a3'
        have R : Hid (IsW (x ^ (Y / 2 ^ j)) u0 u1 u2 u3) := by
          have h := HU.out
          unfold Hid
          rw [HH.out, hbt, if_pos rfl, Int.pow_succ, Nat.two_mul, Int.pow_add]; exact h
        clear HU HT HS HH
        go_wp2
        go_roundw
        case rel => exact ⟨j, u0, u1, u2, u3, rfl, by omega, R.out, X4.out⟩
        case measure => simp [intOf]
      · have hv1 : bits .and .u64 (z / 2 ^ r) 1 = 0 := by rw [hv, if_neg hbt]
        have R : Hid (IsW (x ^ (Y / 2 ^ j)) t0 t1 t2 t3) := by
          have h := HT.out
          unfold Hid
          rw [HH.out, if_neg hbt, Nat.add_zero, Nat.two_mul, Int.pow_add]; exact h
        clear hv HT HS HH
        go_wp2
        go_roundw
        case rel => exact ⟨j, t0, t1, t2, t3, rfl, by omega, R.out, X2.out⟩
        case measure => simp [intOf]
end Go.Proofs.Ytpadpmkfhljiiaa
