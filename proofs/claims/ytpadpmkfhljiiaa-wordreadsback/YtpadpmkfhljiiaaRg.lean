/- The document's Exp. -/
import Derived.Test.YtpadpmkfhljiiaaRe
import Derived.Test.YtpadpmkfhljiiaaRf
import Derived.Test.YtpadpmkfhljiiaaRc
namespace Go.Proofs.Ytpadpmkfhljiiaa
open Go.RowKit
theorem pow_mod_int (x m : Int) : ∀ n : Nat, (x % m) ^ n % m = x ^ n % m
  | 0 => by simp
  | n + 1 => by rw [Int.pow_succ, Int.pow_succ, Int.mul_emod, pow_mod_int x m n, Int.emod_emod_of_dvd _ (Int.dvd_refl m), ← Int.mul_emod]
theorem MM_nat : ((256 ^ 32 : Nat) : Int) = MM := by decide
/-- a product, cut to a word's digits -/
theorem tcut_is (w : World) (v u : Value) (n m : Nat) (d e : Nat → Nat) (hv : RowAt w v n d) (hu : RowAt w u m e) (hn : n ≤ 32) (hm : m ≤ 32) :
    Calls Try.prog 68 #[v, u] w fun r w' => ∃ x, r = .returned x ∧ Below w.heap.size w w' ∧
      ∀ W, Below w'.heap.size w' W → Calls Try.prog 67 #[x, .int .i64 32] W fun r w' => ∃ y k f, r = .returned y ∧ k ≤ 32 ∧ RowAt w' y k f ∧ dsum f k = dsum d n * dsum e m % 256 ^ 32 ∧ Below W.heap.size W w' := by
  refine (times_is w v u n m d e hv hu (by omega) (by omega)).mono ?_
  rintro r w' ⟨x, f, rfl, hx, hs, hB⟩
  refine ⟨x, rfl, hB, fun W hW => ?_⟩
  refine (cut_is W x (n + m + 1) f (hx.below hW) 32 (by omega)).mono ?_
  rintro r w2 ⟨y, rfl, hy, hB2⟩
  refine ⟨y, _, _, rfl, by omega, hy, ?_, hB2⟩
  have h1 := cutD_sum hx.2.1 (n + m + 1) 32
  rw [hs] at h1
  rw [← h1]
  refine (dsum_more (fun i hi => hy.1 i (by omega)) (n + m + 1) (by omega)).symm
structure RExp (w : World) (a1 a2 : Value) (X Y : Nat) (W : World) : Prop where
  bel : Below w.heap.size w W
  br : Box W (w.heap.size + 1 + 1) 0 0 0 0
  re : RowAt W a1 32 (dig Y)
  ry : RowAt W a2 32 (dig X)
theorem RExp.past {w W W' : World} {a1 a2 : Value} {X Y : Nat} (h : RExp w a1 a2 X Y W) (k : Below W.heap.size W W') : RExp w a1 a2 X Y W' :=
  ⟨h.bel.trans (k.mono h.bel.size), h.br.below k h.br.lt, h.re.below k, h.ry.below k⟩
set_option maxHeartbeats 4000000 in
set_option maxRecDepth 100000 in
theorem rexp_any (x y : Int) (a0 a1 a2 a3 b0 b1 b2 b3 : Int) (w : World) (ha : IsW x a0 a1 a2 a3) (hb : IsW y b0 b1 b2 b3) (Y : Nat) (hY : V b0 b1 b2 b3 = (Y : Int)) :
    Calls Try.prog 18 #[.agg #[.int .u64 a0, .int .u64 a1, .int .u64 a2, .int .u64 a3], .agg #[.int .u64 b0, .int .u64 b1, .int .u64 b2, .int .u64 b3]] w fun e w' => ∃ s0 s1 s2 s3 : Int, e = .returned (.agg #[.int .u64 s0, .int .u64 s1, .int .u64 s2, .int .u64 s3]) ∧ IsW (x ^ Y) s0 s1 s2 s3 ∧ Below w.heap.size w w' := by
  obtain ⟨X, hX, eX, lX⟩ := mod_nat ha
  have lY : Y < 256 ^ 32 := by
    obtain ⟨Y', h1, _, h3⟩ := mod_nat hb
    have : Y = Y' := by rw [hY] at h1; omega
    omega
  have OA : Hid (∀ W, Calls Try.prog 65 #[.agg #[.int .u64 a0, .int .u64 a1, .int .u64 a2, .int .u64 a3]] W fun e w' => ∃ v, e = .returned v ∧ RowAt w' v 32 (dig X) ∧ Below W.heap.size W w') := fun W => of_is x a0 a1 a2 a3 W ha X hX
  have OB : Hid (∀ W, Calls Try.prog 65 #[.agg #[.int .u64 b0, .int .u64 b1, .int .u64 b2, .int .u64 b3]] W fun e w' => ∃ v, e = .returned v ∧ RowAt w' v 32 (dig Y) ∧ Below W.heap.size W w') := fun W => of_is y b0 b1 b2 b3 W hb Y hY
  have EX : Hid ((X : Int) = x % MM) := eX
  have SX : Hid (dsum (dig X) 32 = X) := dig_all X lX
  have I0 : Hid (Below w.heap.size w (((w.alloc (.cells #[.int .u64 a0, .int .u64 a1, .int .u64 a2, .int .u64 a3] 24)).alloc (.cells #[.int .u64 b0, .int .u64 b1, .int .u64 b2, .int .u64 b3] 24)).alloc (.cells #[.int .u64 0, .int .u64 0, .int .u64 0, .int .u64 0] 24))) := by
    unfold Hid; repeat' (first | with_reducible exact Below.refl _ _ | with_reducible exact Below.refl _ _ | with_reducible refine Below.drew ?_ | with_reducible refine bdrewN ?_ _ | with_reducible refine Below.alloc ?_ ?_ _ | with_reducible refine Below.setCell ?_ ?_ _ | omega | (simp; done) | (simp; omega))
  have A0 : Hid (∀ W, W = (((w.alloc (.cells #[.int .u64 a0, .int .u64 a1, .int .u64 a2, .int .u64 a3] 24)).alloc (.cells #[.int .u64 b0, .int .u64 b1, .int .u64 b2, .int .u64 b3] 24)).alloc (.cells #[.int .u64 0, .int .u64 0, .int .u64 0, .int .u64 0] 24)) →
      Box W w.heap.size a0 a1 a2 a3 ∧ Box W (w.heap.size + 1) b0 b1 b2 b3 ∧ Box W (w.heap.size + 1 + 1) 0 0 0 0) := fun W e => by
    subst e
    have h2 := Box.new (w.alloc (.cells #[.int .u64 a0, .int .u64 a1, .int .u64 a2, .int .u64 a3] 24)) 24 b0 b1 b2 b3
    have h3 := Box.new ((w.alloc (.cells #[.int .u64 a0, .int .u64 a1, .int .u64 a2, .int .u64 a3] 24)).alloc (.cells #[.int .u64 b0, .int .u64 b1, .int .u64 b2, .int .u64 b3] 24)) 24 0 0 0 0
    rw [World.size_alloc] at h2 h3
    rw [World.size_alloc] at h3
    exact ⟨((Box.new w 24 a0 a1 a2 a3).alloc _).alloc _, h2.alloc _, h3⟩
  clear ha hb hX hY eX lX
  go_enter Try.func18, Try.ntmps18
  go_wp2_with fail
  refine (OB.out _).mono ?_
  rintro e v1 ⟨a1', rfl, h1, hB⟩
  obtain ⟨k1, k2, k3⟩ := A0.out _ rfl
  have W1 : Hid (Below w.heap.size w v1) := Below.trans I0.out (hB.mono I0.out.size)
  have BA1 : Hid (Box v1 w.heap.size a0 a1 a2 a3) := k1.below hB k1.lt
  have BR1 : Hid (Box v1 (w.heap.size + 1 + 1) 0 0 0 0) := k3.below hB k3.lt
  have RE1 : Hid (RowAt v1 a1' 32 (dig Y)) := h1
  clear hB k1 k2 k3 h1 A0 I0 OB
  go_wp2_with fail
  refine (small1_is _).mono ?_
  rintro e v2 ⟨s6, rfl, h6, hB⟩
  have W2 : Hid (Below w.heap.size w v2) := Below.trans W1.out (hB.mono W1.out.size)
  have BA2 : Hid (Box v2 w.heap.size a0 a1 a2 a3) := Box.below BA1.out hB (Box.lt BA1.out)
  have BR2 : Hid (Box v2 (w.heap.size + 1 + 1) 0 0 0 0) := Box.below BR1.out hB (Box.lt BR1.out)
  have RE2 : Hid (RowAt v2 a1' 32 (dig Y)) := RowAt.below RE1.out hB
  have R62 : Hid (RowAt v2 s6 1 oneD) := h6
  obtain ⟨c0, c1, c2, c3, _⟩ := Box.facts BA2.out
  clear hB h6 W1 BA1 BR1 RE1
  go_wp2_with fail
  refine (OA.out _).mono ?_
  rintro e v3 ⟨a2', rfl, h2, hB⟩
  have X3 : Hid (RExp w a1' a2' X Y v3) := ⟨Below.trans W2.out (hB.mono W2.out.size), Box.below BR2.out hB (Box.lt BR2.out), RowAt.below RE2.out hB, h2⟩
  have R63 : Hid (RowAt v3 s6 1 oneD) := RowAt.below R62.out hB
  clear hB h2 W2 BA2 BR2 RE2 R62 c0 c1 c2 c3 OA
  go_wp2
  go_loopw [6, 8] (fun sx si wr => ∃ (j n : Nat) (d : Nat → Nat), si = .int .i64 ((j : Int) - 1) ∧ j ≤ 256 ∧ n ≤ 32 ∧ RowAt wr sx n d ∧ dsum d n = X ^ (Y / 2 ^ j) % 256 ^ 32 ∧ RExp w a1' a2' X Y wr) (fun _ si _ => (intOf si + 1).toNat)
  case atStart =>
    refine ⟨256, 1, oneD, rfl, by omega, by omega, R63.out, ?_, X3.out⟩
    have e : (256 ^ 32 : Nat) = 2 ^ 256 := by decide
    rw [Nat.div_eq_of_lt (by rw [← e]; exact lY), Nat.pow_zero, e]
    decide
  case round =>
    obtain ⟨j, n, d, rfl, hj, hn, hR, hs, hX⟩ := hrel
    clear X3 R63
    have RR : Hid (RowAt wr u6 n d) := hR
    have SS : Hid _ := hs
    have XX : Hid (RExp w a1' a2' X Y wr) := hX
    clear hR hs hX
    rcases j with _ | j
    · have WD : Hid _ := word_is wr u6 n d RR.out
      have VS : Hid (∀ s0 s1 s2 s3 : Int, IsW (dsum d 32 : Int) s0 s1 s2 s3 → IsW (x ^ Y) s0 s1 s2 s3) := fun s0 s1 s2 s3 h => h.cong (by
        have h1 : dsum d 32 = dsum d n := dsum_more RR.out.1 32 hn
        have h2 := SS.out
        rw [Nat.pow_zero, Nat.div_one] at h2
        rw [h1, h2, Int.natCast_emod, Int.natCast_pow, MM_nat, Int.emod_emod_of_dvd _ (Int.dvd_refl MM), EX.out, pow_mod_int])
      go_wp2_with fail
      refine Calls.mono WD.out ?_
      rintro e x1 ⟨s0, s1, s2, s3, rfl, hs, hB⟩
      have X1 : Hid (RExp w a1' a2' X Y x1) := RExp.past XX.out hB
      have V1 : Hid (IsW (x ^ Y) s0 s1 s2 s3) := VS.out s0 s1 s2 s3 hs
      clear hs hB WD VS
      obtain ⟨r0, r1, r2, r3, f0, f1, f2, f3⟩ := Box.facts X1.out.br
      go_wp2
      exact bodyPost_ret (v := .agg #[.int .u64 s0, .int .u64 s1, .int .u64 s2, .int .u64 s3]) (by simp [results, Try.results18, go_sem, r0, r1, r2, r3]) rfl ⟨s0, s1, s2, s3, rfl, V1.out, below_put X1.out.bel (by omega) _ _ _ _⟩
    · rw [show ((j + 1 : Nat) : Int) - 1 = (j : Int) by omega]
      have jI : (0 : Int) ≤ (j : Int) := by omega
      have T1 : Hid _ := tcut_is wr u6 u6 n n d d RR.out RR.out hn hn
      have hh := half_bit Y j
      have HH : Hid _ := hh
      have db := dig_bit Y j (by omega)
      have DB : Hid _ := db
      clear hh db
      go_wp2_with fail
      refine Calls.mono T1.out ?_
      rintro e x1 ⟨t, rfl, hB, hcut⟩
      have X1 : Hid (RExp w a1' a2' X Y x1) := RExp.past XX.out hB
      have C1 : Hid _ := hcut x1 (Below.refl _ _)
      clear hB hcut T1
      go_wp2_with fail
      refine Calls.mono C1.out ?_
      rintro e x2 ⟨p, k, f, rfl, hk, hp, hsum, hB⟩
      have X2 : Hid (RExp w a1' a2' X Y x2) := RExp.past X1.out hB
      have RP : Hid (RowAt x2 p k f) := hp
      have SP : Hid (dsum f k = X ^ (2 * (Y / 2 ^ (j + 1))) % 256 ^ 32) := by
        unfold Hid
        rw [hsum, SS.out, ← Nat.mul_mod, ← Nat.pow_add, Nat.two_mul]
      have BT : Hid _ := bit_is x2 a1' 32 (dig Y) X2.out.re j (by omega)
      clear hB hp hsum C1 X1 XX RR SS
      go_upto_region 8 with fail
      by_cases hbt : Y.testBit j = true
      · have T2 : Hid _ := tcut_is x2 p a2' k 32 f (dig X) RP.out X2.out.ry hk (by omega)
        have BT2 : Hid (Calls Try.prog 69 #[a1', .int .i64 (j : Int)] x2 fun e w' => e = .returned (.int .i64 1) ∧ w' = x2) := by
          have h := BT.out
          rw [DB.out, if_pos hbt] at h; exact h
        clear BT
        go_upto_region 9 with (go_at_call 69; refine Calls.mono BT2.out ?_; rintro e w' ⟨rfl, hw⟩; (have hw2 := hw.symm); clear hw; subst hw2)
        clear BT2
        go_wp2_with fail
        refine Calls.mono T2.out ?_
        rintro e x3 ⟨t2, rfl, hB, hcut⟩
        have X3 : Hid (RExp w a1' a2' X Y x3) := RExp.past X2.out hB
        have C2 : Hid _ := hcut x3 (Below.refl _ _)
        clear hB hcut T2
        go_wp2_with fail
        refine Calls.mono C2.out ?_
        rintro e x4 ⟨p2, k2, f2, rfl, hk2, hp2, hsum, hB⟩
        have X4 : Hid (RExp w a1' a2' X Y x4) := RExp.past X3.out hB
        have RP2 : Hid (RowAt x4 p2 k2 f2) := hp2
        have SP2 : Hid (dsum f2 k2 = X ^ (Y / 2 ^ j) % 256 ^ 32) := by
          unfold Hid
          rw [hsum, SP.out, SX.out, HH.out, if_pos hbt]
          generalize Y / 2 ^ (j + 1) = q
          rw [show X ^ (2 * q + 1) = X ^ (2 * q) * X from Nat.pow_succ _ _, Nat.mod_mul_mod]
        clear hB hp2 hsum C2 X3 X2 RP SP
        go_wp2
        go_roundw
        case rel => exact ⟨j, k2, f2, rfl, by omega, hk2, RP2.out, SP2.out, X4.out⟩
        case measure => simp [intOf]
      · have BT2 : Hid (Calls Try.prog 69 #[a1', .int .i64 (j : Int)] x2 fun e w' => e = .returned (.int .i64 0) ∧ w' = x2) := by
          have h := BT.out
          rw [DB.out, if_neg hbt] at h; exact h
        clear BT
        have SP2 : Hid (dsum f k = X ^ (Y / 2 ^ j) % 256 ^ 32) := by
          unfold Hid
          rw [SP.out, HH.out, if_neg hbt]
          generalize Y / 2 ^ (j + 1) = q
          rfl
        go_wp2_with (go_at_call 69; refine Calls.mono BT2.out ?_; rintro e w' ⟨rfl, hw⟩; (have hw2 := hw.symm); clear hw; subst hw2)
        go_roundw
        case rel => exact ⟨j, k, f, rfl, by omega, hk, RP.out, SP2.out, X2.out⟩
        case measure => simp [intOf]
theorem rexp_is (x y : Int) (Y : Nat) (a0 a1 a2 a3 b0 b1 b2 b3 p0 p1 p2 p3 : Int) (w : World) (ha : IsW x a0 a1 a2 a3) (hb : IsW y b0 b1 b2 b3) (hY : V b0 b1 b2 b3 = (Y : Int)) (hp : IsW (x ^ Y) p0 p1 p2 p3) :
    Calls Try.prog 18 #[.agg #[.int .u64 a0, .int .u64 a1, .int .u64 a2, .int .u64 a3], .agg #[.int .u64 b0, .int .u64 b1, .int .u64 b2, .int .u64 b3]] w fun e w' => e = .returned (.agg #[.int .u64 p0, .int .u64 p1, .int .u64 p2, .int .u64 p3]) ∧ Below w.heap.size w w' := by
  refine (rexp_any x y a0 a1 a2 a3 b0 b1 b2 b3 w ha hb Y hY).mono ?_
  rintro e w' ⟨s0, s1, s2, s3, rfl, hs, hB⟩
  obtain ⟨rfl, rfl, rfl, rfl⟩ := hs.eq hp rfl
  exact ⟨rfl, hB⟩
end Go.Proofs.Ytpadpmkfhljiiaa
