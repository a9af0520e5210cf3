/- Masks; Sum and Lt of words; one memory in a law. -/
import Derived.Test.YtlemnjhdnciddaaGpf
namespace Go.Proofs.Ytlemnjhdnciddaa
open Go.RowKit
theorem i64_and65535 (n : Int) : bits .and .i64 n 65535 = n % 65536 := by
  have h127 : (BitVec.ofInt 64 65535).toNat = 2 ^ 16 - 1 := by decide
  have key : (BitVec.ofInt 64 n &&& BitVec.ofInt 64 65535).toNat = (n % ((2 ^ 64 : Nat) : Int)).toNat % 2 ^ 16 := by
    rw [BitVec.toNat_and, BitVec.toNat_ofInt, h127, Nat.and_two_pow_sub_one_eq_mod]
  show IntKind.i64.wrap ((BitVec.ofInt 64 n &&& BitVec.ofInt 64 65535).toNat : Nat) = n % 65536
  rw [key, IntKind.wrap_i64]
  omega
theorem i64_and8191 (n : Int) : bits .and .i64 n 8191 = n % 8192 := by
  have h127 : (BitVec.ofInt 64 8191).toNat = 2 ^ 13 - 1 := by decide
  have key : (BitVec.ofInt 64 n &&& BitVec.ofInt 64 8191).toNat = (n % ((2 ^ 64 : Nat) : Int)).toNat % 2 ^ 13 := by
    rw [BitVec.toNat_and, BitVec.toNat_ofInt, h127, Nat.and_two_pow_sub_one_eq_mod]
  show IntKind.i64.wrap ((BitVec.ofInt 64 n &&& BitVec.ofInt 64 8191).toNat : Nat) = n % 8192
  rw [key, IntKind.wrap_i64]
  omega
theorem i64_and4095 (n : Int) : bits .and .i64 n 4095 = n % 4096 := by
  have h127 : (BitVec.ofInt 64 4095).toNat = 2 ^ 12 - 1 := by decide
  have key : (BitVec.ofInt 64 n &&& BitVec.ofInt 64 4095).toNat = (n % ((2 ^ 64 : Nat) : Int)).toNat % 2 ^ 12 := by
    rw [BitVec.toNat_and, BitVec.toNat_ofInt, h127, Nat.and_two_pow_sub_one_eq_mod]
  show IntKind.i64.wrap ((BitVec.ofInt 64 n &&& BitVec.ofInt 64 4095).toNat : Nat) = n % 4096
  rw [key, IntKind.wrap_i64]
  omega
theorem i64_and255 (n : Int) : bits .and .i64 n 255 = n % 256 := by
  have h127 : (BitVec.ofInt 64 255).toNat = 2 ^ 8 - 1 := by decide
  have key : (BitVec.ofInt 64 n &&& BitVec.ofInt 64 255).toNat = (n % ((2 ^ 64 : Nat) : Int)).toNat % 2 ^ 8 := by
    rw [BitVec.toNat_and, BitVec.toNat_ofInt, h127, Nat.and_two_pow_sub_one_eq_mod]
  show IntKind.i64.wrap ((BitVec.ofInt 64 n &&& BitVec.ofInt 64 255).toNat : Nat) = n % 256
  rw [key, IntKind.wrap_i64]
  omega
set_option maxHeartbeats 4000000 in
set_option maxRecDepth 100000 in
theorem sum_any (w : World) (v : Value) (n : Nat) (a : Nat → Nat → Int) (hv : WordsAt w v n a) :
    Calls Try.prog 30 #[v] w (SumRes a n w) := by
  obtain ⟨hn, hu, ad, cap, rfl, hc⟩ := hv
  have HU : Hid (∀ i q, U64 (a i q)) := hu
  have HC : Hid _ := hc
  have nI : (n : Int) ≤ 1048576 := by omega
  have I0 : Hid (∀ W, W = ((w.alloc (.cells #[.int .u64 0, .int .u64 0, .int .u64 0, .int .u64 0] 30)).alloc (.cells #[.int .u64 0, .int .u64 0, .int .u64 0, .int .u64 0] 30)) → Below w.heap.size w W ∧ Box W w.heap.size 0 0 0 0 ∧ Box W (w.heap.size + 1) 0 0 0 0) := fun W e => by
    subst e
    have h2 := Box.new (w.alloc (.cells #[.int .u64 0, .int .u64 0, .int .u64 0, .int .u64 0] 30)) 30 0 0 0 0
    rw [World.size_alloc] at h2
    exact ⟨by repeat' (first | with_reducible exact Below.refl _ _ | with_reducible exact Below.refl _ _ | with_reducible refine Below.drew ?_ | with_reducible refine bdrewN ?_ _ | with_reducible refine Below.alloc ?_ ?_ _ | with_reducible refine Below.setCell ?_ ?_ _ | omega | (simp; done) | (simp; omega)), (Box.new w 30 0 0 0 0).alloc _, h2⟩
  clear hu hc
  go_enter Try.func30, Try.ntmps30
  go_wp2
  go_loopw [10] (fun si wr => ∃ (k : Nat) (s0 s1 s2 s3 : Int), si = .int .i64 k ∧ k ≤ n ∧ wsum a k < MM ∧ IsW (wsum a k) s0 s1 s2 s3 ∧ Below w.heap.size w wr ∧ Box wr w.heap.size 0 0 0 0 ∧ Box wr (w.heap.size + 1) s0 s1 s2 s3) (fun si _ => n - (intOf si).toNat)
  case atStart => exact ⟨0, 0, 0, 0, 0, rfl, by omega, MM_pos, isW_0, I0.out _ rfl⟩
  case round =>
    obtain ⟨k, s0, s1, s2, s3, rfl, hk, hlt, hs, hB, hb0, hb1⟩ := hrel
    clear I0
    have HS : Hid (IsW (wsum a k) s0 s1 s2 s3) := hs
    have HLT : Hid (wsum a k < MM) := hlt
    have HB : Hid (Below w.heap.size w wr) := hB
    have H0 : Hid (Box wr w.heap.size 0 0 0 0) := hb0
    have H1 : Hid (Box wr (w.heap.size + 1) s0 s1 s2 s3) := hb1
    have z1 : w.heap.size + 1 < wr.heap.size := hb1.lt
    by_cases hk5 : k < n
    · have kI : (k : Int) < (n : Int) := by omega
      obtain ⟨g, o, rfl, hcl⟩ := HC.out (by omega)
      have gl : g < w.heap.size := World.block_lt_of_cell? w _ (hcl k hk5 0 (by omega))
      have l0 := (hB.cell (p := ⟨g, o + k * 4 + 0, none⟩) gl).trans (hcl k hk5 0 (by omega))
      have l1 := (hB.cell (p := ⟨g, o + k * 4 + 1, none⟩) gl).trans (hcl k hk5 1 (by omega))
      have l2 := (hB.cell (p := ⟨g, o + k * 4 + 2, none⟩) gl).trans (hcl k hk5 2 (by omega))
      have l3 := (hB.cell (p := ⟨g, o + k * 4 + 3, none⟩) gl).trans (hcl k hk5 3 (by omega))
      rw [Nat.add_zero] at l0
      have hw : wsum a (k + 1) = wsum a k + V (a k 0) (a k 1) (a k 2) (a k 3) := rfl
      have ux : IsW (V (a k 0) (a k 1) (a k 2) (a k 3)) (a k 0) (a k 1) (a k 2) (a k 3) := isW_mk (HU.out k 0) (HU.out k 1) (HU.out k 2) (HU.out k 3)
      have HW : Hid _ := hw
      have h9 := wsum_nonneg HU.out k
      have H9 : Hid (0 ≤ wsum a k) := h9
      have HMO : Hid (wsum a (k + 1) ≤ wsum a n) := wsum_mono HU.out (k + 1) n (by omega)
      generalize a k 0 = x0 at l0 ux HW
      generalize a k 1 = x1 at l1 ux HW
      generalize a k 2 = x2 at l2 ux HW
      generalize a k 3 = x3 at l3 ux HW
      have UX : Hid (IsW (V x0 x1 x2 x3) x0 x1 x2 x3) := ux
      clear hcl hs hlt hB hb0 hb1 hw ux h9
      go_upto_region 6 with fail
      have A0 : Hid (Box (wr.alloc (.cells #[.int .u64 x0, .int .u64 x1, .int .u64 x2, .int .u64 x3] 30)) w.heap.size 0 0 0 0) := Box.alloc H0.out _
      have A1 : Hid (Box (wr.alloc (.cells #[.int .u64 x0, .int .u64 x1, .int .u64 x2, .int .u64 x3] 30)) (w.heap.size + 1) s0 s1 s2 s3) := Box.alloc H1.out _
      have A2 : Hid (Box (wr.alloc (.cells #[.int .u64 x0, .int .u64 x1, .int .u64 x2, .int .u64 x3] 30)) wr.heap.size x0 x1 x2 x3) := Box.new wr 30 x0 x1 x2 x3
      have AB : Hid (Below w.heap.size w (wr.alloc (.cells #[.int .u64 x0, .int .u64 x1, .int .u64 x2, .int .u64 x3] 30))) := Below.alloc HB.out (by omega) _
      generalize wr.alloc (.cells #[.int .u64 x0, .int .u64 x1, .int .u64 x2, .int .u64 x3] 30) = v1 at A0 A1 A2 AB ⊢
      generalize wr.heap.size = bx at A2 ⊢
      clear l0 l1 l2 l3 H0 H1 HB z1
      obtain ⟨p0, p1, p2, p3, _⟩ := Box.facts A1.out
      obtain ⟨q0, q1, q2, q3, _⟩ := Box.facts A2.out
      go_wp2_with fail
      refine (addCarry_any _ _ _ _ _ _ _ _ _ _ _ HS.out UX.out).mono ?_
      rintro e v2 ⟨t0, t1, t2, t3, c, rfl, ht, hv, hc0, hc1, hB⟩
      have B0 : Hid (Box v2 w.heap.size 0 0 0 0) := Box.below A0.out hB (Box.lt A0.out)
      have B1 : Hid (Box v2 (w.heap.size + 1) s0 s1 s2 s3) := Box.below A1.out hB (Box.lt A1.out)
      have BW : Hid (Below w.heap.size w v2) := Below.trans AB.out (hB.mono AB.out.size)
      have hsm : V s0 s1 s2 s3 = wsum a k := HS.out.small H9.out HLT.out
      have hrt := ht.range
      have S1 : Hid (wsum a (k + 1) = V t0 t1 t2 t3 + MM * c) := by unfold Hid; rw [HW.out, ← hsm]; exact hv
      have RT : Hid (V t0 t1 t2 t3 < MM ∧ 0 ≤ V t0 t1 t2 t3) := ⟨hrt.2, hrt.1⟩
      have T1 : Hid (IsW (wsum a (k + 1)) t0 t1 t2 t3) := by unfold Hid; rw [HW.out]; exact ht
      clear hB ht hv hsm hrt p0 p1 p2 p3 q0 q1 q2 q3 A0 A1 A2 AB
      obtain ⟨p0, p1, p2, p3, f0, f1, f2, f3⟩ := Box.facts B1.out
      go_upto_region 7 with fail
      have C0 : Hid (Box ((((v2.setCell ⟨w.heap.size + 1, 0, none⟩ (.int .u64 t0)).setCell ⟨w.heap.size + 1, 1, none⟩ (.int .u64 t1)).setCell ⟨w.heap.size + 1, 2, none⟩ (.int .u64 t2)).setCell ⟨w.heap.size + 1, 3, none⟩ (.int .u64 t3)) w.heap.size 0 0 0 0) := Box.put_other B0.out (by omega) t0 t1 t2 t3
      have C1 : Hid (Box ((((v2.setCell ⟨w.heap.size + 1, 0, none⟩ (.int .u64 t0)).setCell ⟨w.heap.size + 1, 1, none⟩ (.int .u64 t1)).setCell ⟨w.heap.size + 1, 2, none⟩ (.int .u64 t2)).setCell ⟨w.heap.size + 1, 3, none⟩ (.int .u64 t3)) (w.heap.size + 1) t0 t1 t2 t3) := Box.put B1.out t0 t1 t2 t3
      have CW : Hid (Below w.heap.size w ((((v2.setCell ⟨w.heap.size + 1, 0, none⟩ (.int .u64 t0)).setCell ⟨w.heap.size + 1, 1, none⟩ (.int .u64 t1)).setCell ⟨w.heap.size + 1, 2, none⟩ (.int .u64 t2)).setCell ⟨w.heap.size + 1, 3, none⟩ (.int .u64 t3))) := below_put BW.out (by omega) t0 t1 t2 t3
      generalize ((((v2.setCell ⟨w.heap.size + 1, 0, none⟩ (.int .u64 t0)).setCell ⟨w.heap.size + 1, 1, none⟩ (.int .u64 t1)).setCell ⟨w.heap.size + 1, 2, none⟩ (.int .u64 t2)).setCell ⟨w.heap.size + 1, 3, none⟩ (.int .u64 t3)) = v3 at C0 C1 CW ⊢
      clear B0 B1 BW p0 p1 p2 p3 f0 f1 f2 f3
      by_cases hc : c = 0
      · have LT : Hid (wsum a (k + 1) < MM) := by have h1 := S1.out; have h2 := RT.out; unfold Hid; rw [h1, hc]; omega
        go_wp2
        go_roundw
        case rel => exact ⟨k + 1, t0, t1, t2, t3, by go_num, by omega, LT.out, T1.out, CW.out, C0.out, C1.out⟩
        case measure => simp [intOf]; omega
      · have GE : Hid (MM ≤ wsum a n) := by
          have h1 := S1.out
          have h2 := RT.out
          have h3 := HMO.out
          have h4 : c = 1 := by omega
          rw [h4] at h1
          unfold Hid; omega
        obtain ⟨r0, r1, r2, r3, f0, f1, f2, f3⟩ := Box.facts C0.out
        go_wp2
        exact bodyPost_ret (v := .tuple #[.agg #[.int .u64 0, .int .u64 0, .int .u64 0, .int .u64 0], .bool false]) (by simp [results, Try.results30, go_sem, r0, r1, r2, r3]) rfl ⟨0, 0, 0, 0, false, rfl, (decide_eq_false (Int.not_lt.2 GE.out)).symm, by rw [if_neg (Int.not_lt.2 GE.out)]; exact isW_0, below_put CW.out (Nat.le_refl _) 0 0 0 0⟩
    · obtain rfl : k = n := by omega
      have kI : ¬ ((k : Int) < (k : Int)) := by omega
      clear hs hlt hB hb0 hb1
      obtain ⟨p0, p1, p2, p3, _⟩ := Box.facts H1.out
      obtain ⟨r0, r1, r2, r3, f0, f1, f2, f3⟩ := Box.facts H0.out
      go_wp2
      exact bodyPost_ret (v := .tuple #[.agg #[.int .u64 s0, .int .u64 s1, .int .u64 s2, .int .u64 s3], .bool true]) (by simp [results, Try.results30, go_sem, r0, r1, r2, r3]) rfl ⟨s0, s1, s2, s3, true, rfl, (decide_eq_true HLT.out).symm, by rw [if_pos HLT.out]; exact HS.out, below_put HB.out (Nat.le_refl _) s0 s1 s2 s3⟩

set_option maxHeartbeats 400000 in
set_option maxRecDepth 100000 in
theorem lt_any (x y : Int) (a0 a1 a2 a3 b0 b1 b2 b3 : Int) (w : World) (ha : IsW x a0 a1 a2 a3) (hb : IsW y b0 b1 b2 b3) :
    Calls Try.prog 31 #[.agg #[.int .u64 a0, .int .u64 a1, .int .u64 a2, .int .u64 a3], .agg #[.int .u64 b0, .int .u64 b1, .int .u64 b2, .int .u64 b3]] w fun e w' => e = .returned (.bool (decide (x % MM < y % MM))) ∧ Below w.heap.size w w' := by
  go_enter Try.func31, Try.ntmps31
  go_wp2_with fail
  refine (cmp_any x y _ _ _ _ _ _ _ _ _ ha hb).mono ?_
  rintro e w1 ⟨rfl, hB⟩
  have B1 : Below w.heap.size w w1 := Below.trans (by repeat' (first | with_reducible exact Below.refl _ _ | with_reducible exact Below.refl _ _ | with_reducible refine Below.drew ?_ | with_reducible refine bdrewN ?_ _ | with_reducible refine Below.alloc ?_ ?_ _ | with_reducible refine Below.setCell ?_ ?_ _ | omega | (simp; done) | (simp; omega))) (hB.mono (by first | omega | (simp; done) | (simp; omega)))
  clear hB
  generalize hr : cmpv (x % MM) (y % MM) = r
  have HR : Hid (cmpv (x % MM) (y % MM) = r) := hr
  clear hr
  go_wp2
  go_ret
  exact ⟨ret_bool (by rw [← HR.out]; exact cmpv_lt _ _), by repeat' (first | with_reducible exact B1 | with_reducible exact Below.refl _ _ | with_reducible refine Below.drew ?_ | with_reducible refine bdrewN ?_ _ | with_reducible refine Below.alloc ?_ ?_ _ | with_reducible refine Below.setCell ?_ ?_ _ | omega | (simp; done) | (simp; omega))⟩
/-- one memory and a word's two boxes -/
structure MB (w W : World) (L ba bc b B : Nat) (x : Option Addr) (n cx : Nat) (u : Nat → Nat) (a0 a1 a2 a3 c0 c1 c2 c3 : Int) : Prop where
  bel : Below w.heap.size w W
  xa : Box W ba a0 a1 a2 a3
  xc : Box W bc c0 c1 c2 c3
  me : Mem W b B x n cx u
  la : ba < L
  lc : bc < L
  lo : ∀ k, OwnB b x k → L ≤ k
  lw : w.heap.size ≤ L
theorem MB.past {w W W' : World} {L ba bc b B n cx : Nat} {x : Option Addr} {u : Nat → Nat} {a0 a1 a2 a3 c0 c1 c2 c3 : Int} (h : MB w W L ba bc b B x n cx u a0 a1 a2 a3 c0 c1 c2 c3) (k : Below W.heap.size W W') : MB w W' L ba bc b B x n cx u a0 a1 a2 a3 c0 c1 c2 c3 :=
  ⟨h.bel.trans (k.mono h.bel.size), h.xa.below k h.xa.lt, h.xc.below k h.xc.lt, h.me.past k, h.la, h.lc, h.lo, h.lw⟩
theorem Box.but {S : Nat → Prop} {W W' : World} {b : Nat} {a0 a1 a2 a3 : Int} (h : Box W b a0 a1 a2 a3) (k : But S W W') (hb : ¬ S b) : Box W' b a0 a1 a2 a3 := ⟨fun i hi => (k.cell (p := ⟨b, i, none⟩) h.lt hb).trans (h.1 i hi), fun i hi => (k.frozen (p := ⟨b, i, none⟩) h.lt hb).trans (h.2 i hi)⟩
theorem MB.own {w W W' : World} {L ba bc b B n cx n' cx' : Nat} {x x' : Option Addr} {u u' : Nat → Nat} {a0 a1 a2 a3 c0 c1 c2 c3 : Int} (h : MB w W L ba bc b B x n cx u a0 a1 a2 a3 c0 c1 c2 c3) (m : Mem W' b B x' n' cx' u') (k : Off b x W W') (r : NewR W x x') : MB w W' L ba bc b B x' n' cx' u' a0 a1 a2 a3 c0 c1 c2 c3 := by
  have hL : L ≤ W.heap.size := Nat.le_trans (h.lo b (Or.inl rfl)) (Nat.le_of_lt h.me.lt)
  refine ⟨h.bel.trans (k.but.below (fun q hq => Nat.le_trans h.lw (h.lo q hq)) h.bel.size), h.xa.but k.but (fun e => by have := h.lo _ e; have := h.la; omega), h.xc.but k.but (fun e => by have := h.lo _ e; have := h.lc; omega), m, h.la, h.lc, fun q hq => ?_, h.lw⟩
  rcases r.grown q hq with e | e
  · exact h.lo q e
  · omega
theorem upN_mod (k : Nat) : upN k % 32 = 0 := by unfold upN; omega
theorem grN_zero (s : Nat) (h : s ≤ 4194304) : grN 0 (s : Int) = upN s := by unfold grN; rw [if_neg (by omega), Int.toNat_natCast]; omega
theorem grE_nat (s : Nat) (h : s ≤ 4194304) : grE (s : Int) = 0 := by unfold grE; rw [if_neg (by omega), if_neg (by omega)]
end Go.Proofs.Ytlemnjhdnciddaa
