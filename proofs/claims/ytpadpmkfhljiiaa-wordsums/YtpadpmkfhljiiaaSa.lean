/- word.Sum of a list of words. -/
import Derived.Test.YtpadpmkfhljiiaaXi
import Derived.Deep.CutRange
namespace Go.Proofs.Ytpadpmkfhljiiaa
open Go.RowKit
/-- the value is a list of these words -/
def WordsAt (W : World) (v : Value) (n : Nat) (a : Nat → Nat → Int) : Prop := n ≤ 1048576 ∧ (∀ i q, U64 (a i q)) ∧ ∃ ad cap, v = .slice ad n cap ∧ (n ≠ 0 → ∃ g o, ad = some ⟨g, o, none⟩ ∧ ∀ i, i < n → ∀ q, q < 4 → W.cell? ⟨g, o + i * 4 + q, none⟩ = some (.int .u64 (a i q)))
theorem WordsAt.below {W W' : World} {v : Value} {n : Nat} {a : Nat → Nat → Int} (h : WordsAt W v n a) (k : Below W.heap.size W W') : WordsAt W' v n a := by
  obtain ⟨h1, h2, ad, cap, e, hc⟩ := h
  refine ⟨h1, h2, ad, cap, e, fun hn => ?_⟩
  obtain ⟨g, o, e1, hc⟩ := hc hn
  exact ⟨g, o, e1, fun i hi q hq => (k.cell (p := ⟨g, o + i * 4 + q, none⟩) (World.block_lt_of_cell? W _ (hc i hi q hq))).trans (hc i hi q hq)⟩
/-- the plain sum of the first words -/
def wsum (a : Nat → Nat → Int) : Nat → Int
  | 0 => 0
  | k + 1 => wsum a k + V (a k 0) (a k 1) (a k 2) (a k 3)
theorem wsum_nonneg {a : Nat → Nat → Int} (h : ∀ i q, U64 (a i q)) : ∀ k, 0 ≤ wsum a k
  | 0 => by simp [wsum]
  | k + 1 => by
    have := wsum_nonneg h k
    have := (V_range (h k 0) (h k 1) (h k 2) (h k 3)).1
    rw [wsum]; omega
theorem wsum_mono {a : Nat → Nat → Int} (h : ∀ i q, U64 (a i q)) (k : Nat) : ∀ n, k ≤ n → wsum a k ≤ wsum a n
  | 0, hn => by rw [show k = 0 by omega]; exact Int.le_refl _
  | n + 1, hn => by
    by_cases e : k = n + 1
    · rw [e]; exact Int.le_refl _
    · have := wsum_mono h k n (by omega)
      have := (V_range (h n 0) (h n 1) (h n 2) (h n 3)).1
      rw [wsum]; omega
def SumRes (a : Nat → Nat → Int) (n : Nat) (w : World) (e : Ending) (w' : World) : Prop := ∃ s0 s1 s2 s3 : Int, ∃ ok : Bool, e = .returned (.tuple #[.agg #[.int .u64 s0, .int .u64 s1, .int .u64 s2, .int .u64 s3], .bool ok]) ∧ ok = decide (wsum a n < MM) ∧ IsW (if wsum a n < MM then wsum a n else 0) s0 s1 s2 s3 ∧ Below w.heap.size w w'
set_option maxHeartbeats 4000000 in
set_option maxRecDepth 100000 in
theorem sum_any (w : World) (v : Value) (n : Nat) (a : Nat → Nat → Int) (hv : WordsAt w v n a) :
    Calls Try.prog 30 #[v] w (SumRes a n w) := by
  obtain ⟨hn, hu, ad, cap, rfl, hc⟩ := hv
  have HU : Hid (∀ i q, U64 (a i q)) := hu
  have HC : Hid _ := hc
  have nI : (n : Int) ≤ 1048576 := by omega
  have I0 : Hid (∀ W, W = ((w.alloc (.cells #[.int .u64 0, .int .u64 0, .int .u64 0, .int .u64 0] 24)).alloc (.cells #[.int .u64 0, .int .u64 0, .int .u64 0, .int .u64 0] 24)) → Below w.heap.size w W ∧ Box W w.heap.size 0 0 0 0 ∧ Box W (w.heap.size + 1) 0 0 0 0) := fun W e => by
    subst e
    have h2 := Box.new (w.alloc (.cells #[.int .u64 0, .int .u64 0, .int .u64 0, .int .u64 0] 24)) 24 0 0 0 0
    rw [World.size_alloc] at h2
    exact ⟨by repeat' (first | with_reducible exact Below.refl _ _ | with_reducible exact Below.refl _ _ | with_reducible refine Below.drew ?_ | with_reducible refine bdrewN ?_ _ | with_reducible refine Below.alloc ?_ ?_ _ | with_reducible refine Below.setCell ?_ ?_ _ | omega | (simp; done) | (simp; omega)), (Box.new w 24 0 0 0 0).alloc _, h2⟩
  clear hu hc
  go_enter Try.func30, Try.ntmps30
  go_wp2
  go_loopw [10] (fun si wr => ∃ (k : Nat) (s0 s1 s2 s3 : Int), si = .int .i64 k ∧ k ≤ n ∧ wsum a k < MM ∧ IsW (wsum a k) s0 s1 s2 s3 ∧ Below w.heap.size w wr ∧ Box wr w.heap.size 0 0 0 0 ∧ Box wr (w.heap.size + 1) s0 s1 s2 s3) (fun si _ => n - (intOf si).toNat)
  case atStart => exact ⟨0, 0, 0, 0, 0, rfl, by omega, MM_pos, isW_0, I0.out _ rfl⟩
  case round =>
    obtain ⟨k, s0, s1, s2, s3, rfl, hk, hlt, hs, hB, hb0, hb1⟩ := hrel
    clear I0
    have HS : Hid (IsW (wsum a k) s0 s1 s2 s3) := hs
    have HLT : Hid (wsum a k < MM) := hlt
    have HB : Hid (Below w.heap.size w wr) := hB
    have H0 : Hid (Box wr w.heap.size 0 0 0 0) := hb0
    have H1 : Hid (Box wr (w.heap.size + 1) s0 s1 s2 s3) := hb1
    have z1 : w.heap.size + 1 < wr.heap.size := hb1.lt
    by_cases hk5 : k < n
    · have kI : (k : Int) < (n : Int) := by omega
      obtain ⟨g, o, rfl, hcl⟩ := HC.out (by omega)
      have gl : g < w.heap.size := World.block_lt_of_cell? w _ (hcl k hk5 0 (by omega))
      have l0 := (hB.cell (p := ⟨g, o + k * 4 + 0, none⟩) gl).trans (hcl k hk5 0 (by omega))
      have l1 := (hB.cell (p := ⟨g, o + k * 4 + 1, none⟩) gl).trans (hcl k hk5 1 (by omega))
      have l2 := (hB.cell (p := ⟨g, o + k * 4 + 2, none⟩) gl).trans (hcl k hk5 2 (by omega))
      have l3 := (hB.cell (p := ⟨g, o + k * 4 + 3, none⟩) gl).trans (hcl k hk5 3 (by omega))
      rw [Nat.add_zero] at l0
      have hw : wsum a (k + 1) = wsum a k + V (a k 0) (a k 1) (a k 2) (a k 3) := rfl
      have ux : IsW (V (a k 0) (a k 1) (a k 2) (a k 3)) (a k 0) (a k 1) (a k 2) (a k 3) := isW_mk (HU.out k 0) (HU.out k 1) (HU.out k 2) (HU.out k 3)
      have HW : Hid _ := hw
      have h9 := wsum_nonneg HU.out k
      have H9 : Hid (0 ≤ wsum a k) := h9
      have HMO : Hid (wsum a (k + 1) ≤ wsum a n) := wsum_mono HU.out (k + 1) n (by omega)
      generalize a k 0 = x0 at l0 ux HW
      generalize a k 1 = x1 at l1 ux HW
      generalize a k 2 = x2 at l2 ux HW
      generalize a k 3 = x3 at l3 ux HW
      have UX : Hid (IsW (V x0 x1 x2 x3) x0 x1 x2 x3) := ux
      clear hcl hs hlt hB hb0 hb1 hw ux h9
      go_upto_region 6 with fail
      have A0 : Hid (Box (wr.alloc (.cells #[.int .u64 x0, .int .u64 x1, .int .u64 x2, .int .u64 x3] 24)) w.heap.size 0 0 0 0) := Box.alloc H0.out _
      have A1 : Hid (Box (wr.alloc (.cells #[.int .u64 x0, .int .u64 x1, .int .u64 x2, .int .u64 x3] 24)) (w.heap.size + 1) s0 s1 s2 s3) := Box.alloc H1.out _
      have A2 : Hid (Box (wr.alloc (.cells #[.int .u64 x0, .int .u64 x1, .int .u64 x2, .int .u64 x3] 24)) wr.heap.size x0 x1 x2 x3) := Box.new wr 24 x0 x1 x2 x3
      have AB : Hid (Below w.heap.size w (wr.alloc (.cells #[.int .u64 x0, .int .u64 x1, .int .u64 x2, .int .u64 x3] 24))) := Below.alloc HB.out (by omega) _
      generalize wr.alloc (.cells #[.int .u64 x0, .int .u64 x1, .int .u64 x2, .int .u64 x3] 24) = v1 at A0 A1 A2 AB ⊢
      generalize wr.heap.size = bx at A2 ⊢
      clear l0 l1 l2 l3 H0 H1 HB z1
      obtain ⟨p0, p1, p2, p3, _⟩ := Box.facts A1.out
      obtain ⟨q0, q1, q2, q3, _⟩ := Box.facts A2.out
      go_wp2_with fail
      refine (addCarry_any _ _ _ _ _ _ _ _ _ _ _ HS.out UX.out).mono ?_
      rintro e v2 ⟨t0, t1, t2, t3, c, rfl, ht, hv, hc0, hc1, hB⟩
      have B0 : Hid (Box v2 w.heap.size 0 0 0 0) := Box.below A0.out hB (Box.lt A0.out)
      have B1 : Hid (Box v2 (w.heap.size + 1) s0 s1 s2 s3) := Box.below A1.out hB (Box.lt A1.out)
      have BW : Hid (Below w.heap.size w v2) := Below.trans AB.out (hB.mono AB.out.size)
      have hsm : V s0 s1 s2 s3 = wsum a k := HS.out.small H9.out HLT.out
      have hrt := ht.range
      have S1 : Hid (wsum a (k + 1) = V t0 t1 t2 t3 + MM * c) := by unfold Hid; rw [HW.out, ← hsm]; exact hv
      have RT : Hid (V t0 t1 t2 t3 < MM ∧ 0 ≤ V t0 t1 t2 t3) := ⟨hrt.2, hrt.1⟩
      have T1 : Hid (IsW (wsum a (k + 1)) t0 t1 t2 t3) := by unfold Hid; rw [HW.out]; exact ht
      clear hB ht hv hsm hrt p0 p1 p2 p3 q0 q1 q2 q3 A0 A1 A2 AB
      obtain ⟨p0, p1, p2, p3, f0, f1, f2, f3⟩ := Box.facts B1.out
      go_upto_region 7 with fail
      have C0 : Hid (Box ((((v2.setCell ⟨w.heap.size + 1, 0, none⟩ (.int .u64 t0)).setCell ⟨w.heap.size + 1, 1, none⟩ (.int .u64 t1)).setCell ⟨w.heap.size + 1, 2, none⟩ (.int .u64 t2)).setCell ⟨w.heap.size + 1, 3, none⟩ (.int .u64 t3)) w.heap.size 0 0 0 0) := Box.put_other B0.out (by omega) t0 t1 t2 t3
      have C1 : Hid (Box ((((v2.setCell ⟨w.heap.size + 1, 0, none⟩ (.int .u64 t0)).setCell ⟨w.heap.size + 1, 1, none⟩ (.int .u64 t1)).setCell ⟨w.heap.size + 1, 2, none⟩ (.int .u64 t2)).setCell ⟨w.heap.size + 1, 3, none⟩ (.int .u64 t3)) (w.heap.size + 1) t0 t1 t2 t3) := Box.put B1.out t0 t1 t2 t3
      have CW : Hid (Below w.heap.size w ((((v2.setCell ⟨w.heap.size + 1, 0, none⟩ (.int .u64 t0)).setCell ⟨w.heap.size + 1, 1, none⟩ (.int .u64 t1)).setCell ⟨w.heap.size + 1, 2, none⟩ (.int .u64 t2)).setCell ⟨w.heap.size + 1, 3, none⟩ (.int .u64 t3))) := below_put BW.out (by omega) t0 t1 t2 t3
      generalize ((((v2.setCell ⟨w.heap.size + 1, 0, none⟩ (.int .u64 t0)).setCell ⟨w.heap.size + 1, 1, none⟩ (.int .u64 t1)).setCell ⟨w.heap.size + 1, 2, none⟩ (.int .u64 t2)).setCell ⟨w.heap.size + 1, 3, none⟩ (.int .u64 t3)) = v3 at C0 C1 CW ⊢
      clear B0 B1 BW p0 p1 p2 p3 f0 f1 f2 f3
      by_cases hc : c = 0
      · have LT : Hid (wsum a (k + 1) < MM) := by have h1 := S1.out; have h2 := RT.out; unfold Hid; rw [h1, hc]; omega
        go_wp2
        go_roundw
        case rel => exact ⟨k + 1, t0, t1, t2, t3, by go_num, by omega, LT.out, T1.out, CW.out, C0.out, C1.out⟩
        case measure => simp [intOf]; omega
      · have GE : Hid (MM ≤ wsum a n) := by
          have h1 := S1.out
          have h2 := RT.out
          have h3 := HMO.out
          have h4 : c = 1 := by omega
          rw [h4] at h1
          unfold Hid; omega
        obtain ⟨r0, r1, r2, r3, f0, f1, f2, f3⟩ := Box.facts C0.out
        go_wp2
        exact bodyPost_ret (v := .tuple #[.agg #[.int .u64 0, .int .u64 0, .int .u64 0, .int .u64 0], .bool false]) (by simp [results, Try.results30, go_sem, r0, r1, r2, r3]) rfl ⟨0, 0, 0, 0, false, rfl, (decide_eq_false (Int.not_lt.2 GE.out)).symm, by rw [if_neg (Int.not_lt.2 GE.out)]; exact isW_0, below_put CW.out (Nat.le_refl _) 0 0 0 0⟩
    · obtain rfl : k = n := by omega
      have kI : ¬ ((k : Int) < (k : Int)) := by omega
      clear hs hlt hB hb0 hb1
      obtain ⟨p0, p1, p2, p3, _⟩ := Box.facts H1.out
      obtain ⟨r0, r1, r2, r3, f0, f1, f2, f3⟩ := Box.facts H0.out
      go_wp2
      exact bodyPost_ret (v := .tuple #[.agg #[.int .u64 s0, .int .u64 s1, .int .u64 s2, .int .u64 s3], .bool true]) (by simp [results, Try.results30, go_sem, r0, r1, r2, r3]) rfl ⟨s0, s1, s2, s3, true, rfl, (decide_eq_true HLT.out).symm, by rw [if_pos HLT.out]; exact HS.out, below_put HB.out (Nat.le_refl _) s0 s1 s2 s3⟩
end Go.Proofs.Ytpadpmkfhljiiaa
