/- The document's 'times': the plain product of two rows. -/
import Derived.Test.YtpadpmkfhljiiaaRd
import Derived.Deep.QuietTactic
import Derived.BigQuiet
namespace Go.Proofs.Ytpadpmkfhljiiaa
open Go.RowKit
/-- cells of numbers, which may be written -/
def RowI (W : World) (g N : Nat) (f : Nat → Nat) : Prop := ∀ j, j < N → W.cell? ⟨g, j, none⟩ = some (.int .i64 (f j : Int)) ∧ W.frozen? ⟨g, j, none⟩ = false
theorem RowI.lt {W : World} {g N : Nat} {f : Nat → Nat} (h : RowI W g N f) (hN : 0 < N) : g < W.heap.size := World.block_lt_of_cell? W _ (h 0 hN).1
/-- one digit is turned -/
def setD (f : Nat → Nat) (s y : Nat) (j : Nat) : Nat := if j = s then y else f j
theorem RowI.set {w : World} {g N : Nat} {f : Nat → Nat} (h : RowI w g N f) (s y : Nat) : RowI (w.setCell ⟨g, s, none⟩ (.int .i64 (y : Int))) g N (setD f s y) := fun j hj => by
  refine ⟨?_, by rw [World.frozen?_setCell]; exact (h j hj).2⟩
  unfold setD
  by_cases e : j = s
  · subst e; rw [World.cell?_setCell_same _ _ _ (h j hj).1, if_pos rfl]
  · rw [World.cell?_setCell_other _ _ _ _ (by intro e'; injection e' with _ e' _; exact e e'.symm), if_neg e]; exact (h j hj).1
theorem dsum_set (f : Nat → Nat) (s y : Nat) : ∀ N, s < N → dsum (setD f s y) N + f s * 256 ^ s = dsum f N + y * 256 ^ s
  | 0, h => absurd h (by omega)
  | N + 1, h => by
    by_cases e : s = N
    · subst e
      rw [dsum, dsum, dsum_ext s (d := setD f s y) (e := f) (fun i hi => by unfold setD; rw [if_neg (by omega)])]
      simp only [setD, if_true]; omega
    · have := dsum_set f s y N (by omega)
      rw [dsum, dsum, show setD f s y N = f N by unfold setD; rw [if_neg (by omega)]]; omega
/-- the step of the product -/
theorem times_step {P D x c nn i k N : Nat} {f e : Nat → Nat} (hs : i + k < N) (hx : x = f (i + k)) (hnn : nn = x + D * e k + c) (h : dsum f N + c * 256 ^ (i + k) = P + D * 256 ^ i * dsum e k) :
    dsum (setD f (i + k) (nn % 256)) N + nn / 256 * 256 ^ (i + (k + 1)) = P + D * 256 ^ i * dsum e (k + 1) := by
  have h1 := dsum_set f (i + k) (nn % 256) N hs
  have h2 : nn / 256 * 256 ^ (i + (k + 1)) + nn % 256 * 256 ^ (i + k) = nn * 256 ^ (i + k) := by
    rw [show i + (k + 1) = (i + k) + 1 by omega, Nat.pow_succ, Nat.mul_comm (256 ^ (i + k)) 256, ← Nat.mul_assoc, ← Nat.add_mul]
    congr 1; omega
  have h3 : nn * 256 ^ (i + k) = f (i + k) * 256 ^ (i + k) + D * e k * 256 ^ (i + k) + c * 256 ^ (i + k) := by rw [hnn, hx, Nat.add_mul, Nat.add_mul]
  have h4 : D * 256 ^ i * dsum e (k + 1) = D * 256 ^ i * dsum e k + D * e k * 256 ^ (i + k) := by
    rw [dsum, Nat.mul_add, Nat.pow_add]
    congr 1
    rw [Nat.mul_assoc, Nat.mul_assoc, Nat.mul_left_comm (256 ^ i)]
  omega
theorem times_end {n m i c : Nat} {d e f : Nat → Nat} (N : Nat) (hd : ∀ i, d i < 256) (he : ∀ i, e i < 256) (hz : e m = 0) (h : dsum f N + c * 256 ^ (i + (m + 1)) = dsum d i * dsum e m + d i * 256 ^ i * dsum e (m + 1)) (_hn : i < n) :
    dsum f N = dsum d (i + 1) * dsum e m := by
  have e1 : dsum e (m + 1) = dsum e m := by rw [dsum, hz]; simp
  rw [e1, ← Nat.add_mul] at h
  have e2 : dsum d (i + 1) = dsum d i + d i * 256 ^ i := rfl
  rw [← e2] at h
  have b1 := dsum_lt hd (i + 1)
  have b2 := dsum_lt he m
  have b3 : dsum d (i + 1) * dsum e m < 256 ^ (i + (m + 1)) := by
    rw [show i + (m + 1) = (i + 1) + m by omega, Nat.pow_add]
    exact Nat.mul_lt_mul'' b1 b2
  rcases Nat.eq_zero_or_pos c with hc | hc
  · rw [hc] at h; omega
  · have : 1 * 256 ^ (i + (m + 1)) ≤ c * 256 ^ (i + (m + 1)) := Nat.mul_le_mul_right _ hc
    omega
theorem setD_lt {f : Nat → Nat} (hf : ∀ i, f i < 256) (s y i : Nat) (hy : y < 256) : setD f s y i < 256 := by unfold setD; split; exact hy; exact hf i
theorem RowAt.ofRowI {W : World} {g N c : Nat} {f : Nat → Nat} (h : RowI W g N f) (hf : ∀ i, f i < 256) (hN : N ≤ 1073741824) : RowAt W (.slice (some ⟨g, 0, none⟩) N c) N (cutD f N) :=
  ⟨fun i hi => by unfold cutD; rw [if_neg (by omega)], cutD_lt hf N, hN, _, c, rfl, fun _ => ⟨g, 0, rfl, fun i hi => by rw [Nat.zero_add, (h i hi).1]; unfold cutD; rw [if_pos hi]⟩⟩
theorem cutD_same (f : Nat → Nat) (N : Nat) : dsum (cutD f N) N = dsum f N := dsum_ext N fun i hi => by unfold cutD; rw [if_pos hi]
theorem made_at (N j : Nat) (h : j < N) : (madeCells #[Value.int .i64 0] (N * 1)).toList[j]? = some (.int .i64 0) := by
  simp [madeCells, h, Nat.mod_one]
theorem RowI.made {w1 : World} {B g N : Nat} (h : w1.ownsRow B 3 1 (.slice (some ⟨g, 0, none⟩) N N) N (madeCells #[Value.int .i64 0] (N * 1)).toList) : RowI w1 g N (fun _ => 0) := fun j hj =>
  ⟨by rw [h.cellAt j (by omega), made_at N j hj]; rfl, h.frozenAt j⟩
set_option maxHeartbeats 4000000 in
set_option maxRecDepth 100000 in
theorem times_is (w : World) (v u : Value) (n m : Nat) (d e : Nat → Nat) (hv : RowAt w v n d) (hu : RowAt w u m e) (hn : n ≤ 1000) (hm : m ≤ 1000) :
    Calls Try.prog 68 #[v, u] w fun r w' => ∃ x f, r = .returned x ∧ RowAt w' x (n + m + 1) f ∧ dsum f (n + m + 1) = dsum d n * dsum e m ∧ Below w.heap.size w w' := by
  have HV : Hid (RowAt w v n d) := hv
  have HU : Hid (RowAt w u m e) := hu
  obtain ⟨hz, hd, _, ad, cap, rfl, hc⟩ := hv
  obtain ⟨hz', hd', _, bd, cap', rfl, _⟩ := hu
  obtain ⟨i0, hi, hz0, hz1, hz2⟩ := info_parts Try.infoI
  have HC : Hid _ := hc
  have HD : Hid _ := hd
  have HE : Hid _ := hd'
  have HZ : Hid (e m = 0) := hz' m (Nat.le_refl _)
  obtain ⟨N, eN⟩ : ∃ N, N = n + m + 1 := ⟨_, rfl⟩
  rw [← eN]
  have ENN : Hid (N = n + m + 1) := eN
  obtain ⟨nm, enm⟩ : ∃ nm, nm = n + m := ⟨_, rfl⟩
  have a1 : (n : Int) + (m : Int) = (nm : Int) := by omega
  have a2 : (nm : Int) + 1 = (N : Int) := by omega
  have w1 : IntKind.i64.wrap (nm : Int) = (nm : Int) := by rw [IntKind.wrap_i64]; omega
  have w2 : IntKind.i64.wrap (N : Int) = (N : Int) := by rw [IntKind.wrap_i64]; omega
  have nI : (n : Int) ≤ 1000 := by omega
  have mI : (m : Int) ≤ 1000 := by omega
  have NI : N ≤ 2001 := by omega
  have N0 : 0 < N := by omega
  clear hz hz' hd hd' hc eN enm
  go_enter Try.func68, Try.ntmps68
  go_upto_region 2 with (at_make; refine wpList_make_full _ rfl _ _ 52 rfl w.heap.size 3 i0 (.int .i64 0) 1 Try.underlying52 hi hz0 hz1 .i64 .i64 _ _ N rfl rfl rfl rfl (by rw [hz2]; omega) (by unfold maxLen; omega) (Nat.le_refl _) ?_; intro v1 hown hgrow; (have R1 : Hid (RowI v1 w.heap.size N (fun _ => 0)) := RowI.made hown); (have B1 : Hid (Below w.heap.size w v1) := Below.grown (Below.refl _ _) hgrow (Nat.le_refl _) (fun k h => by cases h)); clear hown hgrow)
  go_wp2
  generalize hg : w.heap.size = g at R1 ⊢
  have HG : Hid (w.heap.size = g) := hg
  clear hg
  go_loopw [6] (fun s wr => ∃ (i : Nat) (f : Nat → Nat), i ≤ n ∧ s = .int .i64 i ∧ (∀ j, f j < 256) ∧ dsum f N = dsum d i * dsum e m ∧ RowI wr g N f ∧ Below w.heap.size w wr) (fun s _ => n - (intOf s).toNat)
  case atStart => exact ⟨0, fun _ => 0, by omega, rfl, fun _ => (by decide : (0 : Nat) < 256), by rw [dsum_zero N (fun _ _ => rfl)]; simp [dsum], R1.out, B1.out⟩
  case round =>
    obtain ⟨i, f, hin, rfl, hf, hs, hR, hB⟩ := hrel
    clear R1 B1
    by_cases hi5 : i < n
    · have iI : (i : Int) < (n : Int) := by omega
      have F0 : Hid _ := hf
      have S0 : Hid _ := hs
      have RR : Hid _ := hR
      have BB : Hid _ := hB
      obtain ⟨P, eP⟩ : ∃ P, P = dsum d i * dsum e m := ⟨_, rfl⟩
      obtain ⟨D, eD⟩ : ∃ D, D = d i := ⟨_, rfl⟩
      have D256 : D < 256 := by rw [eD]; exact HD.out i
      have EP : Hid (P = dsum d i * dsum e m) := eP
      have ED : Hid (D = d i) := eD
      obtain ⟨ga, oa, rfl, hcl⟩ := HC.out (by omega)
      have ca0 := hcl i hi5
      rw [← eD] at ca0
      have gal := World.block_lt_of_cell? w _ ca0
      have CA : Hid _ := ca0
      clear hf hs hR hB hcl eP eD
      go_wp2
      go_loopw [7, 8] (fun sc sk wx => ∃ (k c : Nat) (f : Nat → Nat), k ≤ m + 1 ∧ c < 256 ∧ sc = .int .i64 c ∧ sk = .int .i64 k ∧ (∀ j, f j < 256) ∧ dsum f N + c * 256 ^ (i + k) = P + D * 256 ^ i * dsum e k ∧ RowI wx g N f ∧ Below w.heap.size w wx) (fun _ sk _ => m + 1 - (intOf sk).toNat)
      case atStart => exact ⟨0, 0, f, by omega, by omega, rfl, rfl, F0.out, by rw [EP.out, S0.out]; simp [dsum], RR.out, BB.out⟩
      case round =>
        obtain ⟨k, c, h, hk, hc, rfl, rfl, hh, hs, hR, hB⟩ := hrel
        clear F0 S0 RR BB
        have HH : Hid (∀ j, h j < 256) := hh
        have HS : Hid _ := hs
        have HR : Hid (RowI wr g N h) := hR
        have HB : Hid (Below w.heap.size w wr) := hB
        by_cases hkm : k < m + 1
        · have kI : (k : Int) ≤ (m : Int) := by omega
          obtain ⟨s, es⟩ : ∃ s, s = i + k := ⟨_, rfl⟩
          have a3 : (i : Int) + (k : Int) = (s : Int) := by omega
          have w3 : IntKind.i64.wrap (s : Int) = (s : Int) := by rw [IntKind.wrap_i64]; omega
          have sN : s < N := by have := ENN.out; omega
          have sI : (s : Int) < (N : Int) := by omega
          obtain ⟨x, ex⟩ : ∃ x, x = h s := ⟨_, rfl⟩
          obtain ⟨y, ey⟩ : ∃ y, y = e k := ⟨_, rfl⟩
          have cx := (hR s sN).1
          have fx := (hR s sN).2
          rw [← ex] at cx
          have ca := (hB.cell (p := ⟨ga, oa + i, none⟩) gal).trans CA.out
          have DG : Hid (∀ W : World, Below w.heap.size w W → Calls Try.prog 96 #[.slice bd m cap', .int .i64 (k : Int)] W fun e w' => e = .returned (.int .i64 (y : Int)) ∧ w' = W) := fun W hW => by rw [ey]; exact digit_is W _ m e k (HU.out.below hW)
          have x256 : x < 256 := by rw [ex]; exact hh s
          have y256 : y < 256 := by rw [ey]; exact HE.out k
          obtain ⟨p, ep⟩ : ∃ p, p = D * y := ⟨_, rfl⟩
          have pb : p ≤ 65025 := by rw [ep]; exact Nat.mul_le_mul (show D ≤ 255 by omega) (show y ≤ 255 by omega)
          obtain ⟨nn, enn⟩ : ∃ nn, nn = x + p + c := ⟨_, rfl⟩
          have STEP : Hid (dsum (setD h s (nn % 256)) N + nn / 256 * 256 ^ (i + (k + 1)) = P + D * 256 ^ i * dsum e (k + 1)) := by
            have := times_step (f := h) (e := e) (P := P) (D := D) (x := x) (c := c) (nn := nn) (i := i) (k := k) (N := N) (by omega) (by rw [ex, es]) (by rw [enn, ep, ey]) HS.out
            unfold Hid
            rw [es]; exact this
          have b1 : (D : Int) * (y : Int) = (p : Int) := by rw [ep]; exact (Int.natCast_mul D y).symm
          have b2 : IntKind.i64.wrap (p : Int) = (p : Int) := by rw [IntKind.wrap_i64]; omega
          have b3 : (x : Int) + (p : Int) + (c : Int) = (nn : Int) := by omega
          have b4 : IntKind.i64.wrap (nn : Int) = (nn : Int) := by rw [IntKind.wrap_i64]; omega
          have b5 : IntKind.i64.wrap ((x : Int) + (p : Int)) = (x : Int) + (p : Int) := by rw [IntKind.wrap_i64]; omega
          have b6 : Int.tmod (nn : Int) 256 = ((nn % 256 : Nat) : Int) := by rw [Int.tmod_eq_emod_of_nonneg (by omega)]; omega
          have b7 : Int.tdiv (nn : Int) 256 = ((nn / 256 : Nat) : Int) := by rw [Int.tdiv_eq_ediv_of_nonneg (by omega)]; omega
          have nb : nn ≤ 65535 := by omega
          obtain ⟨r, er⟩ : ∃ r, r = nn % 256 := ⟨_, rfl⟩
          obtain ⟨c', ec'⟩ : ∃ c', c' = nn / 256 := ⟨_, rfl⟩
          rw [← er] at b6 STEP
          rw [← ec'] at b7 STEP
          have b8 : IntKind.i64.wrap (r : Int) = (r : Int) := by rw [IntKind.wrap_i64]; omega
          have b9 : IntKind.i64.wrap (c' : Int) = (c' : Int) := by rw [IntKind.wrap_i64]; omega
          have r256 : r < 256 := by omega
          have c256 : c' < 256 := by omega
          have nnI : (nn : Int) ≤ 65535 := by omega
          clear er ec' enn ep ex ey es hs hh hR hB pb
          go_upto_region 9 with fail
          go_quiet ((go_at_call 96; exact Calls.quiet_of_same (DG.out _ (bdrewN HB.out _))))
          go_wp2
          go_roundw
          case rel => exact ⟨k + 1, c', setD h s r, by omega, c256, rfl, by go_num, fun j => setD_lt HH.out s r j r256, STEP.out, RowI.set (fun j hj => HR.out j hj) s r, Below.setCell (bdrewN HB.out nq) (Nat.le_of_eq HG.out) _⟩
          case measure => simp [intOf]; omega
        · obtain rfl : k = m + 1 := by omega
          have kI : ¬ (((m + 1 : Nat) : Int) ≤ (m : Int)) := by omega
          have FSu : Hid (dsum h N = dsum d (i + 1) * dsum e m) := times_end (n := n) N HD.out HE.out HZ.out (by rw [← ED.out, ← EP.out]; exact HS.out) hi5
          clear hs hh hR hB HS
          go_wp2
          go_roundw
          case rel => exact ⟨i + 1, h, by omega, by go_num, HH.out, FSu.out, HR.out, HB.out⟩
          case measure => simp [intOf]; omega
    · obtain rfl : i = n := by omega
      have iI : ¬ ((i : Int) < (i : Int)) := by omega
      have F0 : Hid _ := hf
      have S0 : Hid _ := hs
      have RR : Hid (RowI wr g N f) := hR
      have BB : Hid _ := hB
      clear hf hs hR hB
      go_wp2
      go_ret
      exact ⟨_, rfl, cutD f N, RowAt.ofRowI RR.out F0.out (by omega), by rw [cutD_same]; exact S0.out, BB.out⟩
end Go.Proofs.Ytpadpmkfhljiiaa
