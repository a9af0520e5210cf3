/- The document's plus, full, Sum. -/
import Derived.Test.YtlemnjhdnciddaaGoa
import Derived.Deep.CutRange
namespace Go.Proofs.Ytlemnjhdnciddaa
open Go.RowKit
/-- cells of numbers, which may be written -/
def RowI (W : World) (g N : Nat) (f : Nat → Nat) : Prop := ∀ j, j < N → W.cell? ⟨g, j, none⟩ = some (.int .i64 (f j : Int)) ∧ W.frozen? ⟨g, j, none⟩ = false
theorem RowI.lt {W : World} {g N : Nat} {f : Nat → Nat} (h : RowI W g N f) (hN : 0 < N) : g < W.heap.size := World.block_lt_of_cell? W _ (h 0 hN).1
/-- one digit is turned -/
def setD (f : Nat → Nat) (s y : Nat) (j : Nat) : Nat := if j = s then y else f j
theorem RowI.set {w : World} {g N : Nat} {f : Nat → Nat} (h : RowI w g N f) (s y : Nat) : RowI (w.setCell ⟨g, s, none⟩ (.int .i64 (y : Int))) g N (setD f s y) := fun j hj => by
  refine ⟨?_, by rw [World.frozen?_setCell]; exact (h j hj).2⟩
  unfold setD
  by_cases e : j = s
  · subst e; rw [World.cell?_setCell_same _ _ _ (h j hj).1, if_pos rfl]
  · rw [World.cell?_setCell_other _ _ _ _ (by intro e'; injection e' with _ e' _; exact e e'.symm), if_neg e]; exact (h j hj).1
theorem setD_lt {f : Nat → Nat} (hf : ∀ i, f i < 256) (s y i : Nat) (hy : y < 256) : setD f s y i < 256 := by unfold setD; split; exact hy; exact hf i
theorem RowAt.ofRowI {W : World} {g N c : Nat} {f : Nat → Nat} (h : RowI W g N f) (hf : ∀ i, f i < 256) (hN : N ≤ 1073741824) : RowAt W (.slice (some ⟨g, 0, none⟩) N c) N (cutD f N) :=
  ⟨fun i hi => by unfold cutD; rw [if_neg (by omega)], cutD_lt hf N, hN, _, c, rfl, fun _ => ⟨g, 0, rfl, fun i hi => by rw [Nat.zero_add, (h i hi).1]; unfold cutD; rw [if_pos hi]⟩⟩
theorem made_at (N j : Nat) (h : j < N) : (madeCells #[Value.int .i64 0] (N * 1)).toList[j]? = some (.int .i64 0) := by
  simp [madeCells, h, Nat.mod_one]
theorem RowI.made {w1 : World} {B g N : Nat} (h : w1.ownsRow B 3 1 (.slice (some ⟨g, 0, none⟩) N N) N (madeCells #[Value.int .i64 0] (N * 1)).toList) : RowI w1 g N (fun _ => 0) := fun j hj =>
  ⟨by rw [h.cellAt j (by omega), made_at N j hj]; rfl, h.frozenAt j⟩
theorem MM_nat : ((256 ^ 32 : Nat) : Int) = MM := by decide
/-- the value is a list of these words -/
def WordsAt (W : World) (v : Value) (n : Nat) (a : Nat → Nat → Int) : Prop := n ≤ 1048576 ∧ (∀ i q, U64 (a i q)) ∧ ∃ ad cap, v = .slice ad n cap ∧ (n ≠ 0 → ∃ g o, ad = some ⟨g, o, none⟩ ∧ ∀ i, i < n → ∀ q, q < 4 → W.cell? ⟨g, o + i * 4 + q, none⟩ = some (.int .u64 (a i q)))
theorem WordsAt.below {W W' : World} {v : Value} {n : Nat} {a : Nat → Nat → Int} (h : WordsAt W v n a) (k : Below W.heap.size W W') : WordsAt W' v n a := by
  obtain ⟨h1, h2, ad, cap, e, hc⟩ := h
  refine ⟨h1, h2, ad, cap, e, fun hn => ?_⟩
  obtain ⟨g, o, e1, hc⟩ := hc hn
  exact ⟨g, o, e1, fun i hi q hq => (k.cell (p := ⟨g, o + i * 4 + q, none⟩) (World.block_lt_of_cell? W _ (hc i hi q hq))).trans (hc i hi q hq)⟩
/-- the plain sum of the first words -/
def wsum (a : Nat → Nat → Int) : Nat → Int
  | 0 => 0
  | k + 1 => wsum a k + V (a k 0) (a k 1) (a k 2) (a k 3)
theorem wsum_nonneg {a : Nat → Nat → Int} (h : ∀ i q, U64 (a i q)) : ∀ k, 0 ≤ wsum a k
  | 0 => by simp [wsum]
  | k + 1 => by
    have := wsum_nonneg h k
    have := (V_range (h k 0) (h k 1) (h k 2) (h k 3)).1
    rw [wsum]; omega
theorem wsum_mono {a : Nat → Nat → Int} (h : ∀ i q, U64 (a i q)) (k : Nat) : ∀ n, k ≤ n → wsum a k ≤ wsum a n
  | 0, hn => by rw [show k = 0 by omega]; exact Int.le_refl _
  | n + 1, hn => by
    by_cases e : k = n + 1
    · rw [e]; exact Int.le_refl _
    · have := wsum_mono h k n (by omega)
      have := (V_range (h n 0) (h n 1) (h n 2) (h n 3)).1
      rw [wsum]; omega
def SumRes (a : Nat → Nat → Int) (n : Nat) (w : World) (e : Ending) (w' : World) : Prop := ∃ s0 s1 s2 s3 : Int, ∃ ok : Bool, e = .returned (.tuple #[.agg #[.int .u64 s0, .int .u64 s1, .int .u64 s2, .int .u64 s3], .bool ok]) ∧ ok = decide (wsum a n < MM) ∧ IsW (if wsum a n < MM then wsum a n else 0) s0 s1 s2 s3 ∧ Below w.heap.size w w'
theorem intsD_set (f : Nat → Nat) (i y : Nat) : intsD (setD f i y) (i + 1) = intsD f i ++ [.int .i64 (y : Int)] := by
  rw [intsD_snoc]
  congr 1
  · simp only [intsD]
    apply List.map_congr_left
    intro j hj
    have : j < i := List.mem_range.1 hj
    rw [setD, if_neg (by omega)]
  · rw [setD, if_pos rfl]
theorem dsum_setD (f : Nat → Nat) (i y : Nat) : dsum (setD f i y) (i + 1) = dsum f i + y * 256 ^ i := by
  rw [dsum, dsum_ext i (d := setD f i y) (e := f) (fun j hj => by rw [setD, if_neg (by omega)])]
  rw [setD, if_pos rfl]
theorem plus_step {f d e : Nat → Nat} {i c nn : Nat} (hnn : nn = d i + e i + c) (h : dsum f i + c * 256 ^ i = dsum d i + dsum e i) : dsum (setD f i (nn % 256)) (i + 1) + nn / 256 * 256 ^ (i + 1) = dsum d (i + 1) + dsum e (i + 1) := by
  rw [dsum_setD, dsum, dsum]
  have h2 : nn / 256 * 256 ^ (i + 1) + nn % 256 * 256 ^ i = nn * 256 ^ i := by
    rw [Nat.pow_succ, Nat.mul_comm (256 ^ i) 256, ← Nat.mul_assoc, ← Nat.add_mul]
    congr 1; omega
  have h3 : nn * 256 ^ i = d i * 256 ^ i + e i * 256 ^ i + c * 256 ^ i := by rw [hnn, Nat.add_mul, Nat.add_mul]
  omega
theorem own_set {W0 wr w1 : World} {v v' : Value} {o : Obj} {f : Nat → Nat} {k y : Nat} (hown : wr.ownsRow W0.heap.size 3 1 v k (intsD f k)) (hB : Below W0.heap.size W0 wr)
    (hown' : w1.ownsRow W0.heap.size 3 1 v' (k + 1) (intsD f k ++ [.int .i64 (y : Int)])) (hg : (wr.alloc o).grownBy w1 v.ownBlock) :
    w1.ownsRow W0.heap.size 3 1 v' (k + 1) (intsD (setD f k y) (k + 1)) ∧ Below W0.heap.size W0 w1 := by
  rw [intsD_set]
  exact ⟨hown', Below.grown (hB.alloc hB.size o) hg (by have := hB.size; simp; omega) (fun q h => (hown.lt q h).1)⟩
/-- what 'plus' gives -/
def PlusRes (d e : Nat → Nat) (K : Nat) (w : World) (r : Ending) (w' : World) : Prop := ∃ x f, r = .returned x ∧ RowAt w' x (K + 1) f ∧ dsum f (K + 1) = dsum d K + dsum e K ∧ Below w.heap.size w w'
set_option maxHeartbeats 4000000 in
set_option maxRecDepth 100000 in
theorem plus_is (w : World) (v u : Value) (n m : Nat) (d e : Nat → Nat) (hv : RowAt w v n d) (hu : RowAt w u m e) (hn : n ≤ 1000) (hm : m ≤ 1000) (K : Nat) (hK : K = max n m) :
    Calls Try.prog 76 #[v, u] w (PlusRes d e K w) := by
  have HV : Hid (RowAt w v n d) := hv
  have HU : Hid (RowAt w u m e) := hu
  have HZ : Hid (d K = 0 ∧ e K = 0) := ⟨hv.1 K (by omega), hu.1 K (by omega)⟩
  have HD : Hid (∀ i, d i < 256) := hv.2.1
  have HE : Hid (∀ i, e i < 256) := hu.2.1
  obtain ⟨_, _, _, ad, cap, rfl, _⟩ := hv
  obtain ⟨_, _, _, bd, cap', rfl, _⟩ := hu
  obtain ⟨i0, hi, hz0, hz1, hz2⟩ := info_parts Try.infoI
  have LG : Hid (∀ W, Calls Try.prog 104 #[.slice ad n cap, .slice bd m cap'] W fun e w' => e = .returned (.int .i64 (K : Int)) ∧ w' = W) := fun W => by rw [hK]; exact longer_is W ad bd n m cap cap'
  have K1 : K ≤ 1000 := by omega
  clear hK
  go_enter Try.func76, Try.ntmps76
  go_wp2
  go_loopw [5, 6, 7] (fun s5 sc si wr => ∃ (i c : Nat) (f : Nat → Nat), i ≤ K + 1 ∧ c ≤ 1 ∧ (i = K + 1 → c = 0) ∧ sc = .int .i64 c ∧ si = .int .i64 i ∧ (∀ j, f j < 256) ∧ (∀ j, i ≤ j → f j = 0) ∧ dsum f i + c * 256 ^ i = dsum d i + dsum e i ∧ wr.ownsRow w.heap.size 3 1 s5 i (intsD f i) ∧ Below w.heap.size w wr) (fun _ _ si _ => K + 1 - (intOf si).toNat)
  case atStart => exact ⟨0, 0, fun _ => 0, by omega, by omega, fun _ => rfl, rfl, rfl, fun _ => (by decide : (0 : Nat) < 256), fun _ _ => rfl, by simp [dsum], World.ownsRow_nil _ _ _ _, Below.refl _ _⟩
  case round =>
    obtain ⟨i, c, f, hik, hc1, hend, rfl, rfl, hf, hfz, hs, hown, hB⟩ := hrel
    have HOW : Hid _ := hown
    have HB : Hid (Below w.heap.size w wr) := hB
    have HS : Hid _ := hs
    have HF : Hid (∀ j, f j < 256) := hf
    have HFZ : Hid (∀ j, i ≤ j → f j = 0) := hfz
    have b0 := hB.size
    by_cases hi5 : i < K + 1
    · have iI : (i : Int) ≤ (K : Int) := by omega
      obtain ⟨x, ex⟩ : ∃ x, x = d i := ⟨_, rfl⟩
      obtain ⟨y, ey⟩ : ∃ y, y = e i := ⟨_, rfl⟩
      have x256 : x < 256 := by rw [ex]; exact HD.out i
      have y256 : y < 256 := by rw [ey]; exact HE.out i
      have D1 : Hid (Calls Try.prog 105 #[.slice ad n cap, .int .i64 (i : Int)] wr fun e w' => e = .returned (.int .i64 (x : Int)) ∧ w' = wr) := by rw [ex]; exact digit_is wr _ n d i (HV.out.below hB)
      have D2 : Hid (Calls Try.prog 105 #[.slice bd m cap', .int .i64 (i : Int)] wr fun e w' => e = .returned (.int .i64 (y : Int)) ∧ w' = wr) := by rw [ey]; exact digit_is wr _ m e i (HU.out.below hB)
      obtain ⟨nn, enn⟩ : ∃ nn, nn = x + y + c := ⟨_, rfl⟩
      have ST : Hid (dsum (setD f i (nn % 256)) (i + 1) + nn / 256 * 256 ^ (i + 1) = dsum d (i + 1) + dsum e (i + 1)) := plus_step (by rw [enn, ex, ey]) hs
      have HC : Hid (nn / 256 ≤ 1 ∧ (i + 1 = K + 1 → nn / 256 = 0)) := ⟨by omega, fun h => by
        obtain rfl : i = K := by omega
        have h2 := HZ.out
        rw [← ex, ← ey] at h2
        omega⟩
      have b3 : (x : Int) + (y : Int) + (c : Int) = (nn : Int) := by omega
      have b4 : IntKind.i64.wrap (nn : Int) = (nn : Int) := by rw [IntKind.wrap_i64]; omega
      have b5 : IntKind.i64.wrap ((x : Int) + (y : Int)) = (x : Int) + (y : Int) := by rw [IntKind.wrap_i64]; omega
      obtain ⟨r, er⟩ : ∃ r, r = nn % 256 := ⟨_, rfl⟩
      obtain ⟨c', ec'⟩ : ∃ c', c' = nn / 256 := ⟨_, rfl⟩
      rw [← er, ← ec'] at ST
      rw [← ec'] at HC
      have b6 : Int.tmod (nn : Int) 256 = (r : Int) := by rw [Int.tmod_eq_emod_of_nonneg (by omega)]; omega
      have b7 : Int.tdiv (nn : Int) 256 = (c' : Int) := by rw [Int.tdiv_eq_ediv_of_nonneg (by omega)]; omega
      have t4 : (nn : Int) % 256 = (r : Int) := by omega
      have b8 : IntKind.i64.wrap (r : Int) = (r : Int) := by rw [IntKind.wrap_i64]; omega
      have b9 : IntKind.i64.wrap (c' : Int) = (c' : Int) := by rw [IntKind.wrap_i64]; omega
      have r256 : r < 256 := by omega
      have nnI : (nn : Int) ≤ 511 := by omega
      have iI2 : (i : Int) ≤ 1000 := by omega
      clear er ec' enn ex ey hs hf hfz hown hB hend
      go_upto_region 6 with (go_at_call 104; refine (LG.out _).mono ?_; rintro e0 w' ⟨rfl, hw⟩; (have hw2 := hw.symm); clear hw; subst hw2)
      go_wp2_with fail
      refine Calls.mono D1.out ?_
      rintro e0 w' ⟨rfl, hw⟩
      have hw2 := hw.symm
      clear hw
      subst hw2
      go_wp2_with fail
      refine Calls.mono D2.out ?_
      rintro e0 w' ⟨rfl, hw⟩
      have hw2 := hw.symm
      clear hw
      subst hw2
      go_wp2_with (at_builtin; refine wpList_append_own _ rfl _ _ 111 rfl w.heap.size 3 i0 (.int .i64 0) 1 8 Try.underlying111 hi hz0 hz1 hz2 rfl (by decide) _ _ _ rfl (World.ownsRow.alloc HOW.out _) ⟨wr.heap.size, 0, none⟩ 1 1 [.int .i64 (r : Int)] rfl rfl (fun j u hj => (by have hj0 : j = 0 := (by have := (List.getElem?_eq_some_iff.1 hj).1; simpa using this); subst hj0; simp at hj; subst hj; (first | (simp [Addr.add]; done) | (simp [Addr.add]; first | exact t4 | omega)))) (fun u hu => (by rw [List.mem_singleton.1 hu]; rfl)) (by unfold maxLen; omega) (by omega) (by simp; omega) ?_; intro v' w1 hown' hgrow _)
      have R : Hid _ := own_set HOW.out HB.out hown' hgrow
      clear hown' hgrow
      go_wp2
      go_roundw
      case rel => exact ⟨i + 1, c', setD f i r, by omega, HC.out.1, HC.out.2, rfl, by go_num, fun j => setD_lt HF.out i r j r256, fun j hj => by rw [setD, if_neg (by omega)]; exact HFZ.out j (by omega), ST.out, R.out⟩
      case measure => simp [intOf]; omega
    · obtain rfl : i = K + 1 := by omega
      have iI : ¬ (((K + 1 : Nat) : Int) ≤ (K : Int)) := by omega
      have hc0 := hend rfl
      have FSu : Hid (dsum f (K + 1) = dsum d K + dsum e K) := by
        have h := hs
        have e1 : dsum d (K + 1) = dsum d K := by rw [dsum, HZ.out.1]; simp
        have e2 : dsum e (K + 1) = dsum e K := by rw [dsum, HZ.out.2]; simp
        rw [hc0, e1, e2, Nat.zero_mul, Nat.add_zero] at h
        exact h
      clear hs hf hfz hown hB hend
      go_wp2_with (go_at_call 104; refine (LG.out _).mono ?_; rintro e0 w' ⟨rfl, hw⟩; (have hw2 := hw.symm); clear hw; subst hw2)
      go_ret
      exact ⟨_, f, rfl, RowAt.own HOW.out HF.out HFZ.out (by omega), FSu.out, HB.out⟩
theorem dsum_full : dsum (setD (fun _ => 0) 32 1) 33 = 256 ^ 32 := by
  rw [dsum_setD, dsum_zero 32 (fun _ _ => rfl), Nat.zero_add, Nat.one_mul]
set_option maxHeartbeats 1000000 in
set_option maxRecDepth 100000 in
theorem full_is (w : World) : Calls Try.prog 79 #[] w fun e w' => ∃ v, e = .returned v ∧ RowAt w' v 33 (setD (fun _ => 0) 32 1) ∧ Below w.heap.size w w' := by
  obtain ⟨i0, hi, hz0, hz1, hz2⟩ := info_parts Try.infoI
  go_enter Try.func79, Try.ntmps79
  go_upto_region 2 with (at_make; refine wpList_make_full _ rfl _ _ 111 rfl w.heap.size 3 i0 (.int .i64 0) 1 Try.underlying111 hi hz0 hz1 .i64 .i64 _ _ 33 rfl rfl rfl rfl (by rw [hz2]; omega) (by unfold maxLen; omega) (Nat.le_refl _) ?_; intro v1 hown hgrow; (have R1 : Hid (RowI v1 w.heap.size 33 (fun _ => 0)) := RowI.made hown); (have B1 : Hid (Below w.heap.size w v1) := Below.grown (Below.refl _ _) hgrow (Nat.le_refl _) (fun k h => by cases h)); clear hown hgrow)
  have c := (R1.out 32 (by omega)).1
  have f := (R1.out 32 (by omega)).2
  have R2 : Hid (RowI (v1.setCell ⟨w.heap.size, 32, none⟩ (.int .i64 1)) w.heap.size 33 (setD (fun _ => 0) 32 1)) := RowI.set R1.out 32 1
  have B2 : Hid (Below w.heap.size w (v1.setCell ⟨w.heap.size, 32, none⟩ (.int .i64 1))) := Below.setCell B1.out (Nat.le_refl _) _
  go_wp2
  go_ret
  refine ⟨_, rfl, ?_, B2.out⟩
  have h := RowAt.ofRowI (c := 33) R2.out (fun i => setD_lt (fun _ => (by decide : (0 : Nat) < 256)) 32 1 i (by omega)) (by omega)
  have e : cutD (setD (fun _ => 0) 32 1) 33 = setD (fun _ => 0) 32 1 := by
    funext i
    unfold cutD
    by_cases q : i < 33
    · rw [if_pos q]
    · rw [if_neg q, setD, if_neg (by omega)]
  rw [e] at h
  exact h
theorem wsum_le {a : Nat → Nat → Int} (h : ∀ i q, U64 (a i q)) : ∀ k, wsum a k ≤ k * MM
  | 0 => by simp [wsum]
  | k + 1 => by
    have h1 := wsum_le h k
    have h2 := (V_range (h k 0) (h k 1) (h k 2) (h k 3)).2
    rw [wsum, show ((k + 1 : Nat) : Int) * MM = (k : Int) * MM + MM by rw [Int.natCast_add, Int.add_mul]; simp]; omega
theorem low_digits {d : Nat → Nat} {n : Nat} (hz : ∀ i, n ≤ i → d i = 0) (hn : n ≤ 40) (h : dsum d n < 256 ^ 32) : dsum d 32 = dsum d n := by
  have e1 : dsum d 40 = dsum d n := dsum_more hz 40 hn
  have e2 := dsum_split d 32 8
  rw [show 32 + 8 = 40 from rfl, e1] at e2
  rcases Nat.eq_zero_or_pos (dsum (fun r => d (32 + r)) 8) with h0 | h0
  · rw [h0] at e2; omega
  · have : 256 ^ 32 * 1 ≤ 256 ^ 32 * dsum (fun r => d (32 + r)) 8 := Nat.mul_le_mul_left _ h0
    omega
set_option maxHeartbeats 4000000 in
set_option maxRecDepth 100000 in
theorem rsum_any (w : World) (v : Value) (n : Nat) (a : Nat → Nat → Int) (hv : WordsAt w v n a) : Calls Try.prog 61 #[v] w (SumRes a n w) := by
  have HV : Hid (WordsAt w v n a) := hv
  have HU : Hid (∀ i q, U64 (a i q)) := hv.2.1
  have hn := hv.1
  obtain ⟨_, _, ad, cap, rfl, _⟩ := hv
  have nI : (n : Int) ≤ 1048576 := by omega
  have I0 : Hid (Below w.heap.size w (w.alloc (.cells #[.int .u64 0, .int .u64 0, .int .u64 0, .int .u64 0] 30)) ∧ Box (w.alloc (.cells #[.int .u64 0, .int .u64 0, .int .u64 0, .int .u64 0] 30)) w.heap.size 0 0 0 0) := ⟨(Below.refl _ _).alloc (Nat.le_refl _) _, Box.new w 30 0 0 0 0⟩
  go_enter Try.func61, Try.ntmps61
  go_wp2
  go_loopw [4, 5] (fun s4 si wr => ∃ (k m : Nat) (d : Nat → Nat), k ≤ n ∧ m ≤ 40 ∧ si = .int .i64 k ∧ RowAt wr s4 m d ∧ (dsum d m : Int) = wsum a k ∧ Below w.heap.size w wr ∧ Box wr w.heap.size 0 0 0 0) (fun _ si _ => n - (intOf si).toNat)
  case atStart => exact ⟨0, 0, fun _ => 0, by omega, by omega, rfl, ⟨fun _ _ => rfl, fun _ => (by decide : (0 : Nat) < 256), by omega, none, 0, rfl, fun h => absurd rfl h⟩, by simp [dsum, wsum], I0.out⟩
  case round =>
    obtain ⟨k, m, d, hk, hm, rfl, hR, hs, hB, hbx⟩ := hrel
    clear I0
    have RR : Hid (RowAt wr u4 m d) := hR
    have SS : Hid ((dsum d m : Int) = wsum a k) := hs
    have HB : Hid (Below w.heap.size w wr) := hB
    have BX : Hid (Box wr w.heap.size 0 0 0 0) := hbx
    have WL := wsum_le HU.out k
    by_cases hk5 : k < n
    · have kI : (k : Int) < (n : Int) := by omega
      obtain ⟨_, _, _, _, e8, hc8⟩ := HV.out.below hB
      injection e8 with e81 _ e82
      subst e81 e82
      obtain ⟨g, o, rfl, hcl⟩ := hc8 (by omega)
      have c0 := hcl k hk5 0 (by omega)
      have c1 := hcl k hk5 1 (by omega)
      have c2 := hcl k hk5 2 (by omega)
      have c3 := hcl k hk5 3 (by omega)
      rw [Nat.add_zero] at c0
      have ux : IsW (V (a k 0) (a k 1) (a k 2) (a k 3)) (a k 0) (a k 1) (a k 2) (a k 3) := isW_mk (HU.out k 0) (HU.out k 1) (HU.out k 2) (HU.out k 3)
      have hw : wsum a (k + 1) = wsum a k + V (a k 0) (a k 1) (a k 2) (a k 3) := rfl
      generalize a k 0 = x0 at c0 ux hw
      generalize a k 1 = x1 at c1 ux hw
      generalize a k 2 = x2 at c2 ux hw
      generalize a k 3 = x3 at c3 ux hw
      obtain ⟨X, hX, _, lX⟩ := mod_nat ux
      have OF : Hid (∀ W, Calls Try.prog 75 #[.agg #[.int .u64 x0, .int .u64 x1, .int .u64 x2, .int .u64 x3]] W fun e w' => ∃ v, e = .returned v ∧ RowAt w' v 32 (dig X) ∧ Below W.heap.size W w') := fun W => of_is _ x0 x1 x2 x3 W ux X hX
      have SX : Hid (dsum (dig X) 32 = X) := dig_all X lX
      have HW : Hid (wsum a (k + 1) = wsum a k + (X : Int)) := by unfold Hid; rw [hw, hX]
      have WL2 : Hid (wsum a (k + 1) ≤ ((k + 1 : Nat) : Int) * MM) := wsum_le HU.out (k + 1)
      clear hcl hc8 hR hs hB hbx ux hw hX lX WL
      go_wp2_with fail
      refine (OF.out _).mono ?_
      rintro e v1 ⟨p, rfl, hp, hB⟩
      have B1 : Hid (Below w.heap.size w v1) := Below.trans HB.out (hB.mono HB.out.size)
      have X1 : Hid (Box v1 w.heap.size 0 0 0 0) := Box.below BX.out hB (Box.lt BX.out)
      obtain ⟨K, eK⟩ : ∃ K, K = max m 32 := ⟨_, rfl⟩
      have PL : Hid (Calls Try.prog 76 #[u4, p] v1 (PlusRes d (dig X) K v1)) := plus_is v1 u4 p m 32 d (dig X) (RR.out.below hB) hp (by omega) (by omega) K eK
      have E1 : Hid (dsum d K = dsum d m ∧ dsum (dig X) K = X ∧ K ≤ 40) := ⟨dsum_more RR.out.1 K (by omega), by rw [dsum_more (n := 32) (fun i hi => by rw [dig, if_neg (by omega)]) K (by omega)]; exact SX.out, by omega⟩
      clear hB hp eK OF HB BX
      go_wp2_with fail
      refine Calls.mono PL.out ?_
      rintro e v2 ⟨y, f, rfl, hy, hfs, hB⟩
      have B2 : Hid (Below w.heap.size w v2) := Below.trans B1.out (hB.mono B1.out.size)
      have X2 : Hid (Box v2 w.heap.size 0 0 0 0) := Box.below X1.out hB (Box.lt X1.out)
      have CT : Hid _ := cut_is v2 y (K + 1) f hy 40 (by omega)
      have VS : Hid ((dsum f (K + 1) : Int) = wsum a (k + 1)) := by
        unfold Hid
        rw [hfs, E1.out.1, E1.out.2.1, HW.out, ← SS.out]; exact Int.natCast_add _ _
      have FB : Hid (∀ i, f i < 256) := hy.2.1
      clear hB hy hfs PL B1 X1 RR SS
      go_wp2_with fail
      refine Calls.mono CT.out ?_
      rintro e v3 ⟨q, rfl, hq, hB⟩
      have B3 : Hid (Below w.heap.size w v3) := Below.trans B2.out (hB.mono B2.out.size)
      have X3 : Hid (Box v3 w.heap.size 0 0 0 0) := Box.below X2.out hB (Box.lt X2.out)
      have RQ : Hid (RowAt v3 q (min 40 (K + 1)) (cutD f 40)) := hq
      have SQ : Hid ((dsum (cutD f 40) (min 40 (K + 1)) : Int) = wsum a (k + 1)) := by
        have h1 := cutD_sum FB.out (K + 1) 40
        have h2 : dsum f (K + 1) < 256 ^ 40 := by
          have h3 := VS.out
          have h4 := WL2.out
          have h5 : ((k + 1 : Nat) : Int) * MM ≤ 1048576 * MM := Int.mul_le_mul_of_nonneg_right (by omega) (Int.le_of_lt MM_pos)
          have h6 : (1048576 : Int) * MM < ((256 ^ 40 : Nat) : Int) := by decide
          omega
        rw [Nat.mod_eq_of_lt h2] at h1
        have h7 : dsum (cutD f 40) (min 40 (K + 1)) = dsum (cutD f 40) (K + 1) := (dsum_more (fun i hi => hq.1 i hi) (K + 1) (by omega)).symm
        unfold Hid
        rw [h7, h1]; exact VS.out
      clear hB hq CT B2 X2 VS
      go_wp2
      go_roundw
      case rel => exact ⟨k + 1, _, _, by omega, by omega, by go_num, RQ.out, SQ.out, B3.out, X3.out⟩
      case measure => simp [intOf]; omega
    · obtain rfl : k = n := by omega
      have kI : ¬ ((k : Int) < (k : Int)) := by omega
      clear hR hs hB hbx
      go_wp2_with fail
      refine (full_is _).mono ?_
      rintro e v1 ⟨p, rfl, hp, hB⟩
      have B1 : Hid (Below w.heap.size w v1) := Below.trans HB.out (hB.mono HB.out.size)
      have X1 : Hid (Box v1 w.heap.size 0 0 0 0) := Box.below BX.out hB (Box.lt BX.out)
      have R1 : Hid (RowAt v1 u4 m d) := RowAt.below RR.out hB
      have CP : Hid (Calls Try.prog 78 #[u4, p] v1 fun r w' => r = .returned (.int .i64 (cmpv (wsum a k) MM)) ∧ w' = v1) := by
        have h := compare_is v1 u4 p m 33 d (setD (fun _ => 0) 32 1) R1.out hp 40 (by omega)
        rw [dsum_more R1.out.1 40 hm, dsum_more hp.1 40 (by omega), dsum_full, SS.out, MM_nat] at h
        exact h
      clear hB hp HB BX RR
      by_cases hT : wsum a k < MM
      · have hcv : cmpv (wsum a k) MM = -1 := by unfold cmpv; rw [if_pos hT]
        rw [hcv] at CP
        have WD : Hid _ := word_is v1 u4 m d R1.out
        have SD : Hid ((dsum d 32 : Int) = wsum a k) := by
          have h1 := SS.out
          have h2 : dsum d m < 256 ^ 32 := by have := MM_nat; omega
          unfold Hid
          rw [low_digits R1.out.1 hm h2]; exact h1
        have HT : Hid (wsum a k < MM) := hT
        clear hT
        go_wp2_with (first | (go_at_call 78; refine Calls.mono CP.out ?_; rintro e0 w' ⟨rfl, hw⟩; (have hw2 := hw.symm); clear hw; subst hw2) | fail)
        refine Calls.mono WD.out ?_
        rintro e v2 ⟨s0, s1, s2, s3, rfl, hs, hB⟩
        have B2 : Hid (Below w.heap.size w v2) := Below.trans B1.out (hB.mono B1.out.size)
        have X2 : Hid (Box v2 w.heap.size 0 0 0 0) := Box.below X1.out hB (Box.lt X1.out)
        have V2 : Hid (IsW (wsum a k) s0 s1 s2 s3) := by rw [SD.out] at hs; exact hs
        clear hB hs WD
        obtain ⟨r0, r1, r2, r3, f0, f1, f2, f3⟩ := Box.facts X2.out
        go_wp2
        exact bodyPost_ret (v := .tuple #[.agg #[.int .u64 s0, .int .u64 s1, .int .u64 s2, .int .u64 s3], .bool true]) (by simp [results, Try.results61, go_sem, r0, r1, r2, r3]) rfl ⟨s0, s1, s2, s3, true, rfl, (decide_eq_true HT.out).symm, by rw [if_pos HT.out]; exact V2.out, below_put B2.out (Nat.le_refl _) s0 s1 s2 s3⟩
      · have HT : Hid (MM ≤ wsum a k) := Int.not_lt.1 hT
        have hcv : 0 ≤ cmpv (wsum a k) MM := by unfold cmpv; rw [if_neg hT]; split <;> omega
        generalize cmpv (wsum a k) MM = cc at CP hcv
        clear hT
        obtain ⟨r0, r1, r2, r3, f0, f1, f2, f3⟩ := Box.facts X1.out
        go_wp2_with (go_at_call 78; refine Calls.mono CP.out ?_; rintro e0 w' ⟨rfl, hw⟩; (have hw2 := hw.symm); clear hw; subst hw2)
        exact bodyPost_ret (v := .tuple #[.agg #[.int .u64 0, .int .u64 0, .int .u64 0, .int .u64 0], .bool false]) (by simp [results, Try.results61, go_sem, r0, r1, r2, r3]) rfl ⟨0, 0, 0, 0, false, rfl, (decide_eq_false (Int.not_lt.2 HT.out)).symm, by rw [if_neg (Int.not_lt.2 HT.out)]; exact isW_0, below_put B1.out (Nat.le_refl _) 0 0 0 0⟩
end Go.Proofs.Ytlemnjhdnciddaa
