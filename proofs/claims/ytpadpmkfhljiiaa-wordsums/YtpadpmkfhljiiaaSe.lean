/- WordSums: the walk. -/
import Derived.Test.YtpadpmkfhljiiaaSd
namespace Go.Proofs.Ytpadpmkfhljiiaa
open Go.RowKit
theorem slice_toW (g N cap q : Nat) (hq : q ≤ cap) (W : World) : Sem.run Try.prog (Instr.slice 30 (.slice (some ⟨g, 0, none⟩) N cap) none (some (.int .i64 (q : Int))) none) W = .ok (.slice (some ⟨g, 0, none⟩) q cap) W := by
  have e : (if cap = 0 then some (⟨g, 0, none⟩ : Addr) else some (Addr.add ⟨g, 0, none⟩ 0)) = some ⟨g, 0, none⟩ := by split <;> rfl
  simp [Instr.slice, Instr.sliceBounds, run_underlying Try.underlying30, run_sliceBound W .i64 (q : Int) cap _ (by omega) (by omega)]
  simpa using e
theorem extA_at (a : Nat → Nat → Int) (n k : Nat) (hk : k < 9) : extA a n (n + k) 0 = 77 ∧ extA a n (n + k) 1 = 0 ∧ extA a n (n + k) 2 = 0 ∧ extA a n (n + k) 3 = (k : Int) := by
  have e : ∀ q, extA a n (n + k) q = limb 77 0 0 (k : Int) q := fun q => by
    unfold extA
    rw [if_neg (by omega), show n + k - n = k by omega]
    congr 1; omega
  rw [e, e, e, e]; exact ⟨rfl, rfl, rfl, rfl⟩
/-- between the steps of the law -/
structure Ss (w : World) (g N : Nat) (b : Nat → Nat → Int) (W : World) : Prop where
  bel : Below w.heap.size w W
  row : RowW W g N b
theorem Ss.past {w W W' : World} {g N : Nat} {b : Nat → Nat → Int} (h : Ss w g N b W) (k : Below W.heap.size W W') (hN : 0 < N) : Ss w g N b W' := ⟨h.bel.trans (k.mono h.bel.size), h.row.below k (h.row.lt hN)⟩
theorem Ss.alloc {w W : World} {g N : Nat} {b : Nat → Nat → Int} (h : Ss w g N b W) (o : Obj) (hN : 0 < N) : Ss w g N b (W.alloc o) := h.past ((Below.refl _ _).alloc (Nat.le_refl _) _) hN
theorem Ss.drew {w W : World} {g N : Nat} {b : Nat → Nat → Int} (h : Ss w g N b W) : Ss w g N b W.drew := ⟨h.bel.drew, h.row⟩
theorem RowW.four {W : World} {g N : Nat} {b : Nat → Nat → Int} (h : RowW W g N b) (k : Nat) (hk : k < N) : Four W g (k * 4) (b k 0) (b k 1) (b k 2) (b k 3) := by
  have h0 := (h k hk 0 (by omega)).1
  rw [Nat.add_zero] at h0
  exact ⟨h0, (h k hk 1 (by omega)).1, (h k hk 2 (by omega)).1, (h k hk 3 (by omega)).1⟩
theorem RowW.puts {W : World} {c N : Nat} {g : Nat} {f : Nat → Nat → Int} (h : RowW W g N f) (hc : c ≠ g) (s0 s1 s2 s3 : Int) : RowW (put4 W c s0 s1 s2 s3) g N f := fun i hi q hq => by
  have oth : ∀ (W : World) (o : Nat) (x : Value), (W.setCell ⟨c, o, none⟩ x).cell? ⟨g, i * 4 + q, none⟩ = W.cell? ⟨g, i * 4 + q, none⟩ := fun W o x => World.cell?_setCell_other _ _ _ _ (by intro e'; injection e' with e' _ _; exact hc e')
  unfold put4
  refine ⟨?_, by simp only [World.frozen?_setCell]; exact (h i hi q hq).2⟩
  rw [oth, oth, oth, oth]; exact (h i hi q hq).1
theorem extA_want (a : Nat → Nat → Int) (n k : Nat) (hk : n ≤ k) (h9 : (k : Int) ≤ 1048585) : extA a n k 0 = 77 ∧ extA a n k 1 = 0 ∧ extA a n k 2 = 0 ∧ extA a n k 3 = (k : Int) - (n : Int) := by
  have e : ∀ q, extA a n k q = limb 77 0 0 ((k : Int) - (n : Int)) q := fun q => by
    unfold extA
    rw [if_neg (by omega)]
    congr 1; omega
  rw [e, e, e, e]; exact ⟨rfl, rfl, rfl, rfl⟩
theorem RowW.froz {W : World} {g N : Nat} {b : Nat → Nat → Int} (h : RowW W g N b) (k : Nat) (hk : k < N) : W.frozen? ⟨g, k * 4, none⟩ = false ∧ W.frozen? ⟨g, k * 4 + 1, none⟩ = false ∧ W.frozen? ⟨g, k * 4 + 2, none⟩ = false ∧ W.frozen? ⟨g, k * 4 + 3, none⟩ = false := by
  have h0 := (h k hk 0 (by omega)).2
  rw [Nat.add_zero] at h0
  exact ⟨h0, (h k hk 1 (by omega)).2, (h k hk 2 (by omega)).2, (h k hk 3 (by omega)).2⟩
theorem own_app {W0 wr w1 : World} {v v' : Value} {o : Obj} {b : Nat → Nat → Int} {k : Nat} {x0 x1 x2 x3 : Int} (hx : x0 = b k 0 ∧ x1 = b k 1 ∧ x2 = b k 2 ∧ x3 = b k 3) (hown : wr.ownsRow W0.heap.size 24 4 v k (cellsW b k)) (hB : Below W0.heap.size W0 wr)
    (hown' : w1.ownsRow W0.heap.size 24 4 v' (k + 1) (cellsW b k ++ [.int .u64 x0, .int .u64 x1, .int .u64 x2, .int .u64 x3])) (hg : (wr.alloc o).grownBy w1 v.ownBlock) :
    w1.ownsRow W0.heap.size 24 4 v' (k + 1) (cellsW b (k + 1)) ∧ Below W0.heap.size W0 w1 := turn_step hx hown hB hown' hg
set_option maxHeartbeats 8000000 in
set_option maxRecDepth 100000 in
theorem sums_walk (w : World) (v : Value) (n : Nat) (a : Nat → Nat → Int) (hv : WordsAt w v n a) :
    Calls Try.prog 5 #[v] w fun e w' => e = .returned (.bool true) ∧ Below w.heap.size w w' := by
  have HV : Hid (WordsAt w v n a) := hv
  have HU : Hid (∀ i q, U64 (a i q)) := hv.2.1
  have HX : Hid (∀ i q, U64 (extA a n i q)) := extA_u hv.2.1 n
  have hn := hv.1
  obtain ⟨_, _, ad, cap, rfl, hc⟩ := hv
  have HC : Hid _ := hc
  have nI : (n : Int) ≤ 1048576 := by omega
  obtain ⟨i0, hi, hz0, hz1, hz2⟩ := info_parts Try.infoW
  have BE : Hid (Below w.heap.size w (w.alloc (.cells #[] 24))) := (Below.refl _ _).alloc (Nat.le_refl _) _
  have OE : Hid ((w.alloc (.cells #[] 24)).ownsRow w.heap.size 24 4 (.slice (some ⟨w.heap.size, 0, none⟩) 0 0) 0 []) := owns_empty w
  clear hc
  go_enter Try.func5, Try.ntmps5
  go_upto_region 3 with fail
  go_cut [3] (fun s3 wx => wx.ownsRow w.heap.size 24 4 s3 n (cellsW (extA a n) n) ∧ Below w.heap.size w wx)
  case first =>
    have EC : Hid (cellsW (extA a n) n = cellsW a n) := cellsW_ext n fun i hi => extA_low a n i hi
    rcases ad with _ | ad
    · have hn0 : n = 0 := Classical.byContradiction fun h => by obtain ⟨_, _, h', _⟩ := HC.out h; cases h'
      subst hn0
      go_wp2_with (at_builtin; refine wpList_append_own_none rfl _ _ 30 rfl w.heap.size 24 i0 4 Try.underlying30 hi _ 0 [] rfl OE.out rfl ?_)
      go_wp2
      go_meet
      case rel => exact ⟨OE.out, BE.out⟩
    · have HN : Hid (∀ j u, (cellsW a n)[j]? = some u → (w.alloc (.cells #[] 24)).cell? (ad.add j) = some u) := by
        intro j u hj
        have h0 : n ≠ 0 := fun e => by rw [e] at hj; simp [cellsW] at hj
        obtain ⟨g, o, e1, hcl⟩ := HC.out h0
        obtain rfl := Option.some.inj e1
        exact cellsW_ext_all (fun i hi q hq => (BE.out.cell (p := ⟨g, o + i * 4 + q, none⟩) (World.block_lt_of_cell? w _ (hcl i hi q hq))).trans (hcl i hi q hq)) j u hj
      go_wp2_with (at_builtin; refine wpList_append_own _ rfl _ _ 30 rfl w.heap.size 24 i0 (.agg #[.int .u64 0, .int .u64 0, .int .u64 0, .int .u64 0]) 4 32 Try.underlying30 hi hz0 hz1 hz2 rfl (by decide) _ 0 [] rfl OE.out ad n cap (cellsW a n) rfl (by rw [cellsW_len]) HN.out (cellsW_one a n) (by unfold maxLen; omega) (by omega) (by simp) ?_; intro v' w1 hown' hgrow _)
      have R : Hid (w1.ownsRow w.heap.size 24 4 v' n (cellsW (extA a n) n) ∧ Below w.heap.size w w1) := ⟨by rw [EC.out]; simpa using hown', Below.grown BE.out hgrow BE.out.size (fun k h => by cases h; exact Nat.le_refl _)⟩
      clear hown' hgrow
      go_wp2
      go_meet
      case rel => exact R.out
  case rest =>
    obtain ⟨hown, hB⟩ := hcut
    have HOW0 : Hid _ := hown
    have HB0 : Hid _ := hB
    clear hown hB BE OE
    go_wp2
    go_loopw [3, 4] (fun s3 si wr => ∃ k : Nat, k ≤ 9 ∧ si = .int .i64 k ∧ wr.ownsRow w.heap.size 24 4 s3 (n + k) (cellsW (extA a n) (n + k)) ∧ Below w.heap.size w wr) (fun _ si _ => 9 - (intOf si).toNat)
    case atStart => exact ⟨0, by omega, rfl, HOW0.out, HB0.out⟩
    case round =>
      obtain ⟨k, hk, rfl, hown, hB⟩ := hrel
      clear HOW0 HB0
      have HOW : Hid (wr.ownsRow w.heap.size 24 4 u3 (n + k) (cellsW (extA a n) (n + k))) := hown
      have HB : Hid (Below w.heap.size w wr) := hB
      have b0 := hB.size
      by_cases hk5 : k < 9
      · have kI : (k : Int) < 9 := by omega
        have w1 : IntKind.u64.wrap (k : Int) = (k : Int) := by rw [IntKind.wrap_u64]; omega
        have ex := extA_at a n k hk5
        have EX : Hid ((77 : Int) = extA a n (n + k) 0 ∧ (0 : Int) = extA a n (n + k) 1 ∧ (0 : Int) = extA a n (n + k) 2 ∧ (k : Int) = extA a n (n + k) 3) := ⟨ex.1.symm, ex.2.1.symm, ex.2.2.1.symm, ex.2.2.2.symm⟩
        clear ex hown hB
        go_wp2_with (at_builtin; refine wpList_append_own _ rfl _ _ 30 rfl w.heap.size 24 i0 (.agg #[.int .u64 0, .int .u64 0, .int .u64 0, .int .u64 0]) 4 32 Try.underlying30 hi hz0 hz1 hz2 rfl (by decide) _ _ _ rfl (World.ownsRow.alloc HOW.out _) ⟨wr.heap.size, 0, none⟩ 1 1 [.int .u64 77, .int .u64 0, .int .u64 0, .int .u64 (k : Int)] rfl rfl (fun i u hi => (by have hj0 : i = 0 ∨ i = 1 ∨ i = 2 ∨ i = 3 := (by have := (List.getElem?_eq_some_iff.1 hi).1; simp at this; omega); rcases hj0 with rfl | rfl | rfl | rfl <;> (simp at hi; subst hi; simp [Addr.add]))) (fun u hu => (by simp at hu; rcases hu with rfl | rfl | rfl <;> rfl)) (by unfold maxLen; omega) (by omega) (by simp; omega) ?_; intro v' w1 hown' hgrow _)
        have R : Hid _ := own_app EX.out HOW.out HB.out hown' hgrow
        clear hown' hgrow
        go_wp2
        go_roundw
        case rel => exact ⟨k + 1, by omega, by go_num, R.out⟩
        case measure => simp [intOf]; omega
      · obtain rfl : k = 9 := by omega
        obtain ⟨N, eN⟩ : ∃ N, N = n + 9 := ⟨_, rfl⟩
        rw [← eN] at hown
        have h' := hown
        obtain ⟨_, ⟨_, e0⟩ | ⟨g, c, cur, rfl, hgb, hgh, hNc, _⟩⟩ := h'
        · omega
        have RW : Hid (RowW wr g N (extA a n)) := RowW.own hown
        have hgl := (hown.lt g rfl).2
        have ENN : Hid (N = n + 9) := eN
        have WS : Hid (wsum (extA a n) n = wsum a n) := wsum_ext n fun i hi => extA_low a n i hi
        have sl := slice_toW g N c n (by omega)
        have nN : (n : Int) ≤ (c : Int) := by omega
        clear hown hB HOW hgh eN
        have SL : Hid (Calls Try.prog 30 #[.slice (some ⟨g, 0, none⟩) n c] wr (SumRes (extA a n) n wr)) := sum_any wr _ n (extA a n) (RowW.words RW.out (by have := ENN.out; omega) HX.out hn)
        have SS : Hid (Ss w g N (extA a n) wr) := ⟨HB.out, RW.out⟩
        have NP : Hid (0 < N) := by have := ENN.out; unfold Hid; omega
        clear HB RW hNc b0 hgl
        go_upto_region 8 with fail
        go_wp2_with fail
        refine Calls.mono SL.out ?_
        rintro e v1 ⟨y0, y1, y2, y3, ok, rfl, hok, hy, hB⟩
        rw [WS.out] at hok hy
        have S1 : Hid (Ss w g N (extA a n) v1) := Ss.past SS.out hB NP.out
        have HY : Hid (IsW (if wsum a n < MM then wsum a n else 0) y0 y1 y2 y3) := hy
        have HOK : Hid (ok = decide (wsum a n < MM)) := hok
        clear hB hy hok SL SS WS
        go_upto_region 9 with fail
        have S2 : Hid (Ss w g N (extA a n) (v1.alloc (.cells #[.int .u64 y0, .int .u64 y1, .int .u64 y2, .int .u64 y3] 24))) := Ss.alloc S1.out _ NP.out
        have BY : Hid (Box (v1.alloc (.cells #[.int .u64 y0, .int .u64 y1, .int .u64 y2, .int .u64 y3] 24)) v1.heap.size y0 y1 y2 y3) := Box.new v1 24 y0 y1 y2 y3
        generalize v1.alloc (.cells #[.int .u64 y0, .int .u64 y1, .int .u64 y2, .int .u64 y3] 24) = v2 at S2 BY ⊢
        generalize v1.heap.size = bY at BY ⊢
        have SV : Hid (Calls Try.prog 31 #[.slice ad n cap] v2 (SumRes a n v2)) := rsum_any v2 _ n a (WordsAt.below HV.out S2.out.bel)
        clear S1
        go_wp2_with fail
        refine Calls.mono SV.out ?_
        rintro e v3 ⟨z0, z1, z2, z3, is, rfl, his, hz, hB⟩
        obtain ⟨rfl, rfl, rfl, rfl⟩ := HY.out.eq hz rfl
        obtain rfl : ok = is := by rw [HOK.out, his]
        have S3 : Hid (Ss w g N (extA a n) v3) := Ss.past S2.out hB NP.out
        have BY3 : Hid (Box v3 bY y0 y1 y2 y3) := Box.below BY.out hB (Box.lt BY.out)
        clear hB hz his SV S2 BY HY HOK
        go_upto_region 10 with fail
        have S4 : Hid (Ss w g N (extA a n) (v3.alloc (.cells #[.int .u64 y0, .int .u64 y1, .int .u64 y2, .int .u64 y3] 24))) := Ss.alloc S3.out _ NP.out
        have BY4 : Hid (Box (v3.alloc (.cells #[.int .u64 y0, .int .u64 y1, .int .u64 y2, .int .u64 y3] 24)) bY y0 y1 y2 y3) := Box.alloc BY3.out _
        have BZ4 : Hid (Box (v3.alloc (.cells #[.int .u64 y0, .int .u64 y1, .int .u64 y2, .int .u64 y3] 24)) v3.heap.size y0 y1 y2 y3) := Box.new v3 24 y0 y1 y2 y3
        generalize v3.alloc (.cells #[.int .u64 y0, .int .u64 y1, .int .u64 y2, .int .u64 y3] 24) = v4 at S4 BY4 BZ4 ⊢
        generalize v3.heap.size = bZ at BZ4 ⊢
        clear S3 BY3
        obtain ⟨c0, c1, c2, c3, _⟩ := Box.facts BY4.out
        obtain ⟨d0, d1, d2, d3, _⟩ := Box.facts BZ4.out
        have eqs := eqw_same
        go_upto_region 12 with (go_at_call 19; refine (awake_any _).mono ?_; rintro e v5 ⟨rfl, hB⟩; (have S5 : Hid (Ss w g N (extA a n) v5) := Ss.past S4.out hB NP.out); clear hB)
        clear c0 c1 c2 c3 d0 d1 d2 d3 S4 BY4 BZ4
        go_wp2
        go_loopw [9] (fun si wx => ∃ k : Nat, k ≤ N ∧ si = .int .i64 k ∧ Ss w g N (extA a n) wx) (fun si _ => N - (intOf si).toNat)
        case atStart => exact ⟨0, by omega, rfl, S5.out⟩
        case round =>
          obtain ⟨k, hk, rfl, hS⟩ := hrel
          have SS : Hid (Ss w g N (extA a n) wr) := hS
          clear S5 hS
          have NNI : Hid ((N : Int) = (n : Int) + 9) := by have := ENN.out; unfold Hid; omega
          by_cases hk5 : k < N
          · have kI : (k : Int) < (N : Int) := by omega
            by_cases hkn : k < n
            · have kn : (k : Int) < (n : Int) := by omega
              obtain ⟨g', o', cap', e9, hF⟩ := (WordsAt.below HV.out SS.out.bel).four k hkn
              injection e9 with e91 _ e92
              subst e91 e92
              have ex : extA a n k 0 = a k 0 ∧ extA a n k 1 = a k 1 ∧ extA a n k 2 = a k 2 ∧ extA a n k 3 = a k 3 := by rw [extA_low a n k hkn]; exact ⟨rfl, rfl, rfl, rfl⟩
              generalize a k 0 = x0 at hF ex
              generalize a k 1 = x1 at hF ex
              generalize a k 2 = x2 at hF ex
              generalize a k 3 = x3 at hF ex
              have EX : Hid (extA a n k 0 = x0 ∧ extA a n k 1 = x1 ∧ extA a n k 2 = x2 ∧ extA a n k 3 = x3) := ex
              have FF : Hid (Four wr g' (o' + k * 4) x0 x1 x2 x3) := hF
              clear hF ex
              go_upto_region 16 with fail
              generalize IntKind.u64.wrap ((k : Int) - (n : Int)) = x9
              have S1 : Hid (Ss w g N (extA a n) (wr.alloc (.cells #[.int .u64 77, .int .u64 0, .int .u64 0, .int .u64 x9] 24))) := Ss.alloc SS.out _ NP.out
              have F1 : Hid (Four (wr.alloc (.cells #[.int .u64 77, .int .u64 0, .int .u64 0, .int .u64 x9] 24)) g' (o' + k * 4) x0 x1 x2 x3) := Four.alloc FF.out _
              have B1 : Hid (Box (wr.alloc (.cells #[.int .u64 77, .int .u64 0, .int .u64 0, .int .u64 x9] 24)) wr.heap.size 77 0 0 x9) := Box.new wr 24 77 0 0 x9
              have ZB : Hid (wr.heap.size ≠ g ∧ w.heap.size ≤ wr.heap.size) := ⟨Nat.ne_of_gt (RowW.lt SS.out.row NP.out), SS.out.bel.size⟩
              generalize wr.alloc (.cells #[.int .u64 77, .int .u64 0, .int .u64 0, .int .u64 x9] 24) = v1 at S1 F1 B1 ⊢
              clear FF SS
              generalize wr.heap.size = b1 at B1 ZB ⊢
              obtain ⟨c0, c1, c2, c3⟩ := F1.out
              obtain ⟨q0, q1, q2, q3, f0, f1, f2, f3⟩ := Box.facts B1.out
              go_upto_region 18 with fail
              have S2 : Hid (Ss w g N (extA a n) ((((v1.setCell ⟨b1, 0, none⟩ (.int .u64 x0)).setCell ⟨b1, 1, none⟩ (.int .u64 x1)).setCell ⟨b1, 2, none⟩ (.int .u64 x2)).setCell ⟨b1, 3, none⟩ (.int .u64 x3))) := ⟨below_put S1.out.bel ZB.out.2 x0 x1 x2 x3, RowW.puts S1.out.row ZB.out.1 x0 x1 x2 x3⟩
              have B2 : Hid (Box ((((v1.setCell ⟨b1, 0, none⟩ (.int .u64 x0)).setCell ⟨b1, 1, none⟩ (.int .u64 x1)).setCell ⟨b1, 2, none⟩ (.int .u64 x2)).setCell ⟨b1, 3, none⟩ (.int .u64 x3)) b1 x0 x1 x2 x3) := Box.put B1.out x0 x1 x2 x3
              generalize ((((v1.setCell ⟨b1, 0, none⟩ (.int .u64 x0)).setCell ⟨b1, 1, none⟩ (.int .u64 x1)).setCell ⟨b1, 2, none⟩ (.int .u64 x2)).setCell ⟨b1, 3, none⟩ (.int .u64 x3)) = v2 at S2 B2 ⊢
              clear c0 c1 c2 c3 q0 q1 q2 q3 f0 f1 f2 f3 S1 F1 B1
              have hG := S2.out.row.four k hk5
              rw [EX.out.1, EX.out.2.1, EX.out.2.2.1, EX.out.2.2.2] at hG
              obtain ⟨c0, c1, c2, c3⟩ := hG
              obtain ⟨q0, q1, q2, q3, _⟩ := Box.facts B2.out
              go_wp2
              go_quiet (fail)
              go_wp2
              go_roundw
              case rel => exact ⟨k + 1, by omega, by go_num, bdrewN S2.out.bel nq, fun i hi q hq => S2.out.row i hi q hq⟩
              case measure => simp [intOf]; omega
            · have kn : ¬ (k : Int) < (n : Int) := by omega
              have k9 : (k : Int) ≤ 1048585 := by have := NNI.out; omega
              have nk : (n : Int) ≤ (k : Int) := by omega
              have ex := extA_want a n k (by omega) k9
              go_upto_region 16 with fail
              generalize (k : Int) - (n : Int) = x9 at ex ⊢
              have EX : Hid (extA a n k 0 = 77 ∧ extA a n k 1 = 0 ∧ extA a n k 2 = 0 ∧ extA a n k 3 = x9) := ex
              have S2 : Hid (Ss w g N (extA a n) (wr.alloc (.cells #[.int .u64 77, .int .u64 0, .int .u64 0, .int .u64 x9] 24))) := Ss.alloc SS.out _ NP.out
              have B2 : Hid (Box (wr.alloc (.cells #[.int .u64 77, .int .u64 0, .int .u64 0, .int .u64 x9] 24)) wr.heap.size 77 0 0 x9) := Box.new wr 24 77 0 0 x9
              generalize wr.alloc (.cells #[.int .u64 77, .int .u64 0, .int .u64 0, .int .u64 x9] 24) = v2 at S2 B2 ⊢
              clear SS ex
              generalize wr.heap.size = b1 at B2 ⊢
              have hG := S2.out.row.four k hk5
              rw [EX.out.1, EX.out.2.1, EX.out.2.2.1, EX.out.2.2.2] at hG
              obtain ⟨c0, c1, c2, c3⟩ := hG
              obtain ⟨q0, q1, q2, q3, _⟩ := Box.facts B2.out
              go_wp2
              go_quiet (fail)
              go_wp2
              go_roundw
              case rel => exact ⟨k + 1, by omega, by go_num, bdrewN S2.out.bel nq, fun i hi q hq => S2.out.row i hi q hq⟩
              case measure => simp [intOf]; omega
          · obtain rfl : k = N := by omega
            have kI : ¬ ((k : Int) < (k : Int)) := by omega
            have nk : n ≤ k := by have := ENN.out; omega
            clear eqs
            go_wp2
            go_loopw [11] (fun si wx => ∃ (i : Nat) (b : Nat → Nat → Int), i ≤ n ∧ si = .int .i64 i ∧ (∀ i q, U64 (b i q)) ∧ Ss w g k b wx) (fun si _ => n - (intOf si).toNat)
            case atStart => exact ⟨0, _, by omega, rfl, HX.out, SS.out⟩
            case round =>
              obtain ⟨i, b, hi', rfl, hub, hS⟩ := hrel
              have UB : Hid (∀ i q, U64 (b i q)) := hub
              have SB : Hid (Ss w g k b wr) := hS
              clear hub hS SS
              by_cases hi5 : i < n
              · have iI : (i : Int) < (n : Int) := by omega
                obtain ⟨j, hj⟩ : ∃ j, j + i + 1 = n := ⟨n - 1 - i, by omega⟩
                have jI : (n : Int) - 1 - (i : Int) = (j : Int) := by omega
                have jn : (j : Int) < (n : Int) := by omega
                have ik : (i : Int) < (k : Int) := by omega
                obtain ⟨g', o', cap', e9, hF⟩ := (WordsAt.below HV.out SB.out.bel).four j (by omega)
                injection e9 with e91 _ e92
                subst e91 e92
                have UX : Hid (U64 (a j 0) ∧ U64 (a j 1) ∧ U64 (a j 2) ∧ U64 (a j 3)) := ⟨HU.out j 0, HU.out j 1, HU.out j 2, HU.out j 3⟩
                generalize a j 0 = x0 at hF UX
                generalize a j 1 = x1 at hF UX
                generalize a j 2 = x2 at hF UX
                generalize a j 3 = x3 at hF UX
                obtain ⟨c0, c1, c2, c3⟩ := hF
                go_upto_region 23 with fail
                go_wp2_with fail
                refine Calls.mono (not_ex x0 x1 x2 x3 _ UX.out.1 UX.out.2.1 UX.out.2.2.1 UX.out.2.2.2) ?_
                rintro e v1 ⟨s0, s1, s2, s3, rfl, hus, hB⟩
                have US : Hid (U64 s0 ∧ U64 s1 ∧ U64 s2 ∧ U64 s3) := hus
                have S1 : Hid (Ss w g k b v1) := Ss.past SB.out hB NP.out
                clear hB hus UX c0 c1 c2 c3 SB
                obtain ⟨q0, q1, q2, q3⟩ := S1.out.row.four i (by omega)
                obtain ⟨f0, f1, f2, f3⟩ := S1.out.row.froz i (by omega)
                go_upto_region 22 with fail
                have S2 : Hid (Ss w g k (setW b i s0 s1 s2 s3) ((((v1.setCell ⟨g, i * 4, none⟩ (.int .u64 s0)).setCell ⟨g, i * 4 + 1, none⟩ (.int .u64 s1)).setCell ⟨g, i * 4 + 2, none⟩ (.int .u64 s2)).setCell ⟨g, i * 4 + 3, none⟩ (.int .u64 s3))) := ⟨below_put4at S1.out.bel hgb (i * 4) s0 s1 s2 s3, RowW.put S1.out.row i (by omega) s0 s1 s2 s3⟩
                generalize ((((v1.setCell ⟨g, i * 4, none⟩ (.int .u64 s0)).setCell ⟨g, i * 4 + 1, none⟩ (.int .u64 s1)).setCell ⟨g, i * 4 + 2, none⟩ (.int .u64 s2)).setCell ⟨g, i * 4 + 3, none⟩ (.int .u64 s3)) = v2 at S2 ⊢
                clear q0 q1 q2 q3 f0 f1 f2 f3 S1
                go_wp2
                go_roundw
                case rel => exact ⟨i + 1, _, by omega, by go_num, setW_u UB.out i US.out.1 US.out.2.1 US.out.2.2.1 US.out.2.2.2, S2.out⟩
                case measure => simp [intOf]; omega
              · obtain rfl : i = n := by omega
                have iI : ¬ ((i : Int) < (i : Int)) := by omega
                obtain ⟨W0, e0⟩ : ∃ W0, W0 = wr := ⟨_, rfl⟩
                subst e0
                have BE : Hid (Below W0.heap.size W0 (W0.alloc (.cells #[] 24))) := (Below.refl _ _).alloc (Nat.le_refl _) _
                have OE : Hid ((W0.alloc (.cells #[] 24)).ownsRow W0.heap.size 24 4 (.slice (some ⟨W0.heap.size, 0, none⟩) 0 0) 0 []) := owns_empty W0
                have HN : Hid (∀ j u, (cellsW b i)[j]? = some u → (W0.alloc (.cells #[] 24)).cell? (Addr.add ⟨g, 0, none⟩ j) = some u) := fun j u hj =>
                  cellsW_ext_all (fun i' hi'' q hq => by rw [Nat.zero_add]; exact ((SB.out.row.below BE.out (SB.out.row.lt NP.out)) i' (by omega) q hq).1) j u hj
                go_upto_region 24 with fail
                go_cut [12] (fun s12 wx => wx.ownsRow W0.heap.size 24 4 s12 i (cellsW b i) ∧ Below W0.heap.size W0 wx)
                case first =>
                  go_wp2_with (at_builtin; refine wpList_append_own _ rfl _ _ 30 rfl W0.heap.size 24 i0 (.agg #[.int .u64 0, .int .u64 0, .int .u64 0, .int .u64 0]) 4 32 Try.underlying30 hi hz0 hz1 hz2 rfl (by decide) _ 0 [] rfl OE.out ⟨g, 0, none⟩ i c (cellsW b i) rfl (by rw [cellsW_len]) HN.out (cellsW_one b i) (by unfold maxLen; omega) (by omega) (by simp) ?_; intro v' w1 hown' hgrow _)
                  have R : Hid (w1.ownsRow W0.heap.size 24 4 v' i (cellsW b i) ∧ Below W0.heap.size W0 w1) := ⟨by simpa using hown', Below.grown BE.out hgrow BE.out.size (fun k h => by cases h; exact Nat.le_refl _)⟩
                  clear hown' hgrow
                  go_wp2
                  go_meet
                  case rel => exact R.out
                case rest =>
                  obtain ⟨hown, hB⟩ := hcut
                  have SC : Hid (Ss w g k b wc) := Ss.past SB.out hB NP.out
                  have WO : Hid (WordsAt wc u12 i b) := WordsAt.own hown UB.out hn
                  clear hown hB BE OE HN SB
                  have SL : Hid (Calls Try.prog 30 #[.slice (some ⟨g, 0, none⟩) i c] wc (SumRes b i wc)) := sum_any wc _ i b (RowW.words SC.out.row nk UB.out hn)
                  go_upto_region 25 with fail
                  go_wp2_with fail
                  refine Calls.mono SL.out ?_
                  rintro e v1 ⟨r0, r1, r2, r3, okk, rfl, hok, hy, hB⟩
                  have S1 : Hid (Ss w g k b v1) := Ss.past SC.out hB NP.out
                  have W1 : Hid (WordsAt v1 u12 i b) := WordsAt.below WO.out hB
                  have HY : Hid (IsW (if wsum b i < MM then wsum b i else 0) r0 r1 r2 r3) := hy
                  have HOK : Hid (okk = decide (wsum b i < MM)) := hok
                  clear hB hy hok SL SC WO
                  go_upto_region 26 with fail
                  have S2 : Hid (Ss w g k b (v1.alloc (.cells #[.int .u64 r0, .int .u64 r1, .int .u64 r2, .int .u64 r3] 24))) := Ss.alloc S1.out _ NP.out
                  have W2 : Hid (WordsAt (v1.alloc (.cells #[.int .u64 r0, .int .u64 r1, .int .u64 r2, .int .u64 r3] 24)) u12 i b) := WordsAt.below W1.out ((Below.refl _ _).alloc (Nat.le_refl _) _)
                  have BR : Hid (Box (v1.alloc (.cells #[.int .u64 r0, .int .u64 r1, .int .u64 r2, .int .u64 r3] 24)) v1.heap.size r0 r1 r2 r3) := Box.new v1 24 r0 r1 r2 r3
                  generalize v1.alloc (.cells #[.int .u64 r0, .int .u64 r1, .int .u64 r2, .int .u64 r3] 24) = v2 at S2 W2 BR ⊢
                  generalize v1.heap.size = bR at BR ⊢
                  have SV : Hid (Calls Try.prog 31 #[u12] v2 (SumRes b i v2)) := rsum_any v2 _ i b W2.out
                  clear S1 W1 W2
                  go_wp2_with fail
                  refine Calls.mono SV.out ?_
                  rintro e v3 ⟨z0, z1, z2, z3, is, rfl, his, hz, hB⟩
                  obtain ⟨rfl, rfl, rfl, rfl⟩ := HY.out.eq hz rfl
                  obtain rfl : okk = is := by rw [HOK.out, his]
                  have S3 : Hid (Ss w g k b v3) := Ss.past S2.out hB NP.out
                  have BR3 : Hid (Box v3 bR r0 r1 r2 r3) := Box.below BR.out hB (Box.lt BR.out)
                  clear hB hz his SV S2 BR HY HOK
                  go_upto_region 27 with fail
                  have S4 : Hid (Ss w g k b (v3.alloc (.cells #[.int .u64 r0, .int .u64 r1, .int .u64 r2, .int .u64 r3] 24))) := Ss.alloc S3.out _ NP.out
                  have BR4 : Hid (Box (v3.alloc (.cells #[.int .u64 r0, .int .u64 r1, .int .u64 r2, .int .u64 r3] 24)) bR r0 r1 r2 r3) := Box.alloc BR3.out _
                  have BZ4 : Hid (Box (v3.alloc (.cells #[.int .u64 r0, .int .u64 r1, .int .u64 r2, .int .u64 r3] 24)) v3.heap.size r0 r1 r2 r3) := Box.new v3 24 r0 r1 r2 r3
                  generalize v3.alloc (.cells #[.int .u64 r0, .int .u64 r1, .int .u64 r2, .int .u64 r3] 24) = v4 at S4 BR4 BZ4 ⊢
                  generalize v3.heap.size = bQ at BZ4 ⊢
                  clear S3 BR3
                  obtain ⟨c0, c1, c2, c3, _⟩ := Box.facts BR4.out
                  obtain ⟨d0, d1, d2, d3, _⟩ := Box.facts BZ4.out
                  have eqs := eqw_same
                  go_wp2
                  go_ret
                  exact ⟨rfl, S4.out.bel⟩
end Go.Proofs.Ytpadpmkfhljiiaa
