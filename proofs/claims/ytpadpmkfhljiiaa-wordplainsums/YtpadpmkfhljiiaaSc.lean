/- WordPlainSums: the walk. -/
import Derived.Test.YtpadpmkfhljiiaaSb
namespace Go.Proofs.Ytpadpmkfhljiiaa
open Go.RowKit
/-- between the steps of the law's own sum -/
structure Ps (w : World) (s0 s1 s2 s3 : Int) (W : World) : Prop where
  bel : Below w.heap.size w W
  bx : Box W w.heap.size s0 s1 s2 s3
theorem Ps.past {w W W' : World} {s0 s1 s2 s3 : Int} (h : Ps w s0 s1 s2 s3 W) (k : Below W.heap.size W W') : Ps w s0 s1 s2 s3 W' := ⟨h.bel.trans (k.mono h.bel.size), h.bx.below k h.bx.lt⟩
set_option maxHeartbeats 8000000 in
set_option maxRecDepth 100000 in
theorem plain_walk (w : World) (v : Value) (n : Nat) (a : Nat → Nat → Int) (hv : WordsAt w v n a) :
    Calls Try.prog 16 #[v] w fun e w' => e = .returned (.bool true) ∧ Below w.heap.size w w' := by
  have HV : Hid (WordsAt w v n a) := hv
  have HU : Hid (∀ i q, U64 (a i q)) := hv.2.1
  have hn := hv.1
  obtain ⟨_, _, ad, cap, rfl, _⟩ := hv
  have nI : (n : Int) ≤ 1048576 := by omega
  obtain ⟨i0, hi, hz0, hz1, hz2⟩ := info_parts Try.infoW
  have I0 : Hid (Ps w 0 0 0 0 (w.alloc (.cells #[.int .u64 0, .int .u64 0, .int .u64 0, .int .u64 0] 24))) := ⟨(Below.refl _ _).alloc (Nat.le_refl _) _, Box.new w 24 0 0 0 0⟩
  go_enter Try.func16, Try.ntmps16
  go_wp2
  go_loopw [4, 5] (fun sw si wr => ∃ (k : Nat) (s0 s1 s2 s3 : Int), k ≤ n ∧ sw = .bool (decide (MM ≤ wsum a k)) ∧ si = .int .i64 k ∧ IsW (wsum a k) s0 s1 s2 s3 ∧ Ps w s0 s1 s2 s3 wr) (fun _ si _ => n - (intOf si).toNat)
  case atStart => exact ⟨0, 0, 0, 0, 0, by omega, by rw [decide_eq_false (by simp only [wsum]; have := MM_pos; omega)], rfl, isW_0, I0.out⟩
  case round =>
    obtain ⟨k, s0, s1, s2, s3, hk, rfl, rfl, hs, hP⟩ := hrel
    clear I0
    have HS : Hid (IsW (wsum a k) s0 s1 s2 s3) := hs
    have PP : Hid (Ps w s0 s1 s2 s3 wr) := hP
    by_cases hk5 : k < n
    · have kI : (k : Int) < (n : Int) := by omega
      obtain ⟨g, o, cap', e9, hF⟩ := (HV.out.below hP.bel).four k hk5
      injection e9 with e91 _ e92
      subst e91 e92
      have ux : IsW (V (a k 0) (a k 1) (a k 2) (a k 3)) (a k 0) (a k 1) (a k 2) (a k 3) := isW_mk (HU.out k 0) (HU.out k 1) (HU.out k 2) (HU.out k 3)
      have vr := V_range (HU.out k 0) (HU.out k 1) (HU.out k 2) (HU.out k 3)
      have hw : wsum a (k + 1) = wsum a k + V (a k 0) (a k 1) (a k 2) (a k 3) := rfl
      have h9 := wsum_nonneg HU.out k
      generalize a k 0 = x0 at hF ux vr hw
      generalize a k 1 = x1 at hF ux vr hw
      generalize a k 2 = x2 at hF ux vr hw
      generalize a k 3 = x3 at hF ux vr hw
      have FF : Hid (Four wr g (o + k * 4) x0 x1 x2 x3) := hF
      have UX : Hid (IsW (V x0 x1 x2 x3) x0 x1 x2 x3) := ux
      have VR : Hid (0 ≤ V x0 x1 x2 x3 ∧ V x0 x1 x2 x3 < MM) := vr
      have HW : Hid (wsum a (k + 1) = wsum a k + V x0 x1 x2 x3) := hw
      have H9 : Hid (0 ≤ wsum a k) := h9
      obtain ⟨t0, t1, t2, t3, ht⟩ := isW_ex (wsum a (k + 1))
      have HT : Hid (IsW (wsum a (k + 1)) t0 t1 t2 t3) := ht
      have AD : Hid (∀ W : World, Calls Try.prog 33 #[.agg #[.int .u64 s0, .int .u64 s1, .int .u64 s2, .int .u64 s3], .agg #[.int .u64 x0, .int .u64 x1, .int .u64 x2, .int .u64 x3]] W fun e w' => e = .returned (.agg #[.int .u64 t0, .int .u64 t1, .int .u64 t2, .int .u64 t3]) ∧ Below W.heap.size W w') := fun W => add_is _ _ _ _ _ _ _ _ _ _ _ _ _ _ W HS.out UX.out (by rw [← HW.out]; exact HT.out)
      clear hs hP hF ux vr hw h9 ht
      go_upto_region 8 with fail
      go_cut [6] (fun s6 wx => ∃ b6 : Nat, s6 = .pointer (some ⟨b6, 0, none⟩) ∧ w.heap.size < b6 ∧ Box wx b6 t0 t1 t2 t3 ∧ Ps w s0 s1 s2 s3 wx)
      case first =>
        refine wp_region_held_drew (S := fun w' => Ps w s0 s1 s2 s3 w' ∧ Four w' g (o + k * 4) x0 x1 x2 x3) (by kernel_rfl) ⟨⟨PP.out.bel.drew, PP.out.bx⟩, FF.out⟩ (fun hHeld => ?_)
        refine wpAnyH_take (i := 0) (v := .agg #[.int .u64 s0, .int .u64 s1, .int .u64 s2, .int .u64 s3]) op0 (by kernel_rfl) (by kernel_rfl) (by kernel_rfl) (fun _ _ _ h => h) (Or.inl ⟨by rfl, fun W hS => ?_⟩) hHeld ?_
        · obtain ⟨c0, c1, c2, c3, _⟩ := Box.facts hS.1.bx
          go_simp
        simp only [Act.put, List.setIfInBounds_toArray, List.set_cons_zero, List.set_cons_succ]
        refine wpAnyH_take (i := 1) (v := .slice (some ⟨g, o, none⟩) n cap) op1 (by kernel_rfl) (by kernel_rfl) (by kernel_rfl) (fun _ _ _ h => h) (Or.inl ⟨by rfl, fun W _ => ?_⟩) hHeld ?_
        · go_simp
        simp only [Act.put, List.setIfInBounds_toArray, List.set_cons_zero, List.set_cons_succ]
        refine wpAnyH_take (i := 2) (v := .int .i64 (k : Int)) op2 (by kernel_rfl) (by kernel_rfl) (by kernel_rfl) (fun _ _ _ h => h) (Or.inl ⟨by rfl, fun W _ => ?_⟩) hHeld ?_
        · go_simp
        simp only [Act.put, List.setIfInBounds_toArray, List.set_cons_zero, List.set_cons_succ]
        refine wpAnyH_take (i := 3) (v := .pointer (some ⟨g, o + k * 4, none⟩)) op3 (by kernel_rfl) (by kernel_rfl) (by kernel_rfl) (fun _ _ _ h => h) (Or.inl ⟨by rfl, fun W _ => ?_⟩) hHeld ?_
        · go_simp
        simp only [Act.put, List.setIfInBounds_toArray, List.set_cons_zero, List.set_cons_succ]
        refine wpAnyH_take (i := 4) (v := .agg #[.int .u64 x0, .int .u64 x1, .int .u64 x2, .int .u64 x3]) op4 (by kernel_rfl) (by kernel_rfl) (by kernel_rfl) (fun _ _ _ h => h) (Or.inl ⟨by rfl, fun W hS => ?_⟩) hHeld ?_
        · obtain ⟨c0, c1, c2, c3⟩ := hS.2
          go_simp
        simp only [Act.put, List.setIfInBounds_toArray, List.set_cons_zero, List.set_cons_succ]
        refine wpAnyH_ready (rs := [5, 6]) (by kernel_rfl) (by simp) ?_
        refine AllReadyH.cons op5 (fun K hK => ?_) (AllReadyH.cons op6 (fun K hK => ?_) AllReadyH.nil)
        · rw [if_pos (by rfl)]
          go_simp
          refine (AD.out _).mono ?_
          rintro e v1 ⟨rfl, hB⟩
          have h1 : Ps w s0 s1 s2 s3 v1 ∧ Four v1 g (o + k * 4) x0 x1 x2 x3 := ⟨hHeld.1.past hB, hHeld.2.below hB hHeld.2.lt⟩
          clear hB hHeld
          (try go_wp2_with fail)
          refine hK.out _ _ h1 (fun _ => ?_)
          clear hK K
          refine wpAnyH_ready (rs := [6]) (by kernel_rfl) (by simp) ?_
          refine AllReadyH.cons op6 (fun K hK => ?_) AllReadyH.nil
          rw [if_pos (by rfl)]
          go_simp
          have h2 : Ps w s0 s1 s2 s3 (v1.alloc (.cells #[.int .u64 0, .int .u64 0, .int .u64 0, .int .u64 0] 24)) ∧ Four (v1.alloc (.cells #[.int .u64 0, .int .u64 0, .int .u64 0, .int .u64 0] 24)) g (o + k * 4) x0 x1 x2 x3 := ⟨h1.1.past ((Below.refl _ _).alloc (Nat.le_refl _) _), h1.2.alloc _⟩
          refine hK.out _ _ h2 (fun _ => ?_)
          clear hK K
          refine wpAnyH_ready (rs := [7]) (by kernel_rfl) (by simp) ?_
          refine AllReadyH.cons op7 (fun K hK => ?_) AllReadyH.nil
          rw [if_pos (by rfl)]
          go_simp
          have h3 : Ps w s0 s1 s2 s3 (v1.alloc (.cells #[.int .u64 t0, .int .u64 t1, .int .u64 t2, .int .u64 t3] 24)) ∧ Four (v1.alloc (.cells #[.int .u64 t0, .int .u64 t1, .int .u64 t2, .int .u64 t3] 24)) g (o + k * 4) x0 x1 x2 x3 := ⟨h1.1.past ((Below.refl _ _).alloc (Nat.le_refl _) _), h1.2.alloc _⟩
          refine hK.out _ _ h3 (fun _ => ?_)
          clear hK K
          refine wpAnyH_done (by kernel_rfl) ?_ _
          go_wp2
          go_meet
          case rel => exact ⟨v1.heap.size, rfl, Box.lt h1.1.bx, Box.new v1 24 t0 t1 t2 t3, h3.1⟩
        · rw [if_pos (by rfl)]
          go_simp
          have h2 : Ps w s0 s1 s2 s3 (wr.drew.alloc (.cells #[.int .u64 0, .int .u64 0, .int .u64 0, .int .u64 0] 24)) ∧ Four (wr.drew.alloc (.cells #[.int .u64 0, .int .u64 0, .int .u64 0, .int .u64 0] 24)) g (o + k * 4) x0 x1 x2 x3 := ⟨hHeld.1.past ((Below.refl _ _).alloc (Nat.le_refl _) _), hHeld.2.alloc _⟩
          have zB : Box (wr.drew.alloc (.cells #[.int .u64 0, .int .u64 0, .int .u64 0, .int .u64 0] 24)) wr.heap.size 0 0 0 0 := Box.new wr.drew 24 0 0 0 0
          refine hK.out _ _ h2 (fun _ => ?_)
          clear hK K
          refine wpAnyH_ready (rs := [5]) (by kernel_rfl) (by simp) ?_
          refine AllReadyH.cons op5 (fun K hK => ?_) AllReadyH.nil
          rw [if_pos (by rfl)]
          go_simp
          refine (AD.out _).mono ?_
          rintro e v1 ⟨rfl, hB⟩
          have h1 : Ps w s0 s1 s2 s3 v1 ∧ Four v1 g (o + k * 4) x0 x1 x2 x3 := ⟨h2.1.past hB, h2.2.below hB h2.2.lt⟩
          have zB1 : Box v1 wr.heap.size 0 0 0 0 := zB.below hB zB.lt
          have zz : w.heap.size < wr.heap.size := Box.lt PP.out.bx
          have zg : g < wr.heap.size := Four.lt FF.out
          clear hB hHeld h2 zB
          (try go_wp2_with fail)
          refine hK.out _ _ h1 (fun _ => ?_)
          clear hK K
          obtain ⟨p0, p1, p2, p3, f0, f1, f2, f3⟩ := Box.facts zB1
          refine wpAnyH_ready (rs := [7]) (by kernel_rfl) (by simp) ?_
          refine AllReadyH.cons op7 (fun K hK => ?_) AllReadyH.nil
          rw [if_pos (by rfl)]
          go_simp
          have h3 : Ps w s0 s1 s2 s3 ((((v1.setCell ⟨wr.heap.size, 0, none⟩ (.int .u64 t0)).setCell ⟨wr.heap.size, 1, none⟩ (.int .u64 t1)).setCell ⟨wr.heap.size, 2, none⟩ (.int .u64 t2)).setCell ⟨wr.heap.size, 3, none⟩ (.int .u64 t3)) ∧ Four ((((v1.setCell ⟨wr.heap.size, 0, none⟩ (.int .u64 t0)).setCell ⟨wr.heap.size, 1, none⟩ (.int .u64 t1)).setCell ⟨wr.heap.size, 2, none⟩ (.int .u64 t2)).setCell ⟨wr.heap.size, 3, none⟩ (.int .u64 t3)) g (o + k * 4) x0 x1 x2 x3 := ⟨⟨below_put h1.1.bel (by omega) t0 t1 t2 t3, h1.1.bx.put_other (by omega) t0 t1 t2 t3⟩, h1.2.below (B := wr.heap.size) (below_put (Below.refl _ _) (Nat.le_refl _) t0 t1 t2 t3) zg⟩
          refine hK.out _ _ h3 (fun _ => ?_)
          clear hK K
          refine wpAnyH_done (by kernel_rfl) ?_ _
          go_wp2
          go_meet
          case rel => exact ⟨wr.heap.size, rfl, zz, zB1.put t0 t1 t2 t3, h3.1⟩
      case rest =>
        obtain ⟨b6, rfl, hb6, hbt, hP⟩ := hcut
        have BT : Hid (Box wc b6 t0 t1 t2 t3) := hbt
        have PC : Hid (Ps w s0 s1 s2 s3 wc) := hP
        clear hbt hP AD FF PP
        obtain ⟨c0, c1, c2, c3, _⟩ := Box.facts BT.out
        obtain ⟨q0, q1, q2, q3, f0, f1, f2, f3⟩ := Box.facts PC.out.bx
        by_cases hwr : MM ≤ wsum a k
        · have hw2 : MM ≤ wsum a (k + 1) := by have h1 := HW.out; have h2 := VR.out; omega
          have HW2 : Hid (MM ≤ wsum a (k + 1)) := hw2
          rw [decide_eq_true hwr]
          clear hwr hw2
          go_upto_region 7 with fail
          have P2 : Hid (Ps w t0 t1 t2 t3 ((((wc.setCell ⟨w.heap.size, 0, none⟩ (.int .u64 t0)).setCell ⟨w.heap.size, 1, none⟩ (.int .u64 t1)).setCell ⟨w.heap.size, 2, none⟩ (.int .u64 t2)).setCell ⟨w.heap.size, 3, none⟩ (.int .u64 t3))) := ⟨below_put PC.out.bel (Nat.le_refl _) t0 t1 t2 t3, Box.put PC.out.bx t0 t1 t2 t3⟩
          generalize ((((wc.setCell ⟨w.heap.size, 0, none⟩ (.int .u64 t0)).setCell ⟨w.heap.size, 1, none⟩ (.int .u64 t1)).setCell ⟨w.heap.size, 2, none⟩ (.int .u64 t2)).setCell ⟨w.heap.size, 3, none⟩ (.int .u64 t3)) = v3 at P2 ⊢
          clear c0 c1 c2 c3 q0 q1 q2 q3 f0 f1 f2 f3 BT PC
          go_wp2
          go_roundw
          case rel => exact ⟨k + 1, t0, t1, t2, t3, by omega, by rw [decide_eq_true HW2.out], by go_num, HT.out, P2.out⟩
          case measure => simp [intOf]; omega
        · have st := wraps_step (x := wsum a k) (y := wsum a (k + 1)) H9.out (by omega) VR.out rfl (by rw [HW.out])
          rw [← HW.out] at st
          obtain ⟨r, er⟩ : ∃ r : Bool, r = decide (MM ≤ wsum a (k + 1)) := ⟨_, rfl⟩
          rw [← er] at st
          have ER : Hid _ := er
          have LT : Hid (∀ W : World, Calls Try.prog 20 #[.agg #[.int .u64 t0, .int .u64 t1, .int .u64 t2, .int .u64 t3], .agg #[.int .u64 s0, .int .u64 s1, .int .u64 s2, .int .u64 s3]] W fun e w' => e = .returned (.bool r) ∧ Below W.heap.size W w') := fun W => lt_is _ _ _ _ _ _ _ _ W HT.out HS.out r st
          rw [decide_eq_false hwr]
          clear hwr st er
          go_upto_region 10 with (go_at_call 20; refine (LT.out _).mono ?_; rintro e v2 ⟨rfl, hB⟩; (have PD : Hid (Ps w s0 s1 s2 s3 v2) := Ps.past PC.out hB); (have BD : Hid (Box v2 b6 t0 t1 t2 t3) := Box.below BT.out hB (Box.lt BT.out)); clear hB)
          clear c0 c1 c2 c3 q0 q1 q2 q3 f0 f1 f2 f3 BT PC LT
          obtain ⟨c0, c1, c2, c3, _⟩ := Box.facts BD.out
          obtain ⟨q0, q1, q2, q3, f0, f1, f2, f3⟩ := Box.facts PD.out.bx
          go_upto_region 7 with fail
          have P2 : Hid (Ps w t0 t1 t2 t3 ((((v2.setCell ⟨w.heap.size, 0, none⟩ (.int .u64 t0)).setCell ⟨w.heap.size, 1, none⟩ (.int .u64 t1)).setCell ⟨w.heap.size, 2, none⟩ (.int .u64 t2)).setCell ⟨w.heap.size, 3, none⟩ (.int .u64 t3))) := ⟨below_put PD.out.bel (Nat.le_refl _) t0 t1 t2 t3, Box.put PD.out.bx t0 t1 t2 t3⟩
          generalize ((((v2.setCell ⟨w.heap.size, 0, none⟩ (.int .u64 t0)).setCell ⟨w.heap.size, 1, none⟩ (.int .u64 t1)).setCell ⟨w.heap.size, 2, none⟩ (.int .u64 t2)).setCell ⟨w.heap.size, 3, none⟩ (.int .u64 t3)) = v3 at P2 ⊢
          clear c0 c1 c2 c3 q0 q1 q2 q3 f0 f1 f2 f3 BD PD
          go_wp2
          go_roundw
          case rel => exact ⟨k + 1, t0, t1, t2, t3, by omega, by rw [ER.out], by go_num, HT.out, P2.out⟩
          case measure => simp [intOf]; omega
    · obtain rfl : k = n := by omega
      have kI : ¬ ((k : Int) < (k : Int)) := by omega
      clear hs hP
      obtain ⟨W0, e0⟩ : ∃ W0, W0 = wr := ⟨_, rfl⟩
      subst e0
      obtain ⟨ww, eww⟩ : ∃ ww : Bool, ww = decide (MM ≤ wsum a k) := ⟨_, rfl⟩
      rw [← eww]
      have EWW : Hid (ww = decide (MM ≤ wsum a k)) := eww
      have HV0 : Hid (WordsAt W0 (.slice ad k cap) k a) := HV.out.below PP.out.bel
      have z0 := PP.out.bel.size
      clear eww
      go_wp2
      go_loopw [7, 8] (fun s7 si wx => ∃ j m : Nat, si = .int .i64 ((j : Int) - 1) ∧ j + m = k ∧ wx.ownsRow W0.heap.size 24 4 s7 m (cellsW (turnA a k) m) ∧ Below W0.heap.size W0 wx) (fun _ si _ => (intOf si + 1).toNat)
      case atStart => exact ⟨k, 0, by first | rfl | go_num, by omega, World.ownsRow_nil _ _ _ _, Below.refl _ _⟩
      case round =>
        obtain ⟨j, m, rfl, hjm, hown, hB⟩ := hrel
        have HOW : Hid _ := hown
        have HB : Hid (Below W0.heap.size W0 wr) := hB
        have b0 := hB.size
        rcases j with _ | j
        · obtain rfl : m = k := by omega
          have WT : Hid (WordsAt wr u7 m (turnA a m)) := WordsAt.own HOW.out (fun i q => HU.out _ _) hn
          have P0 : Hid (Ps w s0 s1 s2 s3 wr) := Ps.past PP.out HB.out
          have WV : Hid (WordsAt wr (.slice ad m cap) m a) := WordsAt.below HV0.out HB.out
          clear hown hB HOW HB PP HV0 HV b0
          have SL : Hid (Calls Try.prog 30 #[.slice ad m cap] wr (SumRes a m wr)) := sum_any wr _ m a WV.out
          go_upto_region 16 with fail
          go_wp2_with fail
          refine Calls.mono SL.out ?_
          rintro e v1 ⟨y0, y1, y2, y3, ok, rfl, hok, hy, hB⟩
          have P1 : Hid (Ps w s0 s1 s2 s3 v1) := Ps.past P0.out hB
          have WT1 : Hid (WordsAt v1 u7 m (turnA a m)) := WordsAt.below WT.out hB
          have HY : Hid (IsW (if wsum a m < MM then wsum a m else 0) y0 y1 y2 y3) := hy
          have HOK : Hid (ok = decide (wsum a m < MM)) := hok
          clear hB hy hok SL P0 WT WV
          go_upto_region 17 with fail
          have P2 : Hid (Ps w s0 s1 s2 s3 (v1.alloc (.cells #[.int .u64 y0, .int .u64 y1, .int .u64 y2, .int .u64 y3] 24))) := Ps.past P1.out ((Below.refl _ _).alloc (Nat.le_refl _) _)
          have WT2 : Hid (WordsAt (v1.alloc (.cells #[.int .u64 y0, .int .u64 y1, .int .u64 y2, .int .u64 y3] 24)) u7 m (turnA a m)) := WordsAt.below WT1.out ((Below.refl _ _).alloc (Nat.le_refl _) _)
          have BY : Hid (Box (v1.alloc (.cells #[.int .u64 y0, .int .u64 y1, .int .u64 y2, .int .u64 y3] 24)) v1.heap.size y0 y1 y2 y3) := Box.new v1 24 y0 y1 y2 y3
          generalize v1.alloc (.cells #[.int .u64 y0, .int .u64 y1, .int .u64 y2, .int .u64 y3] 24) = v2 at P2 WT2 BY ⊢
          generalize v1.heap.size = bY at BY ⊢
          have ST : Hid (Calls Try.prog 30 #[u7] v2 (SumRes (turnA a m) m v2)) := sum_any v2 _ m (turnA a m) WT2.out
          clear P1 WT1 WT2
          go_wp2_with fail
          refine Calls.mono ST.out ?_
          rintro e v3 ⟨z0', z1', z2', z3', is, rfl, his, hz, hB⟩
          rw [wsum_turn] at his hz
          obtain ⟨rfl, rfl, rfl, rfl⟩ := HY.out.eq hz rfl
          obtain rfl : ok = is := by rw [HOK.out, his]
          have P3 : Hid (Ps w s0 s1 s2 s3 v3) := Ps.past P2.out hB
          have BY3 : Hid (Box v3 bY y0 y1 y2 y3) := Box.below BY.out hB (Box.lt BY.out)
          clear hB hz his ST P2 BY
          go_upto_region 18 with fail
          have P4 : Hid (Ps w s0 s1 s2 s3 (v3.alloc (.cells #[.int .u64 y0, .int .u64 y1, .int .u64 y2, .int .u64 y3] 24))) := Ps.past P3.out ((Below.refl _ _).alloc (Nat.le_refl _) _)
          have BY4 : Hid (Box (v3.alloc (.cells #[.int .u64 y0, .int .u64 y1, .int .u64 y2, .int .u64 y3] 24)) bY y0 y1 y2 y3) := Box.alloc BY3.out _
          have BZ4 : Hid (Box (v3.alloc (.cells #[.int .u64 y0, .int .u64 y1, .int .u64 y2, .int .u64 y3] 24)) v3.heap.size y0 y1 y2 y3) := Box.new v3 24 y0 y1 y2 y3
          generalize v3.alloc (.cells #[.int .u64 y0, .int .u64 y1, .int .u64 y2, .int .u64 y3] 24) = v4 at P4 BY4 BZ4 ⊢
          generalize v3.heap.size = bZ at BZ4 ⊢
          clear P3 BY3
          obtain ⟨c0, c1, c2, c3, _⟩ := Box.facts BY4.out
          obtain ⟨d0, d1, d2, d3, _⟩ := Box.facts BZ4.out
          have eqs := eqw_same
          by_cases hT : wsum a m < MM
          · have o1 : ok = true := by rw [HOK.out, decide_eq_true hT]
            have o2 : ww = false := by rw [EWW.out, decide_eq_false (by omega)]
            subst o1 o2
            have hy := HY.out
            rw [if_pos hT] at hy
            obtain ⟨rfl, rfl, rfl, rfl⟩ := hy.eq HS.out rfl
            clear hy hT HY HS HOK EWW
            go_upto_region 20 with (go_at_call 19; refine (awake_any _).mono ?_; rintro e v5 ⟨rfl, hB⟩; (have P5 : Hid (Ps w y0 y1 y2 y3 v5) := Ps.past P4.out hB); (have BY5 : Hid (Box v5 bY y0 y1 y2 y3) := Box.below BY4.out hB (Box.lt BY4.out)); clear hB)
            clear c0 c1 c2 c3 d0 d1 d2 d3 P4 BY4 BZ4
            obtain ⟨c0, c1, c2, c3, _⟩ := Box.facts BY5.out
            obtain ⟨d0, d1, d2, d3, _⟩ := Box.facts P5.out.bx
            go_wp2
            go_ret
            exact ⟨rfl, P5.out.bel⟩
          · have o1 : ok = false := by rw [HOK.out, decide_eq_false hT]
            have o2 : ww = true := by rw [EWW.out, decide_eq_true (by omega)]
            subst o1 o2
            have hy := HY.out
            rw [if_neg hT] at hy
            obtain ⟨rfl, rfl, rfl, rfl⟩ := hy.eq isW_0 rfl
            clear hy hT HY HOK EWW
            go_upto_region 20 with (go_at_call 19; refine (awake_any _).mono ?_; rintro e v5 ⟨rfl, hB⟩; (have P5 : Hid (Ps w s0 s1 s2 s3 v5) := Ps.past P4.out hB); (have BY5 : Hid (Box v5 bY 0 0 0 0) := Box.below BY4.out hB (Box.lt BY4.out)); clear hB)
            clear c0 c1 c2 c3 d0 d1 d2 d3 P4 BY4 BZ4
            obtain ⟨c0, c1, c2, c3, _⟩ := Box.facts BY5.out
            go_wp2
            go_ret
            exact ⟨rfl, P5.out.bel⟩
        · rw [show ((j + 1 : Nat) : Int) - 1 = (j : Int) by omega]
          have jI : (0 : Int) ≤ (j : Int) := by omega
          have jk : (j : Int) < (k : Int) := by omega
          obtain ⟨g, o, cap', e9, hF⟩ := (HV0.out.below hB).four j (by omega)
          injection e9 with e91 _ e92
          subst e91 e92
          have hx : turnA a k m = a j := by funext q; unfold turnA; congr 1; omega
          obtain ⟨x0, ex0⟩ : ∃ x, x = a j 0 := ⟨_, rfl⟩
          obtain ⟨x1, ex1⟩ : ∃ x, x = a j 1 := ⟨_, rfl⟩
          obtain ⟨x2, ex2⟩ : ∃ x, x = a j 2 := ⟨_, rfl⟩
          obtain ⟨x3, ex3⟩ : ∃ x, x = a j 3 := ⟨_, rfl⟩
          rw [← ex0, ← ex1, ← ex2, ← ex3] at hF
          have EX : Hid (x0 = turnA a k m 0 ∧ x1 = turnA a k m 1 ∧ x2 = turnA a k m 2 ∧ x3 = turnA a k m 3) := by unfold Hid; rw [hx]; exact ⟨ex0, ex1, ex2, ex3⟩
          obtain ⟨c0, c1, c2, c3⟩ := hF
          clear hown hB ex0 ex1 ex2 ex3 hx
          go_wp2_with (at_builtin; refine wpList_append_own _ rfl _ _ 30 rfl W0.heap.size 24 i0 (.agg #[.int .u64 0, .int .u64 0, .int .u64 0, .int .u64 0]) 4 32 Try.underlying30 hi hz0 hz1 hz2 rfl (by decide) _ _ _ rfl (World.ownsRow.alloc HOW.out _) ⟨wr.heap.size, 0, none⟩ 1 1 [.int .u64 x0, .int .u64 x1, .int .u64 x2, .int .u64 x3] rfl rfl (fun i u hi => (by have hj0 : i = 0 ∨ i = 1 ∨ i = 2 ∨ i = 3 := (by have := (List.getElem?_eq_some_iff.1 hi).1; simp at this; omega); rcases hj0 with rfl | rfl | rfl | rfl <;> (simp at hi; subst hi; simp [Addr.add]))) (fun u hu => (by simp at hu; rcases hu with rfl | rfl | rfl | rfl <;> rfl)) (by unfold maxLen; omega) (by omega) (by simp; omega) ?_; intro v' w1 hown' hgrow _)
          have R : Hid _ := turn_step EX.out HOW.out HB.out hown' hgrow
          clear hown' hgrow
          go_wp2
          go_roundw
          case rel => exact ⟨j, m + 1, by first | rfl | go_num, by omega, R.out⟩
          case measure => simp [intOf]
end Go.Proofs.Ytpadpmkfhljiiaa
