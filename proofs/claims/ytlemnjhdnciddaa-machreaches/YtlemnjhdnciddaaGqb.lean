/- MachReaches: the walk. -/
import Derived.Test.YtlemnjhdnciddaaGqa
namespace Go.Proofs.Ytlemnjhdnciddaa
open Go.RowKit
set_option maxHeartbeats 4000000 in
set_option maxRecDepth 100000 in
theorem machReaches_core (w : World) (z0 : Int) (b0 b1 b2 b3 c0 c1 c2 c3 : Int) (hb : IsW (V b0 b1 b2 b3) b0 b1 b2 b3) (hc : IsW (V c0 c1 c2 c3) c0 c1 c2 c3) (X Y s T n : Nat) (hX : V b0 b1 b2 b3 = (X : Int)) (hY : V c0 c1 c2 c3 = (Y : Int)) (hs : bits .and .i64 z0 65535 = (s : Int)) (hs6 : s ≤ 65535) (eT : X + Y = T) (en : grN 0 (s : Int) = n) (FI : Hid (∀ W (v : Bool), (v = true) → Calls Try.prog 14 #[] W fun e w' => e = .returned (.bool v) ∧ Below W.heap.size W w')) (cs : (Y = 0) ∨ (Y ≠ 0 ∧ T ≤ 4194304) ∨ (Y ≠ 0 ∧ 4194304 < T)) : Calls Try.prog 7 #[.int .i64 z0, .agg #[.int .u64 b0, .int .u64 b1, .int .u64 b2, .int .u64 b3], .agg #[.int .u64 c0, .int .u64 c1, .int .u64 c2, .int .u64 c3]] w fun e w' => e = .returned (.bool true) ∧ Below w.heap.size w w' := by
  have nm : n % 32 = 0 ∧ n ≤ 4194304 := by rw [← en, grN_zero s (by omega)]; exact ⟨upN_mod s, by unfold upN; omega⟩
  have nI : (n : Int) ≤ 4194304 := by omega
  have GR : Hid (∀ W B, Mem W B W.heap.size none 0 0 (fun _ => 0) → Calls Try.prog 20 #[.pointer (some ⟨B, 0, none⟩), .int .i64 (s : Int)] W fun e w' => e = .returned (.int .i64 0) ∧ GrRes W w' B W.heap.size none n (grU (fun _ => 0) 0)) := fun W B hM => by
    have h := grow_is W B _ none 0 0 _ hM (s : Int)
    rw [grE_nat s (by omega), en] at h
    exact h
  have RE : Hid (∀ W b B x cx u, Mem W b B x n cx u → Calls Try.prog 29 #[.pointer (some ⟨b, 0, none⟩), .agg #[.int .u64 b0, .int .u64 b1, .int .u64 b2, .int .u64 b3], .agg #[.int .u64 c0, .int .u64 c1, .int .u64 c2, .int .u64 c3]] W fun e w' => e = .returned (.tuple #[.int .i64 (rcN n X Y : Int), .bool (rcB X Y)]) ∧ Below W.heap.size W w') := fun W b B x cx u hM => reach_is W b B x n cx u hM b0 b1 b2 b3 c0 c1 c2 c3 hb hc X Y hX hY
  have LN : Hid (∀ W b B x n cx u, Mem W b B x n cx u → Calls Try.prog 12 #[.pointer (some ⟨b, 0, none⟩)] W fun e w' => e = .returned (.int .i64 (n : Int)) ∧ w' = W) := fun W b B x n cx u hM => len_is W b B x n cx u hM
  have I0 : Hid (Below w.heap.size w ((w.alloc (.cells #[.int .u64 b0, .int .u64 b1, .int .u64 b2, .int .u64 b3] 30)).alloc (.cells #[.int .u64 c0, .int .u64 c1, .int .u64 c2, .int .u64 c3] 30)) ∧ Box ((w.alloc (.cells #[.int .u64 b0, .int .u64 b1, .int .u64 b2, .int .u64 b3] 30)).alloc (.cells #[.int .u64 c0, .int .u64 c1, .int .u64 c2, .int .u64 c3] 30)) w.heap.size b0 b1 b2 b3 ∧ Box ((w.alloc (.cells #[.int .u64 b0, .int .u64 b1, .int .u64 b2, .int .u64 b3] 30)).alloc (.cells #[.int .u64 c0, .int .u64 c1, .int .u64 c2, .int .u64 c3] 30)) (w.heap.size + 1) c0 c1 c2 c3) := by
    have hb1 : Below w.heap.size w ((w.alloc (.cells #[.int .u64 b0, .int .u64 b1, .int .u64 b2, .int .u64 b3] 30)).alloc (.cells #[.int .u64 c0, .int .u64 c1, .int .u64 c2, .int .u64 c3] 30)) := by repeat' (first | with_reducible exact Below.refl _ _ | with_reducible exact Below.refl _ _ | with_reducible refine Below.drew ?_ | with_reducible refine bdrewN ?_ _ | with_reducible refine Below.alloc ?_ ?_ _ | with_reducible refine Below.setCell ?_ ?_ _ | omega | (simp; done) | (simp; omega))
    have h2 := Box.new (w.alloc (.cells #[.int .u64 b0, .int .u64 b1, .int .u64 b2, .int .u64 b3] 30)) 30 c0 c1 c2 c3
    rw [World.size_alloc] at h2
    exact ⟨hb1, (Box.new w 30 b0 b1 b2 b3).alloc _, h2⟩
  have W2 : Hid (∀ W : World, ∃ f : Nat → Nat → Int, WordsAt (W.alloc (.cells #[.int .u64 b0, .int .u64 b1, .int .u64 b2, .int .u64 b3, .int .u64 c0, .int .u64 c1, .int .u64 c2, .int .u64 c3] 30)) (.slice (some ⟨W.heap.size, 0, none⟩) 2 2) 2 f ∧ wsum f 2 = (T : Int)) := fun W => by
    obtain ⟨f, h1, h2⟩ := words2 W b0 b1 b2 b3 c0 c1 c2 c3 30 hb hc
    exact ⟨f, h1, by rw [h2, hX, hY]; omega⟩
  have EQ : Hid (eqw c0 c1 c2 c3 0 0 0 0 = decide (Y = 0)) := by unfold Hid; rw [hc.eqw isW_0, hc.val.symm, hY]; simp
  obtain ⟨k, hk⟩ : ∃ k : Nat, rcN n X Y = k := ⟨_, rfl⟩
  obtain ⟨ok, hok⟩ : ∃ ok : Bool, rcB X Y = ok := ⟨_, rfl⟩
  rw [hk, hok] at RE
  have KK : Hid ((Y = 0 → k = n ∧ ok = true) ∧ (Y ≠ 0 → T ≤ 4194304 → k = max n (upN T) ∧ ok = true) ∧ (Y ≠ 0 → 4194304 < T → k = 0 ∧ ok = false)) := by
    refine ⟨fun h => ?_, fun h1 h2 => ?_, fun h1 h2 => ?_⟩
    · rw [← hk, ← hok]; exact ⟨by unfold rcN; rw [if_pos h], by unfold rcB; exact decide_eq_true (Or.inl h)⟩
    · rw [← hk, ← hok]; exact ⟨by unfold rcN; rw [if_neg h1, if_pos (by omega), eT], by unfold rcB; exact decide_eq_true (Or.inr (by omega))⟩
    · rw [← hk, ← hok]; exact ⟨by unfold rcN; rw [if_neg h1, if_neg (by omega)], by unfold rcB; exact decide_eq_false (by omega)⟩
  have EN : Hid (n % 32 = 0 ∧ n ≤ 4194304) := nm
  clear hk hok hX hY hb hc eT en nm hs6
  go_enter Try.func7, Try.ntmps7
  go_upto_region 1 with fail
  obtain ⟨W0, eW⟩ : ∃ W0, W0 = (w.alloc (.cells #[.int .u64 b0, .int .u64 b1, .int .u64 b2, .int .u64 b3] 30)).alloc (.cells #[.int .u64 c0, .int .u64 c1, .int .u64 c2, .int .u64 c3] 30) := ⟨_, rfl⟩
  rw [← eW] at I0 ⊢
  have LL : Hid (w.heap.size + 1 < W0.heap.size) := I0.out.2.2.lt
  clear eW
  generalize hbq : w.heap.size + 1 = bq at I0 LL ⊢
  have HBQ : Hid (w.heap.size + 1 = bq) := hbq
  clear hbq
  go_upto_region 2 with (go_at_call 19; refine (newMemory_is _).mono ?_; rintro e v1 ⟨rfl, hm1, hB1⟩)
  obtain ⟨b, eb⟩ : ∃ b, W0.heap.size = b := ⟨_, rfl⟩
  rw [eb] at hm1 ⊢
  have M1 : Hid (Below w.heap.size w v1 ∧ Box v1 w.heap.size b0 b1 b2 b3 ∧ Box v1 bq c0 c1 c2 c3 ∧ Mem v1 b v1.heap.size none 0 0 (fun _ => 0) ∧ w.heap.size + 1 = bq ∧ bq < b) := ⟨I0.out.1.trans (hB1.mono I0.out.1.size), I0.out.2.1.below hB1 I0.out.2.1.lt, I0.out.2.2.below hB1 I0.out.2.2.lt, hm1, HBQ.out, by have := LL.out; omega⟩
  clear hm1 hB1 I0 eb LL HBQ
  go_upto_region 5 with (go_at_call 20; refine (GR.out _ _ M1.out.2.2.2.1).mono ?_; rintro e v2 ⟨rfl, x, cx, hm, ho, hr⟩)
  obtain ⟨B, eB⟩ : ∃ B, v1.heap.size = B := ⟨_, rfl⟩
  obtain ⟨L, eL⟩ : ∃ L, L = b := ⟨_, rfl⟩
  obtain ⟨u, eu⟩ : ∃ u, grU (fun _ => 0) 0 = u := ⟨_, rfl⟩
  rw [eu] at hm
  have M2 : Hid (MB w v2 L w.heap.size bq b B x n cx u b0 b1 b2 b3 c0 c1 c2 c3) := by
    have h0 : MB w v1 L w.heap.size bq b B none 0 0 (fun _ => 0) b0 b1 b2 b3 c0 c1 c2 c3 := ⟨M1.out.1, M1.out.2.1, M1.out.2.2.1, by rw [← eB]; exact M1.out.2.2.2.1, by have := M1.out.2.2.2.2; omega, by have := M1.out.2.2.2.2; omega, fun q hq => (by rcases hq with rfl | ⟨a, e, _⟩; (rw [eL]; exact Nat.le_refl _); cases e), by have := M1.out.2.2.2.2; omega⟩
    rw [eB] at hm
    exact h0.own hm ho hr
  clear hm ho hr eB eL M1 GR eu
  go_upto_region 6 with (go_at_call 12; refine (LN.out _ _ _ _ _ _ _ M2.out.me).mono ?_; rintro e w' ⟨rfl, hw⟩; (have hw2 := hw.symm); clear hw; subst hw2)
  obtain ⟨p0, p1, p2, p3, _⟩ := Box.facts M2.out.xa
  obtain ⟨q0, q1, q2, q3, _⟩ := Box.facts M2.out.xc
  go_upto_region 7 with (go_at_call 29; refine (RE.out _ _ _ _ _ _ M2.out.me).mono ?_; rintro e v3 ⟨rfl, hB⟩)
  have M3 : Hid (MB w v3 L w.heap.size bq b B x n cx u b0 b1 b2 b3 c0 c1 c2 c3) := M2.out.past hB
  clear hB M2 p0 p1 p2 p3 q0 q1 q2 q3 RE
  go_upto_region 9 with (go_at_call 12; refine (LN.out _ _ _ _ _ _ _ M3.out.me).mono ?_; rintro e w' ⟨rfl, hw⟩; (have hw2 := hw.symm); clear hw; subst hw2)
  obtain ⟨p0, p1, p2, p3, _⟩ := Box.facts M3.out.xa
  obtain ⟨q0, q1, q2, q3, _⟩ := Box.facts M3.out.xc
  obtain ⟨f, hw1, hw2⟩ := W2.out v3
  have B2 : Hid (Below v3.heap.size v3 (v3.alloc (.cells #[.int .u64 b0, .int .u64 b1, .int .u64 b2, .int .u64 b3, .int .u64 c0, .int .u64 c1, .int .u64 c2, .int .u64 c3] 30))) := (Below.refl _ _).alloc (Nat.le_refl _) _
  have SM : Hid (Calls Try.prog 30 #[.slice (some ⟨v3.heap.size, 0, none⟩) 2 2] (v3.alloc (.cells #[.int .u64 b0, .int .u64 b1, .int .u64 b2, .int .u64 b3, .int .u64 c0, .int .u64 c1, .int .u64 c2, .int .u64 c3] 30)) fun e w' => SumRes f 2 (v3.alloc (.cells #[.int .u64 b0, .int .u64 b1, .int .u64 b2, .int .u64 b3, .int .u64 c0, .int .u64 c1, .int .u64 c2, .int .u64 c3] 30)) e w') := sum_any _ _ 2 f hw1
  have HW : Hid (wsum f 2 = (T : Int)) := hw2
  clear hw1 hw2 W2
  go_wp2_with fail
  refine (SM.out).mono ?_
  rintro e v4 ⟨s0, s1, s2, s3, fit, rfl, hfit, hs4, hB⟩
  rw [HW.out] at hfit hs4
  have M4 : Hid (MB w v4 L w.heap.size bq b B x n cx u b0 b1 b2 b3 c0 c1 c2 c3) := M3.out.past (B2.out.trans (hB.mono B2.out.size))
  have HS : Hid (fit = decide ((T : Int) < MM) ∧ IsW (if (T : Int) < MM then (T : Int) else 0) s0 s1 s2 s3) := ⟨hfit, hs4⟩
  clear hB B2 SM HW M3 p0 p1 p2 p3 q0 q1 q2 q3 hfit hs4
  go_upto_region 10 with fail
  have B9 : Hid (Box (v4.alloc (.cells #[.int .u64 s0, .int .u64 s1, .int .u64 s2, .int .u64 s3] 30)) v4.heap.size s0 s1 s2 s3) := Box.new v4 _ s0 s1 s2 s3
  replace M4 : Hid (MB w (v4.alloc (.cells #[.int .u64 s0, .int .u64 s1, .int .u64 s2, .int .u64 s3] 30)) L w.heap.size bq b B x n cx u b0 b1 b2 b3 c0 c1 c2 c3) := M4.out.past ((Below.refl _ _).alloc (Nat.le_refl _) _)
  generalize v4.alloc (.cells #[.int .u64 s0, .int .u64 s1, .int .u64 s2, .int .u64 s3] 30) = v5 at M4 B9 ⊢
  generalize v4.heap.size = bx at B9 ⊢
  obtain ⟨far, hfar⟩ : ∃ far : Bool, far = decide (4194304 < T) := ⟨_, rfl⟩
  have LT : Hid (fit = true → ∀ W, Calls Try.prog 31 #[.agg #[.int .u64 4194304, .int .u64 0, .int .u64 0, .int .u64 0], .agg #[.int .u64 s0, .int .u64 s1, .int .u64 s2, .int .u64 s3]] W fun e w' => e = .returned (.bool far) ∧ Below W.heap.size W w') := fun e W => by
    have h1 := HS.out.2
    have h2 : (T : Int) < MM := of_decide_eq_true (HS.out.1.symm.trans e)
    rw [if_pos h2] at h1
    have h3 := lt_any 4194304 (T : Int) 4194304 0 0 0 s0 s1 s2 s3 W (isW_lit 4194304 (by omega) (by omega)) h1
    rw [Int.emod_eq_of_lt (by omega) h2, show (4194304 : Int) % MM = 4194304 by decide] at h3
    rw [hfar, show decide (4194304 < T) = decide ((4194304 : Int) < (T : Int)) by simp; omega]
    exact h3
  have FF : Hid (fit = false → far = true) := fun e => by
    have h2 : ¬ (T : Int) < MM := of_decide_eq_false (HS.out.1.symm.trans e)
    rw [hfar]; exact decide_eq_true (by unfold MM at h2; omega)
  have HF : Hid (far = decide (4194304 < T)) := hfar
  clear hfar
  obtain ⟨r0, r1, r2, r3, _⟩ := Box.facts B9.out
  cases fit
  · have hf := FF.out rfl
    rw [hf] at LT
    clear LT FF
    go_upto_region 11 with fail
    rcases cs with hy | ⟨hy, hT⟩ | ⟨hy, hT⟩
    · have hq := eqw_run c0 c1 c2 c3 0 0 0 0
      rw [EQ.out, decide_eq_true hy] at hq
      obtain ⟨q0, q1, q2, q3, _⟩ := Box.facts M4.out.xc
      obtain ⟨e1, e2⟩ := KK.out.1 hy
      subst e1 e2
      clear hy
      go_wp2_with (go_at_call 14; refine (FI.out _ true rfl).mono ?_; rintro e v9 ⟨rfl, hB9⟩)
      go_ret
      exact ⟨rfl, M4.out.bel.trans (hB9.mono M4.out.bel.size)⟩
    · exact absurd (hf.symm.trans HF.out) (by simp; omega)
    · have hq := eqw_run c0 c1 c2 c3 0 0 0 0
      rw [EQ.out, decide_eq_false hy] at hq
      obtain ⟨q0, q1, q2, q3, _⟩ := Box.facts M4.out.xc
      obtain ⟨e1, e2⟩ := KK.out.2.2 hy hT
      subst e1 e2
      clear hy hT
      go_wp2_with (go_at_call 14; refine (FI.out _ true rfl).mono ?_; rintro e v9 ⟨rfl, hB9⟩)
      go_ret
      exact ⟨rfl, M4.out.bel.trans (hB9.mono M4.out.bel.size)⟩
  · go_upto_region 11 with (go_at_call 31; refine (LT.out rfl _).mono ?_; rintro e v6 ⟨rfl, hB⟩)
    have M6 : Hid (MB w v6 L w.heap.size bq b B x n cx u b0 b1 b2 b3 c0 c1 c2 c3) := M4.out.past hB
    have B6 : Hid (Box v6 bx s0 s1 s2 s3) := B9.out.below hB B9.out.lt
    clear hB M4 B9 r0 r1 r2 r3 LT FF
    rcases cs with hy | ⟨hy, hT⟩ | ⟨hy, hT⟩
    · have hq := eqw_run c0 c1 c2 c3 0 0 0 0
      rw [EQ.out, decide_eq_true hy] at hq
      obtain ⟨q0, q1, q2, q3, _⟩ := Box.facts M6.out.xc
      obtain ⟨e1, e2⟩ := KK.out.1 hy
      subst e1 e2
      clear hy
      go_wp2_with (go_at_call 14; refine (FI.out _ true rfl).mono ?_; rintro e v9 ⟨rfl, hB9⟩)
      go_ret
      exact ⟨rfl, M6.out.bel.trans (hB9.mono M6.out.bel.size)⟩
    · have hq := eqw_run c0 c1 c2 c3 0 0 0 0
      rw [EQ.out, decide_eq_false hy] at hq
      obtain ⟨q0, q1, q2, q3, _⟩ := Box.facts M6.out.xc
      have e9 := KK.out.2.1 hy hT
      have hs9 := HS.out.2
      rw [if_pos (by unfold MM; omega)] at hs9
      obtain ⟨rfl, rfl, rfl, rfl⟩ := isW_small hT hs9
      obtain ⟨r0, r1, r2, r3, _⟩ := Box.facts B6.out
      have hfar2 : far = false := HF.out.trans (decide_eq_false (by omega))
      subst hfar2
      have t2 : IntKind.i64.wrap (T : Int) = (T : Int) := by rw [IntKind.wrap_i64]; omega
      have GR : Hid (Calls Try.prog 20 #[.pointer (some ⟨b, 0, none⟩), .int .i64 (T : Int)] v6 fun e w' => e = .returned (.int .i64 0) ∧ GrRes v6 w' b B x k (grU u n)) := by
        have h := grow_is v6 b B x n cx u M6.out.me (T : Int)
        rw [grE_nat T hT, show grN n (T : Int) = k by rw [e9.1]; unfold grN; rw [if_neg (by omega), Int.toNat_natCast]] at h
        exact h
      have F1 : Hid ((k : Int) % 32 = 0 ∧ (n : Int) ≤ (k : Int) ∧ ok = true ∧ (k : Int) ≤ 4194304) := ⟨by rw [e9.1]; have := upN_mod T; have := EN.out.1; omega, by rw [e9.1]; omega, e9.2, by rw [e9.1]; have := EN.out.2; unfold upN; omega⟩
      clear hs9 e9 hy hT
      go_upto_region 16 with (go_at_call 20; refine (GR.out).mono ?_; rintro e v7 ⟨rfl, y, cy, hm, ho, hr⟩)
      have M7 : Hid (MB w v7 L w.heap.size bq b B y k cy (grU u n) b0 b1 b2 b3 c0 c1 c2 c3) := M6.out.own hm ho hr
      clear hm ho hr M6 B6 GR r0 r1 r2 r3 q0 q1 q2 q3 hq
      obtain ⟨f1, f2, rfl, f3⟩ := F1.out
      have f4 : Int.tmod (k : Int) 32 = 0 := by rw [Int.tmod_eq_emod_of_nonneg (by omega)]; exact f1
      clear f1 F1
      go_wp2_with (first | (go_at_call 12; refine (LN.out _ _ _ _ _ _ _ M7.out.me).mono ?_; rintro e w' ⟨rfl, hw⟩; (have hw2 := hw.symm); clear hw; subst hw2) | (go_at_call 14; refine (FI.out _ true rfl).mono ?_; rintro e v9 ⟨rfl, hB9⟩))
      go_ret
      exact ⟨rfl, M7.out.bel.trans (hB9.mono M7.out.bel.size)⟩
    · have hq := eqw_run c0 c1 c2 c3 0 0 0 0
      have hfar2 : far = true := HF.out.trans (decide_eq_true hT)
      subst hfar2
      rw [EQ.out, decide_eq_false hy] at hq
      obtain ⟨q0, q1, q2, q3, _⟩ := Box.facts M6.out.xc
      obtain ⟨e1, e2⟩ := KK.out.2.2 hy hT
      subst e1 e2
      clear hy hT
      go_wp2_with (go_at_call 14; refine (FI.out _ true rfl).mono ?_; rintro e v9 ⟨rfl, hB9⟩)
      go_ret
      exact ⟨rfl, M6.out.bel.trans (hB9.mono M6.out.bel.size)⟩
theorem machReaches_walk (w : World) (z0 : Int) (b0 b1 b2 b3 c0 c1 c2 c3 : Int) (_ : -9223372036854775808 ≤ z0 ∧ z0 ≤ 9223372036854775807) (hb : IsW (V b0 b1 b2 b3) b0 b1 b2 b3) (hc : IsW (V c0 c1 c2 c3) c0 c1 c2 c3) : Calls Try.prog 7 #[.int .i64 z0, .agg #[.int .u64 b0, .int .u64 b1, .int .u64 b2, .int .u64 b3], .agg #[.int .u64 c0, .int .u64 c1, .int .u64 c2, .int .u64 c3]] w fun e w' => e = .returned (.bool true) ∧ Below w.heap.size w w' := by
  obtain ⟨X, hX, _⟩ := V_nat hb
  obtain ⟨Y, hY, _⟩ := V_nat hc
  exact machReaches_core w z0 b0 b1 b2 b3 c0 c1 c2 c3 hb hc X Y (z0 % 65536).toNat (X + Y) _ hX hY (by rw [i64_and65535]; omega) (by omega) rfl rfl (fun W v hv => by rw [hv]; exact wrote_is W) (by omega)
end Go.Proofs.Ytlemnjhdnciddaa
