/- Reach of both memories. -/
import Derived.Test.YtlemnjhdnciddaaGod
namespace Go.Proofs.Ytlemnjhdnciddaa
open Go.RowKit
/-- does the piece end within the bound? -/
def rcB (X Y : Nat) : Bool := decide (Y = 0 ∨ X + Y ≤ 4194304)
def rcN (n X Y : Nat) : Nat := if Y = 0 then n else if X + Y ≤ 4194304 then max n (upN (X + Y)) else 0
theorem V_small {a0 a1 a2 a3 : Int} (h0 : U64 a0) (h1 : U64 a1) (h2 : U64 a2) (h3 : U64 a3) (k : V a0 a1 a2 a3 ≤ 4194304) : a1 = 0 ∧ a2 = 0 ∧ a3 = 0 ∧ V a0 a1 a2 a3 = a0 := by
  have := h0.1; have := h1.1; have := h2.1; have := h3.1
  unfold V Bd at *
  omega
theorem V_big {a0 a1 a2 a3 : Int} (h0 : U64 a0) (h1 : U64 a1) (h2 : U64 a2) (h3 : U64 a3) (k : ¬ (a1 = 0 ∧ a2 = 0 ∧ a3 = 0)) : 4194304 < V a0 a1 a2 a3 := by
  have := h0.1; have := h1.1; have := h2.1; have := h3.1
  unfold V Bd at *
  omega
theorem isZeroW_is (a0 a1 a2 a3 : Int) (w : World) (r : Bool) (h : eqw a0 a1 a2 a3 0 0 0 0 = r) : Calls Try.prog 50 #[.agg #[.int .u64 a0, .int .u64 a1, .int .u64 a2, .int .u64 a3]] w fun e w' => e = .returned (.bool r) ∧ Below w.heap.size w w' := by
  have hq := eqw_run a0 a1 a2 a3 0 0 0 0
  rw [h] at hq
  clear h
  go_enter Try.func50, Try.ntmps50
  go_wp2
  go_ret
  exact ⟨rfl, (Below.refl _ _).alloc (Nat.le_refl _) _⟩
set_option maxHeartbeats 1000000 in
set_option maxRecDepth 100000 in
theorem within_is (a0 a1 a2 a3 : Int) (w : World) (h : IsW (V a0 a1 a2 a3) a0 a1 a2 a3) (X : Nat) (hX : V a0 a1 a2 a3 = (X : Int)) : Calls Try.prog 51 #[.agg #[.int .u64 a0, .int .u64 a1, .int .u64 a2, .int .u64 a3]] w fun e w' => e = .returned (.tuple #[.int .i64 (if X ≤ 4194304 then (X : Int) else 0), .bool (decide (X ≤ 4194304))]) ∧ Below w.heap.size w w' := by
  have UI : Hid (∀ W, Calls Try.prog 45 #[.agg #[.int .u64 a0, .int .u64 a1, .int .u64 a2, .int .u64 a3]] W fun e w' => e = .returned (.tuple #[.int .u64 (loW a0 a1 a2 a3), .bool (smW a1 a2 a3)]) ∧ Below W.heap.size W w') := fun W => uint_is a0 a1 a2 a3 W
  have B0 : Hid (Below w.heap.size w (w.alloc (.cells #[.int .u64 a0, .int .u64 a1, .int .u64 a2, .int .u64 a3] 30))) := (Below.refl _ _).alloc (Nat.le_refl _) _
  by_cases hs : a1 = 0 ∧ a2 = 0 ∧ a3 = 0
  · have e1 : loW a0 a1 a2 a3 = a0 := by unfold loW; rw [if_pos hs]
    have e2 : smW a1 a2 a3 = true := by unfold smW; exact decide_eq_true hs
    have e3 : a0 = (X : Int) := by rw [← hX]; obtain ⟨rfl, rfl, rfl⟩ := hs; unfold V Bd; omega
    rw [e1, e2] at UI
    clear h hX hs e1 e2
    subst e3
    by_cases hk : X ≤ 4194304
    · rw [if_pos hk, decide_eq_true hk]
      have kI : ¬ (4194304 : Int) < (X : Int) := by omega
      have k2 : IntKind.i64.wrap (X : Int) = (X : Int) := by rw [IntKind.wrap_i64]; omega
      clear hk
      go_enter Try.func51, Try.ntmps51
      go_upto_region 1 with fail
      go_wp2_with (go_at_call 45; refine (UI.out _).mono ?_; rintro e v1 ⟨rfl, hB⟩)
      exact bodyPost_ret (v := .tuple #[.int .i64 (X : Int), .bool true]) (by simp [results, Try.results51, go_sem]) rfl ⟨rfl, B0.out.trans (hB.mono B0.out.size)⟩
    · rw [if_neg hk, decide_eq_false hk]
      have kI : (4194304 : Int) < (X : Int) := by omega
      clear hk
      go_enter Try.func51, Try.ntmps51
      go_upto_region 1 with fail
      go_wp2_with (go_at_call 45; refine (UI.out _).mono ?_; rintro e v1 ⟨rfl, hB⟩)
      exact bodyPost_ret (v := .tuple #[.int .i64 0, .bool false]) (by simp [results, Try.results51, go_sem]) rfl ⟨rfl, B0.out.trans (hB.mono B0.out.size)⟩
  · have e2 : smW a1 a2 a3 = false := by unfold smW; exact decide_eq_false hs
    have e4 := V_big h.u0 h.u1 h.u2 h.u3 hs
    have hk : ¬ X ≤ 4194304 := by omega
    rw [e2] at UI
    rw [if_neg hk, decide_eq_false hk]
    generalize loW a0 a1 a2 a3 = l at UI
    clear h hX hs e4 hk e2
    go_enter Try.func51, Try.ntmps51
    go_upto_region 1 with fail
    go_wp2_with (go_at_call 45; refine (UI.out _).mono ?_; rintro e v1 ⟨rfl, hB⟩)
    exact bodyPost_ret (v := .tuple #[.int .i64 0, .bool false]) (by simp [results, Try.results51, go_sem]) rfl ⟨rfl, B0.out.trans (hB.mono B0.out.size)⟩
set_option maxHeartbeats 2000000 in
set_option maxRecDepth 100000 in
theorem reach_is (w : World) (b B : Nat) (ad : Option Addr) (n cap : Nat) (u : Nat → Nat) (h : Mem w b B ad n cap u) (a0 a1 a2 a3 c0 c1 c2 c3 : Int) (ha : IsW (V a0 a1 a2 a3) a0 a1 a2 a3) (hc : IsW (V c0 c1 c2 c3) c0 c1 c2 c3) (X Y : Nat) (hX : V a0 a1 a2 a3 = (X : Int)) (hY : V c0 c1 c2 c3 = (Y : Int)) : Calls Try.prog 29 #[.pointer (some ⟨b, 0, none⟩), .agg #[.int .u64 a0, .int .u64 a1, .int .u64 a2, .int .u64 a3], .agg #[.int .u64 c0, .int .u64 c1, .int .u64 c2, .int .u64 c3]] w fun e w' => e = .returned (.tuple #[.int .i64 (rcN n X Y : Int), .bool (rcB X Y)]) ∧ Below w.heap.size w w' := by
  have nI : (n : Int) ≤ 4194304 := by have := h.le; omega
  have IZ : Hid (∀ W, Calls Try.prog 50 #[.agg #[.int .u64 c0, .int .u64 c1, .int .u64 c2, .int .u64 c3]] W fun e w' => e = .returned (.bool (decide (Y = 0))) ∧ Below W.heap.size W w') := fun W => isZeroW_is c0 c1 c2 c3 W _ (by
    rw [hc.eqw isW_0, hc.val.symm, hY]
    simp)
  have WX : Hid (∀ W, Calls Try.prog 51 #[.agg #[.int .u64 a0, .int .u64 a1, .int .u64 a2, .int .u64 a3]] W fun e w' => e = .returned (.tuple #[.int .i64 (if X ≤ 4194304 then (X : Int) else 0), .bool (decide (X ≤ 4194304))]) ∧ Below W.heap.size W w') := fun W => within_is a0 a1 a2 a3 W ha X hX
  have WY : Hid (∀ W, Calls Try.prog 51 #[.agg #[.int .u64 c0, .int .u64 c1, .int .u64 c2, .int .u64 c3]] W fun e w' => e = .returned (.tuple #[.int .i64 (if Y ≤ 4194304 then (Y : Int) else 0), .bool (decide (Y ≤ 4194304))]) ∧ Below W.heap.size W w') := fun W => within_is c0 c1 c2 c3 W hc Y hY
  have LN : Hid (∀ W, Mem W b B ad n cap u → Calls Try.prog 12 #[.pointer (some ⟨b, 0, none⟩)] W fun e w' => e = .returned (.int .i64 (n : Int)) ∧ w' = W) := fun W hW => len_is W b B ad n cap u hW
  have I0 : Hid (Below w.heap.size w ((w.alloc (.cells #[.int .u64 a0, .int .u64 a1, .int .u64 a2, .int .u64 a3] 30)).alloc (.cells #[.int .u64 c0, .int .u64 c1, .int .u64 c2, .int .u64 c3] 30)) ∧ Mem ((w.alloc (.cells #[.int .u64 a0, .int .u64 a1, .int .u64 a2, .int .u64 a3] 30)).alloc (.cells #[.int .u64 c0, .int .u64 c1, .int .u64 c2, .int .u64 c3] 30)) b B ad n cap u ∧ Box ((w.alloc (.cells #[.int .u64 a0, .int .u64 a1, .int .u64 a2, .int .u64 a3] 30)).alloc (.cells #[.int .u64 c0, .int .u64 c1, .int .u64 c2, .int .u64 c3] 30)) w.heap.size a0 a1 a2 a3 ∧ Box ((w.alloc (.cells #[.int .u64 a0, .int .u64 a1, .int .u64 a2, .int .u64 a3] 30)).alloc (.cells #[.int .u64 c0, .int .u64 c1, .int .u64 c2, .int .u64 c3] 30)) (w.heap.size + 1) c0 c1 c2 c3) := by
    have b1 : Below w.heap.size w ((w.alloc (.cells #[.int .u64 a0, .int .u64 a1, .int .u64 a2, .int .u64 a3] 30)).alloc (.cells #[.int .u64 c0, .int .u64 c1, .int .u64 c2, .int .u64 c3] 30)) := by repeat' (first | with_reducible exact Below.refl _ _ | with_reducible exact Below.refl _ _ | with_reducible refine Below.drew ?_ | with_reducible refine bdrewN ?_ _ | with_reducible refine Below.alloc ?_ ?_ _ | with_reducible refine Below.setCell ?_ ?_ _ | omega | (simp; done) | (simp; omega))
    have h2 := Box.new (w.alloc (.cells #[.int .u64 a0, .int .u64 a1, .int .u64 a2, .int .u64 a3] 30)) 30 c0 c1 c2 c3
    rw [World.size_alloc] at h2
    exact ⟨b1, h.past b1, (Box.new w 30 a0 a1 a2 a3).alloc _, h2⟩
  clear h ha hc hX hY
  by_cases hy : Y = 0
  · rw [decide_eq_true hy] at IZ
    rw [show rcN n X Y = n by unfold rcN; rw [if_pos hy], show rcB X Y = true by unfold rcB; exact decide_eq_true (Or.inl hy)]
    clear hy WX WY
    go_enter Try.func29, Try.ntmps29
    go_upto_region 1 with fail
    generalize (w.alloc (.cells #[.int .u64 a0, .int .u64 a1, .int .u64 a2, .int .u64 a3] 30)).alloc (.cells #[.int .u64 c0, .int .u64 c1, .int .u64 c2, .int .u64 c3] 30) = W0 at I0 ⊢
    generalize w.heap.size + 1 = bc at I0 ⊢
    obtain ⟨p0, p1, p2, p3, _⟩ := Box.facts I0.out.2.2.2
    go_upto_region 2 with (go_at_call 50; refine (IZ.out _).mono ?_; rintro e v1 ⟨rfl, hB⟩)
    have I1 : Hid (Below w.heap.size w v1 ∧ Mem v1 b B ad n cap u) := ⟨I0.out.1.trans (hB.mono I0.out.1.size), I0.out.2.1.past hB⟩
    clear hB I0 p0 p1 p2 p3
    go_wp2_with (go_at_call 12; refine (LN.out _ I1.out.2).mono ?_; rintro e w' ⟨rfl, hw⟩; (have hw2 := hw.symm); clear hw; subst hw2)
    exact bodyPost_ret (v := .tuple #[.int .i64 (n : Int), .bool true]) (by simp [results, Try.results29, go_sem]) rfl ⟨rfl, I1.out.1⟩
  · rw [decide_eq_false hy] at IZ
    have RN : Hid (rcN n X Y = if X + Y ≤ 4194304 then max n (upN (X + Y)) else 0) := by unfold Hid rcN; rw [if_neg hy]
    have RB : Hid (rcB X Y = decide (X + Y ≤ 4194304)) := by unfold Hid rcB; simp [hy]
    by_cases hs : X + Y ≤ 4194304
    · rw [RN.out, RB.out, if_pos hs, decide_eq_true hs]
      rw [if_pos (by omega), decide_eq_true (by omega)] at WX WY
      have UP : Hid (∀ W, Calls Try.prog 47 #[.int .i64 (X + Y : Nat)] W fun e w' => e = .returned (.int .i64 (upN (X + Y) : Int)) ∧ w' = W) := fun W => rounded_is W (X + Y) hs
      obtain ⟨T, eT⟩ : ∃ T, T = X + Y := ⟨_, rfl⟩
      rw [← eT] at UP ⊢
      have s1 : (X : Int) + (Y : Int) = (T : Int) := by omega
      have s2 : IntKind.i64.wrap (T : Int) = (T : Int) := by rw [IntKind.wrap_i64]; omega
      have s3 : (T : Int) ≤ 4194304 := by omega
      have s4 : ¬ (4194304 : Int) < (T : Int) := by omega
      generalize upN T = U at UP ⊢
      rw [show ((max n U : Nat) : Int) = max (n : Int) (U : Int) by omega]
      clear hy hs eT RN RB
      go_enter Try.func29, Try.ntmps29
      go_upto_region 1 with fail
      generalize (w.alloc (.cells #[.int .u64 a0, .int .u64 a1, .int .u64 a2, .int .u64 a3] 30)).alloc (.cells #[.int .u64 c0, .int .u64 c1, .int .u64 c2, .int .u64 c3] 30) = W0 at I0 ⊢
      generalize w.heap.size + 1 = bc at I0 ⊢
      obtain ⟨p0, p1, p2, p3, _⟩ := Box.facts I0.out.2.2.2
      go_upto_region 3 with (go_at_call 50; refine (IZ.out _).mono ?_; rintro e v1 ⟨rfl, hB⟩)
      have I1 : Hid (Below w.heap.size w v1 ∧ Mem v1 b B ad n cap u ∧ Box v1 w.heap.size a0 a1 a2 a3 ∧ Box v1 bc c0 c1 c2 c3) := ⟨I0.out.1.trans (hB.mono I0.out.1.size), I0.out.2.1.past hB, I0.out.2.2.1.below hB I0.out.2.2.1.lt, I0.out.2.2.2.below hB I0.out.2.2.2.lt⟩
      clear hB I0 p0 p1 p2 p3
      obtain ⟨p0, p1, p2, p3, _⟩ := Box.facts I1.out.2.2.1
      go_upto_region 4 with (go_at_call 51; refine (WX.out _).mono ?_; rintro e v2 ⟨rfl, hB⟩)
      have I2 : Hid (Below w.heap.size w v2 ∧ Mem v2 b B ad n cap u ∧ Box v2 bc c0 c1 c2 c3) := ⟨I1.out.1.trans (hB.mono I1.out.1.size), I1.out.2.1.past hB, I1.out.2.2.2.below hB I1.out.2.2.2.lt⟩
      clear hB I1 p0 p1 p2 p3
      obtain ⟨p0, p1, p2, p3, _⟩ := Box.facts I2.out.2.2
      go_upto_region 5 with (go_at_call 51; refine (WY.out _).mono ?_; rintro e v3 ⟨rfl, hB⟩)
      have I3 : Hid (Below w.heap.size w v3 ∧ Mem v3 b B ad n cap u) := ⟨I2.out.1.trans (hB.mono I2.out.1.size), I2.out.2.1.past hB⟩
      clear hB I2 p0 p1 p2 p3
      go_wp2_with (first | (go_at_call 12; refine (LN.out _ I3.out.2).mono ?_; rintro e w' ⟨rfl, hw⟩; (have hw2 := hw.symm); clear hw; subst hw2) | (go_at_call 47; refine (UP.out _).mono ?_; rintro e w' ⟨rfl, hw⟩; (have hw2 := hw.symm); clear hw; subst hw2))
      all_goals exact bodyPost_ret (v := .tuple #[.int .i64 (max (n : Int) (U : Int)), .bool true]) (by first | (simp [results, Try.results29, go_sem]; done) | (simp [results, Try.results29, go_sem]; omega)) rfl ⟨rfl, I3.out.1⟩
    · rw [RN.out, RB.out, if_neg hs, decide_eq_false hs]
      obtain ⟨p, q, xe, ye, hp⟩ : ∃ (p q : Bool) (xe ye : Int), (p = decide (X ≤ 4194304) ∧ q = decide (Y ≤ 4194304) ∧ xe = (if X ≤ 4194304 then (X : Int) else 0) ∧ ye = (if Y ≤ 4194304 then (Y : Int) else 0)) := ⟨_, _, _, _, rfl, rfl, rfl, rfl⟩
      obtain ⟨e1, e2, e3, e4⟩ := hp
      rw [← e1, ← e3] at WX
      rw [← e2, ← e4] at WY
      have s1 : p = true → q = true → (4194304 : Int) < xe + ye ∧ IntKind.i64.wrap (xe + ye) = xe + ye := by
        intro h1 h2
        rw [e1] at h1
        rw [e2] at h2
        have h1 := of_decide_eq_true h1
        have h2 := of_decide_eq_true h2
        rw [if_pos h1] at e3
        rw [if_pos h2] at e4
        rw [IntKind.wrap_i64]
        omega
      clear hy hs e1 e2 e3 e4 RN RB LN
      go_enter Try.func29, Try.ntmps29
      go_upto_region 1 with fail
      generalize (w.alloc (.cells #[.int .u64 a0, .int .u64 a1, .int .u64 a2, .int .u64 a3] 30)).alloc (.cells #[.int .u64 c0, .int .u64 c1, .int .u64 c2, .int .u64 c3] 30) = W0 at I0 ⊢
      generalize w.heap.size + 1 = bc at I0 ⊢
      obtain ⟨p0, p1, p2, p3, _⟩ := Box.facts I0.out.2.2.2
      go_upto_region 3 with (go_at_call 50; refine (IZ.out _).mono ?_; rintro e v1 ⟨rfl, hB⟩)
      have I1 : Hid (Below w.heap.size w v1 ∧ Mem v1 b B ad n cap u ∧ Box v1 w.heap.size a0 a1 a2 a3 ∧ Box v1 bc c0 c1 c2 c3) := ⟨I0.out.1.trans (hB.mono I0.out.1.size), I0.out.2.1.past hB, I0.out.2.2.1.below hB I0.out.2.2.1.lt, I0.out.2.2.2.below hB I0.out.2.2.2.lt⟩
      clear hB I0 p0 p1 p2 p3
      obtain ⟨p0, p1, p2, p3, _⟩ := Box.facts I1.out.2.2.1
      go_upto_region 4 with (go_at_call 51; refine (WX.out _).mono ?_; rintro e v2 ⟨rfl, hB⟩)
      have I2 : Hid (Below w.heap.size w v2 ∧ Mem v2 b B ad n cap u ∧ Box v2 bc c0 c1 c2 c3) := ⟨I1.out.1.trans (hB.mono I1.out.1.size), I1.out.2.1.past hB, I1.out.2.2.2.below hB I1.out.2.2.2.lt⟩
      clear hB I1 p0 p1 p2 p3
      obtain ⟨p0, p1, p2, p3, _⟩ := Box.facts I2.out.2.2
      go_upto_region 5 with (go_at_call 51; refine (WY.out _).mono ?_; rintro e v3 ⟨rfl, hB⟩)
      have I3 : Hid (Below w.heap.size w v3) := I2.out.1.trans (hB.mono I2.out.1.size)
      clear hB I2 p0 p1 p2 p3
      cases p
      · clear s1
        go_wp2
        exact bodyPost_ret (v := .tuple #[.int .i64 0, .bool false]) (by simp [results, Try.results29, go_sem]) rfl ⟨rfl, I3.out⟩
      · cases q
        · clear s1
          go_wp2
          exact bodyPost_ret (v := .tuple #[.int .i64 0, .bool false]) (by simp [results, Try.results29, go_sem]) rfl ⟨rfl, I3.out⟩
        · obtain ⟨s2, s3⟩ := s1 rfl rfl
          clear s1
          go_wp2
          exact bodyPost_ret (v := .tuple #[.int .i64 0, .bool false]) (by simp [results, Try.results29, go_sem]) rfl ⟨rfl, I3.out⟩
theorem V_nat {a0 a1 a2 a3 : Int} (h : IsW (V a0 a1 a2 a3) a0 a1 a2 a3) : ∃ X : Nat, V a0 a1 a2 a3 = (X : Int) ∧ X < 256 ^ 32 := by
  obtain ⟨X, h1, _, h2⟩ := mod_nat h
  exact ⟨X, h1, h2⟩
theorem isW_small {a0 a1 a2 a3 : Int} {T : Nat} (hT : T ≤ 4194304) (h : IsW (T : Int) a0 a1 a2 a3) : a0 = (T : Int) ∧ a1 = 0 ∧ a2 = 0 ∧ a3 = 0 := by
  have e := h.small (by omega) (by unfold MM; omega)
  obtain ⟨h1, h2, h3, h4⟩ := V_small h.u0 h.u1 h.u2 h.u3 (by omega)
  exact ⟨by omega, h1, h2, h3⟩
/-- the list of the two words, in a block of its own -/
theorem words2 (w : World) (a0 a1 a2 a3 c0 c1 c2 c3 : Int) (t : TypeId) (ha : IsW (V a0 a1 a2 a3) a0 a1 a2 a3) (hc : IsW (V c0 c1 c2 c3) c0 c1 c2 c3) : ∃ f : Nat → Nat → Int, WordsAt (w.alloc (.cells #[.int .u64 a0, .int .u64 a1, .int .u64 a2, .int .u64 a3, .int .u64 c0, .int .u64 c1, .int .u64 c2, .int .u64 c3] t)) (.slice (some ⟨w.heap.size, 0, none⟩) 2 2) 2 f ∧ wsum f 2 = V a0 a1 a2 a3 + V c0 c1 c2 c3 := by
  refine ⟨fun i q => if i = 0 then limb a0 a1 a2 a3 q else limb c0 c1 c2 c3 q, ⟨by omega, fun i q => ?_, _, _, rfl, fun _ => ⟨_, _, rfl, fun i hi q hq => ?_⟩⟩, ?_⟩
  · dsimp only
    split
    · exact limb_u64 ha.u0 ha.u1 ha.u2 ha.u3 q
    · exact limb_u64 hc.u0 hc.u1 hc.u2 hc.u3 q
  · have h1 : i = 0 ∨ i = 1 := by omega
    have h2 : q = 0 ∨ q = 1 ∨ q = 2 ∨ q = 3 := by omega
    rw [World.cell?_alloc_at _ _ _ _ rfl]
    rcases h1 with rfl | rfl <;> rcases h2 with rfl | rfl | rfl | rfl <;> rfl
  · simp [wsum, limb]
set_option maxHeartbeats 2000000 in
set_option maxRecDepth 100000 in
theorem reachR_is (w : World) (b B : Nat) (ad : Option Addr) (n cap : Nat) (u : Nat → Nat) (h : Mem w b B ad n cap u) (a0 a1 a2 a3 c0 c1 c2 c3 : Int) (ha : IsW (V a0 a1 a2 a3) a0 a1 a2 a3) (hc : IsW (V c0 c1 c2 c3) c0 c1 c2 c3) (X Y : Nat) (hX : V a0 a1 a2 a3 = (X : Int)) (hY : V c0 c1 c2 c3 = (Y : Int)) : Calls Try.prog 37 #[.pointer (some ⟨b, 0, none⟩), .agg #[.int .u64 a0, .int .u64 a1, .int .u64 a2, .int .u64 a3], .agg #[.int .u64 c0, .int .u64 c1, .int .u64 c2, .int .u64 c3]] w fun e w' => e = .returned (.tuple #[.int .i64 (rcN n X Y : Int), .bool (rcB X Y)]) ∧ Below w.heap.size w w' := by
  have nI : (n : Int) ≤ 4194304 := by have := h.le; omega
  have IZ : Hid (∀ W, Calls Try.prog 60 #[.agg #[.int .u64 c0, .int .u64 c1, .int .u64 c2, .int .u64 c3]] W fun e w' => e = .returned (.bool (decide (Y = 0))) ∧ Below W.heap.size W w') := fun W => risZero_is c0 c1 c2 c3 W hc _ (by rw [← hc.val, hY]; simp)
  have I0 : Hid (Below w.heap.size w ((w.alloc (.cells #[.int .u64 a0, .int .u64 a1, .int .u64 a2, .int .u64 a3] 30)).alloc (.cells #[.int .u64 c0, .int .u64 c1, .int .u64 c2, .int .u64 c3] 30)) ∧ Mem ((w.alloc (.cells #[.int .u64 a0, .int .u64 a1, .int .u64 a2, .int .u64 a3] 30)).alloc (.cells #[.int .u64 c0, .int .u64 c1, .int .u64 c2, .int .u64 c3] 30)) b B ad n cap u ∧ Box ((w.alloc (.cells #[.int .u64 a0, .int .u64 a1, .int .u64 a2, .int .u64 a3] 30)).alloc (.cells #[.int .u64 c0, .int .u64 c1, .int .u64 c2, .int .u64 c3] 30)) w.heap.size a0 a1 a2 a3 ∧ Box ((w.alloc (.cells #[.int .u64 a0, .int .u64 a1, .int .u64 a2, .int .u64 a3] 30)).alloc (.cells #[.int .u64 c0, .int .u64 c1, .int .u64 c2, .int .u64 c3] 30)) (w.heap.size + 1) c0 c1 c2 c3) := by
    have b1 : Below w.heap.size w ((w.alloc (.cells #[.int .u64 a0, .int .u64 a1, .int .u64 a2, .int .u64 a3] 30)).alloc (.cells #[.int .u64 c0, .int .u64 c1, .int .u64 c2, .int .u64 c3] 30)) := by repeat' (first | with_reducible exact Below.refl _ _ | with_reducible exact Below.refl _ _ | with_reducible refine Below.drew ?_ | with_reducible refine bdrewN ?_ _ | with_reducible refine Below.alloc ?_ ?_ _ | with_reducible refine Below.setCell ?_ ?_ _ | omega | (simp; done) | (simp; omega))
    have h2 := Box.new (w.alloc (.cells #[.int .u64 a0, .int .u64 a1, .int .u64 a2, .int .u64 a3] 30)) 30 c0 c1 c2 c3
    rw [World.size_alloc] at h2
    exact ⟨b1, h.past b1, (Box.new w 30 a0 a1 a2 a3).alloc _, h2⟩
  have W2 : Hid (∀ W : World, ∃ f : Nat → Nat → Int, WordsAt (W.alloc (.cells #[.int .u64 a0, .int .u64 a1, .int .u64 a2, .int .u64 a3, .int .u64 c0, .int .u64 c1, .int .u64 c2, .int .u64 c3] 30)) (.slice (some ⟨W.heap.size, 0, none⟩) 2 2) 2 f ∧ wsum f 2 = ((X + Y : Nat) : Int)) := fun W => by
    obtain ⟨f, h1, h2⟩ := words2 W a0 a1 a2 a3 c0 c1 c2 c3 30 ha hc
    exact ⟨f, h1, by rw [h2, hX, hY]; omega⟩
  clear h ha hc hX hY
  by_cases hy : Y = 0
  · rw [decide_eq_true hy] at IZ
    rw [show rcN n X Y = n by unfold rcN; rw [if_pos hy], show rcB X Y = true by unfold rcB; exact decide_eq_true (Or.inl hy)]
    clear hy W2
    go_enter Try.func37, Try.ntmps37
    go_upto_region 1 with fail
    generalize (w.alloc (.cells #[.int .u64 a0, .int .u64 a1, .int .u64 a2, .int .u64 a3] 30)).alloc (.cells #[.int .u64 c0, .int .u64 c1, .int .u64 c2, .int .u64 c3] 30) = W0 at I0 ⊢
    generalize w.heap.size + 1 = bc at I0 ⊢
    obtain ⟨p0, p1, p2, p3, _⟩ := Box.facts I0.out.2.2.2
    go_upto_region 2 with (go_at_call 60; refine (IZ.out _).mono ?_; rintro e v1 ⟨rfl, hB⟩)
    have I1 : Hid (Below w.heap.size w v1 ∧ Mem v1 b B ad n cap u) := ⟨I0.out.1.trans (hB.mono I0.out.1.size), I0.out.2.1.past hB⟩
    clear hB I0 p0 p1 p2 p3
    have c := I1.out.2.c
    go_wp2
    exact bodyPost_ret (v := .tuple #[.int .i64 (n : Int), .bool true]) (by simp [results, Try.results37, go_sem]) rfl ⟨rfl, I1.out.1⟩
  · rw [decide_eq_false hy] at IZ
    have RN : Hid (rcN n X Y = if X + Y ≤ 4194304 then max n (upN (X + Y)) else 0) := by unfold Hid rcN; rw [if_neg hy]
    have RB : Hid (rcB X Y = decide (X + Y ≤ 4194304)) := by unfold Hid rcB; simp [hy]
    rw [RN.out, RB.out]
    generalize X + Y = T at W2 ⊢
    clear RN RB hy
    by_cases hT : T ≤ 4194304
    · rw [if_pos hT, decide_eq_true hT]
      have MT : Hid ((T : Int) < MM) := by unfold Hid MM; omega
      have GT : Hid (∀ W, Calls Try.prog 62 #[.agg #[.int .u64 (T : Int), .int .u64 0, .int .u64 0, .int .u64 0], .agg #[.int .u64 4194304, .int .u64 0, .int .u64 0, .int .u64 0]] W fun e w' => e = .returned (.bool false) ∧ Below W.heap.size W w') := fun W => rgt_is _ 0 0 0 4194304 0 0 0 W (isW_lit (T : Int) (by omega) (by omega)) (isW_lit 4194304 (by omega) (by omega)) false (by rw [Int.emod_eq_of_lt (by omega) MT.out]; exact decide_eq_false (by unfold MM; omega))
      have UP : Hid (∀ W, Calls Try.prog 63 #[.int .i64 (T : Int)] W fun e w' => e = .returned (.int .i64 (upN T : Int)) ∧ w' = W) := fun W => upR_is W T hT
      have s2 : IntKind.i64.wrap (T : Int) = (T : Int) := by rw [IntKind.wrap_i64]; omega
      generalize upN T = U at UP ⊢
      rw [show ((max n U : Nat) : Int) = max (n : Int) (U : Int) by omega]
      replace hT : Hid (T ≤ 4194304) := hT
      go_enter Try.func37, Try.ntmps37
      go_upto_region 1 with fail
      generalize (w.alloc (.cells #[.int .u64 a0, .int .u64 a1, .int .u64 a2, .int .u64 a3] 30)).alloc (.cells #[.int .u64 c0, .int .u64 c1, .int .u64 c2, .int .u64 c3] 30) = W0 at I0 ⊢
      generalize w.heap.size + 1 = bc at I0 ⊢
      obtain ⟨p0, p1, p2, p3, _⟩ := Box.facts I0.out.2.2.2
      go_upto_region 4 with (go_at_call 60; refine (IZ.out _).mono ?_; rintro e v1 ⟨rfl, hB⟩)
      have I1 : Hid (Below w.heap.size w v1 ∧ Mem v1 b B ad n cap u ∧ Box v1 w.heap.size a0 a1 a2 a3 ∧ Box v1 bc c0 c1 c2 c3) := ⟨I0.out.1.trans (hB.mono I0.out.1.size), I0.out.2.1.past hB, I0.out.2.2.1.below hB I0.out.2.2.1.lt, I0.out.2.2.2.below hB I0.out.2.2.2.lt⟩
      clear hB I0 p0 p1 p2 p3 IZ
      obtain ⟨p0, p1, p2, p3, _⟩ := Box.facts I1.out.2.2.1
      obtain ⟨q0, q1, q2, q3, _⟩ := Box.facts I1.out.2.2.2
      obtain ⟨f, hw1, hw2⟩ := W2.out v1
      have B2 : Hid (Below v1.heap.size v1 (v1.alloc (.cells #[.int .u64 a0, .int .u64 a1, .int .u64 a2, .int .u64 a3, .int .u64 c0, .int .u64 c1, .int .u64 c2, .int .u64 c3] 30))) := (Below.refl _ _).alloc (Nat.le_refl _) _
      have SM : Hid (Calls Try.prog 61 #[.slice (some ⟨v1.heap.size, 0, none⟩) 2 2] (v1.alloc (.cells #[.int .u64 a0, .int .u64 a1, .int .u64 a2, .int .u64 a3, .int .u64 c0, .int .u64 c1, .int .u64 c2, .int .u64 c3] 30)) fun e w' => SumRes f 2 (v1.alloc (.cells #[.int .u64 a0, .int .u64 a1, .int .u64 a2, .int .u64 a3, .int .u64 c0, .int .u64 c1, .int .u64 c2, .int .u64 c3] 30)) e w') := rsum_any _ _ 2 f hw1
      have HW : Hid (wsum f 2 = (T : Int)) := hw2
      clear hw1 hw2 W2
      go_wp2_with fail
      refine (SM.out).mono ?_
      rintro e v2 ⟨s0, s1, s2, s3, ok, rfl, hok, hs, hB⟩
      rw [HW.out] at hok hs
      have I2 : Hid (Below w.heap.size w v2 ∧ Mem v2 b B ad n cap u) := ⟨I1.out.1.trans ((B2.out.trans (hB.mono B2.out.size)).mono I1.out.1.size), I1.out.2.1.past (B2.out.trans (hB.mono B2.out.size))⟩
      clear hB B2 SM HW I1 p0 p1 p2 p3 q0 q1 q2 q3
      rw [decide_eq_true MT.out] at hok
      rw [if_pos MT.out] at hs
      obtain ⟨rfl, rfl, rfl, rfl⟩ := isW_small hT.out hs
      subst hok
      clear hs
      go_upto_region 5 with fail
      have B9 : Hid (Box (v2.alloc (.cells #[.int .u64 (T : Int), .int .u64 0, .int .u64 0, .int .u64 0] 30)) v2.heap.size (T : Int) 0 0 0) := Box.new v2 _ _ 0 0 0
      replace I2 : Hid (Below w.heap.size w (v2.alloc (.cells #[.int .u64 (T : Int), .int .u64 0, .int .u64 0, .int .u64 0] 30)) ∧ Mem (v2.alloc (.cells #[.int .u64 (T : Int), .int .u64 0, .int .u64 0, .int .u64 0] 30)) b B ad n cap u) := ⟨I2.out.1.alloc I2.out.1.size _, I2.out.2.past ((Below.refl _ _).alloc (Nat.le_refl _) _)⟩
      generalize v2.alloc (.cells #[.int .u64 (T : Int), .int .u64 0, .int .u64 0, .int .u64 0] 30) = v3 at I2 B9 ⊢
      generalize v2.heap.size = bx at B9 ⊢
      obtain ⟨r0, r1, r2, r3, _⟩ := Box.facts B9.out
      go_upto_region 7 with (go_at_call 62; refine (GT.out _).mono ?_; rintro e v4 ⟨rfl, hB⟩)
      have I3 : Hid (Below w.heap.size w v4 ∧ Mem v4 b B ad n cap u ∧ Box v4 bx (T : Int) 0 0 0) := ⟨I2.out.1.trans (hB.mono I2.out.1.size), I2.out.2.past hB, B9.out.below hB B9.out.lt⟩
      clear hB I2 B9 r0 r1 r2 r3 GT
      obtain ⟨r0, r1, r2, r3, _⟩ := Box.facts I3.out.2.2
      have c := I3.out.2.1.c
      go_upto_region 8 with (go_at_call 63; refine (UP.out _).mono ?_; rintro e w' ⟨rfl, hw⟩; (have hw2 := hw.symm); clear hw; subst hw2)
      by_cases hu : (U : Int) < (n : Int)
      · have FE : Hid ((max (n : Int) (U : Int)) = (n : Int)) := by unfold Hid; omega
        go_wp2
        exact bodyPost_ret (v := .tuple #[.int .i64 (n : Int), .bool true]) (by simp [results, Try.results37, go_sem]) rfl ⟨by rw [FE.out], I3.out.1⟩
      · have FE : Hid ((max (n : Int) (U : Int)) = (U : Int)) := by unfold Hid; omega
        go_wp2
        exact bodyPost_ret (v := .tuple #[.int .i64 (U : Int), .bool true]) (by simp [results, Try.results37, go_sem]) rfl ⟨by rw [FE.out], I3.out.1⟩
    · rw [if_neg hT, decide_eq_false hT]
      by_cases MT0 : (T : Int) < MM
      · have MT : Hid ((T : Int) < MM) := MT0
        have GE : Hid (decide ((4194304 : Int) % MM < (T : Int) % MM) = true) := by unfold Hid; rw [Int.emod_eq_of_lt (by omega) MT0]; exact decide_eq_true (by unfold MM; omega)
        clear MT0 hT
        go_enter Try.func37, Try.ntmps37
        go_upto_region 1 with fail
        generalize (w.alloc (.cells #[.int .u64 a0, .int .u64 a1, .int .u64 a2, .int .u64 a3] 30)).alloc (.cells #[.int .u64 c0, .int .u64 c1, .int .u64 c2, .int .u64 c3] 30) = W0 at I0 ⊢
        generalize w.heap.size + 1 = bc at I0 ⊢
        obtain ⟨p0, p1, p2, p3, _⟩ := Box.facts I0.out.2.2.2
        go_upto_region 4 with (go_at_call 60; refine (IZ.out _).mono ?_; rintro e v1 ⟨rfl, hB⟩)
        have I1 : Hid (Below w.heap.size w v1 ∧ Mem v1 b B ad n cap u ∧ Box v1 w.heap.size a0 a1 a2 a3 ∧ Box v1 bc c0 c1 c2 c3) := ⟨I0.out.1.trans (hB.mono I0.out.1.size), I0.out.2.1.past hB, I0.out.2.2.1.below hB I0.out.2.2.1.lt, I0.out.2.2.2.below hB I0.out.2.2.2.lt⟩
        clear hB I0 p0 p1 p2 p3 IZ
        obtain ⟨p0, p1, p2, p3, _⟩ := Box.facts I1.out.2.2.1
        obtain ⟨q0, q1, q2, q3, _⟩ := Box.facts I1.out.2.2.2
        obtain ⟨f, hw1, hw2⟩ := W2.out v1
        have B2 : Hid (Below v1.heap.size v1 (v1.alloc (.cells #[.int .u64 a0, .int .u64 a1, .int .u64 a2, .int .u64 a3, .int .u64 c0, .int .u64 c1, .int .u64 c2, .int .u64 c3] 30))) := (Below.refl _ _).alloc (Nat.le_refl _) _
        have SM : Hid (Calls Try.prog 61 #[.slice (some ⟨v1.heap.size, 0, none⟩) 2 2] (v1.alloc (.cells #[.int .u64 a0, .int .u64 a1, .int .u64 a2, .int .u64 a3, .int .u64 c0, .int .u64 c1, .int .u64 c2, .int .u64 c3] 30)) fun e w' => SumRes f 2 (v1.alloc (.cells #[.int .u64 a0, .int .u64 a1, .int .u64 a2, .int .u64 a3, .int .u64 c0, .int .u64 c1, .int .u64 c2, .int .u64 c3] 30)) e w') := rsum_any _ _ 2 f hw1
        have HW : Hid (wsum f 2 = (T : Int)) := hw2
        clear hw1 hw2 W2
        go_wp2_with fail
        refine (SM.out).mono ?_
        rintro e v2 ⟨s0, s1, s2, s3, ok, rfl, hok, hs, hB⟩
        rw [HW.out] at hok hs
        have I2 : Hid (Below w.heap.size w v2 ∧ Mem v2 b B ad n cap u) := ⟨I1.out.1.trans ((B2.out.trans (hB.mono B2.out.size)).mono I1.out.1.size), I1.out.2.1.past (B2.out.trans (hB.mono B2.out.size))⟩
        clear hB B2 SM HW I1 p0 p1 p2 p3 q0 q1 q2 q3
        rw [decide_eq_true MT.out] at hok
        rw [if_pos MT.out] at hs
        subst hok
        have GT : Hid (∀ W, Calls Try.prog 62 #[.agg #[.int .u64 s0, .int .u64 s1, .int .u64 s2, .int .u64 s3], .agg #[.int .u64 4194304, .int .u64 0, .int .u64 0, .int .u64 0]] W fun e w' => e = .returned (.bool true) ∧ Below W.heap.size W w') := fun W => rgt_is s0 s1 s2 s3 4194304 0 0 0 W hs (isW_lit 4194304 (by omega) (by omega)) true (by rw [GE.out])
        clear hs
        go_upto_region 5 with fail
        have B9 : Hid (Box (v2.alloc (.cells #[.int .u64 s0, .int .u64 s1, .int .u64 s2, .int .u64 s3] 30)) v2.heap.size s0 s1 s2 s3) := Box.new v2 _ s0 s1 s2 s3
        replace I2 : Hid (Below w.heap.size w (v2.alloc (.cells #[.int .u64 s0, .int .u64 s1, .int .u64 s2, .int .u64 s3] 30))) := I2.out.1.alloc I2.out.1.size _
        generalize v2.alloc (.cells #[.int .u64 s0, .int .u64 s1, .int .u64 s2, .int .u64 s3] 30) = v3 at I2 B9 ⊢
        generalize v2.heap.size = bx at B9 ⊢
        obtain ⟨r0, r1, r2, r3, _⟩ := Box.facts B9.out
        go_wp2_with (go_at_call 62; refine (GT.out _).mono ?_; rintro e v4 ⟨rfl, hB⟩)
        exact bodyPost_ret (v := .tuple #[.int .i64 0, .bool false]) (by simp [results, Try.results37, go_sem]) rfl ⟨rfl, I2.out.trans (hB.mono I2.out.size)⟩
      · have MT : Hid (MM ≤ (T : Int)) := Int.not_lt.1 MT0
        clear MT0 hT
        go_enter Try.func37, Try.ntmps37
        go_upto_region 1 with fail
        generalize (w.alloc (.cells #[.int .u64 a0, .int .u64 a1, .int .u64 a2, .int .u64 a3] 30)).alloc (.cells #[.int .u64 c0, .int .u64 c1, .int .u64 c2, .int .u64 c3] 30) = W0 at I0 ⊢
        generalize w.heap.size + 1 = bc at I0 ⊢
        obtain ⟨p0, p1, p2, p3, _⟩ := Box.facts I0.out.2.2.2
        go_upto_region 4 with (go_at_call 60; refine (IZ.out _).mono ?_; rintro e v1 ⟨rfl, hB⟩)
        have I1 : Hid (Below w.heap.size w v1 ∧ Mem v1 b B ad n cap u ∧ Box v1 w.heap.size a0 a1 a2 a3 ∧ Box v1 bc c0 c1 c2 c3) := ⟨I0.out.1.trans (hB.mono I0.out.1.size), I0.out.2.1.past hB, I0.out.2.2.1.below hB I0.out.2.2.1.lt, I0.out.2.2.2.below hB I0.out.2.2.2.lt⟩
        clear hB I0 p0 p1 p2 p3 IZ
        obtain ⟨p0, p1, p2, p3, _⟩ := Box.facts I1.out.2.2.1
        obtain ⟨q0, q1, q2, q3, _⟩ := Box.facts I1.out.2.2.2
        obtain ⟨f, hw1, hw2⟩ := W2.out v1
        have B2 : Hid (Below v1.heap.size v1 (v1.alloc (.cells #[.int .u64 a0, .int .u64 a1, .int .u64 a2, .int .u64 a3, .int .u64 c0, .int .u64 c1, .int .u64 c2, .int .u64 c3] 30))) := (Below.refl _ _).alloc (Nat.le_refl _) _
        have SM : Hid (Calls Try.prog 61 #[.slice (some ⟨v1.heap.size, 0, none⟩) 2 2] (v1.alloc (.cells #[.int .u64 a0, .int .u64 a1, .int .u64 a2, .int .u64 a3, .int .u64 c0, .int .u64 c1, .int .u64 c2, .int .u64 c3] 30)) fun e w' => SumRes f 2 (v1.alloc (.cells #[.int .u64 a0, .int .u64 a1, .int .u64 a2, .int .u64 a3, .int .u64 c0, .int .u64 c1, .int .u64 c2, .int .u64 c3] 30)) e w') := rsum_any _ _ 2 f hw1
        have HW : Hid (wsum f 2 = (T : Int)) := hw2
        clear hw1 hw2 W2
        go_wp2_with fail
        refine (SM.out).mono ?_
        rintro e v2 ⟨s0, s1, s2, s3, ok, rfl, hok, hs, hB⟩
        rw [HW.out] at hok hs
        have I2 : Hid (Below w.heap.size w v2 ∧ Mem v2 b B ad n cap u) := ⟨I1.out.1.trans ((B2.out.trans (hB.mono B2.out.size)).mono I1.out.1.size), I1.out.2.1.past (B2.out.trans (hB.mono B2.out.size))⟩
        clear hB B2 SM HW I1 p0 p1 p2 p3 q0 q1 q2 q3
        rw [decide_eq_false (show ¬ (T : Int) < MM from Int.not_lt.2 MT.out)] at hok
        subst hok
        clear hs
        have I3 : Hid (∀ o, Below w.heap.size w (v2.alloc o)) := fun o => I2.out.1.alloc I2.out.1.size o
        go_wp2
        exact bodyPost_ret (v := .tuple #[.int .i64 0, .bool false]) (by simp [results, Try.results37, go_sem]) rfl ⟨rfl, I3.out _⟩
end Go.Proofs.Ytlemnjhdnciddaa
