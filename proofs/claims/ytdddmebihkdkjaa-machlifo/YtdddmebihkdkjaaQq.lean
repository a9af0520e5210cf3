/- MachLifo: the walk. -/
import Derived.Test.YtdddmebihkdkjaaQp
namespace Go.Proofs.Ytdddmebihkdkjaa
open Go.RowKit
set_option maxHeartbeats 4000000 in
set_option maxRecDepth 100000 in
theorem machLifo_walk (w : World) (v : Value) (n : Nat) (x : Ring) (hv : WL w v n x) (hn : n ≤ 4398046511104) : Calls Try.prog 5 #[v] w fun e w' => e = .returned (.bool true) ∧ Below w.heap.size w w' := by
  obtain ⟨ad, cap, rfl, hv⟩ := hv
  have HV : Hid (0 < n → ∃ g a, ad = some ⟨g, a, none⟩ ∧ ∀ i, i < n → Rd w g (a + i * 4) (x i)) := hv
  have nI : (n : Int) ≤ 4398046511104 := by omega
  clear hv
  go_enter Try.func5, Try.ntmps5
  go_upto_region 2 with (go_at_call 25; refine (newStack_is _).mono ?_; rintro e v1 ⟨rfl, hN⟩; (have L0 : Hid (LF w v1 w.heap.size v1.heap.size (.slice none 0 0) ring0 0 0 x) := LF.nil hN.st (Nat.le_refl _) hN.bel x); clear hN)
  generalize hb0 : w.heap.size = b at L0 ⊢
  replace hb0 : Hid (w.heap.size = b) := hb0
  generalize v1.heap.size = B at L0 ⊢
  go_upto_region 5 with fail
  go_wp2
  go_loopw [4, 5] (fun s4 si wr => ∃ (k m : Nat) (f : Ring), k ≤ n ∧ k ≤ 1200 ∧ m = min k 1024 ∧ si = .int .i64 (k : Int) ∧ (∀ i, i < m → f i = x i) ∧ LF w wr b B s4 f (m : Int) m x) (fun _ si _ => 1200 - (intOf si).toNat)
  case atStart => exact ⟨0, 0, ring0, by omega, by omega, by omega, rfl, fun i hi => absurd hi (by omega), L0.out⟩
  case round =>
    obtain ⟨k, m, f, hk, hk2, hm, rfl, hf, hL⟩ := hrel
    have L1 : Hid (LF w wr b B u4 f (m : Int) m x) := hL
    have HF : Hid (∀ i, i < m → f i = x i) := hf
    have hm24 : m ≤ 1024 := by omega
    obtain ⟨ao, co, rfl, how⟩ := owns_words hL.ow
    have OW : Hid (0 < m → ∃ g, ao = some ⟨g, 0, none⟩ ∧ B ≤ g ∧ WordsIn wr g 0 m x) := how
    have mI : (m : Int) ≤ 1024 := by omega
    clear hL hf L0 how
    by_cases hkn : k < n ∧ k < 1200
    · obtain ⟨hkn, hkt⟩ := hkn
      have kI : (k : Int) < (n : Int) := by omega
      have ktI : (k : Int) < 1200 := by omega
      obtain ⟨g, a, rfl, hR⟩ := HV.out (by omega)
      have HR : Hid (∀ W, Below w.heap.size w W → Rd W g (a + k * 4) (x k)) := fun W hW => (hR k hkn).below hW (hR k hkn).lt
      obtain ⟨y, ey⟩ : ∃ y, x k = y := ⟨_, rfl⟩
      have EY : Hid (x k = y) := ey
      rw [ey] at HR
      obtain ⟨r0, r1, r2, r3⟩ := HR.out wr L1.out.bel
      clear hR ey
      by_cases hfull : m = 1024
      · have PS : Hid (Calls Try.prog 26 #[.pointer (some ⟨b, 0, none⟩), y.v] wr fun e w' => e = .returned (.int .i64 91) ∧ Stk w' b 0 4096 f (m : Int) ∧ Only b wr w') := by
          have h := push_is wr b f (m : Int) L1.out.st y
          rw [show oPush f (m : Int) y = ⟨91, f, (m : Int)⟩ by unfold oPush; rw [if_pos (by omega)]] at h
          exact h
        have LN : Hid (∀ W, Stk W b 0 4096 f (m : Int) → Calls Try.prog 27 #[.pointer (some ⟨b, 0, none⟩)] W fun e w' => e = .returned (.int .i64 1024) ∧ w' = W) := fun W hW => by
          have h := len_is W b f (m : Int) hW; rwa [show (m : Int) = 1024 by omega] at h
        have mI2 : (m : Int) = 1024 := by omega
        have HM : Hid (m = min k 1024) := hm
        clear hm hfull
        go_wp2_with (first | (go_at_call 26; refine (PS.out).mono ?_; rintro e v2 ⟨rfl, h1, h2⟩; (have L2 : Hid (LF w v2 b B (.slice ao m co) f (m : Int) m x) := L1.out.call h1 h2); clear h1 h2 PS) | (go_at_call 27; refine (LN.out _ L2.out.st).mono ?_; rintro e w' ⟨rfl, hw⟩; (have hw2 := hw.symm); clear hw LN; subst hw2))
        go_roundw
        case rel => exact ⟨k + 1, m, f, by omega, by omega, by have := HM.out; omega, by simp, HF.out, L2.out⟩
        case measure => simp [intOf]; omega
      · have hm2 : m < 1024 := by omega
        have emk : m = k := by omega
        have HK : Hid (m = k) := emk
        have mI2 : ¬ ((m : Int) = 1024) := by omega
        obtain ⟨f2, ef2⟩ : ∃ f2, f2 = rput f m y := ⟨_, rfl⟩
        have PS : Hid (Calls Try.prog 26 #[.pointer (some ⟨b, 0, none⟩), y.v] wr fun e w' => e = .returned (.int .i64 0) ∧ Stk w' b 0 4096 f2 ((m + 1 : Nat) : Int) ∧ Only b wr w') := by
          have h := push_is wr b f (m : Int) L1.out.st y
          rw [show oPush f (m : Int) y = ⟨0, f2, ((m + 1 : Nat) : Int)⟩ by unfold oPush; rw [if_neg (by omega), pl_nat m hm2, wrap64_nat m (by omega), ef2]] at h
          exact h
        have AT : Hid (∀ W, Stk W b 0 4096 f2 ((m + 1 : Nat) : Int) → Calls Try.prog 28 #[.pointer (some ⟨b, 0, none⟩), .int .i64 1] W fun e w' => e = .returned (.tuple #[y.v, .int .i64 0]) ∧ Below W.heap.size W w') := fun W hW => by
          have h := at_is W b f2 ((m + 1 : Nat) : Int) 1 hW
          rw [show oAtW f2 ((m + 1 : Nat) : Int) 1 = y by unfold oAtW; rw [if_neg (by omega), show ((m + 1 : Nat) : Int) - 1 = (m : Int) by omega, pl_nat m hm2, ef2]; unfold rput; rw [if_pos rfl], show oAtE ((m + 1 : Nat) : Int) 1 = 0 by unfold oAtE; rw [if_neg (by omega), if_neg (by omega)]] at h
          exact h
        have FX : Hid (∀ i, i < m + 1 → f2 i = x i) := fun i hi => by
          rw [ef2]; unfold rput; split
          · rename_i e; rw [e, emk]; exact EY.out.symm
          · exact HF.out i (by omega)
        have RX : Hid (rowW (rput x m y) (m + 1) = rowW x (m + 1)) := rowW_ext _ fun i hi => by
          unfold rput; split
          · rename_i e; rw [e, emk]; exact EY.out.symm
          · rfl
        have LN : Hid (∀ W, Stk W b 0 4096 f2 ((m + 1 : Nat) : Int) → Calls Try.prog 27 #[.pointer (some ⟨b, 0, none⟩)] W fun e w' => e = .returned (.int .i64 ((m + 1 : Nat) : Int)) ∧ w' = W) := fun W hW => len_is W b f2 _ hW
        clear hm ef2 emk hfull OW
        go_upto_region 12 with (go_at_call 26; refine (PS.out).mono ?_; rintro e v2 ⟨rfl, h1, h2⟩; (have L2 : Hid (LF w v2 b B (.slice ao m co) f2 ((m + 1 : Nat) : Int) m x) := L1.out.call h1 h2); clear h1 h2 PS L1)
        clear r0 r1 r2 r3
        obtain ⟨r0, r1, r2, r3⟩ := HR.out v2 L2.out.bel
        go_upto_region 13 with (at_builtin; refine wpList_append_word rfl _ _ rfl B (.slice ao m co) m x rfl (World.ownsRow.alloc L2.out.ow _) v2.heap.size 1 rfl y (Wd.new v2 _ y) (by omega) (by (have := L2.out.hB; simp; omega)) ?_; intro v' v3 h1 h2; (have L3 : Hid (LF w v3 b B v' f2 ((m + 1 : Nat) : Int) (m + 1) x) := L2.out.app _ (by rw [← RX.out]; exact h1) h2); clear h1 h2 L2)
        clear r0 r1 r2 r3
        obtain ⟨aq, cq, rfl, _⟩ := owns_words L3.out.ow
        go_upto_region 14 with (go_at_call 28; refine (AT.out _ L3.out.st).mono ?_; rintro e v4 ⟨rfl, h1⟩; (have L4 : Hid (LF w v4 b B (.slice aq (m + 1) cq) f2 ((m + 1 : Nat) : Int) (m + 1) x) := L3.out.past h1); clear h1 AT L3; unfold W4.v)
        have W1 : Hid (Wd (v4.alloc (.cells #[.int .u64 y.a, .int .u64 y.b, .int .u64 y.c, .int .u64 y.d] 30)) v4.heap.size 0 y) := Wd.new v4 _ y
        replace L4 : Hid (LF w (v4.alloc (.cells #[.int .u64 y.a, .int .u64 y.b, .int .u64 y.c, .int .u64 y.d] 30)) b B (.slice aq (m + 1) cq) f2 ((m + 1 : Nat) : Int) (m + 1) x) := L4.out.alloc _
        generalize v4.alloc (.cells #[.int .u64 y.a, .int .u64 y.b, .int .u64 y.c, .int .u64 y.d] 30) = v5 at L4 W1 ⊢
        generalize v4.heap.size = bx at W1 ⊢
        have W2 : Hid (Wd v5.drew bx 0 y) := W1.out.drew
        have L5 : Hid (LF w v5.drew b B (.slice aq (m + 1) cq) f2 ((m + 1 : Nat) : Int) (m + 1) x) := L4.out.drew
        clear W1 L4
        refine wp_region_held_drew (S := fun V' => Wd V' bx 0 y ∧ Rd V' g (a + k * 4) y) (by kernel_rfl) ⟨W2.out, HR.out _ L5.out.bel⟩ (fun hHeld => ?_)
        generalize v5.drew = z0 at hHeld L5 W2 ⊢
        refine wpAnyH_take (i := 0) (v := .int .i64 0) ov0 (by kernel_rfl) (by kernel_rfl) (by kernel_rfl) (fun _ _ _ h => h) (Or.inl ⟨by rfl, fun V' hS => ?_⟩) hHeld ?_
        · go_simp
        simp only [Act.put, List.setIfInBounds_toArray, List.set_cons_zero, List.set_cons_succ]
        refine wpAnyH_take (i := 1) (v := .bool false) ov1 (by kernel_rfl) (by kernel_rfl) (by kernel_rfl) (fun _ _ _ h => h) (Or.inl ⟨by rfl, fun V' hS => ?_⟩) hHeld ?_
        · go_simp
        simp only [Act.put, List.setIfInBounds_toArray, List.set_cons_zero, List.set_cons_succ]
        refine wpAnyH_take (i := 2) (v := .bool false) ov2 (by kernel_rfl) (by kernel_rfl) (by kernel_rfl) (fun _ _ _ h => h) (Or.inl ⟨by rfl, fun V' hS => ?_⟩) hHeld ?_
        · go_simp
        simp only [Act.put, List.setIfInBounds_toArray, List.set_cons_zero, List.set_cons_succ]
        refine wpAnyH_take (i := 3) (v := .int .i64 0) ov3 (by kernel_rfl) (by kernel_rfl) (by kernel_rfl) (fun _ _ _ h => h) (Or.inl ⟨by rfl, fun V' hS => ?_⟩) hHeld ?_
        · go_simp
        simp only [Act.put, List.setIfInBounds_toArray, List.set_cons_zero, List.set_cons_succ]
        refine wpAnyH_take (i := 4) (v := .bool false) ov4 (by kernel_rfl) (by kernel_rfl) (by kernel_rfl) (fun _ _ _ h => h) (Or.inl ⟨by rfl, fun V' hS => ?_⟩) hHeld ?_
        · go_simp
        simp only [Act.put, List.setIfInBounds_toArray, List.set_cons_zero, List.set_cons_succ]
        refine wpAnyH_take (i := 5) (v := .bool false) ov5 (by kernel_rfl) (by kernel_rfl) (by kernel_rfl) (fun _ _ _ h => h) (Or.inl ⟨by rfl, fun V' hS => ?_⟩) hHeld ?_
        · go_simp
        simp only [Act.put, List.setIfInBounds_toArray, List.set_cons_zero, List.set_cons_succ]
        refine wpAnyH_take (i := 6) (v := .bool false) ov6 (by kernel_rfl) (by kernel_rfl) (by kernel_rfl) (fun _ _ _ h => h) (Or.inl ⟨by rfl, fun V' hS => ?_⟩) hHeld ?_
        · go_simp
        simp only [Act.put, List.setIfInBounds_toArray, List.set_cons_zero, List.set_cons_succ]
        refine wpAnyH_take (i := 7) (v := .agg #[.int .u64 y.a, .int .u64 y.b, .int .u64 y.c, .int .u64 y.d]) ov7 (by kernel_rfl) (by kernel_rfl) (by kernel_rfl) (fun _ _ _ h => h) (Or.inl ⟨by rfl, fun V' hS => ?_⟩) hHeld ?_
        · obtain ⟨e0, e1, e2, e3, _⟩ := hS.1
          go_simp
        simp only [Act.put, List.setIfInBounds_toArray, List.set_cons_zero, List.set_cons_succ]
        refine wpAnyH_take (i := 8) (v := .slice (some ⟨g, a, none⟩) n cap) ov8 (by kernel_rfl) (by kernel_rfl) (by kernel_rfl) (fun _ _ _ h => h) (Or.inl ⟨by rfl, fun V' hS => ?_⟩) hHeld ?_
        · go_simp
        simp only [Act.put, List.setIfInBounds_toArray, List.set_cons_zero, List.set_cons_succ]
        refine wpAnyH_take (i := 9) (v := .int .i64 (k : Int)) ov9 (by kernel_rfl) (by kernel_rfl) (by kernel_rfl) (fun _ _ _ h => h) (Or.inl ⟨by rfl, fun V' hS => ?_⟩) hHeld ?_
        · go_simp
        simp only [Act.put, List.setIfInBounds_toArray, List.set_cons_zero, List.set_cons_succ]
        refine wpAnyH_take (i := 10) (v := .pointer (some ⟨g, a + k * 4, none⟩)) ov10 (by kernel_rfl) (by kernel_rfl) (by kernel_rfl) (fun _ _ _ h => h) (Or.inl ⟨by rfl, fun V' hS => ?_⟩) hHeld ?_
        · go_simp
        simp only [Act.put, List.setIfInBounds_toArray, List.set_cons_zero, List.set_cons_succ]
        refine wpAnyH_take (i := 11) (v := .agg #[.int .u64 y.a, .int .u64 y.b, .int .u64 y.c, .int .u64 y.d]) ov11 (by kernel_rfl) (by kernel_rfl) (by kernel_rfl) (fun _ _ _ h => h) (Or.inl ⟨by rfl, fun V' hS => ?_⟩) hHeld ?_
        · obtain ⟨e0, e1, e2, e3⟩ := hS.2
          go_simp
        simp only [Act.put, List.setIfInBounds_toArray, List.set_cons_zero, List.set_cons_succ]
        refine wpAnyH_take (i := 12) (v := .bool false) ov12 (by kernel_rfl) (by kernel_rfl) (by kernel_rfl) (fun _ _ _ h => h) (Or.inl ⟨by rfl, fun V' hS => ?_⟩) hHeld ?_
        · have hq := eqw_self y.a y.b y.c y.d V'
          go_simp
        simp only [Act.put, List.setIfInBounds_toArray, List.set_cons_zero, List.set_cons_succ]
        refine wpAnyH_take (i := 13) (v := .bool false) ov13 (by kernel_rfl) (by kernel_rfl) (by kernel_rfl) (fun _ _ _ h => h) (Or.inl ⟨by rfl, fun V' hS => ?_⟩) hHeld ?_
        · go_simp
        simp only [Act.put, List.setIfInBounds_toArray, List.set_cons_zero, List.set_cons_succ]
        refine wpAnyH_take (i := 14) (v := .bool false) ov14 (by kernel_rfl) (by kernel_rfl) (by kernel_rfl) (fun _ _ _ h => h) (Or.inl ⟨by rfl, fun V' hS => ?_⟩) hHeld ?_
        · go_simp
        simp only [Act.put, List.setIfInBounds_toArray, List.set_cons_zero, List.set_cons_succ]
        refine wpAnyH_take (i := 15) (v := .pointer (some ⟨b, 0, none⟩)) ov15 (by kernel_rfl) (by kernel_rfl) (by kernel_rfl) (fun _ _ _ h => h) (Or.inl ⟨by rfl, fun V' hS => ?_⟩) hHeld ?_
        · go_simp
        simp only [Act.put, List.setIfInBounds_toArray, List.set_cons_zero, List.set_cons_succ]
        refine wpAnyH_take (i := 17) (v := .slice aq (m + 1) cq) ov17 (by kernel_rfl) (by kernel_rfl) (by kernel_rfl) (fun _ _ _ h => h) (Or.inl ⟨by rfl, fun V' hS => ?_⟩) hHeld ?_
        · go_simp
        simp only [Act.put, List.setIfInBounds_toArray, List.set_cons_zero, List.set_cons_succ]
        refine wpAnyH_take (i := 18) (v := .int .i64 ((m + 1 : Nat) : Int)) ov18 (by kernel_rfl) (by kernel_rfl) (by kernel_rfl) (fun _ _ _ h => h) (Or.inl ⟨by rfl, fun V' hS => ?_⟩) hHeld ?_
        · go_simp
        simp only [Act.put, List.setIfInBounds_toArray, List.set_cons_zero, List.set_cons_succ]
        refine wpAnyH_ready (rs := [16]) (by kernel_rfl) (by simp) ?_
        refine AllReadyH.cons ov16 (fun K hK => ?_) AllReadyH.nil
        rw [if_pos (by rfl)]
        go_simp
        refine (LN.out z0 L5.out.st).mono ?_
        rintro e w' ⟨rfl, hw⟩
        have hw2 := hw.symm
        clear hw
        subst hw2
        (try go_wp2_with fail)
        refine hK.out _ _ hHeld (fun _ => ?_)
        clear hK K
        (try simp only [Act.put, List.setIfInBounds_toArray, List.set_cons_zero, List.set_cons_succ])
        refine wpAnyH_take (i := 19) (v := .bool false) ov19 (by kernel_rfl) (by kernel_rfl) (by kernel_rfl) (fun _ _ _ h => h) (Or.inl ⟨by rfl, fun V' hS => ?_⟩) hHeld ?_
        · go_simp
        simp only [Act.put, List.setIfInBounds_toArray, List.set_cons_zero, List.set_cons_succ]
        refine wpAnyH_take (i := 20) (v := .bool false) ov20 (by kernel_rfl) (by kernel_rfl) (by kernel_rfl) (fun _ _ _ h => h) (Or.inl ⟨by rfl, fun V' hS => ?_⟩) hHeld ?_
        · go_simp
        simp only [Act.put, List.setIfInBounds_toArray, List.set_cons_zero, List.set_cons_succ]
        refine wpAnyH_done (by kernel_rfl) ?_ _
        go_wp2
        go_roundw
        case rel => exact ⟨k + 1, m + 1, f2, by omega, by omega, by have := HK.out; omega, by simp, FX.out, L5.out⟩
        case measure => simp [intOf]; omega
    · have SM : Hid (∀ W v1, WL W v1 m x → WL W (.slice ao m co) m x → Calls Try.prog 29 #[v1, .slice ao m co] W fun e w' => e = .returned (.bool true) ∧ Below W.heap.size W w') := fun W v1 h1 h2 => sameWords_is W v1 _ m x (by omega) h1 h2
      have WS : Hid (Calls Try.prog 30 #[.pointer (some ⟨b, 0, none⟩)] wr fun e w' => e = .returned (.slice (some ⟨wr.heap.size, 0, none⟩) m m) ∧ WL w' (.slice (some ⟨wr.heap.size, 0, none⟩) m m) m x ∧ Below wr.heap.size wr w') := by
        have h := words_is wr b f (m : Int) L1.out.st
        rw [cnt_nat m hm24] at h
        exact h.mono fun e w' ⟨h1, h2, h3⟩ => ⟨h1, h2.wl.ext (told_nat f x m hm24 HF.out), h3⟩
      by_cases hkn2 : k < n
      · have kI : (k : Int) < (n : Int) := by omega
        have ktI : ¬ ((k : Int) < 1200) := by omega
        clear OW hm
        go_upto_region 18 with (first | (go_at_call 30; refine (WS.out).mono ?_; rintro e v2 ⟨rfl, h1, h2⟩; (have L2 : Hid (LF w v2 b B (.slice ao m co) f (m : Int) m x) := L1.out.past h2); (have HW : Hid (WL v2 (.slice (some ⟨wr.heap.size, 0, none⟩) m m) m x) := h1); clear h1 h2 WS) | (go_at_call 29; refine (SM.out _ _ HW.out (owns_wl L2.out.ow)).mono ?_; rintro e v3 ⟨rfl, h1⟩; (have L3 : Hid (LF w v3 b B (.slice ao m co) f (m : Int) m x) := L2.out.past h1); clear h1 SM HW L2))
        go_wp2
        go_loopw [9] (fun si wr => ∃ j : Nat, j ≤ m ∧ si = .int .i64 ((j : Int) - 1) ∧ LF w wr b B (.slice ao m co) f (j : Int) m x) (fun si _ => (intOf si + 1).toNat)
        case atStart => exact ⟨m, Nat.le_refl _, rfl, L3.out⟩
        case round =>
          obtain ⟨j, hj, rfl, hL⟩ := hrel
          have L4 : Hid (LF w wr b B (.slice ao m co) f (j : Int) m x) := hL
          clear hL L3 L1
          have jI : (j : Int) ≤ 1024 := by omega
          by_cases hj0 : 0 < j
          · have jI0 : 0 < (j : Int) := by omega
            obtain ⟨y, ey⟩ : ∃ y, x (j - 1) = y := ⟨_, rfl⟩
            have h1 : (1 : Int) ≤ (j : Int) := by omega
            have PO : Hid (Calls Try.prog 31 #[.pointer (some ⟨b, 0, none⟩)] wr fun e w' => e = .returned (.tuple #[y.v, .int .i64 0]) ∧ Stk w' b 0 4096 f ((j - 1 : Nat) : Int) ∧ Only b wr w') := by
              have h := pop_is wr b f (j : Int) L4.out.st
              rw [show oPopW f (j : Int) = y by unfold oPopW; rw [if_neg (by omega), show (j : Int) - 1 = ((j - 1 : Nat) : Int) by omega, pl_nat (j - 1) (by omega), HF.out (j - 1) (by omega), ey], show oPop f (j : Int) = ⟨0, f, ((j - 1 : Nat) : Int)⟩ by unfold oPop; rw [if_neg (by omega), wrap64_dec j (by omega) hj0]] at h
              exact h
            obtain ⟨jm, ejm⟩ : ∃ jm, jm = j - 1 := ⟨_, rfl⟩
            have EJ : Hid (jm = j - 1) := ejm
            rw [← ejm] at PO ey
            have ejI : (j : Int) - 1 = (jm : Int) := by omega
            rw [ejI]
            have jmI : (jm : Int) < (m : Int) := by omega
            have jm0 : 0 ≤ (jm : Int) := by omega
            have hjm : jm < m := by omega
            have EY : Hid (x jm = y) := ey
            clear ey ejm ejI h1
            go_upto_region 22 with (go_at_call 31; refine (PO.out).mono ?_; rintro e v4 ⟨rfl, h1, h2⟩; (have L5 : Hid (LF w v4 b B (.slice ao m co) f (jm : Int) m x) := L4.out.call h1 h2); clear h1 h2 PO L4; unfold W4.v)
            have W1 : Hid (Wd (v4.alloc (.cells #[.int .u64 y.a, .int .u64 y.b, .int .u64 y.c, .int .u64 y.d] 30)) v4.heap.size 0 y) := Wd.new v4 _ y
            replace L5 : Hid (LF w (v4.alloc (.cells #[.int .u64 y.a, .int .u64 y.b, .int .u64 y.c, .int .u64 y.d] 30)) b B (.slice ao m co) f (jm : Int) m x) := L5.out.alloc _
            generalize v4.alloc (.cells #[.int .u64 y.a, .int .u64 y.b, .int .u64 y.c, .int .u64 y.d] 30) = v5 at L5 W1 ⊢
            generalize v4.heap.size = bx at W1 ⊢
            have W2 : Hid (Wd v5.drew bx 0 y) := W1.out.drew
            have L6 : Hid (LF w v5.drew b B (.slice ao m co) f (jm : Int) m x) := L5.out.drew
            clear W1 L5
            obtain ⟨ao', co', eo, how⟩ := owns_words L6.out.ow
            injection eo with eo1 _ eo2
            subst eo1 eo2
            obtain ⟨go_, rfl, _, hwi⟩ := how (by omega)
            have RW : Hid (Rd v5.drew go_ (jm * 4) y) := by
              have h := (hwi jm hjm).rd
              rw [EY.out, Nat.zero_add] at h; exact h
            clear hwi how
            refine wp_region_held_drew (S := fun V' => Wd V' bx 0 y ∧ Rd V' go_ (jm * 4) y) (by kernel_rfl) ⟨W2.out, RW.out⟩ (fun hHeld => ?_)
            generalize v5.drew = z0 at hHeld L6 W2 RW ⊢
            refine wpAnyH_take (i := 0) (v := .int .i64 0) ov0 (by kernel_rfl) (by kernel_rfl) (by kernel_rfl) (fun _ _ _ h => h) (Or.inl ⟨by rfl, fun V' hS => ?_⟩) hHeld ?_
            · go_simp
            simp only [Act.put, List.setIfInBounds_toArray, List.set_cons_zero, List.set_cons_succ]
            refine wpAnyH_take (i := 1) (v := .bool false) ov1 (by kernel_rfl) (by kernel_rfl) (by kernel_rfl) (fun _ _ _ h => h) (Or.inl ⟨by rfl, fun V' hS => ?_⟩) hHeld ?_
            · go_simp
            simp only [Act.put, List.setIfInBounds_toArray, List.set_cons_zero, List.set_cons_succ]
            refine wpAnyH_take (i := 2) (v := .bool false) ov2 (by kernel_rfl) (by kernel_rfl) (by kernel_rfl) (fun _ _ _ h => h) (Or.inl ⟨by rfl, fun V' hS => ?_⟩) hHeld ?_
            · go_simp
            simp only [Act.put, List.setIfInBounds_toArray, List.set_cons_zero, List.set_cons_succ]
            refine wpAnyH_take (i := 3) (v := .agg #[.int .u64 y.a, .int .u64 y.b, .int .u64 y.c, .int .u64 y.d]) ov3 (by kernel_rfl) (by kernel_rfl) (by kernel_rfl) (fun _ _ _ h => h) (Or.inl ⟨by rfl, fun V' hS => ?_⟩) hHeld ?_
            · obtain ⟨e0, e1, e2, e3, _⟩ := hS.1
              go_simp
            simp only [Act.put, List.setIfInBounds_toArray, List.set_cons_zero, List.set_cons_succ]
            refine wpAnyH_take (i := 4) (v := .slice (some ⟨go_, 0, none⟩) m co) ov4 (by kernel_rfl) (by kernel_rfl) (by kernel_rfl) (fun _ _ _ h => h) (Or.inl ⟨by rfl, fun V' hS => ?_⟩) hHeld ?_
            · go_simp
            simp only [Act.put, List.setIfInBounds_toArray, List.set_cons_zero, List.set_cons_succ]
            refine wpAnyH_take (i := 5) (v := .int .i64 (jm : Int)) ov5 (by kernel_rfl) (by kernel_rfl) (by kernel_rfl) (fun _ _ _ h => h) (Or.inl ⟨by rfl, fun V' hS => ?_⟩) hHeld ?_
            · go_simp
            simp only [Act.put, List.setIfInBounds_toArray, List.set_cons_zero, List.set_cons_succ]
            refine wpAnyH_take (i := 6) (v := .pointer (some ⟨go_, jm * 4, none⟩)) ov6 (by kernel_rfl) (by kernel_rfl) (by kernel_rfl) (fun _ _ _ h => h) (Or.inl ⟨by rfl, fun V' hS => ?_⟩) hHeld ?_
            · go_simp
            simp only [Act.put, List.setIfInBounds_toArray, List.set_cons_zero, List.set_cons_succ]
            refine wpAnyH_take (i := 7) (v := .agg #[.int .u64 y.a, .int .u64 y.b, .int .u64 y.c, .int .u64 y.d]) ov7 (by kernel_rfl) (by kernel_rfl) (by kernel_rfl) (fun _ _ _ h => h) (Or.inl ⟨by rfl, fun V' hS => ?_⟩) hHeld ?_
            · obtain ⟨e0, e1, e2, e3⟩ := hS.2
              go_simp
            simp only [Act.put, List.setIfInBounds_toArray, List.set_cons_zero, List.set_cons_succ]
            refine wpAnyH_take (i := 8) (v := .bool false) ov8 (by kernel_rfl) (by kernel_rfl) (by kernel_rfl) (fun _ _ _ h => h) (Or.inl ⟨by rfl, fun V' hS => ?_⟩) hHeld ?_
            · have hq := eqw_self y.a y.b y.c y.d V'
              go_simp
            simp only [Act.put, List.setIfInBounds_toArray, List.set_cons_zero, List.set_cons_succ]
            refine wpAnyH_take (i := 9) (v := .bool false) ov9 (by kernel_rfl) (by kernel_rfl) (by kernel_rfl) (fun _ _ _ h => h) (Or.inl ⟨by rfl, fun V' hS => ?_⟩) hHeld ?_
            · go_simp
            simp only [Act.put, List.setIfInBounds_toArray, List.set_cons_zero, List.set_cons_succ]
            refine wpAnyH_done (by kernel_rfl) ?_ _
            go_wp2
            go_roundw
            case rel => exact ⟨jm, by omega, by first | rfl | simp, L6.out⟩
            case measure => have := EJ.out; (first | (simp [intOf]; done) | (simp [intOf]; omega))
          · obtain rfl : j = 0 := by omega
            have PO : Hid (Calls Try.prog 31 #[.pointer (some ⟨b, 0, none⟩)] wr fun e w' => e = .returned (.tuple #[w0.v, .int .i64 90]) ∧ Stk w' b 0 4096 f 0 ∧ Only b wr w') := pop_is wr b f 0 L4.out.st
            have LN : Hid (∀ W, Stk W b 0 4096 f 0 → Calls Try.prog 27 #[.pointer (some ⟨b, 0, none⟩)] W fun e w' => e = .returned (.int .i64 0) ∧ w' = W) := fun W hW => len_is W b f _ hW
            go_upto_region 25 with (go_at_call 31; refine (PO.out).mono ?_; rintro e v4 ⟨rfl, h1, h2⟩; (have L5 : Hid (LF w v4 b B (.slice ao m co) f 0 m x) := L4.out.call h1 h2); clear h1 h2 PO L4; unfold W4.v w0)
            have W1 : Hid (Wd (v4.alloc (zo 30)) v4.heap.size 0 w0) := Wd.new v4 _ w0
            replace L5 : Hid (LF w (v4.alloc (zo 30)) b B (.slice ao m co) f 0 m x) := L5.out.alloc _
            change Code.wp _ _ _ _ (v4.alloc (zo 30))
            generalize v4.alloc (zo 30) = v5 at L5 W1 ⊢
            generalize v4.heap.size = bx at W1 ⊢
            obtain ⟨e0, e1, e2, e3, _⟩ := W1.out
            unfold w0 at e0 e1 e2 e3
            have hq := fun W => eqw_self 0 0 0 0 W
            go_wp2_with (first | (go_at_call 27; refine (LN.out _ L5.out.st).mono ?_; rintro e w' ⟨rfl, hw⟩; (have hw2 := hw.symm); clear hw LN; subst hw2) | (go_at_call 12; refine (awake_is _).mono ?_; rintro e v7 ⟨rfl, h1⟩; (have HE : Hid (Below w.heap.size w v7) := L5.out.bel.trans (h1.mono L5.out.bel.size)); clear h1))
            go_ret
            exact ⟨rfl, HE.out⟩
      · have kI : ¬ ((k : Int) < (n : Int)) := by omega
        clear OW hm
        go_upto_region 18 with (first | (go_at_call 30; refine (WS.out).mono ?_; rintro e v2 ⟨rfl, h1, h2⟩; (have L2 : Hid (LF w v2 b B (.slice ao m co) f (m : Int) m x) := L1.out.past h2); (have HW : Hid (WL v2 (.slice (some ⟨wr.heap.size, 0, none⟩) m m) m x) := h1); clear h1 h2 WS) | (go_at_call 29; refine (SM.out _ _ HW.out (owns_wl L2.out.ow)).mono ?_; rintro e v3 ⟨rfl, h1⟩; (have L3 : Hid (LF w v3 b B (.slice ao m co) f (m : Int) m x) := L2.out.past h1); clear h1 SM HW L2))
        go_wp2
        go_loopw [9] (fun si wr => ∃ j : Nat, j ≤ m ∧ si = .int .i64 ((j : Int) - 1) ∧ LF w wr b B (.slice ao m co) f (j : Int) m x) (fun si _ => (intOf si + 1).toNat)
        case atStart => exact ⟨m, Nat.le_refl _, rfl, L3.out⟩
        case round =>
          obtain ⟨j, hj, rfl, hL⟩ := hrel
          have L4 : Hid (LF w wr b B (.slice ao m co) f (j : Int) m x) := hL
          clear hL L3 L1
          have jI : (j : Int) ≤ 1024 := by omega
          by_cases hj0 : 0 < j
          · have jI0 : 0 < (j : Int) := by omega
            obtain ⟨y, ey⟩ : ∃ y, x (j - 1) = y := ⟨_, rfl⟩
            have h1 : (1 : Int) ≤ (j : Int) := by omega
            have PO : Hid (Calls Try.prog 31 #[.pointer (some ⟨b, 0, none⟩)] wr fun e w' => e = .returned (.tuple #[y.v, .int .i64 0]) ∧ Stk w' b 0 4096 f ((j - 1 : Nat) : Int) ∧ Only b wr w') := by
              have h := pop_is wr b f (j : Int) L4.out.st
              rw [show oPopW f (j : Int) = y by unfold oPopW; rw [if_neg (by omega), show (j : Int) - 1 = ((j - 1 : Nat) : Int) by omega, pl_nat (j - 1) (by omega), HF.out (j - 1) (by omega), ey], show oPop f (j : Int) = ⟨0, f, ((j - 1 : Nat) : Int)⟩ by unfold oPop; rw [if_neg (by omega), wrap64_dec j (by omega) hj0]] at h
              exact h
            obtain ⟨jm, ejm⟩ : ∃ jm, jm = j - 1 := ⟨_, rfl⟩
            have EJ : Hid (jm = j - 1) := ejm
            rw [← ejm] at PO ey
            have ejI : (j : Int) - 1 = (jm : Int) := by omega
            rw [ejI]
            have jmI : (jm : Int) < (m : Int) := by omega
            have jm0 : 0 ≤ (jm : Int) := by omega
            have hjm : jm < m := by omega
            have EY : Hid (x jm = y) := ey
            clear ey ejm ejI h1
            go_upto_region 22 with (go_at_call 31; refine (PO.out).mono ?_; rintro e v4 ⟨rfl, h1, h2⟩; (have L5 : Hid (LF w v4 b B (.slice ao m co) f (jm : Int) m x) := L4.out.call h1 h2); clear h1 h2 PO L4; unfold W4.v)
            have W1 : Hid (Wd (v4.alloc (.cells #[.int .u64 y.a, .int .u64 y.b, .int .u64 y.c, .int .u64 y.d] 30)) v4.heap.size 0 y) := Wd.new v4 _ y
            replace L5 : Hid (LF w (v4.alloc (.cells #[.int .u64 y.a, .int .u64 y.b, .int .u64 y.c, .int .u64 y.d] 30)) b B (.slice ao m co) f (jm : Int) m x) := L5.out.alloc _
            generalize v4.alloc (.cells #[.int .u64 y.a, .int .u64 y.b, .int .u64 y.c, .int .u64 y.d] 30) = v5 at L5 W1 ⊢
            generalize v4.heap.size = bx at W1 ⊢
            have W2 : Hid (Wd v5.drew bx 0 y) := W1.out.drew
            have L6 : Hid (LF w v5.drew b B (.slice ao m co) f (jm : Int) m x) := L5.out.drew
            clear W1 L5
            obtain ⟨ao', co', eo, how⟩ := owns_words L6.out.ow
            injection eo with eo1 _ eo2
            subst eo1 eo2
            obtain ⟨go_, rfl, _, hwi⟩ := how (by omega)
            have RW : Hid (Rd v5.drew go_ (jm * 4) y) := by
              have h := (hwi jm hjm).rd
              rw [EY.out, Nat.zero_add] at h; exact h
            clear hwi how
            refine wp_region_held_drew (S := fun V' => Wd V' bx 0 y ∧ Rd V' go_ (jm * 4) y) (by kernel_rfl) ⟨W2.out, RW.out⟩ (fun hHeld => ?_)
            generalize v5.drew = z0 at hHeld L6 W2 RW ⊢
            refine wpAnyH_take (i := 0) (v := .int .i64 0) ov0 (by kernel_rfl) (by kernel_rfl) (by kernel_rfl) (fun _ _ _ h => h) (Or.inl ⟨by rfl, fun V' hS => ?_⟩) hHeld ?_
            · go_simp
            simp only [Act.put, List.setIfInBounds_toArray, List.set_cons_zero, List.set_cons_succ]
            refine wpAnyH_take (i := 1) (v := .bool false) ov1 (by kernel_rfl) (by kernel_rfl) (by kernel_rfl) (fun _ _ _ h => h) (Or.inl ⟨by rfl, fun V' hS => ?_⟩) hHeld ?_
            · go_simp
            simp only [Act.put, List.setIfInBounds_toArray, List.set_cons_zero, List.set_cons_succ]
            refine wpAnyH_take (i := 2) (v := .bool false) ov2 (by kernel_rfl) (by kernel_rfl) (by kernel_rfl) (fun _ _ _ h => h) (Or.inl ⟨by rfl, fun V' hS => ?_⟩) hHeld ?_
            · go_simp
            simp only [Act.put, List.setIfInBounds_toArray, List.set_cons_zero, List.set_cons_succ]
            refine wpAnyH_take (i := 3) (v := .agg #[.int .u64 y.a, .int .u64 y.b, .int .u64 y.c, .int .u64 y.d]) ov3 (by kernel_rfl) (by kernel_rfl) (by kernel_rfl) (fun _ _ _ h => h) (Or.inl ⟨by rfl, fun V' hS => ?_⟩) hHeld ?_
            · obtain ⟨e0, e1, e2, e3, _⟩ := hS.1
              go_simp
            simp only [Act.put, List.setIfInBounds_toArray, List.set_cons_zero, List.set_cons_succ]
            refine wpAnyH_take (i := 4) (v := .slice (some ⟨go_, 0, none⟩) m co) ov4 (by kernel_rfl) (by kernel_rfl) (by kernel_rfl) (fun _ _ _ h => h) (Or.inl ⟨by rfl, fun V' hS => ?_⟩) hHeld ?_
            · go_simp
            simp only [Act.put, List.setIfInBounds_toArray, List.set_cons_zero, List.set_cons_succ]
            refine wpAnyH_take (i := 5) (v := .int .i64 (jm : Int)) ov5 (by kernel_rfl) (by kernel_rfl) (by kernel_rfl) (fun _ _ _ h => h) (Or.inl ⟨by rfl, fun V' hS => ?_⟩) hHeld ?_
            · go_simp
            simp only [Act.put, List.setIfInBounds_toArray, List.set_cons_zero, List.set_cons_succ]
            refine wpAnyH_take (i := 6) (v := .pointer (some ⟨go_, jm * 4, none⟩)) ov6 (by kernel_rfl) (by kernel_rfl) (by kernel_rfl) (fun _ _ _ h => h) (Or.inl ⟨by rfl, fun V' hS => ?_⟩) hHeld ?_
            · go_simp
            simp only [Act.put, List.setIfInBounds_toArray, List.set_cons_zero, List.set_cons_succ]
            refine wpAnyH_take (i := 7) (v := .agg #[.int .u64 y.a, .int .u64 y.b, .int .u64 y.c, .int .u64 y.d]) ov7 (by kernel_rfl) (by kernel_rfl) (by kernel_rfl) (fun _ _ _ h => h) (Or.inl ⟨by rfl, fun V' hS => ?_⟩) hHeld ?_
            · obtain ⟨e0, e1, e2, e3⟩ := hS.2
              go_simp
            simp only [Act.put, List.setIfInBounds_toArray, List.set_cons_zero, List.set_cons_succ]
            refine wpAnyH_take (i := 8) (v := .bool false) ov8 (by kernel_rfl) (by kernel_rfl) (by kernel_rfl) (fun _ _ _ h => h) (Or.inl ⟨by rfl, fun V' hS => ?_⟩) hHeld ?_
            · have hq := eqw_self y.a y.b y.c y.d V'
              go_simp
            simp only [Act.put, List.setIfInBounds_toArray, List.set_cons_zero, List.set_cons_succ]
            refine wpAnyH_take (i := 9) (v := .bool false) ov9 (by kernel_rfl) (by kernel_rfl) (by kernel_rfl) (fun _ _ _ h => h) (Or.inl ⟨by rfl, fun V' hS => ?_⟩) hHeld ?_
            · go_simp
            simp only [Act.put, List.setIfInBounds_toArray, List.set_cons_zero, List.set_cons_succ]
            refine wpAnyH_done (by kernel_rfl) ?_ _
            go_wp2
            go_roundw
            case rel => exact ⟨jm, by omega, by first | rfl | simp, L6.out⟩
            case measure => have := EJ.out; (first | (simp [intOf]; done) | (simp [intOf]; omega))
          · obtain rfl : j = 0 := by omega
            have PO : Hid (Calls Try.prog 31 #[.pointer (some ⟨b, 0, none⟩)] wr fun e w' => e = .returned (.tuple #[w0.v, .int .i64 90]) ∧ Stk w' b 0 4096 f 0 ∧ Only b wr w') := pop_is wr b f 0 L4.out.st
            have LN : Hid (∀ W, Stk W b 0 4096 f 0 → Calls Try.prog 27 #[.pointer (some ⟨b, 0, none⟩)] W fun e w' => e = .returned (.int .i64 0) ∧ w' = W) := fun W hW => len_is W b f _ hW
            go_upto_region 25 with (go_at_call 31; refine (PO.out).mono ?_; rintro e v4 ⟨rfl, h1, h2⟩; (have L5 : Hid (LF w v4 b B (.slice ao m co) f 0 m x) := L4.out.call h1 h2); clear h1 h2 PO L4; unfold W4.v w0)
            have W1 : Hid (Wd (v4.alloc (zo 30)) v4.heap.size 0 w0) := Wd.new v4 _ w0
            replace L5 : Hid (LF w (v4.alloc (zo 30)) b B (.slice ao m co) f 0 m x) := L5.out.alloc _
            change Code.wp _ _ _ _ (v4.alloc (zo 30))
            generalize v4.alloc (zo 30) = v5 at L5 W1 ⊢
            generalize v4.heap.size = bx at W1 ⊢
            obtain ⟨e0, e1, e2, e3, _⟩ := W1.out
            unfold w0 at e0 e1 e2 e3
            have hq := fun W => eqw_self 0 0 0 0 W
            go_wp2_with (first | (go_at_call 27; refine (LN.out _ L5.out.st).mono ?_; rintro e w' ⟨rfl, hw⟩; (have hw2 := hw.symm); clear hw LN; subst hw2) | (go_at_call 12; refine (awake_is _).mono ?_; rintro e v7 ⟨rfl, h1⟩; (have HE : Hid (Below w.heap.size w v7) := L5.out.bel.trans (h1.mono L5.out.bel.size)); clear h1))
            go_ret
            exact ⟨rfl, HE.out⟩
end Go.Proofs.Ytdddmebihkdkjaa
