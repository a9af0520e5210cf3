/- UndoMany. -/
import Derived.Test.YtohfkgfjcnldaaaTyf
namespace Go.Proofs.Ytohfkgfjcnldaaa
open Go.RowKit Go.Shelf
set_option maxHeartbeats 4000000 in
set_option maxRecDepth 100000 in
theorem undoMany_walk (w : World) (x y : Int) (_ : -9223372036854775808 ≤ x ∧ x ≤ 9223372036854775807) (_ : -9223372036854775808 ≤ y ∧ y ≤ 9223372036854775807) : Calls Try.prog 12 #[.int .i64 x, .int .i64 y] w fun e w' => e = .returned (.bool true) ∧ Below w.heap.size w w' := by
  obtain ⟨r, hr, er⟩ := and10 x
  obtain ⟨s, hs, es⟩ := and10 y
  obtain ⟨n, en⟩ : ∃ n : Nat, (1 : Int) + (r : Int) = (n : Int) := ⟨1 + r, by omega⟩
  have nX : (n : Int) ≤ 1024 := by omega
  have n0 : (0 : Int) < (n : Int) := by omega
  have wn : IntKind.i64.wrap (n : Int) = (n : Int) := by rw [IntKind.wrap_i64]; omega
  go_enter Try.func12, Try.ntmps12
  go_upto_region 2 with fail
  clear er en wn
  go_upto_region 3 with (go_at_call 37; refine (U0.new w 0).mono ?_; rintro e v1 ⟨b, rfl, h1⟩; (have T1 : Hid (U0 w v1 b 0 (mA n 0) (mH n 0)) := h1); clear h1)
  go_wp2
  go_loopw [6] (fun si wr => ∃ (i : Nat), i ≤ n ∧ si = .int .i64 (i : Int) ∧ U0 w wr b (2 * i) (mA n i) (mH n i)) (fun si _ => n - (intOf si).toNat)
  case atStart => exact ⟨0, by omega, rfl, T1.out⟩
  case round =>
    obtain ⟨i, hi, rfl, hA⟩ := hrel
    have A0 : Hid (U0 w wr b (2 * i) (mA n i) (mH n i)) := hA
    clear hA T1
    by_cases hin : i < n
    · have iI : (i : Int) < (n : Int) := by omega
      have e1 : (i : Int) * 7 = ((i * 7 : Nat) : Int) := by omega
      have e2 : IntKind.i64.wrap ((i * 7 : Nat) : Int) = ((i * 7 : Nat) : Int) := by rw [IntKind.wrap_i64]; omega
      have e3 : Int.tmod ((i * 7 : Nat) : Int) (n : Int) = ((i * 7 % n : Nat) : Int) := rfl
      have kl : i * 7 % n < 1024 := Nat.lt_of_lt_of_le (Nat.mod_lt _ (by omega)) (by omega)
      have C1 : Hid (Calls Try.prog 39 #[.pointer (some ⟨b, 0, none⟩), .int .i64 ((i * 7 % n : Nat) : Int), .int .i64 (i : Int)] wr fun e w' => e = .returned (.tuple #[]) ∧ U0 w w' b (2 * i + 1) (mA n (i + 1)) (mH n i)) := A0.out.t fun ow ht => set1 wr ow 1 b (2 * i) _ _ ht _ _ (by unfold I64; omega) (by omega)
      generalize hk : i * 7 % n = kk at C1 e3 kl
      generalize hj : i * 7 = jj at e1 e2 e3
      clear hk hj
      have wk : IntKind.i64.wrap (kk : Int) = (kk : Int) := by rw [IntKind.wrap_i64]; omega
      go_upto_region 9 with (go_at_call 39; refine (C1.out).mono ?_; rintro e w4 ⟨rfl, h4⟩; (have L4 : Hid (U0 w w4 b (2 * i + 1) (mA n (i + 1)) (mH n i)) := h4); clear h4)
      have C2 : Hid (Calls Try.prog 42 #[.pointer (some ⟨b, 0, none⟩)] w4 fun e w' => e = .returned (.int .i64 (i : Int)) ∧ U0 w w' b (2 * i + 1 + 1) (mA n (i + 1)) (mH n (i + 1))) := by
        have := L4.out.t fun ow ht => mark1 w4 ow 1 b (2 * i + 1) _ _ ht (by omega)
        rw [mH_len, mH_succ] at this
        exact this
      clear e1 e2 e3 wk
      go_wp2_with (go_at_call 42; refine (C2.out).mono ?_; rintro e w5 ⟨rfl, h4⟩; (have L5 : Hid (U0 w w5 b (2 * i + 1 + 1) (mA n (i + 1)) (mH n (i + 1))) := h4); clear h4)
      go_roundw
      case rel => exact ⟨i + 1, by omega, by go_num, L5.out⟩
      case measure => simp [intOf]; omega
    · obtain rfl : i = n := by omega
      have iI : ¬ (i : Int) < (i : Int) := by omega
      go_upto_region 11 with fail
      go_upto_region 12 with (go_at_call 40; refine (A0.out.seen (by omega)).mono ?_; rintro e v1 ⟨ka, kc, va, vc, rfl, h1⟩)
      obtain ⟨m, em⟩ : ∃ m, (mA i i).length = m := ⟨_, rfl⟩
      rw [em] at h1 ⊢
      clear em
      change Code.wp _ _ _ _ (v1.alloc (.cells #[.slice ka m kc, .slice va m vc] 67))
      have V2 : Hid (UV w (v1.alloc (.cells #[.slice ka m kc, .slice va m vc] 67)) b v1.heap.size (2 * i) (mA i i) (mH i i) (.slice ka m kc) (.slice va m vc) (mA i i)) := h1
      clear h1 A0
      generalize v1.alloc (.cells #[.slice ka m kc, .slice va m vc] 67) = v2 at V2 ⊢
      generalize v1.heap.size = xb at V2 ⊢
      go_upto_region 13 with (go_at_call 37; refine (V2.out.newU).mono ?_; rintro e v3 ⟨u, rfl, h1⟩; (have V3 : Hid (UW w v3 b u (2 * i) (mA i i) (mH i i) (mA i 0) [] xb (.slice ka m kc) (.slice va m vc) (mA i i)) := h1); clear h1 V2)
      have f3 : Int.tmod (s : Int) (i : Int) = ((s % i : Nat) : Int) := rfl
      have bl : s % i < i := Nat.mod_lt _ (by omega)
      generalize s % i = bb at f3 bl
      have wb : IntKind.i64.wrap (bb : Int) = (bb : Int) := by rw [IntKind.wrap_i64]; omega
      clear iI hi hin
      go_upto_region 16 with fail
      clear f3 wb es
      go_wp2
      go_loopw [10] (fun si wr => ∃ (j : Nat), j ≤ bb + 1 ∧ si = .int .i64 (j : Int) ∧ UW w wr b u (2 * i + j) (mA i i) (mH i i) (mA i j) [] xb (.slice ka m kc) (.slice va m vc) (mA i i)) (fun si _ => bb + 1 - (intOf si).toNat)
      case atStart => exact ⟨0, by omega, rfl, V3.out⟩
      case round =>
        obtain ⟨j, hj, rfl, hA⟩ := hrel
        have A0 : Hid (UW w wr b u (2 * i + j) (mA i i) (mH i i) (mA i j) [] xb (.slice ka m kc) (.slice va m vc) (mA i i)) := hA
        clear hA V3
        by_cases hin : j ≤ bb
        · have iI : (j : Int) ≤ (bb : Int) := by omega
          have e1 : (j : Int) * 7 = ((j * 7 : Nat) : Int) := by omega
          have e2 : IntKind.i64.wrap ((j * 7 : Nat) : Int) = ((j * 7 : Nat) : Int) := by rw [IntKind.wrap_i64]; omega
          have e3 : Int.tmod ((j * 7 : Nat) : Int) (i : Int) = ((j * 7 % i : Nat) : Int) := rfl
          have kl : j * 7 % i < 1024 := Nat.lt_of_lt_of_le (Nat.mod_lt _ (by omega)) (by omega)
          have C1 : Hid (Calls Try.prog 39 #[.pointer (some ⟨u, 0, none⟩), .int .i64 ((j * 7 % i : Nat) : Int), .int .i64 (j : Int)] wr fun e w' => e = .returned (.tuple #[]) ∧ UW w w' b u (2 * i + j + 1) (mA i i) (mH i i) (mA i (j + 1)) [] xb (.slice ka m kc) (.slice va m vc) (mA i i)) := A0.out.u fun ow ht => set1 wr ow 2 u (2 * i + j) _ _ ht _ _ (by unfold I64; omega) (by omega)
          generalize hk : j * 7 % i = kk at C1 e3 kl
          generalize hj : j * 7 = jj at e1 e2 e3
          clear hk hj
          have wk : IntKind.i64.wrap (kk : Int) = (kk : Int) := by rw [IntKind.wrap_i64]; omega
          go_wp2_with (go_at_call 39; refine (C1.out).mono ?_; rintro e w4 ⟨rfl, h4⟩; (have L4 : Hid (UW w w4 b u (2 * i + j + 1) (mA i i) (mH i i) (mA i (j + 1)) [] xb (.slice ka m kc) (.slice va m vc) (mA i i)) := h4); clear h4 e1 e2 e3 wk)
          go_roundw
          case rel => exact ⟨j + 1, by omega, by go_num, L4.out⟩
          case measure => simp [intOf]; omega
        · obtain rfl : j = bb + 1 := by omega
          have iI : ¬ ((bb + 1 : Nat) : Int) ≤ (bb : Int) := by omega
          have K1 : Hid (Calls Try.prog 45 #[.pointer (some ⟨b, 0, none⟩), .int .i64 (i : Int)] wr fun e w' => e = .returned (.int .i64 30) ∧ UW w w' b u (2 * i + (bb + 1) + 1) (mA i i) (mH i i) (mA i (bb + 1)) [] xb (.slice ka m kc) (.slice va m vc) (mA i i)) := by
            have := A0.out.t fun ow ht => back1 wr ow 1 b (2 * i + (bb + 1)) _ _ ht (i : Int) (by omega)
            rw [(mH_stay i).1, (mH_stay i).2.1, (mH_stay i).2.2] at this
            exact this
          have K2 : Hid (∀ W, UW w W b u (2 * i + (bb + 1) + 1) (mA i i) (mH i i) (mA i (bb + 1)) [] xb (.slice ka m kc) (.slice va m vc) (mA i i) → W.cell? ⟨xb, 0, none⟩ = some (.slice ka m kc) ∧ W.cell? ⟨xb, 1, none⟩ = some (.slice va m vc)) := fun W h => ⟨h.bx.cell 0, h.bx.cell 1⟩
          have K3 : Hid (∀ W, UW w W b u (2 * i + (bb + 1) + 1) (mA i i) (mH i i) (mA i (bb + 1)) [] xb (.slice ka m kc) (.slice va m vc) (mA i i) → Calls Try.prog 45 #[.pointer (some ⟨b, 0, none⟩), .int .i64 (bb : Int)] W fun e w' => e = .returned (.int .i64 0) ∧ UW w w' b u (2 * i + (bb + 1) + 1 + 1) (mA i (bb + 1)) (bkH (mH i i) (bb : Int)) (mA i (bb + 1)) [] xb (.slice ka m kc) (.slice va m vc) (mA i i)) := fun W h => by
            have := h.t fun ow ht => back1 W ow 1 b (2 * i + (bb + 1) + 1) _ _ ht (bb : Int) (by omega)
            rw [(mH_back i bb bl).1, (mH_back i bb bl).2.2] at this
            exact this
          have K4 : Hid ((bkH (mH i i) (bb : Int)).length = bb) := (mH_back i bb bl).2.1
          generalize bkH (mH i i) (bb : Int) = HB at K3 K4
          go_upto_region 20 with fail
          refine wp_region_lit ?_
          refine lst_val (v := .pointer (some ⟨b, 0, none⟩)) (by kernel_rfl) ?_ ?_
          · go_simp
          simp only [Act.put, List.setIfInBounds_toArray, List.set_cons_zero, List.set_cons_succ]
          refine lst_val (v := .int .i64 (i : Int)) (by kernel_rfl) ?_ ?_
          · go_simp
          simp only [Act.put, List.setIfInBounds_toArray, List.set_cons_zero, List.set_cons_succ]
          refine lst_call (by kernel_rfl) (by first | (go_simp; done) | (go_simp; first | exact rfl | exact ⟨rfl, rfl⟩ | exact ⟨rfl, rfl, rfl⟩)) (K1.out) ?_
          rintro e v4 ⟨rfl, h4⟩
          refine ⟨_, rfl, ?_⟩
          have V4 : Hid (UW w v4 b u (2 * i + (bb + 1) + 1) (mA i i) (mH i i) (mA i (bb + 1)) [] xb (.slice ka m kc) (.slice va m vc) (mA i i)) := h4
          clear h4 A0 K1
          obtain ⟨c0, c1⟩ := K2.out v4 V4.out
          simp only [Act.put, List.setIfInBounds_toArray, List.set_cons_zero, List.set_cons_succ]
          refine lst_val (v := .bool false) (by kernel_rfl) ?_ ?_
          · go_simp
          simp only [Act.put, List.setIfInBounds_toArray, List.set_cons_zero, List.set_cons_succ]
          refine lst_val (v := .bool false) (by kernel_rfl) ?_ ?_
          · go_simp
          simp only [Act.put, List.setIfInBounds_toArray, List.set_cons_zero, List.set_cons_succ]
          refine lst_val (v := .pointer (some ⟨b, 0, none⟩)) (by kernel_rfl) ?_ ?_
          · go_simp
          simp only [Act.put, List.setIfInBounds_toArray, List.set_cons_zero, List.set_cons_succ]
          refine lst_val (v := .agg #[.slice ka m kc, .slice va m vc]) (by kernel_rfl) ?_ ?_
          · go_simp
          simp only [Act.put, List.setIfInBounds_toArray, List.set_cons_zero, List.set_cons_succ]
          refine lst_call (by kernel_rfl) (by first | (go_simp; done) | (go_simp; first | exact rfl | exact ⟨rfl, rfl⟩ | exact ⟨rfl, rfl, rfl⟩)) (V4.out.tells (by omega)) ?_
          rintro e v5 ⟨rfl, h4⟩
          refine ⟨_, rfl, ?_⟩
          have V5 : Hid (UW w v5 b u (2 * i + (bb + 1) + 1) (mA i i) (mH i i) (mA i (bb + 1)) [] xb (.slice ka m kc) (.slice va m vc) (mA i i)) := h4
          clear h4 V4 c0 c1
          simp only [Act.put, List.setIfInBounds_toArray, List.set_cons_zero, List.set_cons_succ]
          refine lst_val (v := .bool false) (by kernel_rfl) ?_ ?_
          · go_simp
          simp only [Act.put, List.setIfInBounds_toArray, List.set_cons_zero, List.set_cons_succ]
          refine lst_val (v := .bool false) (by kernel_rfl) ?_ ?_
          · go_simp
          simp only [Act.put, List.setIfInBounds_toArray, List.set_cons_zero, List.set_cons_succ]
          refine lst_val (v := .bool false) (by kernel_rfl) ?_ ?_
          · go_simp
          simp only [Act.put, List.setIfInBounds_toArray, List.set_cons_zero, List.set_cons_succ]
          refine lst_val (v := .pointer (some ⟨b, 0, none⟩)) (by kernel_rfl) ?_ ?_
          · go_simp
          simp only [Act.put, List.setIfInBounds_toArray, List.set_cons_zero, List.set_cons_succ]
          refine lst_val (v := .int .i64 (bb : Int)) (by kernel_rfl) ?_ ?_
          · go_simp
          simp only [Act.put, List.setIfInBounds_toArray, List.set_cons_zero, List.set_cons_succ]
          refine lst_call (by kernel_rfl) (by first | (go_simp; done) | (go_simp; first | exact rfl | exact ⟨rfl, rfl⟩ | exact ⟨rfl, rfl, rfl⟩)) (K3.out v5 V5.out) ?_
          rintro e v6 ⟨rfl, h4⟩
          refine ⟨_, rfl, ?_⟩
          have V6 : Hid (UW w v6 b u (2 * i + (bb + 1) + 1 + 1) (mA i (bb + 1)) HB (mA i (bb + 1)) [] xb (.slice ka m kc) (.slice va m vc) (mA i i)) := h4
          clear h4 V5 K3
          have M6 : Hid (Calls Try.prog 41 #[.pointer (some ⟨b, 0, none⟩)] v6 fun e w' => e = .returned (.int .i64 (bb : Int)) ∧ w' = v6) := by have := V6.out.marks; rw [K4.out] at this; exact this
          simp only [Act.put, List.setIfInBounds_toArray, List.set_cons_zero, List.set_cons_succ]
          refine lst_val (v := .bool false) (by kernel_rfl) ?_ ?_
          · go_simp
          simp only [Act.put, List.setIfInBounds_toArray, List.set_cons_zero, List.set_cons_succ]
          refine lst_val (v := .bool false) (by kernel_rfl) ?_ ?_
          · go_simp
          simp only [Act.put, List.setIfInBounds_toArray, List.set_cons_zero, List.set_cons_succ]
          refine lst_val (v := .bool false) (by kernel_rfl) ?_ ?_
          · go_simp
          simp only [Act.put, List.setIfInBounds_toArray, List.set_cons_zero, List.set_cons_succ]
          refine lst_val (v := .pointer (some ⟨b, 0, none⟩)) (by kernel_rfl) ?_ ?_
          · go_simp
          simp only [Act.put, List.setIfInBounds_toArray, List.set_cons_zero, List.set_cons_succ]
          refine lst_call (by kernel_rfl) (by first | (go_simp; done) | (go_simp; first | exact rfl | exact ⟨rfl, rfl⟩ | exact ⟨rfl, rfl, rfl⟩)) (M6.out) ?_
          rintro e w' ⟨rfl, hw⟩
          have hw2 := hw.symm
          clear hw
          subst hw2
          refine ⟨_, rfl, ?_⟩
          simp only [Act.put, List.setIfInBounds_toArray, List.set_cons_zero, List.set_cons_succ]
          refine lst_val (v := .int .i64 (bb : Int)) (by kernel_rfl) ?_ ?_
          · go_simp
          simp only [Act.put, List.setIfInBounds_toArray, List.set_cons_zero, List.set_cons_succ]
          refine lst_val (v := .bool false) (by kernel_rfl) ?_ ?_
          · go_simp
          simp only [Act.put, List.setIfInBounds_toArray, List.set_cons_zero, List.set_cons_succ]
          refine lst_val (v := .bool false) (by kernel_rfl) ?_ ?_
          · go_simp
          simp only [Act.put, List.setIfInBounds_toArray, List.set_cons_zero, List.set_cons_succ]
          refine wpList_nil ?_
          go_upto_region 22 with fail
          generalize mA i (bb + 1) = AB at V6
          have SU : Hid (Calls Try.prog 40 #[.pointer (some ⟨u, 0, none⟩)] v6 fun e w' => ∃ ka' kc' va' vc' m', e = .returned (.agg #[.slice ka' m' kc', .slice va' m' vc']) ∧ Below w.heap.size w w' ∧ Calls Try.prog 46 #[.pointer (some ⟨b, 0, none⟩), .agg #[.slice ka' m' kc', .slice va' m' vc']] w' fun e w2 => e = .returned (.bool true) ∧ Below w.heap.size w w2) := by
            refine (V6.out.seenU (by omega)).mono ?_
            rintro e w' ⟨ka', kc', va', vc', rfl, q1, q2⟩
            exact ⟨ka', kc', va', vc', _, rfl, q1.bel, q2.mono fun e w2 h => ⟨h.1, h.2.bel⟩⟩
          go_wp2_with (first | (go_at_call 40; refine (SU.out).mono ?_; rintro e w7 ⟨ka', kc', va', vc', m', rfl, q1, q2⟩; (have TL : Hid (Calls Try.prog 46 #[.pointer (some ⟨b, 0, none⟩), .agg #[.slice ka' m' kc', .slice va' m' vc']] w7 fun e w2 => e = .returned (.bool true) ∧ Below w.heap.size w w2) := q2); clear q1 q2) | (go_at_call 46; refine (TL.out).mono ?_; rintro e w8 ⟨rfl, q1⟩; (have B8 : Hid (Below w.heap.size w w8) := q1); clear q1) | (go_at_call 13; refine (awake_is w8).mono ?_; rintro e w9 ⟨rfl, q1⟩; (have B9 : Hid (Below w.heap.size w w9) := B8.out.trans (q1.mono B8.out.size)); clear q1))
          go_ret
          exact ⟨rfl, B9.out⟩
end Go.Proofs.Ytohfkgfjcnldaaa
