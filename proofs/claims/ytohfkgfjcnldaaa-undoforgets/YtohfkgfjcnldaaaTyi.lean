/- UndoForgets. -/
import Derived.Test.YtohfkgfjcnldaaaTyh
namespace Go.Proofs.Ytohfkgfjcnldaaa
open Go.RowKit Go.Shelf
set_option maxHeartbeats 8000000 in
set_option maxRecDepth 100000 in
theorem undoForgets_walk (w : World) (v1 : Value) (n1 : Nat) (x1 : Nat → OpR) (v2 : Value) (n2 : Nat) (x2 : Nat → OpR) (v3 : Value) (n3 : Nat) (x3 : Nat → OpR) (hv1 : OpsAt w v1 n1 x1) (hn1 : n1 ≤ 4398046511104) (hv2 : OpsAt w v2 n2 x2) (hn2 : n2 ≤ 4398046511104) (hv3 : OpsAt w v3 n3 x3) (hn3 : n3 ≤ 4398046511104) : Calls Try.prog 7 #[v1, v2, v3] w fun e w' => e = .returned (.bool true) ∧ Below w.heap.size w w' := by
  obtain ⟨a1, p1, rfl, hx1⟩ := hv1
  obtain ⟨a2, p2, rfl, hx2⟩ := hv2
  obtain ⟨a3, p3, rfl, hx3⟩ := hv3
  have X1 : Hid (0 < n1 → ∃ g a, a1 = some ⟨g, a, none⟩ ∧ ∀ i, i < n1 → OpAt w g (a + i * 4) (x1 i) ∧ OpOk (x1 i)) := hx1
  have X2 : Hid (0 < n2 → ∃ g a, a2 = some ⟨g, a, none⟩ ∧ ∀ i, i < n2 → OpAt w g (a + i * 4) (x2 i) ∧ OpOk (x2 i)) := hx2
  have X3 : Hid (0 < n3 → ∃ g a, a3 = some ⟨g, a, none⟩ ∧ ∀ i, i < n3 → OpAt w g (a + i * 4) (x3 i) ∧ OpOk (x3 i)) := hx3
  clear hx1 hx2 hx3
  by_cases hb1 : (1048576 : Int) < (n1 : Int)
  · go_enter Try.func7, Try.ntmps7
    go_wp2
    go_ret
    exact ⟨rfl, Below.refl _ _⟩
  by_cases hb2 : (1048576 : Int) < (n2 : Int)
  · go_enter Try.func7, Try.ntmps7
    go_wp2
    go_ret
    exact ⟨rfl, Below.refl _ _⟩
  by_cases hb3 : (1048576 : Int) < (n3 : Int)
  · go_enter Try.func7, Try.ntmps7
    go_wp2
    go_ret
    exact ⟨rfl, Below.refl _ _⟩
  go_enter Try.func7, Try.ntmps7
  go_upto_region 4 with (go_at_call 37; refine (U0.new w 0).mono ?_; rintro e w1 ⟨b, rfl, h1⟩; (have T1 : Hid (U0 w w1 b 0 [] []) := h1); clear h1)
  go_upto_region 5 with (go_at_call 37; refine (T1.out.newU).mono ?_; rintro e w2 ⟨u, rfl, h1⟩; (have T2 : Hid (U2 w w2 b u 0 [] [] [] []) := h1); clear h1 T1)
  go_wp2
  have B1 : Hid (n1 ≤ 1048576 ∧ n2 ≤ 1048576 ∧ n3 ≤ 1048576) := ⟨by omega, by omega, by omega⟩
  go_loopw [9] (fun si wr => ∃ (i : Nat) (A : List (Int × Int)) (H : List (List (Int × Int))), i ≤ n1 ∧ si = .int .i64 (i : Int) ∧ U2 w wr b u (2 * i) A H A H) (fun si _ => n1 - (intOf si).toNat)
  case atStart => exact ⟨0, _, _, by omega, rfl, T2.out⟩
  case round =>
    obtain ⟨i, A, H, hi, rfl, hA⟩ := hrel
    have A0 : Hid (U2 w wr b u (2 * i) A H A H) := hA
    clear hA T2
    by_cases hin : i < n1
    · have iI : (i : Int) < (n1 : Int) := by omega
      obtain ⟨g, a, rfl, ok0, dc⟩ := ops_at X1.out hin
      generalize (x1 i) = op at ok0 dc
      obtain ⟨kd, tw, ok, ov⟩ := op
      have OK : Hid (I64 ok) := ok0
      have DC : Hid (∀ W, Below w.heap.size w W → W.cell? ⟨g, a + i * 4, none⟩ = some (.int .i64 kd) ∧ W.cell? ⟨g, a + i * 4 + 1, none⟩ = some (.bool tw) ∧ W.cell? ⟨g, a + i * 4 + 2, none⟩ = some (.int .i64 ok) ∧ W.cell? ⟨g, a + i * 4 + 3, none⟩ = some (.int .i64 ov)) := dc
      clear ok0 dc
      obtain ⟨d0, d1, d2, d3⟩ := DC.out wr A0.out.bel
      go_upto_region 11 with (go_at_call 38; refine (A0.out.doT (by have := B1.out; omega) kd tw ok ov OK.out).mono ?_; rintro e w4 ⟨rfl, h4⟩; (have L4 : Hid (U2 w w4 b u (2 * i + 1) (nxA kd ok ov A H) (nxH kd ok A H) A H) := h4); clear h4)
      clear d0 d1 d2 d3
      obtain ⟨d0, d1, d2, d3⟩ := DC.out w4 L4.out.bel
      go_wp2_with (go_at_call 38; refine (L4.out.doU (by have := B1.out; omega) kd tw ok ov OK.out).mono ?_; rintro e w5 ⟨rfl, h4⟩; (have L5 : Hid (U2 w w5 b u (2 * i + 1 + 1) (nxA kd ok ov A H) (nxH kd ok A H) (nxA kd ok ov A H) (nxH kd ok A H)) := h4); clear h4)
      go_roundw
      case rel => exact ⟨i + 1, _, _, by omega, by go_num, L5.out⟩
      case measure => simp [intOf]; omega
    · have iI : ¬ (i : Int) < (n1 : Int) := by omega
      have B2 : Hid (i ≤ 1048576) := by have := B1.out; show _ ≤ _; omega
      obtain ⟨m, em⟩ : ∃ m, H.length = m := ⟨_, rfl⟩
      have EM : Hid (H.length = m) := em
      clear em
      go_upto_region 12 with fail
      go_upto_region 13 with (go_at_call 42; refine (A0.out.t fun ow ht => mv_mo (mark1 wr ow 1 b (2 * i) A H ht (by have := B2.out; omega))).mono ?_; rintro e w3 ⟨rfl, h1⟩; rw [EM.out]; (have T3 : Hid (U2 w w3 b u (2 * i + 1) A (H ++ [A]) A H) := h1); clear h1)
      have MX : Hid (m ≤ 2 * i) := by have := A0.out.ex; obtain ⟨ow, t1, _⟩ := this; have := t1.lH; rw [EM.out] at this; exact this
      have mX : (m : Int) ≤ 2097152 := by have := MX.out; have := B2.out; omega
      clear iI hi hin A0
      generalize hN0 : 2 * i + 1 = N0 at T3
      have BN : Hid (N0 ≤ 2097153 ∧ n2 ≤ 1048576 ∧ n3 ≤ 1048576) := ⟨by have := B2.out; omega, B1.out.2⟩
      clear hN0 MX B2
      go_wp2
      go_loopw [11] (fun si wr => ∃ (j : Nat) (A : List (Int × Int)) (HT : List (List (Int × Int))), j ≤ n2 ∧ si = .int .i64 (j : Int) ∧ U2 w wr b u (N0 + 3 * j) A HT A H ∧ HT.take m = H ∧ m < HT.length) (fun si _ => n2 - (intOf si).toNat)
      case atStart => exact ⟨0, _, _, by omega, rfl, T3.out, by rw [take_app (by rw [EM.out]; exact Nat.le_refl _), List.take_of_length_le (by rw [EM.out]; exact Nat.le_refl _)], by rw [List.length_append, EM.out]; exact Nat.lt_succ_self _⟩
      case round =>
        clear T3
        obtain ⟨i, A, HT, hi, rfl, hA, ht1, ht2⟩ := hrel
        have A0 : Hid (U2 w wr b u (N0 + 3 * i) A HT A H) := hA
        have HH : Hid (HT.take m = H ∧ m < HT.length) := ⟨ht1, ht2⟩
        clear hA ht1 ht2
        by_cases hin : i < n2
        · have iI : (i : Int) < (n2 : Int) := by omega
          obtain ⟨g, a, rfl, ok0, dc⟩ := ops_at X2.out hin
          generalize (x2 i) = op at ok0 dc
          obtain ⟨kd, tw, ok, ov⟩ := op
          have OK : Hid (I64 ok) := ok0
          have DC : Hid (∀ W, Below w.heap.size w W → W.cell? ⟨g, a + i * 4, none⟩ = some (.int .i64 kd) ∧ W.cell? ⟨g, a + i * 4 + 1, none⟩ = some (.bool tw) ∧ W.cell? ⟨g, a + i * 4 + 2, none⟩ = some (.int .i64 ok) ∧ W.cell? ⟨g, a + i * 4 + 3, none⟩ = some (.int .i64 ov)) := dc
          clear ok0 dc
          obtain ⟨d0, d1, d2, d3⟩ := DC.out wr A0.out.bel
          go_upto_region 17 with fail
          clear d0 d1 d2 d3
          change Code.wp _ _ _ _ (wr.alloc (.cells #[.int .i64 kd, .bool tw, .int .i64 ok, .int .i64 ov] 30))
          by_cases h12 : kd = 1 ∨ kd = 2
          · have C0 : Hid (U2B w (wr.alloc (.cells #[.int .i64 kd, .bool tw, .int .i64 ok, .int .i64 ov] 30)) b u (N0 + 3 * i) A HT A H wr.heap.size 30 [.int .i64 kd, .bool tw, .int .i64 ok, .int .i64 ov]) := A0.out.box _ [.int .i64 kd, .bool tw, .int .i64 ok, .int .i64 ov]
            have C1 : Hid (∀ W ob, U2B w W b u (N0 + 3 * i) A HT A H ob 30 [.int .i64 kd, .bool tw, .int .i64 ok, .int .i64 ov] → Calls Try.prog 38 #[.pointer (some ⟨b, 0, none⟩), .agg #[.int .i64 kd, .bool tw, .int .i64 ok, .int .i64 ov]] W fun e w' => e = .returned (.tuple #[]) ∧ U2B w w' b u (N0 + 3 * i + 1) (nxA kd ok ov A H) HT A H ob 30 [.int .i64 kd, .bool tw, .int .i64 ok, .int .i64 ov]) := fun W ob hW => by
              have := hW.doT (by have := BN.out; omega) kd tw ok ov OK.out
              rw [(nx_hist (k := ok) (v := ov) h12 A HT H).2, (nx_hist (k := ok) (v := ov) h12 A HT H).1] at this
              exact this
            have C2 : Hid (∀ W ob, U2B w W b u (N0 + 3 * i + 1) (nxA kd ok ov A H) HT A H ob 30 [.int .i64 kd, .bool tw, .int .i64 ok, .int .i64 ov] → Calls Try.prog 38 #[.pointer (some ⟨u, 0, none⟩), .agg #[.int .i64 kd, .bool tw, .int .i64 ok, .int .i64 ov]] W fun e w' => e = .returned (.tuple #[]) ∧ U2B w w' b u (N0 + 3 * i + 1 + 1) (nxA kd ok ov A H) HT (nxA kd ok ov A H) H ob 30 [.int .i64 kd, .bool tw, .int .i64 ok, .int .i64 ov]) := fun W ob hW => by
              have := hW.doU (by have := BN.out; omega) kd tw ok ov OK.out
              rw [(nx_hist (k := ok) (v := ov) h12 A H H).2] at this
              exact this
            generalize nxA kd ok ov A H = A' at C1 C2
            generalize wr.alloc (.cells #[.int .i64 kd, .bool tw, .int .i64 ok, .int .i64 ov] 30) = z1 at C0 ⊢
            generalize wr.heap.size = ob at C0 ⊢
            have e0 : z1.cell? ⟨ob, 0, none⟩ = some (.int .i64 kd) := C0.out.bx.cell 0
            have e1 : z1.cell? ⟨ob, 1, none⟩ = some (.bool tw) := C0.out.bx.cell 1
            have e2 : z1.cell? ⟨ob, 2, none⟩ = some (.int .i64 ok) := C0.out.bx.cell 2
            have e3 : z1.cell? ⟨ob, 3, none⟩ = some (.int .i64 ov) := C0.out.bx.cell 3
            have K3 : ¬ kd = 3 := by omega
            rcases h12 with h12 | h12
            · subst h12
              go_upto_region 19 with (go_at_call 38; refine (C1.out z1 ob C0.out).mono ?_; rintro e w4 ⟨rfl, h4⟩; (have L4 : Hid (U2B w w4 b u (N0 + 3 * i + 1) A' HT A H ob 30 [.int .i64 1, .bool tw, .int .i64 ok, .int .i64 ov]) := h4); clear h4)
              clear e0 e1 e2 e3
              have e0 : w4.cell? ⟨ob, 0, none⟩ = some (.int .i64 1) := L4.out.bx.cell 0
              have e1 : w4.cell? ⟨ob, 1, none⟩ = some (.bool tw) := L4.out.bx.cell 1
              have e2 : w4.cell? ⟨ob, 2, none⟩ = some (.int .i64 ok) := L4.out.bx.cell 2
              have e3 : w4.cell? ⟨ob, 3, none⟩ = some (.int .i64 ov) := L4.out.bx.cell 3
              go_upto_region 20 with (go_at_call 38; refine (C2.out w4 ob L4.out).mono ?_; rintro e w5 ⟨rfl, h4⟩; (have L5 : Hid (U2B w w5 b u (N0 + 3 * i + 1 + 1) A' HT A' H ob 30 [.int .i64 1, .bool tw, .int .i64 ok, .int .i64 ov]) := h4); clear h4)
              clear e0 e1 e2 e3
              have e0 : w5.cell? ⟨ob, 0, none⟩ = some (.int .i64 1) := L5.out.bx.cell 0
              go_wp2
              go_roundw
              case rel => exact ⟨i + 1, _, _, by omega, by go_num, L5.out.out.mono (by omega), HH.out⟩
              case measure => simp [intOf]; omega
            · subst h12
              go_upto_region 19 with (go_at_call 38; refine (C1.out z1 ob C0.out).mono ?_; rintro e w4 ⟨rfl, h4⟩; (have L4 : Hid (U2B w w4 b u (N0 + 3 * i + 1) A' HT A H ob 30 [.int .i64 2, .bool tw, .int .i64 ok, .int .i64 ov]) := h4); clear h4)
              clear e0 e1 e2 e3
              have e0 : w4.cell? ⟨ob, 0, none⟩ = some (.int .i64 2) := L4.out.bx.cell 0
              have e1 : w4.cell? ⟨ob, 1, none⟩ = some (.bool tw) := L4.out.bx.cell 1
              have e2 : w4.cell? ⟨ob, 2, none⟩ = some (.int .i64 ok) := L4.out.bx.cell 2
              have e3 : w4.cell? ⟨ob, 3, none⟩ = some (.int .i64 ov) := L4.out.bx.cell 3
              go_upto_region 20 with (go_at_call 38; refine (C2.out w4 ob L4.out).mono ?_; rintro e w5 ⟨rfl, h4⟩; (have L5 : Hid (U2B w w5 b u (N0 + 3 * i + 1 + 1) A' HT A' H ob 30 [.int .i64 2, .bool tw, .int .i64 ok, .int .i64 ov]) := h4); clear h4)
              clear e0 e1 e2 e3
              have e0 : w5.cell? ⟨ob, 0, none⟩ = some (.int .i64 2) := L5.out.bx.cell 0
              go_wp2
              go_roundw
              case rel => exact ⟨i + 1, _, _, by omega, by go_num, L5.out.out.mono (by omega), HH.out⟩
              case measure => simp [intOf]; omega
          · have h1 : ¬ kd = 1 := fun e => h12 (Or.inl e)
            have h2 : ¬ kd = 2 := fun e => h12 (Or.inr e)
            clear h12
            have X0 : Hid (CBox (wr.alloc (.cells #[.int .i64 kd, .bool tw, .int .i64 ok, .int .i64 ov] 30)) wr.heap.size 30 [.int .i64 kd, .bool tw, .int .i64 ok, .int .i64 ov]) := CBox.new wr _ [_, _, _, _]
            have A1 : Hid (U2 w (wr.alloc (.cells #[.int .i64 kd, .bool tw, .int .i64 ok, .int .i64 ov] 30)) b u (N0 + 3 * i) A HT A H) := A0.out.past ((Below.refl _ _).alloc (Nat.le_refl _) _)
            generalize wr.alloc (.cells #[.int .i64 kd, .bool tw, .int .i64 ok, .int .i64 ov] 30) = z1 at A1 X0 ⊢
            generalize wr.heap.size = ob at X0 ⊢
            have e0 : z1.cell? ⟨ob, 0, none⟩ = some (.int .i64 kd) := X0.out.cell 0
            refine wp_region_lit ?_
            refine lst_val (v := .pointer (some ⟨ob, 0, none⟩)) (by kernel_rfl) ?_ ?_
            · go_simp
            simp only [Act.put, List.setIfInBounds_toArray, List.set_cons_zero, List.set_cons_succ]
            refine lst_val (v := .int .i64 kd) (by kernel_rfl) ?_ ?_
            · go_simp
            simp only [Act.put, List.setIfInBounds_toArray, List.set_cons_zero, List.set_cons_succ]
            refine lst_val (v := .bool false) (by kernel_rfl) ?_ ?_
            · go_simp
            simp only [Act.put, List.setIfInBounds_toArray, List.set_cons_zero, List.set_cons_succ]
            refine lst_val (v := .bool false) (by kernel_rfl) ?_ ?_
            · go_simp
            simp only [Act.put, List.setIfInBounds_toArray, List.set_cons_zero, List.set_cons_succ]
            refine lst_val (v := .pointer (some ⟨ob, 0, none⟩)) (by kernel_rfl) ?_ ?_
            · go_simp
            simp only [Act.put, List.setIfInBounds_toArray, List.set_cons_zero, List.set_cons_succ]
            refine lst_val (v := .int .i64 kd) (by kernel_rfl) ?_ ?_
            · go_simp
            simp only [Act.put, List.setIfInBounds_toArray, List.set_cons_zero, List.set_cons_succ]
            refine lst_val (v := .bool false) (by kernel_rfl) ?_ ?_
            · go_simp
            simp only [Act.put, List.setIfInBounds_toArray, List.set_cons_zero, List.set_cons_succ]
            refine lst_val (v := .bool false) (by kernel_rfl) ?_ ?_
            · go_simp
            simp only [Act.put, List.setIfInBounds_toArray, List.set_cons_zero, List.set_cons_succ]
            refine wpList_nil ?_
            by_cases h3 : kd = 3
            · subst h3
              go_wp2_with (go_at_call 42; refine (A1.out.t fun ow ht => mv_mo (mark1 z1 ow 1 b (N0 + 3 * i) A HT ht (by have := BN.out; omega))).mono ?_; rintro e w4 ⟨rfl, h4⟩; (have L4 : Hid (U2 w w4 b u (N0 + 3 * i + 1) A (HT ++ [A]) A H) := h4); clear h4)
              go_roundw
              case rel => exact ⟨i + 1, _, _, by omega, by go_num, L4.out.mono (by omega), by rw [take_app (by have := HH.out; omega)]; exact HH.out.1, by rw [List.length_append]; have := HH.out.2; omega⟩
              case measure => simp [intOf]; omega
            · go_wp2
              go_roundw
              case rel => exact ⟨i + 1, _, _, by omega, by go_num, A1.out.mono (by omega), HH.out⟩
              case measure => simp [intOf]; omega
        · have iI : ¬ (i : Int) < (n2 : Int) := by omega
          have B3 : Hid (i ≤ 1048576) := by have := BN.out; show _ ≤ _; omega
          have F1 : Hid (Calls Try.prog 47 #[.pointer (some ⟨b, 0, none⟩), .int .i64 (m : Int)] wr fun e w' => e = .returned (.int .i64 0) ∧ U2 w w' b u (N0 + 3 * i + 1) A H A H) := by
            have := A0.out.t fun ow ht => mv_mo (forget1 wr ow 1 b (N0 + 3 * i) A HT ht (m : Int) (by have := BN.out; have := B3.out; omega))
            rw [(bk_lt (A := A) HH.out.2).1, (bk_lt (A := A) HH.out.2).2.1, HH.out.1] at this
            exact this
          have F2 : Hid (∀ W, U2 w W b u (N0 + 3 * i + 1) A H A H → Calls Try.prog 47 #[.pointer (some ⟨b, 0, none⟩), .int .i64 (m : Int)] W fun e w' => e = .returned (.int .i64 30) ∧ U2 w w' b u (N0 + 3 * i + 1 + 1) A H A H) := fun W hW => by
            have := hW.t fun ow ht => mv_mo (forget1 W ow 1 b (N0 + 3 * i + 1) A H ht (m : Int) (by have := BN.out; have := B3.out; omega))
            rw [(bk_ge (A := A) (H := H) (m := m) (by rw [EM.out]; exact Nat.le_refl _)).1, (bk_ge (A := A) (H := H) (m := m) (by rw [EM.out]; exact Nat.le_refl _)).2.1] at this
            exact this
          have M1 : Hid (∀ W, U2 w W b u (N0 + 3 * i + 1) A H A H → Calls Try.prog 41 #[.pointer (some ⟨b, 0, none⟩)] W fun e w' => e = .returned (.int .i64 (m : Int)) ∧ w' = W) := fun W hW => by have := hW.marksT; rw [EM.out] at this; exact this
          have M2 : Hid (∀ W, U2 w W b u (N0 + 3 * i + 1) A H A H → Calls Try.prog 41 #[.pointer (some ⟨u, 0, none⟩)] W fun e w' => e = .returned (.int .i64 (m : Int)) ∧ w' = W) := fun W hW => by have := hW.marksU; rw [EM.out] at this; exact this
          go_upto_region 22 with fail
          refine wp_region_lit ?_
          refine lst_val (v := .pointer (some ⟨b, 0, none⟩)) (by kernel_rfl) ?_ ?_
          · go_simp
          simp only [Act.put, List.setIfInBounds_toArray, List.set_cons_zero, List.set_cons_succ]
          refine lst_val (v := .int .i64 (m : Int)) (by kernel_rfl) ?_ ?_
          · go_simp
          simp only [Act.put, List.setIfInBounds_toArray, List.set_cons_zero, List.set_cons_succ]
          refine lst_call (by kernel_rfl) (by first | (go_simp; done) | (go_simp; first | exact rfl | exact ⟨rfl, rfl⟩ | exact ⟨rfl, rfl, rfl⟩)) (F1.out) ?_
          rintro e v4 ⟨rfl, h4⟩
          refine ⟨_, rfl, ?_⟩
          have V4 : Hid (U2 w v4 b u (N0 + 3 * i + 1) A H A H) := h4
          clear h4
          simp only [Act.put, List.setIfInBounds_toArray, List.set_cons_zero, List.set_cons_succ]
          refine lst_val (v := .bool false) (by kernel_rfl) ?_ ?_
          · go_simp
          simp only [Act.put, List.setIfInBounds_toArray, List.set_cons_zero, List.set_cons_succ]
          refine lst_val (v := .bool false) (by kernel_rfl) ?_ ?_
          · go_simp
          simp only [Act.put, List.setIfInBounds_toArray, List.set_cons_zero, List.set_cons_succ]
          refine lst_val (v := .pointer (some ⟨b, 0, none⟩)) (by kernel_rfl) ?_ ?_
          · go_simp
          simp only [Act.put, List.setIfInBounds_toArray, List.set_cons_zero, List.set_cons_succ]
          refine lst_call (by kernel_rfl) (by first | (go_simp; done) | (go_simp; first | exact rfl | exact ⟨rfl, rfl⟩ | exact ⟨rfl, rfl, rfl⟩)) (M1.out v4 V4.out) ?_
          rintro e w' ⟨rfl, hw⟩
          have hw2 := hw.symm
          clear hw
          subst hw2
          refine ⟨_, rfl, ?_⟩
          simp only [Act.put, List.setIfInBounds_toArray, List.set_cons_zero, List.set_cons_succ]
          refine lst_val (v := .int .i64 (m : Int)) (by kernel_rfl) ?_ ?_
          · go_simp
          simp only [Act.put, List.setIfInBounds_toArray, List.set_cons_zero, List.set_cons_succ]
          refine lst_val (v := .bool false) (by kernel_rfl) ?_ ?_
          · go_simp
          simp only [Act.put, List.setIfInBounds_toArray, List.set_cons_zero, List.set_cons_succ]
          refine lst_val (v := .bool false) (by kernel_rfl) ?_ ?_
          · go_simp
          simp only [Act.put, List.setIfInBounds_toArray, List.set_cons_zero, List.set_cons_succ]
          refine lst_val (v := .bool false) (by kernel_rfl) ?_ ?_
          · go_simp
          simp only [Act.put, List.setIfInBounds_toArray, List.set_cons_zero, List.set_cons_succ]
          refine lst_val (v := .pointer (some ⟨u, 0, none⟩)) (by kernel_rfl) ?_ ?_
          · go_simp
          simp only [Act.put, List.setIfInBounds_toArray, List.set_cons_zero, List.set_cons_succ]
          refine lst_call (by kernel_rfl) (by first | (go_simp; done) | (go_simp; first | exact rfl | exact ⟨rfl, rfl⟩ | exact ⟨rfl, rfl, rfl⟩)) (M2.out v4 V4.out) ?_
          rintro e w' ⟨rfl, hw⟩
          have hw2 := hw.symm
          clear hw
          subst hw2
          refine ⟨_, rfl, ?_⟩
          simp only [Act.put, List.setIfInBounds_toArray, List.set_cons_zero, List.set_cons_succ]
          refine lst_val (v := .int .i64 (m : Int)) (by kernel_rfl) ?_ ?_
          · go_simp
          simp only [Act.put, List.setIfInBounds_toArray, List.set_cons_zero, List.set_cons_succ]
          refine lst_val (v := .bool false) (by kernel_rfl) ?_ ?_
          · go_simp
          simp only [Act.put, List.setIfInBounds_toArray, List.set_cons_zero, List.set_cons_succ]
          refine lst_val (v := .bool false) (by kernel_rfl) ?_ ?_
          · go_simp
          simp only [Act.put, List.setIfInBounds_toArray, List.set_cons_zero, List.set_cons_succ]
          refine lst_val (v := .bool false) (by kernel_rfl) ?_ ?_
          · go_simp
          simp only [Act.put, List.setIfInBounds_toArray, List.set_cons_zero, List.set_cons_succ]
          refine lst_val (v := .pointer (some ⟨b, 0, none⟩)) (by kernel_rfl) ?_ ?_
          · go_simp
          simp only [Act.put, List.setIfInBounds_toArray, List.set_cons_zero, List.set_cons_succ]
          refine lst_val (v := .int .i64 (m : Int)) (by kernel_rfl) ?_ ?_
          · go_simp
          simp only [Act.put, List.setIfInBounds_toArray, List.set_cons_zero, List.set_cons_succ]
          refine lst_call (by kernel_rfl) (by first | (go_simp; done) | (go_simp; first | exact rfl | exact ⟨rfl, rfl⟩ | exact ⟨rfl, rfl, rfl⟩)) (F2.out v4 V4.out) ?_
          rintro e v5 ⟨rfl, h4⟩
          refine ⟨_, rfl, ?_⟩
          have V5 : Hid (U2 w v5 b u (N0 + 3 * i + 1 + 1) A H A H) := h4
          clear h4 V4
          simp only [Act.put, List.setIfInBounds_toArray, List.set_cons_zero, List.set_cons_succ]
          refine lst_val (v := .bool false) (by kernel_rfl) ?_ ?_
          · go_simp
          simp only [Act.put, List.setIfInBounds_toArray, List.set_cons_zero, List.set_cons_succ]
          refine lst_val (v := .bool false) (by kernel_rfl) ?_ ?_
          · go_simp
          simp only [Act.put, List.setIfInBounds_toArray, List.set_cons_zero, List.set_cons_succ]
          refine wpList_nil ?_
          clear F1 F2 M1 M2 A0 HH iI hi hin
          generalize hN1 : N0 + 3 * i + 1 + 1 = N1 at V5
          have B5 : Hid (N1 ≤ 6291456 ∧ n3 ≤ 1048576) := ⟨by have := BN.out; have := B3.out; omega, BN.out.2.2⟩
          clear hN1 BN B3
          go_upto_region 24 with fail
          go_wp2
          go_loopw [13] (fun si wr => ∃ (j : Nat) (A : List (Int × Int)) (H : List (List (Int × Int))), j ≤ n3 ∧ si = .int .i64 (j : Int) ∧ U2 w wr b u (N1 + 2 * j) A H A H) (fun si _ => n3 - (intOf si).toNat)
          case atStart => exact ⟨0, _, _, by omega, rfl, V5.out⟩
          case round =>
            clear V5
            obtain ⟨i, A, H, hi, rfl, hA⟩ := hrel
            have A0 : Hid (U2 w wr b u (N1 + 2 * i) A H A H) := hA
            clear hA
            by_cases hin : i < n3
            · have iI : (i : Int) < (n3 : Int) := by omega
              obtain ⟨g, a, rfl, ok0, dc⟩ := ops_at X3.out hin
              generalize (x3 i) = op at ok0 dc
              obtain ⟨kd, tw, ok, ov⟩ := op
              have OK : Hid (I64 ok) := ok0
              have DC : Hid (∀ W, Below w.heap.size w W → W.cell? ⟨g, a + i * 4, none⟩ = some (.int .i64 kd) ∧ W.cell? ⟨g, a + i * 4 + 1, none⟩ = some (.bool tw) ∧ W.cell? ⟨g, a + i * 4 + 2, none⟩ = some (.int .i64 ok) ∧ W.cell? ⟨g, a + i * 4 + 3, none⟩ = some (.int .i64 ov)) := dc
              clear ok0 dc
              obtain ⟨d0, d1, d2, d3⟩ := DC.out wr A0.out.bel
              go_upto_region 28 with (go_at_call 38; refine (A0.out.doT (by have := B5.out; omega) kd tw ok ov OK.out).mono ?_; rintro e w4 ⟨rfl, h4⟩; (have L4 : Hid (U2 w w4 b u (N1 + 2 * i + 1) (nxA kd ok ov A H) (nxH kd ok A H) A H) := h4); clear h4)
              clear d0 d1 d2 d3
              obtain ⟨d0, d1, d2, d3⟩ := DC.out w4 L4.out.bel
              go_upto_region 29 with (go_at_call 38; refine (L4.out.doU (by have := B5.out; omega) kd tw ok ov OK.out).mono ?_; rintro e w5 ⟨rfl, h4⟩; (have L5 : Hid (U2 w w5 b u (N1 + 2 * i + 1 + 1) (nxA kd ok ov A H) (nxH kd ok A H) (nxA kd ok ov A H) (nxH kd ok A H)) := h4); clear h4)
              generalize nxA kd ok ov A H = A' at L5
              generalize nxH kd ok A H = H' at L5
              clear d0 d1 d2 d3
              have m1 := L5.out.marksT
              have m2 := L5.out.marksU
              have l1 := L5.out.lenT
              have l2 := L5.out.lenU
              generalize (H'.length : Int) = hl at m1 m2
              generalize (A'.length : Int) = al at l1 l2
              have Q1 : Hid (Calls Try.prog 41 #[.pointer (some ⟨b, 0, none⟩)] w5 fun e w' => e = .returned (.int .i64 hl) ∧ w' = w5) := m1
              have Q2 : Hid (Calls Try.prog 41 #[.pointer (some ⟨u, 0, none⟩)] w5 fun e w' => e = .returned (.int .i64 hl) ∧ w' = w5) := m2
              have Q3 : Hid (Calls Try.prog 48 #[.pointer (some ⟨b, 0, none⟩)] w5 fun e w' => e = .returned (.int .i64 al) ∧ w' = w5) := l1
              have Q4 : Hid (Calls Try.prog 48 #[.pointer (some ⟨u, 0, none⟩)] w5 fun e w' => e = .returned (.int .i64 al) ∧ w' = w5) := l2
              clear m1 m2 l1 l2
              refine wp_region_lit ?_
              refine lst_val (v := .pointer (some ⟨b, 0, none⟩)) (by kernel_rfl) ?_ ?_
              · go_simp
              simp only [Act.put, List.setIfInBounds_toArray, List.set_cons_zero, List.set_cons_succ]
              refine lst_call (by kernel_rfl) (by first | (go_simp; done) | (go_simp; first | exact rfl | exact ⟨rfl, rfl⟩ | exact ⟨rfl, rfl, rfl⟩)) (Q1.out) ?_
              rintro e w' ⟨rfl, hw⟩
              have hw2 := hw.symm
              clear hw
              subst hw2
              refine ⟨_, rfl, ?_⟩
              simp only [Act.put, List.setIfInBounds_toArray, List.set_cons_zero, List.set_cons_succ]
              refine lst_val (v := .pointer (some ⟨u, 0, none⟩)) (by kernel_rfl) ?_ ?_
              · go_simp
              simp only [Act.put, List.setIfInBounds_toArray, List.set_cons_zero, List.set_cons_succ]
              refine lst_call (by kernel_rfl) (by first | (go_simp; done) | (go_simp; first | exact rfl | exact ⟨rfl, rfl⟩ | exact ⟨rfl, rfl, rfl⟩)) (Q2.out) ?_
              rintro e w' ⟨rfl, hw⟩
              have hw2 := hw.symm
              clear hw
              subst hw2
              refine ⟨_, rfl, ?_⟩
              simp only [Act.put, List.setIfInBounds_toArray, List.set_cons_zero, List.set_cons_succ]
              refine lst_val (v := .bool false) (by kernel_rfl) ?_ ?_
              · go_simp
              simp only [Act.put, List.setIfInBounds_toArray, List.set_cons_zero, List.set_cons_succ]
              refine lst_val (v := .bool false) (by kernel_rfl) ?_ ?_
              · go_simp
              simp only [Act.put, List.setIfInBounds_toArray, List.set_cons_zero, List.set_cons_succ]
              refine lst_val (v := .pointer (some ⟨b, 0, none⟩)) (by kernel_rfl) ?_ ?_
              · go_simp
              simp only [Act.put, List.setIfInBounds_toArray, List.set_cons_zero, List.set_cons_succ]
              refine lst_call (by kernel_rfl) (by first | (go_simp; done) | (go_simp; first | exact rfl | exact ⟨rfl, rfl⟩ | exact ⟨rfl, rfl, rfl⟩)) (Q3.out) ?_
              rintro e w' ⟨rfl, hw⟩
              have hw2 := hw.symm
              clear hw
              subst hw2
              refine ⟨_, rfl, ?_⟩
              simp only [Act.put, List.setIfInBounds_toArray, List.set_cons_zero, List.set_cons_succ]
              refine lst_val (v := .pointer (some ⟨u, 0, none⟩)) (by kernel_rfl) ?_ ?_
              · go_simp
              simp only [Act.put, List.setIfInBounds_toArray, List.set_cons_zero, List.set_cons_succ]
              refine lst_call (by kernel_rfl) (by first | (go_simp; done) | (go_simp; first | exact rfl | exact ⟨rfl, rfl⟩ | exact ⟨rfl, rfl, rfl⟩)) (Q4.out) ?_
              rintro e w' ⟨rfl, hw⟩
              have hw2 := hw.symm
              clear hw
              subst hw2
              refine ⟨_, rfl, ?_⟩
              simp only [Act.put, List.setIfInBounds_toArray, List.set_cons_zero, List.set_cons_succ]
              refine lst_val (v := .bool false) (by kernel_rfl) ?_ ?_
              · go_simp
              simp only [Act.put, List.setIfInBounds_toArray, List.set_cons_zero, List.set_cons_succ]
              refine lst_val (v := .bool false) (by kernel_rfl) ?_ ?_
              · go_simp
              simp only [Act.put, List.setIfInBounds_toArray, List.set_cons_zero, List.set_cons_succ]
              refine wpList_nil ?_
              go_wp2
              go_roundw
              case rel => exact ⟨i + 1, _, _, by omega, by go_num, L5.out⟩
              case measure => simp [intOf]; omega
            · have iI : ¬ (i : Int) < (n3 : Int) := by omega
              have SU : Hid (Calls Try.prog 40 #[.pointer (some ⟨u, 0, none⟩)] wr fun e w' => ∃ ka kc va vc m', e = .returned (.agg #[.slice ka m' kc, .slice va m' vc]) ∧ Calls Try.prog 46 #[.pointer (some ⟨b, 0, none⟩), .agg #[.slice ka m' kc, .slice va m' vc]] w' fun e w2 => e = .returned (.bool true) ∧ U2 w w2 b u (N1 + 2 * i) A H A H) := A0.out.seenU (by have := B5.out; omega)
              have ST : Hid (∀ W, U2 w W b u (N1 + 2 * i) A H A H → Calls Try.prog 40 #[.pointer (some ⟨b, 0, none⟩)] W fun e w' => ∃ ka kc va vc m', e = .returned (.agg #[.slice ka m' kc, .slice va m' vc]) ∧ Calls Try.prog 46 #[.pointer (some ⟨u, 0, none⟩), .agg #[.slice ka m' kc, .slice va m' vc]] w' fun e w2 => e = .returned (.bool true) ∧ U2 w w2 b u (N1 + 2 * i) A H A H) := fun W hW => hW.seenT (by have := B5.out; omega)
              go_upto_region 31 with fail
              refine wp_region_lit ?_
              refine lst_val (v := .pointer (some ⟨b, 0, none⟩)) (by kernel_rfl) ?_ ?_
              · go_simp
              simp only [Act.put, List.setIfInBounds_toArray, List.set_cons_zero, List.set_cons_succ]
              refine lst_val (v := .pointer (some ⟨u, 0, none⟩)) (by kernel_rfl) ?_ ?_
              · go_simp
              simp only [Act.put, List.setIfInBounds_toArray, List.set_cons_zero, List.set_cons_succ]
              refine lst_call (by kernel_rfl) (by first | (go_simp; done) | (go_simp; first | exact rfl | exact ⟨rfl, rfl⟩ | exact ⟨rfl, rfl, rfl⟩)) (SU.out) ?_
              rintro e z1 ⟨ka1, kc1, va1, vc1, m1, rfl, h4⟩
              refine ⟨_, rfl, ?_⟩
              have TL1 : Hid (Calls Try.prog 46 #[.pointer (some ⟨b, 0, none⟩), .agg #[.slice ka1 m1 kc1, .slice va1 m1 vc1]] z1 fun e w2 => e = .returned (.bool true) ∧ U2 w w2 b u (N1 + 2 * i) A H A H) := h4
              clear h4
              simp only [Act.put, List.setIfInBounds_toArray, List.set_cons_zero, List.set_cons_succ]
              refine lst_call (by kernel_rfl) (by first | (go_simp; done) | (go_simp; first | exact rfl | exact ⟨rfl, rfl⟩ | exact ⟨rfl, rfl, rfl⟩)) (TL1.out) ?_
              rintro e z2 ⟨rfl, h4⟩
              refine ⟨_, rfl, ?_⟩
              have V6 : Hid (U2 w z2 b u (N1 + 2 * i) A H A H) := h4
              clear h4
              simp only [Act.put, List.setIfInBounds_toArray, List.set_cons_zero, List.set_cons_succ]
              refine lst_val (v := .bool true) (by kernel_rfl) ?_ ?_
              · go_simp
              simp only [Act.put, List.setIfInBounds_toArray, List.set_cons_zero, List.set_cons_succ]
              refine lst_val (v := .pointer (some ⟨u, 0, none⟩)) (by kernel_rfl) ?_ ?_
              · go_simp
              simp only [Act.put, List.setIfInBounds_toArray, List.set_cons_zero, List.set_cons_succ]
              refine lst_val (v := .pointer (some ⟨b, 0, none⟩)) (by kernel_rfl) ?_ ?_
              · go_simp
              simp only [Act.put, List.setIfInBounds_toArray, List.set_cons_zero, List.set_cons_succ]
              refine lst_call (by kernel_rfl) (by first | (go_simp; done) | (go_simp; first | exact rfl | exact ⟨rfl, rfl⟩ | exact ⟨rfl, rfl, rfl⟩)) (ST.out z2 V6.out) ?_
              rintro e z3 ⟨ka2, kc2, va2, vc2, m2, rfl, h4⟩
              refine ⟨_, rfl, ?_⟩
              have TL2 : Hid (Calls Try.prog 46 #[.pointer (some ⟨u, 0, none⟩), .agg #[.slice ka2 m2 kc2, .slice va2 m2 vc2]] z3 fun e w2 => e = .returned (.bool true) ∧ U2 w w2 b u (N1 + 2 * i) A H A H) := h4
              clear h4
              simp only [Act.put, List.setIfInBounds_toArray, List.set_cons_zero, List.set_cons_succ]
              refine lst_call (by kernel_rfl) (by first | (go_simp; done) | (go_simp; first | exact rfl | exact ⟨rfl, rfl⟩ | exact ⟨rfl, rfl, rfl⟩)) (TL2.out) ?_
              rintro e z4 ⟨rfl, h4⟩
              refine ⟨_, rfl, ?_⟩
              have V7 : Hid (U2 w z4 b u (N1 + 2 * i) A H A H) := h4
              clear h4
              simp only [Act.put, List.setIfInBounds_toArray, List.set_cons_zero, List.set_cons_succ]
              refine lst_val (v := .bool true) (by kernel_rfl) ?_ ?_
              · go_simp
              simp only [Act.put, List.setIfInBounds_toArray, List.set_cons_zero, List.set_cons_succ]
              refine lst_val (v := .bool true) (by kernel_rfl) ?_ ?_
              · go_simp
              simp only [Act.put, List.setIfInBounds_toArray, List.set_cons_zero, List.set_cons_succ]
              refine lst_call (by kernel_rfl) (by first | (go_simp; done) | (go_simp; first | exact rfl | exact ⟨rfl, rfl⟩ | exact ⟨rfl, rfl, rfl⟩)) (awake_is z4) ?_
              rintro e z5 ⟨rfl, h4⟩
              refine ⟨_, rfl, ?_⟩
              have B9 : Hid (Below w.heap.size w z5) := V7.out.bel.trans (h4.mono V7.out.bel.size)
              clear h4
              simp only [Act.put, List.setIfInBounds_toArray, List.set_cons_zero, List.set_cons_succ]
              refine lst_val (v := .bool true) (by kernel_rfl) ?_ ?_
              · go_simp
              simp only [Act.put, List.setIfInBounds_toArray, List.set_cons_zero, List.set_cons_succ]
              refine lst_val (v := .bool true) (by kernel_rfl) ?_ ?_
              · go_simp
              simp only [Act.put, List.setIfInBounds_toArray, List.set_cons_zero, List.set_cons_succ]
              refine wpList_nil ?_
              go_wp2
              go_ret
              exact ⟨rfl, B9.out⟩
end Go.Proofs.Ytohfkgfjcnldaaa
