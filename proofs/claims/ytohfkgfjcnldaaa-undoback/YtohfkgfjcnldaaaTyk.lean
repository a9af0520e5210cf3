/- UndoBack. -/
import Derived.Test.YtohfkgfjcnldaaaTyj
namespace Go.Proofs.Ytohfkgfjcnldaaa
open Go.RowKit Go.Shelf
set_option maxHeartbeats 8000000 in
set_option maxRecDepth 100000 in
theorem undoBack_walk (w : World) (v1 : Value) (n1 : Nat) (x1 : Nat → OpR) (v2 : Value) (n2 : Nat) (x2 : Nat → OpR) (v3 : Value) (n3 : Nat) (x3 : Nat → OpR) (hv1 : OpsAt w v1 n1 x1) (hn1 : n1 ≤ 4398046511104) (hv2 : OpsAt w v2 n2 x2) (hn2 : n2 ≤ 4398046511104) (hv3 : OpsAt w v3 n3 x3) (hn3 : n3 ≤ 4398046511104) : Calls Try.prog 6 #[v1, v2, v3] w fun e w' => e = .returned (.bool true) ∧ Below w.heap.size w w' := by
  obtain ⟨a1, p1, rfl, hx1⟩ := hv1
  obtain ⟨a2, p2, rfl, hx2⟩ := hv2
  obtain ⟨a3, p3, rfl, hx3⟩ := hv3
  have X1 : Hid (0 < n1 → ∃ g a, a1 = some ⟨g, a, none⟩ ∧ ∀ i, i < n1 → OpAt w g (a + i * 4) (x1 i) ∧ OpOk (x1 i)) := hx1
  have X2 : Hid (0 < n2 → ∃ g a, a2 = some ⟨g, a, none⟩ ∧ ∀ i, i < n2 → OpAt w g (a + i * 4) (x2 i) ∧ OpOk (x2 i)) := hx2
  have X3 : Hid (0 < n3 → ∃ g a, a3 = some ⟨g, a, none⟩ ∧ ∀ i, i < n3 → OpAt w g (a + i * 4) (x3 i) ∧ OpOk (x3 i)) := hx3
  clear hx1 hx2 hx3
  by_cases hb1 : (1048576 : Int) < (n1 : Int)
  · go_enter Try.func6, Try.ntmps6
    go_wp2
    go_ret
    exact ⟨rfl, Below.refl _ _⟩
  by_cases hb2 : (1048576 : Int) < (n2 : Int)
  · go_enter Try.func6, Try.ntmps6
    go_wp2
    go_ret
    exact ⟨rfl, Below.refl _ _⟩
  by_cases hb3 : (1048576 : Int) < (n3 : Int)
  · go_enter Try.func6, Try.ntmps6
    go_wp2
    go_ret
    exact ⟨rfl, Below.refl _ _⟩
  go_enter Try.func6, Try.ntmps6
  go_upto_region 4 with (go_at_call 37; refine (U0.new w 0).mono ?_; rintro e w1 ⟨b, rfl, h1⟩; (have T1 : Hid (U0 w w1 b 0 [] []) := h1); clear h1)
  go_wp2
  have B1 : Hid (n1 ≤ 1048576 ∧ n2 ≤ 1048576 ∧ n3 ≤ 1048576) := ⟨by omega, by omega, by omega⟩
  go_loopw [8] (fun si wr => ∃ (i : Nat) (A : List (Int × Int)) (H : List (List (Int × Int))), i ≤ n1 ∧ si = .int .i64 (i : Int) ∧ U0 w wr b i A H) (fun si _ => n1 - (intOf si).toNat)
  case atStart => exact ⟨0, _, _, by omega, rfl, T1.out⟩
  case round =>
    obtain ⟨i, A, H, hi, rfl, hA⟩ := hrel
    have A0 : Hid (U0 w wr b i A H) := hA
    clear hA T1
    by_cases hin : i < n1
    · have iI : (i : Int) < (n1 : Int) := by omega
      obtain ⟨g, a, rfl, ok0, dc⟩ := ops_at X1.out hin
      generalize (x1 i) = op at ok0 dc
      obtain ⟨kd, tw, ok, ov⟩ := op
      have OK : Hid (I64 ok) := ok0
      have DC : Hid (∀ W, Below w.heap.size w W → W.cell? ⟨g, a + i * 4, none⟩ = some (.int .i64 kd) ∧ W.cell? ⟨g, a + i * 4 + 1, none⟩ = some (.bool tw) ∧ W.cell? ⟨g, a + i * 4 + 2, none⟩ = some (.int .i64 ok) ∧ W.cell? ⟨g, a + i * 4 + 3, none⟩ = some (.int .i64 ov)) := dc
      clear ok0 dc
      obtain ⟨d0, d1, d2, d3⟩ := DC.out wr A0.out.bel
      go_wp2_with (go_at_call 38; refine (A0.out.do (by have := B1.out; omega) kd tw ok ov OK.out).mono ?_; rintro e w4 ⟨rfl, h4⟩; (have L4 : Hid (U0 w w4 b (i + 1) (nxA kd ok ov A H) (nxH kd ok A H)) := h4); clear h4)
      go_roundw
      case rel => exact ⟨i + 1, _, _, by omega, by go_num, L4.out⟩
      case measure => simp [intOf]; omega
    · have iI : ¬ (i : Int) < (n1 : Int) := by omega
      have B2 : Hid (i ≤ 1048576) := by have := B1.out; show _ ≤ _; omega
      go_upto_region 10 with fail
      go_upto_region 11 with (go_at_call 39; refine (A0.out.t fun ow ht => set1 wr ow 1 b i A H ht 7 7 (by unfold I64; omega) (by have := B2.out; omega)).mono ?_; rintro e w3 ⟨rfl, h1⟩; (have T3 : Hid (U0 w w3 b (i + 1) (setRL A 7 7) H) := h1); clear h1)
      generalize setRL A 7 7 = AS at T3
      clear A0 iI hi hin
      generalize hN0 : i + 1 = N0 at T3
      have BN : Hid (N0 ≤ 1048577 ∧ n2 ≤ 1048576 ∧ n3 ≤ 1048576) := ⟨by have := B2.out; omega, B1.out.2⟩
      clear hN0 B2 B1
      go_upto_region 12 with (go_at_call 40; refine (T3.out.seen (by have := BN.out; omega)).mono ?_; rintro e v1 ⟨ka, kc, va, vc, rfl, h1⟩)
      obtain ⟨mm, em⟩ : ∃ mm, AS.length = mm := ⟨_, rfl⟩
      rw [em] at h1 ⊢
      clear em
      change Code.wp _ _ _ _ (v1.alloc (.cells #[.slice ka mm kc, .slice va mm vc] 67))
      have HL := T3.out.get7.1
      obtain ⟨n, en⟩ : ∃ n, H.length = n := ⟨_, rfl⟩
      rw [en] at HL
      have EN : Hid (H.length = n ∧ n ≤ N0) := ⟨en, HL⟩
      clear en HL
      have V2 : Hid (UY w (v1.alloc (.cells #[.slice ka mm kc, .slice va mm vc] 67)) b N0 AS H (RV v1.heap.size (.slice ka mm kc) (.slice va mm vc) AS)) := UV.uy h1
      clear h1 T3
      generalize v1.alloc (.cells #[.slice ka mm kc, .slice va mm vc] 67) = v2 at V2 ⊢
      generalize v1.heap.size = xb at V2 ⊢
      have M2 : Hid (Calls Try.prog 41 #[.pointer (some ⟨b, 0, none⟩)] v2 fun e w' => e = .returned (.int .i64 (n : Int)) ∧ w' = v2) := by have := V2.out.marks; rw [EN.out.1] at this; exact this
      go_upto_region 13 with (go_at_call 41; refine (M2.out).mono ?_; rintro e w' ⟨rfl, hw⟩; (have hw2 := hw.symm); clear hw; subst hw2)
      clear M2
      have nX : (n : Int) ≤ 1048577 := by have := EN.out; have := BN.out; omega
      go_upto_region 14 with fail
      change Code.wp _ _ _ _ (v2.alloc (.cells #[.slice a2 n2 p2, .slice a3 n3 p3] 69))
      obtain ⟨R, eR⟩ : ∃ R : (Nat → Nat) → World → Prop, R = fun ow V => RV xb (.slice ka mm kc) (.slice va mm vc) AS ow V ∧ (CBox V v2.heap.size 69 [.slice a2 n2 p2, .slice a3 n3 p3] ∧ ow v2.heap.size = 0) := ⟨_, rfl⟩
      have V3 : Hid (UY w (v2.alloc (.cells #[.slice a2 n2 p2, .slice a3 n3 p3] 69)) b N0 AS H R) := by rw [eR]; exact V2.out.box (RV.stb _ _ _ _) _ [_, _]
      clear V2
      generalize v2.alloc (.cells #[.slice a2 n2 p2, .slice a3 n3 p3] 69) = v3 at V3 ⊢
      generalize v2.heap.size = sb at eR ⊢
      have RS1 : Hid (Stb R) := by rw [eR]; exact (RV.stb _ _ _ _).and (Stb.box _ _ _)
      have RF : Hid (∀ ow V, R ow V → (IsI V ow (.slice ka mm kc) (AS.map Prod.fst) ∧ IsI V ow (.slice va mm vc) (AS.map Prod.snd)) ∧ (V.cell? ⟨xb, 0, none⟩ = some (.slice ka mm kc) ∧ V.cell? ⟨xb, 1, none⟩ = some (.slice va mm vc)) ∧ V.cell? ⟨sb, 0, none⟩ = some (.slice a2 n2 p2) ∧ V.cell? ⟨sb, 1, none⟩ = some (.slice a3 n3 p3)) := by rw [eR]; exact fun ow V h => ⟨h.1.1, ⟨h.1.2.1.cell 0, h.1.2.1.cell 1⟩, h.2.1.cell 0, h.2.1.cell 1⟩
      clear eR
      go_wp2
      go_loopw [12] (fun si wr => ∃ r : Nat, r ≤ 2 ∧ si = .int .i64 (r : Int) ∧ UY w wr b (N0 + r * 1048600) AS H R) (fun si _ => 2 - (intOf si).toNat)
      case atStart => exact ⟨0, by omega, rfl, by rw [Nat.zero_mul]; exact V3.out⟩
      case round =>
        obtain ⟨r, hr, rfl, hA⟩ := hrel
        generalize hNR : N0 + r * 1048600 = NR at hA
        have A0 : Hid (UY w wr b NR AS H R) := hA
        have HN : Hid (N0 + r * 1048600 = NR ∧ r ≤ 2) := ⟨hNR, hr⟩
        clear hA V3 hNR
        by_cases hr2 : r < 2
        · have rI : (r : Int) < 2 := by omega
          have HB : Hid (NR ≤ 2097177) := by have := HN.out; have := BN.out; show _ ≤ _; omega
          have SR : ∃ (ar : Option Addr) (nr pr : Nat) (xr : Nat → OpR), (∀ ow V, R ow V → V.cell? ⟨sb, r, none⟩ = some (.slice ar nr pr)) ∧ (0 < nr → ∃ g a, ar = some ⟨g, a, none⟩ ∧ ∀ i, i < nr → OpAt w g (a + i * 4) (xr i) ∧ OpOk (xr i)) ∧ nr ≤ 1048576 := by
            have : r = 0 ∨ r = 1 := by omega
            rcases this with rfl | rfl
            · exact ⟨a2, n2, p2, x2, fun ow V h => (RF.out ow V h).2.2.1, X2.out, BN.out.2.1⟩
            · exact ⟨a3, n3, p3, x3, fun ow V h => (RF.out ow V h).2.2.2, X3.out, BN.out.2.2⟩
          obtain ⟨ar, nr, pr, xr, sc, sx, sn⟩ := SR
          have SC : Hid (∀ ow V, R ow V → V.cell? ⟨sb, r, none⟩ = some (.slice ar nr pr)) := sc
          have XR : Hid (0 < nr → ∃ g a, ar = some ⟨g, a, none⟩ ∧ ∀ i, i < nr → OpAt w g (a + i * 4) (xr i) ∧ OpOk (xr i)) := sx
          have NRB : Hid (nr ≤ 1048576) := sn
          have nrX : (nr : Int) ≤ 1048576 := by omega
          clear sc sx sn
          go_upto_region 17 with fail
          go_upto_region 18 with (go_at_call 42; refine (A0.out.t RS1.out fun ow ht => mv_mo (mark1 wr ow 1 b NR AS H ht (by have := HB.out; omega))).mono ?_; rintro e w4 ⟨rfl, h1⟩; rw [EN.out.1]; (have T4 : Hid (UY w w4 b (NR + 1) AS (H ++ [AS]) R) := h1); clear h1)
          have M4 : Hid (Calls Try.prog 41 #[.pointer (some ⟨b, 0, none⟩)] w4 fun e w' => e = .returned (.int .i64 ((n : Int) + 1)) ∧ w' = w4) := by have := T4.out.marks; rw [List.length_append, EN.out.1] at this; exact this
          refine wp_region_lit ?_
          refine lst_val (v := .int .i64 (n : Int)) (by kernel_rfl) ?_ ?_
          · go_simp
          simp only [Act.put, List.setIfInBounds_toArray, List.set_cons_zero, List.set_cons_succ]
          refine lst_val (v := .int .i64 (n : Int)) (by kernel_rfl) ?_ ?_
          · go_simp
          simp only [Act.put, List.setIfInBounds_toArray, List.set_cons_zero, List.set_cons_succ]
          refine lst_val (v := .bool false) (by kernel_rfl) ?_ ?_
          · go_simp
          simp only [Act.put, List.setIfInBounds_toArray, List.set_cons_zero, List.set_cons_succ]
          refine lst_val (v := .bool false) (by kernel_rfl) ?_ ?_
          · go_simp
          simp only [Act.put, List.setIfInBounds_toArray, List.set_cons_zero, List.set_cons_succ]
          refine lst_val (v := .pointer (some ⟨b, 0, none⟩)) (by kernel_rfl) ?_ ?_
          · go_simp
          simp only [Act.put, List.setIfInBounds_toArray, List.set_cons_zero, List.set_cons_succ]
          refine lst_call (by kernel_rfl) (by first | (go_simp; done) | (go_simp; first | exact rfl | exact ⟨rfl, rfl⟩ | exact ⟨rfl, rfl, rfl⟩)) (M4.out) ?_
          rintro e w' ⟨rfl, hw⟩
          have hw2 := hw.symm
          clear hw
          subst hw2
          refine ⟨_, rfl, ?_⟩
          simp only [Act.put, List.setIfInBounds_toArray, List.set_cons_zero, List.set_cons_succ]
          refine lst_val (v := .int .i64 (n : Int)) (by kernel_rfl) ?_ ?_
          · go_simp
          simp only [Act.put, List.setIfInBounds_toArray, List.set_cons_zero, List.set_cons_succ]
          refine lst_val (v := .int .i64 ((n : Int) + 1)) (by kernel_rfl) ?_ ?_
          · (go_simp; try (first | (rw [IntKind.wrap_u64]; omega) | (rw [IntKind.wrap_i64]; omega)))
          simp only [Act.put, List.setIfInBounds_toArray, List.set_cons_zero, List.set_cons_succ]
          refine lst_val (v := .bool false) (by kernel_rfl) ?_ ?_
          · go_simp
          simp only [Act.put, List.setIfInBounds_toArray, List.set_cons_zero, List.set_cons_succ]
          refine lst_val (v := .bool false) (by kernel_rfl) ?_ ?_
          · go_simp
          simp only [Act.put, List.setIfInBounds_toArray, List.set_cons_zero, List.set_cons_succ]
          refine wpList_nil ?_
          clear M4 A0
          have s0 : w4.cell? ⟨sb, r, none⟩ = some (.slice ar nr pr) := by obtain ⟨ow, h1⟩ := T4.out.have; exact SC.out ow w4 h1
          go_upto_region 21 with fail
          clear s0
          go_wp2
          go_loopw [15] (fun si wr => ∃ (i : Nat) (A : List (Int × Int)) (HT : List (List (Int × Int))), i ≤ nr ∧ si = .int .i64 (i : Int) ∧ UY w wr b (NR + 1 + i) A HT R ∧ HT.take (n + 1) = H ++ [AS] ∧ n + 1 ≤ HT.length) (fun si _ => nr - (intOf si).toNat)
          case atStart => exact ⟨0, _, _, by omega, rfl, T4.out, List.take_of_length_le (by rw [List.length_append, EN.out.1]; exact Nat.le_refl _), by rw [List.length_append, EN.out.1]; exact Nat.le_refl _⟩
          case round =>
            obtain ⟨i, A, HT, hi, rfl, hA, ht1, ht2⟩ := hrel
            have A0 : Hid (UY w wr b (NR + 1 + i) A HT R) := hA
            have HH : Hid (HT.take (n + 1) = H ++ [AS] ∧ n + 1 ≤ HT.length) := ⟨ht1, ht2⟩
            clear hA ht1 ht2 T4
            by_cases hin : i < nr
            · have iI : (i : Int) < (nr : Int) := by omega
              obtain ⟨g, a, rfl, ok0, dc⟩ := ops_at XR.out hin
              generalize (xr i) = op at ok0 dc
              obtain ⟨kd, tw, ok, ov⟩ := op
              have OK : Hid (I64 ok) := ok0
              have DC : Hid (∀ W, Below w.heap.size w W → W.cell? ⟨g, a + i * 4, none⟩ = some (.int .i64 kd) ∧ W.cell? ⟨g, a + i * 4 + 1, none⟩ = some (.bool tw) ∧ W.cell? ⟨g, a + i * 4 + 2, none⟩ = some (.int .i64 ok) ∧ W.cell? ⟨g, a + i * 4 + 3, none⟩ = some (.int .i64 ov)) := dc
              clear ok0 dc
              obtain ⟨d0, d1, d2, d3⟩ := DC.out wr A0.out.bel
              go_upto_region 25 with fail
              clear d0 d1 d2 d3
              change Code.wp _ _ _ _ (wr.alloc (.cells #[.int .i64 kd, .bool tw, .int .i64 ok, .int .i64 ov] 30))
              have Z1 : Hid (Below wr.heap.size wr (wr.alloc (.cells #[.int .i64 kd, .bool tw, .int .i64 ok, .int .i64 ov] 30))) := (Below.refl _ _).alloc (Nat.le_refl _) _
              have X0 : Hid (CBox (wr.alloc (.cells #[.int .i64 kd, .bool tw, .int .i64 ok, .int .i64 ov] 30)) wr.heap.size 30 [.int .i64 kd, .bool tw, .int .i64 ok, .int .i64 ov]) := CBox.new wr _ [_, _, _, _]
              generalize wr.alloc (.cells #[.int .i64 kd, .bool tw, .int .i64 ok, .int .i64 ov] 30) = z1 at X0 Z1 ⊢
              obtain ⟨ob, eo⟩ : ∃ ob, ob = wr.heap.size := ⟨_, rfl⟩
              rw [← eo] at X0 ⊢
              have EO : Hid (ob = wr.heap.size) := eo
              clear eo
              have e0 : z1.cell? ⟨ob, 0, none⟩ = some (.int .i64 kd) := X0.out.cell 0
              have e1 : z1.cell? ⟨ob, 1, none⟩ = some (.bool tw) := X0.out.cell 1
              have e2 : z1.cell? ⟨ob, 2, none⟩ = some (.int .i64 ok) := X0.out.cell 2
              have e3 : z1.cell? ⟨ob, 3, none⟩ = some (.int .i64 ov) := X0.out.cell 3
              have f2 : z1.frozen? ⟨ob, 2, none⟩ = false := X0.out.frozen 2
              by_cases h4 : kd = 4
              · subst h4
                by_cases hkm : ok ≤ (n : Int)
                · skip
                  refine wp_region_lit ?_
                  refine lst_val (v := .pointer (some ⟨ob, 0, none⟩)) (by kernel_rfl) ?_ ?_
                  · go_simp
                  simp only [Act.put, List.setIfInBounds_toArray, List.set_cons_zero, List.set_cons_succ]
                  refine lst_val (v := .int .i64 4) (by kernel_rfl) ?_ ?_
                  · go_simp
                  simp only [Act.put, List.setIfInBounds_toArray, List.set_cons_zero, List.set_cons_succ]
                  refine lst_val (v := .bool true) (by kernel_rfl) ?_ ?_
                  · go_simp
                  simp only [Act.put, List.setIfInBounds_toArray, List.set_cons_zero, List.set_cons_succ]
                  refine lst_val (v := .bool true) (by kernel_rfl) ?_ ?_
                  · go_simp
                  simp only [Act.put, List.setIfInBounds_toArray, List.set_cons_zero, List.set_cons_succ]
                  refine lst_not (by kernel_rfl) ?_
                  simp only [Act.put, List.setIfInBounds_toArray, List.set_cons_zero, List.set_cons_succ]
                  refine lst_not (by kernel_rfl) ?_
                  simp only [Act.put, List.setIfInBounds_toArray, List.set_cons_zero, List.set_cons_succ]
                  refine lst_not (by kernel_rfl) ?_
                  simp only [Act.put, List.setIfInBounds_toArray, List.set_cons_zero, List.set_cons_succ]
                  refine lst_val (v := .bool true) (by kernel_rfl) ?_ ?_
                  · go_simp
                  simp only [Act.put, List.setIfInBounds_toArray, List.set_cons_zero, List.set_cons_succ]
                  refine lst_val (v := .bool true) (by kernel_rfl) ?_ ?_
                  · go_simp
                  simp only [Act.put, List.setIfInBounds_toArray, List.set_cons_zero, List.set_cons_succ]
                  refine lst_val (v := .pointer (some ⟨ob, 2, none⟩)) (by kernel_rfl) ?_ ?_
                  · go_simp
                  simp only [Act.put, List.setIfInBounds_toArray, List.set_cons_zero, List.set_cons_succ]
                  refine lst_val (v := .int .i64 ok) (by kernel_rfl) ?_ ?_
                  · go_simp
                  simp only [Act.put, List.setIfInBounds_toArray, List.set_cons_zero, List.set_cons_succ]
                  refine lst_val (v := .int .i64 (n : Int)) (by kernel_rfl) ?_ ?_
                  · go_simp
                  simp only [Act.put, List.setIfInBounds_toArray, List.set_cons_zero, List.set_cons_succ]
                  refine lst_val (v := .bool true) (by kernel_rfl) ?_ ?_
                  · go_simp
                  simp only [Act.put, List.setIfInBounds_toArray, List.set_cons_zero, List.set_cons_succ]
                  refine lst_val (v := .bool true) (by kernel_rfl) ?_ ?_
                  · go_simp
                  simp only [Act.put, List.setIfInBounds_toArray, List.set_cons_zero, List.set_cons_succ]
                  refine wpList_nil ?_
                  obtain ⟨r3, hr3, er3⟩ := and3 ok
                  go_upto_region 26 with fail
                  refine wp_region_lit ?_
                  refine lst_val (v := .int .i64 (n : Int)) (by kernel_rfl) ?_ ?_
                  · go_simp
                  simp only [Act.put, List.setIfInBounds_toArray, List.set_cons_zero, List.set_cons_succ]
                  refine lst_val (v := .int .i64 ((n : Int) + 1)) (by kernel_rfl) ?_ ?_
                  · (go_simp; try (first | (rw [IntKind.wrap_u64]; omega) | (rw [IntKind.wrap_i64]; omega)))
                  simp only [Act.put, List.setIfInBounds_toArray, List.set_cons_zero, List.set_cons_succ]
                  refine lst_val (v := .pointer (some ⟨ob, 2, none⟩)) (by kernel_rfl) ?_ ?_
                  · go_simp
                  simp only [Act.put, List.setIfInBounds_toArray, List.set_cons_zero, List.set_cons_succ]
                  refine lst_val (v := .int .i64 ok) (by kernel_rfl) ?_ ?_
                  · go_simp
                  simp only [Act.put, List.setIfInBounds_toArray, List.set_cons_zero, List.set_cons_succ]
                  refine lst_val (v := .int .i64 (r3 : Int)) (by kernel_rfl) ?_ ?_
                  · go_simp
                  simp only [Act.put, List.setIfInBounds_toArray, List.set_cons_zero, List.set_cons_succ]
                  refine lst_val (v := .int .i64 ((n : Int) + 1 + (r3 : Int))) (by kernel_rfl) ?_ ?_
                  · (go_simp; try (first | (rw [IntKind.wrap_u64]; omega) | (rw [IntKind.wrap_i64]; omega)))
                  simp only [Act.put, List.setIfInBounds_toArray, List.set_cons_zero, List.set_cons_succ]
                  refine lst_val (v := .pointer (some ⟨ob, 2, none⟩)) (by kernel_rfl) ?_ ?_
                  · go_simp
                  simp only [Act.put, List.setIfInBounds_toArray, List.set_cons_zero, List.set_cons_succ]
                  obtain ⟨kk, ekk⟩ : ∃ kk : Int, kk = (n : Int) + 1 + (r3 : Int) := ⟨_, rfl⟩
                  rw [← ekk]
                  have EK : Hid (kk = (n : Int) + 1 + (r3 : Int)) := ekk
                  clear ekk
                  go_upto_region 27 with fail
                  have Z2 : Hid (Below wr.heap.size wr (z1.setCell ⟨ob, 2, none⟩ (.int .i64 kk))) := Z1.out.setCell (show wr.heap.size ≤ (⟨ob, 2, none⟩ : Addr).block by rw [← EO.out]; exact Nat.le_refl _) _
                  have X2b : Hid (CBox (z1.setCell ⟨ob, 2, none⟩ (.int .i64 kk)) ob 30 [.int .i64 4, .bool tw, .int .i64 kk, .int .i64 ov]) := X0.out.set 2 _
                  generalize z1.setCell ⟨ob, 2, none⟩ (.int .i64 kk) = z2 at Z2 X2b ⊢
                  have KB : Hid (I64 kk ∧ (n : Int) < kk) := ⟨by have := EK.out; unfold I64; omega, by have := EK.out; omega⟩
                  clear e0 e1 e2 e3 f2 er3
                  have e0 : z2.cell? ⟨ob, 0, none⟩ = some (.int .i64 4) := X2b.out.cell 0
                  have e1 : z2.cell? ⟨ob, 1, none⟩ = some (.bool tw) := X2b.out.cell 1
                  have e2 : z2.cell? ⟨ob, 2, none⟩ = some (.int .i64 kk) := X2b.out.cell 2
                  have e3 : z2.cell? ⟨ob, 3, none⟩ = some (.int .i64 ov) := X2b.out.cell 3
                  have A2 : Hid (UY w z2 b (NR + 1 + i) A HT R) := A0.out.past RS1.out Z2.out
                  go_wp2_with (go_at_call 38; refine (A2.out.do RS1.out (by have := HB.out; have := NRB.out; omega) 4 tw kk ov KB.out.1).mono ?_; rintro e w5 ⟨rfl, h5⟩; (have L5 : Hid (UY w w5 b (NR + 1 + i + 1) (nxA 4 kk ov A HT) (nxH 4 kk A HT) R) := h5); clear h5)
                  go_roundw
                  case rel => exact ⟨i + 1, _, _, by omega, by go_num, L5.out, nx_keep (fun _ => KB.out.2) HH.out.1 HH.out.2⟩
                  case measure => simp [intOf]; omega
                · skip
                  refine wp_region_lit ?_
                  refine lst_val (v := .pointer (some ⟨ob, 0, none⟩)) (by kernel_rfl) ?_ ?_
                  · go_simp
                  simp only [Act.put, List.setIfInBounds_toArray, List.set_cons_zero, List.set_cons_succ]
                  refine lst_val (v := .int .i64 4) (by kernel_rfl) ?_ ?_
                  · go_simp
                  simp only [Act.put, List.setIfInBounds_toArray, List.set_cons_zero, List.set_cons_succ]
                  refine lst_val (v := .bool true) (by kernel_rfl) ?_ ?_
                  · go_simp
                  simp only [Act.put, List.setIfInBounds_toArray, List.set_cons_zero, List.set_cons_succ]
                  refine lst_val (v := .bool true) (by kernel_rfl) ?_ ?_
                  · go_simp
                  simp only [Act.put, List.setIfInBounds_toArray, List.set_cons_zero, List.set_cons_succ]
                  refine lst_not (by kernel_rfl) ?_
                  simp only [Act.put, List.setIfInBounds_toArray, List.set_cons_zero, List.set_cons_succ]
                  refine lst_not (by kernel_rfl) ?_
                  simp only [Act.put, List.setIfInBounds_toArray, List.set_cons_zero, List.set_cons_succ]
                  refine lst_not (by kernel_rfl) ?_
                  simp only [Act.put, List.setIfInBounds_toArray, List.set_cons_zero, List.set_cons_succ]
                  refine lst_val (v := .bool true) (by kernel_rfl) ?_ ?_
                  · go_simp
                  simp only [Act.put, List.setIfInBounds_toArray, List.set_cons_zero, List.set_cons_succ]
                  refine lst_val (v := .bool true) (by kernel_rfl) ?_ ?_
                  · go_simp
                  simp only [Act.put, List.setIfInBounds_toArray, List.set_cons_zero, List.set_cons_succ]
                  refine lst_val (v := .pointer (some ⟨ob, 2, none⟩)) (by kernel_rfl) ?_ ?_
                  · go_simp
                  simp only [Act.put, List.setIfInBounds_toArray, List.set_cons_zero, List.set_cons_succ]
                  refine lst_val (v := .int .i64 ok) (by kernel_rfl) ?_ ?_
                  · go_simp
                  simp only [Act.put, List.setIfInBounds_toArray, List.set_cons_zero, List.set_cons_succ]
                  refine lst_val (v := .int .i64 (n : Int)) (by kernel_rfl) ?_ ?_
                  · go_simp
                  simp only [Act.put, List.setIfInBounds_toArray, List.set_cons_zero, List.set_cons_succ]
                  refine lst_val (v := .bool false) (by kernel_rfl) ?_ ?_
                  · go_simp
                  simp only [Act.put, List.setIfInBounds_toArray, List.set_cons_zero, List.set_cons_succ]
                  refine lst_val (v := .bool false) (by kernel_rfl) ?_ ?_
                  · go_simp
                  simp only [Act.put, List.setIfInBounds_toArray, List.set_cons_zero, List.set_cons_succ]
                  refine wpList_nil ?_
                  have A2 : Hid (UY w z1 b (NR + 1 + i) A HT R) := A0.out.past RS1.out Z1.out
                  go_wp2_with (go_at_call 38; refine (A2.out.do RS1.out (by have := HB.out; have := NRB.out; omega) 4 tw ok ov OK.out).mono ?_; rintro e w5 ⟨rfl, h5⟩; (have L5 : Hid (UY w w5 b (NR + 1 + i + 1) (nxA 4 ok ov A HT) (nxH 4 ok A HT) R) := h5); clear h5)
                  go_roundw
                  case rel => exact ⟨i + 1, _, _, by omega, by go_num, L5.out, nx_keep (fun _ => by omega) HH.out.1 HH.out.2⟩
                  case measure => simp [intOf]; omega
              by_cases h5 : kd = 5
              · subst h5
                by_cases hkm : ok ≤ (n : Int)
                · skip
                  refine wp_region_lit ?_
                  refine lst_val (v := .pointer (some ⟨ob, 0, none⟩)) (by kernel_rfl) ?_ ?_
                  · go_simp
                  simp only [Act.put, List.setIfInBounds_toArray, List.set_cons_zero, List.set_cons_succ]
                  refine lst_val (v := .int .i64 5) (by kernel_rfl) ?_ ?_
                  · go_simp
                  simp only [Act.put, List.setIfInBounds_toArray, List.set_cons_zero, List.set_cons_succ]
                  refine lst_val (v := .bool false) (by kernel_rfl) ?_ ?_
                  · go_simp
                  simp only [Act.put, List.setIfInBounds_toArray, List.set_cons_zero, List.set_cons_succ]
                  refine lst_val (v := .bool false) (by kernel_rfl) ?_ ?_
                  · go_simp
                  simp only [Act.put, List.setIfInBounds_toArray, List.set_cons_zero, List.set_cons_succ]
                  refine lst_val (v := .pointer (some ⟨ob, 0, none⟩)) (by kernel_rfl) ?_ ?_
                  · go_simp
                  simp only [Act.put, List.setIfInBounds_toArray, List.set_cons_zero, List.set_cons_succ]
                  refine lst_val (v := .int .i64 5) (by kernel_rfl) ?_ ?_
                  · go_simp
                  simp only [Act.put, List.setIfInBounds_toArray, List.set_cons_zero, List.set_cons_succ]
                  refine lst_val (v := .bool true) (by kernel_rfl) ?_ ?_
                  · go_simp
                  simp only [Act.put, List.setIfInBounds_toArray, List.set_cons_zero, List.set_cons_succ]
                  refine lst_val (v := .bool true) (by kernel_rfl) ?_ ?_
                  · go_simp
                  simp only [Act.put, List.setIfInBounds_toArray, List.set_cons_zero, List.set_cons_succ]
                  refine lst_val (v := .bool true) (by kernel_rfl) ?_ ?_
                  · go_simp
                  simp only [Act.put, List.setIfInBounds_toArray, List.set_cons_zero, List.set_cons_succ]
                  refine lst_val (v := .pointer (some ⟨ob, 2, none⟩)) (by kernel_rfl) ?_ ?_
                  · go_simp
                  simp only [Act.put, List.setIfInBounds_toArray, List.set_cons_zero, List.set_cons_succ]
                  refine lst_val (v := .int .i64 ok) (by kernel_rfl) ?_ ?_
                  · go_simp
                  simp only [Act.put, List.setIfInBounds_toArray, List.set_cons_zero, List.set_cons_succ]
                  refine lst_val (v := .int .i64 (n : Int)) (by kernel_rfl) ?_ ?_
                  · go_simp
                  simp only [Act.put, List.setIfInBounds_toArray, List.set_cons_zero, List.set_cons_succ]
                  refine lst_val (v := .bool true) (by kernel_rfl) ?_ ?_
                  · go_simp
                  simp only [Act.put, List.setIfInBounds_toArray, List.set_cons_zero, List.set_cons_succ]
                  refine lst_val (v := .bool true) (by kernel_rfl) ?_ ?_
                  · go_simp
                  simp only [Act.put, List.setIfInBounds_toArray, List.set_cons_zero, List.set_cons_succ]
                  refine wpList_nil ?_
                  obtain ⟨r3, hr3, er3⟩ := and3 ok
                  go_upto_region 26 with fail
                  refine wp_region_lit ?_
                  refine lst_val (v := .int .i64 (n : Int)) (by kernel_rfl) ?_ ?_
                  · go_simp
                  simp only [Act.put, List.setIfInBounds_toArray, List.set_cons_zero, List.set_cons_succ]
                  refine lst_val (v := .int .i64 ((n : Int) + 1)) (by kernel_rfl) ?_ ?_
                  · (go_simp; try (first | (rw [IntKind.wrap_u64]; omega) | (rw [IntKind.wrap_i64]; omega)))
                  simp only [Act.put, List.setIfInBounds_toArray, List.set_cons_zero, List.set_cons_succ]
                  refine lst_val (v := .pointer (some ⟨ob, 2, none⟩)) (by kernel_rfl) ?_ ?_
                  · go_simp
                  simp only [Act.put, List.setIfInBounds_toArray, List.set_cons_zero, List.set_cons_succ]
                  refine lst_val (v := .int .i64 ok) (by kernel_rfl) ?_ ?_
                  · go_simp
                  simp only [Act.put, List.setIfInBounds_toArray, List.set_cons_zero, List.set_cons_succ]
                  refine lst_val (v := .int .i64 (r3 : Int)) (by kernel_rfl) ?_ ?_
                  · go_simp
                  simp only [Act.put, List.setIfInBounds_toArray, List.set_cons_zero, List.set_cons_succ]
                  refine lst_val (v := .int .i64 ((n : Int) + 1 + (r3 : Int))) (by kernel_rfl) ?_ ?_
                  · (go_simp; try (first | (rw [IntKind.wrap_u64]; omega) | (rw [IntKind.wrap_i64]; omega)))
                  simp only [Act.put, List.setIfInBounds_toArray, List.set_cons_zero, List.set_cons_succ]
                  refine lst_val (v := .pointer (some ⟨ob, 2, none⟩)) (by kernel_rfl) ?_ ?_
                  · go_simp
                  simp only [Act.put, List.setIfInBounds_toArray, List.set_cons_zero, List.set_cons_succ]
                  obtain ⟨kk, ekk⟩ : ∃ kk : Int, kk = (n : Int) + 1 + (r3 : Int) := ⟨_, rfl⟩
                  rw [← ekk]
                  have EK : Hid (kk = (n : Int) + 1 + (r3 : Int)) := ekk
                  clear ekk
                  go_upto_region 27 with fail
                  have Z2 : Hid (Below wr.heap.size wr (z1.setCell ⟨ob, 2, none⟩ (.int .i64 kk))) := Z1.out.setCell (show wr.heap.size ≤ (⟨ob, 2, none⟩ : Addr).block by rw [← EO.out]; exact Nat.le_refl _) _
                  have X2b : Hid (CBox (z1.setCell ⟨ob, 2, none⟩ (.int .i64 kk)) ob 30 [.int .i64 5, .bool tw, .int .i64 kk, .int .i64 ov]) := X0.out.set 2 _
                  generalize z1.setCell ⟨ob, 2, none⟩ (.int .i64 kk) = z2 at Z2 X2b ⊢
                  have KB : Hid (I64 kk ∧ (n : Int) < kk) := ⟨by have := EK.out; unfold I64; omega, by have := EK.out; omega⟩
                  clear e0 e1 e2 e3 f2 er3
                  have e0 : z2.cell? ⟨ob, 0, none⟩ = some (.int .i64 5) := X2b.out.cell 0
                  have e1 : z2.cell? ⟨ob, 1, none⟩ = some (.bool tw) := X2b.out.cell 1
                  have e2 : z2.cell? ⟨ob, 2, none⟩ = some (.int .i64 kk) := X2b.out.cell 2
                  have e3 : z2.cell? ⟨ob, 3, none⟩ = some (.int .i64 ov) := X2b.out.cell 3
                  have A2 : Hid (UY w z2 b (NR + 1 + i) A HT R) := A0.out.past RS1.out Z2.out
                  go_wp2_with (go_at_call 38; refine (A2.out.do RS1.out (by have := HB.out; have := NRB.out; omega) 5 tw kk ov KB.out.1).mono ?_; rintro e w5 ⟨rfl, h5⟩; (have L5 : Hid (UY w w5 b (NR + 1 + i + 1) (nxA 5 kk ov A HT) (nxH 5 kk A HT) R) := h5); clear h5)
                  go_roundw
                  case rel => exact ⟨i + 1, _, _, by omega, by go_num, L5.out, nx_keep (fun _ => KB.out.2) HH.out.1 HH.out.2⟩
                  case measure => simp [intOf]; omega
                · skip
                  refine wp_region_lit ?_
                  refine lst_val (v := .pointer (some ⟨ob, 0, none⟩)) (by kernel_rfl) ?_ ?_
                  · go_simp
                  simp only [Act.put, List.setIfInBounds_toArray, List.set_cons_zero, List.set_cons_succ]
                  refine lst_val (v := .int .i64 5) (by kernel_rfl) ?_ ?_
                  · go_simp
                  simp only [Act.put, List.setIfInBounds_toArray, List.set_cons_zero, List.set_cons_succ]
                  refine lst_val (v := .bool false) (by kernel_rfl) ?_ ?_
                  · go_simp
                  simp only [Act.put, List.setIfInBounds_toArray, List.set_cons_zero, List.set_cons_succ]
                  refine lst_val (v := .bool false) (by kernel_rfl) ?_ ?_
                  · go_simp
                  simp only [Act.put, List.setIfInBounds_toArray, List.set_cons_zero, List.set_cons_succ]
                  refine lst_val (v := .pointer (some ⟨ob, 0, none⟩)) (by kernel_rfl) ?_ ?_
                  · go_simp
                  simp only [Act.put, List.setIfInBounds_toArray, List.set_cons_zero, List.set_cons_succ]
                  refine lst_val (v := .int .i64 5) (by kernel_rfl) ?_ ?_
                  · go_simp
                  simp only [Act.put, List.setIfInBounds_toArray, List.set_cons_zero, List.set_cons_succ]
                  refine lst_val (v := .bool true) (by kernel_rfl) ?_ ?_
                  · go_simp
                  simp only [Act.put, List.setIfInBounds_toArray, List.set_cons_zero, List.set_cons_succ]
                  refine lst_val (v := .bool true) (by kernel_rfl) ?_ ?_
                  · go_simp
                  simp only [Act.put, List.setIfInBounds_toArray, List.set_cons_zero, List.set_cons_succ]
                  refine lst_val (v := .bool true) (by kernel_rfl) ?_ ?_
                  · go_simp
                  simp only [Act.put, List.setIfInBounds_toArray, List.set_cons_zero, List.set_cons_succ]
                  refine lst_val (v := .pointer (some ⟨ob, 2, none⟩)) (by kernel_rfl) ?_ ?_
                  · go_simp
                  simp only [Act.put, List.setIfInBounds_toArray, List.set_cons_zero, List.set_cons_succ]
                  refine lst_val (v := .int .i64 ok) (by kernel_rfl) ?_ ?_
                  · go_simp
                  simp only [Act.put, List.setIfInBounds_toArray, List.set_cons_zero, List.set_cons_succ]
                  refine lst_val (v := .int .i64 (n : Int)) (by kernel_rfl) ?_ ?_
                  · go_simp
                  simp only [Act.put, List.setIfInBounds_toArray, List.set_cons_zero, List.set_cons_succ]
                  refine lst_val (v := .bool false) (by kernel_rfl) ?_ ?_
                  · go_simp
                  simp only [Act.put, List.setIfInBounds_toArray, List.set_cons_zero, List.set_cons_succ]
                  refine lst_val (v := .bool false) (by kernel_rfl) ?_ ?_
                  · go_simp
                  simp only [Act.put, List.setIfInBounds_toArray, List.set_cons_zero, List.set_cons_succ]
                  refine wpList_nil ?_
                  have A2 : Hid (UY w z1 b (NR + 1 + i) A HT R) := A0.out.past RS1.out Z1.out
                  go_wp2_with (go_at_call 38; refine (A2.out.do RS1.out (by have := HB.out; have := NRB.out; omega) 5 tw ok ov OK.out).mono ?_; rintro e w5 ⟨rfl, h5⟩; (have L5 : Hid (UY w w5 b (NR + 1 + i + 1) (nxA 5 ok ov A HT) (nxH 5 ok A HT) R) := h5); clear h5)
                  go_roundw
                  case rel => exact ⟨i + 1, _, _, by omega, by go_num, L5.out, nx_keep (fun _ => by omega) HH.out.1 HH.out.2⟩
                  case measure => simp [intOf]; omega
              refine wp_region_lit ?_
              refine lst_val (v := .pointer (some ⟨ob, 0, none⟩)) (by kernel_rfl) ?_ ?_
              · go_simp
              simp only [Act.put, List.setIfInBounds_toArray, List.set_cons_zero, List.set_cons_succ]
              refine lst_val (v := .int .i64 kd) (by kernel_rfl) ?_ ?_
              · go_simp
              simp only [Act.put, List.setIfInBounds_toArray, List.set_cons_zero, List.set_cons_succ]
              refine lst_val (v := .bool false) (by kernel_rfl) ?_ ?_
              · go_simp
              simp only [Act.put, List.setIfInBounds_toArray, List.set_cons_zero, List.set_cons_succ]
              refine lst_val (v := .bool false) (by kernel_rfl) ?_ ?_
              · go_simp
              simp only [Act.put, List.setIfInBounds_toArray, List.set_cons_zero, List.set_cons_succ]
              refine lst_val (v := .pointer (some ⟨ob, 0, none⟩)) (by kernel_rfl) ?_ ?_
              · go_simp
              simp only [Act.put, List.setIfInBounds_toArray, List.set_cons_zero, List.set_cons_succ]
              refine lst_val (v := .int .i64 kd) (by kernel_rfl) ?_ ?_
              · go_simp
              simp only [Act.put, List.setIfInBounds_toArray, List.set_cons_zero, List.set_cons_succ]
              refine lst_val (v := .bool false) (by kernel_rfl) ?_ ?_
              · go_simp
              simp only [Act.put, List.setIfInBounds_toArray, List.set_cons_zero, List.set_cons_succ]
              refine lst_val (v := .bool false) (by kernel_rfl) ?_ ?_
              · go_simp
              simp only [Act.put, List.setIfInBounds_toArray, List.set_cons_zero, List.set_cons_succ]
              refine lst_val (v := .bool false) (by kernel_rfl) ?_ ?_
              · go_simp
              simp only [Act.put, List.setIfInBounds_toArray, List.set_cons_zero, List.set_cons_succ]
              refine lst_not (by kernel_rfl) ?_
              simp only [Act.put, List.setIfInBounds_toArray, List.set_cons_zero, List.set_cons_succ]
              refine lst_not (by kernel_rfl) ?_
              simp only [Act.put, List.setIfInBounds_toArray, List.set_cons_zero, List.set_cons_succ]
              refine lst_not (by kernel_rfl) ?_
              simp only [Act.put, List.setIfInBounds_toArray, List.set_cons_zero, List.set_cons_succ]
              refine lst_not (by kernel_rfl) ?_
              simp only [Act.put, List.setIfInBounds_toArray, List.set_cons_zero, List.set_cons_succ]
              refine lst_val (v := .bool false) (by kernel_rfl) ?_ ?_
              · go_simp
              simp only [Act.put, List.setIfInBounds_toArray, List.set_cons_zero, List.set_cons_succ]
              refine wpList_nil ?_
              have A2 : Hid (UY w z1 b (NR + 1 + i) A HT R) := A0.out.past RS1.out Z1.out
              go_wp2_with (go_at_call 38; refine (A2.out.do RS1.out (by have := HB.out; have := NRB.out; omega) kd tw ok ov OK.out).mono ?_; rintro e w5 ⟨rfl, h5⟩; (have L5 : Hid (UY w w5 b (NR + 1 + i + 1) (nxA kd ok ov A HT) (nxH kd ok A HT) R) := h5); clear h5)
              go_roundw
              case rel => exact ⟨i + 1, _, _, by omega, by go_num, L5.out, nx_keep (fun e => (e.elim h4 h5).elim) HH.out.1 HH.out.2⟩
              case measure => simp [intOf]; omega
            · have iI : ¬ (i : Int) < (nr : Int) := by omega
              have IB : Hid (i ≤ 1048576) := by have := NRB.out; show _ ≤ _; omega
              go_upto_region 28 with fail
              go_upto_region 29 with (go_at_call 43; refine (A0.out.t RS1.out fun ow ht => mv_mo (del1 wr ow 1 b (NR + 1 + i) A HT ht 7 (by unfold I64; omega) (by have := HB.out; have := IB.out; omega))).mono ?_; rintro e w5 ⟨rfl, h1⟩; (have T5 : Hid (UY w w5 b (NR + 1 + i + 1) (delA A 7) HT R) := h1); clear h1)
              generalize (getR A 7).isSome = gg
              have G7 : Hid (getR (delA A 7) 7 = none) := by show _ = _; rw [getR_del A0.out.ris.1 T5.out.ris.1, if_pos rfl]
              clear A0
              generalize delA A 7 = C at T5 G7
              have G5 : Hid (Calls Try.prog 44 #[.pointer (some ⟨b, 0, none⟩), .int .i64 7] w5 fun e w' => e = .returned (.tuple #[.int .i64 0, .bool false]) ∧ w' = w5) := T5.out.get 7 (by unfold I64; omega) (by have := HB.out; have := IB.out; omega) none G7.out
              go_upto_region 30 with (go_at_call 44; refine (G5.out).mono ?_; rintro e w' ⟨rfl, hw⟩; (have hw2 := hw.symm); clear hw; subst hw2)
              clear G5 G7
              have M5 := T5.out.marks
              have HL := HH.out.2
              have hlX : ¬ (HT.length : Int) ≤ (n : Int) := by omega
              have K5 : Hid (Calls Try.prog 45 #[.pointer (some ⟨b, 0, none⟩), .int .i64 (n : Int)] w5 fun e w' => e = .returned (.int .i64 0) ∧ UY w w' b (NR + 1 + i + 1 + 1) AS H R) := by
                have := T5.out.t RS1.out fun ow ht => mv_mo (back1 w5 ow 1 b (NR + 1 + i + 1) C HT ht (n : Int) (by have := HB.out; have := IB.out; omega))
                obtain ⟨k1, k2, k3⟩ := bk_lt (A := C) (H := HT) (m := n) (by omega)
                obtain ⟨l1, l2⟩ := at_last EN.out.1 HH.out.1
                rw [k1, k2, k3, l1, l2] at this
                exact this
              have K6 : Hid (∀ W, UY w W b (NR + 1 + i + 1 + 1) AS H R → Calls Try.prog 45 #[.pointer (some ⟨b, 0, none⟩), .int .i64 (n : Int)] W fun e w' => e = .returned (.int .i64 30) ∧ UY w w' b (NR + 1 + i + 1 + 1 + 1) AS H R) := fun W hW => by
                have := hW.t RS1.out fun ow ht => mv_mo (back1 W ow 1 b (NR + 1 + i + 1 + 1) AS H ht (n : Int) (by have := HB.out; have := IB.out; omega))
                obtain ⟨k1, k2, k3⟩ := bk_ge (A := AS) (H := H) (m := n) (by rw [EN.out.1]; exact Nat.le_refl _)
                rw [k1, k2, k3] at this
                exact this
              have M6 : Hid (∀ W, UY w W b (NR + 1 + i + 1 + 1) AS H R → Calls Try.prog 41 #[.pointer (some ⟨b, 0, none⟩)] W fun e w' => e = .returned (.int .i64 (n : Int)) ∧ w' = W) := fun W hW => by have := hW.marks; rw [EN.out.1] at this; exact this
              have VC : Hid (∀ N W, UY w W b N AS H R → W.cell? ⟨xb, 0, none⟩ = some (.slice ka mm kc) ∧ W.cell? ⟨xb, 1, none⟩ = some (.slice va mm vc)) := fun N W hW => by obtain ⟨ow, h1⟩ := hW.have; exact (RF.out ow W h1).2.1
              have TE7 : Hid (∀ W, UY w W b (NR + 1 + i + 1 + 1 + 1) AS H R → Calls Try.prog 46 #[.pointer (some ⟨b, 0, none⟩), .agg #[.slice ka mm kc, .slice va mm vc]] W fun e w' => e = .returned (.bool true) ∧ UY w w' b (NR + 1 + i + 1 + 1 + 1) AS H R) := fun W hW => hW.tells RS1.out (fun ow V h => (RF.out ow V h).1) (by have := HB.out; have := IB.out; omega)
              have M5' : Hid (Calls Try.prog 41 #[.pointer (some ⟨b, 0, none⟩)] w5 fun e w' => e = .returned (.int .i64 (HT.length : Int)) ∧ w' = w5) := M5
              clear M5 HL T5
              generalize (HT.length : Int) = hl at M5' hlX
              refine wp_region_lit ?_
              refine lst_val (v := .bool false) (by kernel_rfl) ?_ ?_
              · go_simp
              simp only [Act.put, List.setIfInBounds_toArray, List.set_cons_zero, List.set_cons_succ]
              refine lst_val (v := .bool false) (by kernel_rfl) ?_ ?_
              · go_simp
              simp only [Act.put, List.setIfInBounds_toArray, List.set_cons_zero, List.set_cons_succ]
              refine lst_val (v := .int .i64 0) (by kernel_rfl) ?_ ?_
              · go_simp
              simp only [Act.put, List.setIfInBounds_toArray, List.set_cons_zero, List.set_cons_succ]
              refine lst_val (v := .bool false) (by kernel_rfl) ?_ ?_
              · go_simp
              simp only [Act.put, List.setIfInBounds_toArray, List.set_cons_zero, List.set_cons_succ]
              refine lst_val (v := .bool false) (by kernel_rfl) ?_ ?_
              · go_simp
              simp only [Act.put, List.setIfInBounds_toArray, List.set_cons_zero, List.set_cons_succ]
              refine lst_val (v := .bool false) (by kernel_rfl) ?_ ?_
              · go_simp
              simp only [Act.put, List.setIfInBounds_toArray, List.set_cons_zero, List.set_cons_succ]
              refine lst_val (v := .pointer (some ⟨b, 0, none⟩)) (by kernel_rfl) ?_ ?_
              · go_simp
              simp only [Act.put, List.setIfInBounds_toArray, List.set_cons_zero, List.set_cons_succ]
              refine lst_call (by kernel_rfl) (by first | (go_simp; done) | (go_simp; first | exact rfl | exact ⟨rfl, rfl⟩ | exact ⟨rfl, rfl, rfl⟩)) (M5'.out) ?_
              rintro e w' ⟨rfl, hw⟩
              have hw2 := hw.symm
              clear hw
              subst hw2
              refine ⟨_, rfl, ?_⟩
              simp only [Act.put, List.setIfInBounds_toArray, List.set_cons_zero, List.set_cons_succ]
              refine lst_val (v := .int .i64 (n : Int)) (by kernel_rfl) ?_ ?_
              · go_simp
              simp only [Act.put, List.setIfInBounds_toArray, List.set_cons_zero, List.set_cons_succ]
              refine lst_val (v := .bool false) (by kernel_rfl) ?_ ?_
              · go_simp
              simp only [Act.put, List.setIfInBounds_toArray, List.set_cons_zero, List.set_cons_succ]
              refine lst_val (v := .bool false) (by kernel_rfl) ?_ ?_
              · go_simp
              simp only [Act.put, List.setIfInBounds_toArray, List.set_cons_zero, List.set_cons_succ]
              refine lst_val (v := .bool false) (by kernel_rfl) ?_ ?_
              · go_simp
              simp only [Act.put, List.setIfInBounds_toArray, List.set_cons_zero, List.set_cons_succ]
              refine lst_val (v := .pointer (some ⟨b, 0, none⟩)) (by kernel_rfl) ?_ ?_
              · go_simp
              simp only [Act.put, List.setIfInBounds_toArray, List.set_cons_zero, List.set_cons_succ]
              refine lst_val (v := .int .i64 (n : Int)) (by kernel_rfl) ?_ ?_
              · go_simp
              simp only [Act.put, List.setIfInBounds_toArray, List.set_cons_zero, List.set_cons_succ]
              refine lst_call (by kernel_rfl) (by first | (go_simp; done) | (go_simp; first | exact rfl | exact ⟨rfl, rfl⟩ | exact ⟨rfl, rfl, rfl⟩)) (K5.out) ?_
              rintro e v6 ⟨rfl, h6⟩
              refine ⟨_, rfl, ?_⟩
              have V6 : Hid (UY w v6 b (NR + 1 + i + 1 + 1) AS H R) := h6
              clear h6
              simp only [Act.put, List.setIfInBounds_toArray, List.set_cons_zero, List.set_cons_succ]
              refine lst_val (v := .bool false) (by kernel_rfl) ?_ ?_
              · go_simp
              simp only [Act.put, List.setIfInBounds_toArray, List.set_cons_zero, List.set_cons_succ]
              refine lst_val (v := .bool false) (by kernel_rfl) ?_ ?_
              · go_simp
              simp only [Act.put, List.setIfInBounds_toArray, List.set_cons_zero, List.set_cons_succ]
              refine lst_val (v := .bool false) (by kernel_rfl) ?_ ?_
              · go_simp
              simp only [Act.put, List.setIfInBounds_toArray, List.set_cons_zero, List.set_cons_succ]
              refine lst_val (v := .pointer (some ⟨b, 0, none⟩)) (by kernel_rfl) ?_ ?_
              · go_simp
              simp only [Act.put, List.setIfInBounds_toArray, List.set_cons_zero, List.set_cons_succ]
              refine lst_call (by kernel_rfl) (by first | (go_simp; done) | (go_simp; first | exact rfl | exact ⟨rfl, rfl⟩ | exact ⟨rfl, rfl, rfl⟩)) (M6.out v6 V6.out) ?_
              rintro e w' ⟨rfl, hw⟩
              have hw2 := hw.symm
              clear hw
              subst hw2
              refine ⟨_, rfl, ?_⟩
              simp only [Act.put, List.setIfInBounds_toArray, List.set_cons_zero, List.set_cons_succ]
              refine lst_val (v := .int .i64 (n : Int)) (by kernel_rfl) ?_ ?_
              · go_simp
              simp only [Act.put, List.setIfInBounds_toArray, List.set_cons_zero, List.set_cons_succ]
              refine lst_val (v := .bool false) (by kernel_rfl) ?_ ?_
              · go_simp
              simp only [Act.put, List.setIfInBounds_toArray, List.set_cons_zero, List.set_cons_succ]
              refine lst_val (v := .bool false) (by kernel_rfl) ?_ ?_
              · go_simp
              simp only [Act.put, List.setIfInBounds_toArray, List.set_cons_zero, List.set_cons_succ]
              refine lst_val (v := .bool false) (by kernel_rfl) ?_ ?_
              · go_simp
              simp only [Act.put, List.setIfInBounds_toArray, List.set_cons_zero, List.set_cons_succ]
              refine lst_val (v := .pointer (some ⟨b, 0, none⟩)) (by kernel_rfl) ?_ ?_
              · go_simp
              simp only [Act.put, List.setIfInBounds_toArray, List.set_cons_zero, List.set_cons_succ]
              refine lst_val (v := .int .i64 (n : Int)) (by kernel_rfl) ?_ ?_
              · go_simp
              simp only [Act.put, List.setIfInBounds_toArray, List.set_cons_zero, List.set_cons_succ]
              refine lst_call (by kernel_rfl) (by first | (go_simp; done) | (go_simp; first | exact rfl | exact ⟨rfl, rfl⟩ | exact ⟨rfl, rfl, rfl⟩)) (K6.out v6 V6.out) ?_
              rintro e v7 ⟨rfl, h6⟩
              refine ⟨_, rfl, ?_⟩
              have V7 : Hid (UY w v7 b (NR + 1 + i + 1 + 1 + 1) AS H R) := h6
              clear h6 V6
              obtain ⟨c0, c1⟩ := VC.out _ v7 V7.out
              simp only [Act.put, List.setIfInBounds_toArray, List.set_cons_zero, List.set_cons_succ]
              refine lst_val (v := .bool false) (by kernel_rfl) ?_ ?_
              · go_simp
              simp only [Act.put, List.setIfInBounds_toArray, List.set_cons_zero, List.set_cons_succ]
              refine lst_val (v := .bool false) (by kernel_rfl) ?_ ?_
              · go_simp
              simp only [Act.put, List.setIfInBounds_toArray, List.set_cons_zero, List.set_cons_succ]
              refine lst_val (v := .bool false) (by kernel_rfl) ?_ ?_
              · go_simp
              simp only [Act.put, List.setIfInBounds_toArray, List.set_cons_zero, List.set_cons_succ]
              refine lst_val (v := .pointer (some ⟨b, 0, none⟩)) (by kernel_rfl) ?_ ?_
              · go_simp
              simp only [Act.put, List.setIfInBounds_toArray, List.set_cons_zero, List.set_cons_succ]
              refine lst_val (v := .agg #[.slice ka mm kc, .slice va mm vc]) (by kernel_rfl) ?_ ?_
              · go_simp
              simp only [Act.put, List.setIfInBounds_toArray, List.set_cons_zero, List.set_cons_succ]
              refine lst_call (by kernel_rfl) (by first | (go_simp; done) | (go_simp; first | exact rfl | exact ⟨rfl, rfl⟩ | exact ⟨rfl, rfl, rfl⟩)) (TE7.out v7 V7.out) ?_
              rintro e v9 ⟨rfl, h6⟩
              refine ⟨_, rfl, ?_⟩
              have V9 : Hid (UY w v9 b (NR + 1 + i + 1 + 1 + 1) AS H R) := h6
              clear h6 V7 c0 c1
              simp only [Act.put, List.setIfInBounds_toArray, List.set_cons_zero, List.set_cons_succ]
              refine lst_val (v := .bool false) (by kernel_rfl) ?_ ?_
              · go_simp
              simp only [Act.put, List.setIfInBounds_toArray, List.set_cons_zero, List.set_cons_succ]
              refine lst_val (v := .bool false) (by kernel_rfl) ?_ ?_
              · go_simp
              simp only [Act.put, List.setIfInBounds_toArray, List.set_cons_zero, List.set_cons_succ]
              refine wpList_nil ?_
              clear M5' hlX K5 K6 M6 TE7 VC HH
              go_wp2
              go_roundw
              case rel => exact ⟨r + 1, by omega, by go_num, V9.out.mono (by have := HN.out; have := IB.out; omega)⟩
              case measure => have h9 := HN.out; simp [intOf]; omega
        · have rI : ¬ (r : Int) < 2 := by omega
          go_wp2_with (go_at_call 13; refine (awake_is wr).mono ?_; rintro e v6 ⟨rfl, h3⟩; (have B6 : Hid (Below w.heap.size w v6) := A0.out.bel.trans (h3.mono A0.out.bel.size)); clear h3)
          go_ret
          exact ⟨rfl, B6.out⟩
end Go.Proofs.Ytohfkgfjcnldaaa
