/- UndoOrders. -/
import Derived.Test.YtohfkgfjcnldaaaTyn
namespace Go.Proofs.Ytohfkgfjcnldaaa
open Go.RowKit Go.Shelf
set_option maxHeartbeats 8000000 in
set_option maxRecDepth 100000 in
theorem undoOrders_walk (w : World) (v0 : Value) (n : Nat) (x : Nat → OpR) (hv : OpsAt w v0 n x) (hn : n ≤ 4398046511104) : Calls Try.prog 9 #[v0] w fun e w' => e = .returned (.bool true) ∧ Below w.heap.size w w' := by
  obtain ⟨ad, cap, rfl, hx⟩ := hv
  have X1 : Hid (0 < n → ∃ g a, ad = some ⟨g, a, none⟩ ∧ ∀ i, i < n → OpAt w g (a + i * 4) (x i) ∧ OpOk (x i)) := hx
  clear hx
  by_cases hbig : (1048576 : Int) < (n : Int)
  · go_enter Try.func9, Try.ntmps9
    go_wp2
    go_ret
    exact ⟨rfl, Below.refl _ _⟩
  go_enter Try.func9, Try.ntmps9
  go_upto_region 4 with (go_at_call 37; refine (U0.new w 0).mono ?_; rintro e w1 ⟨b, rfl, h1⟩; (have T1 : Hid (U0 w w1 b 0 [] []) := h1); clear h1)
  go_upto_region 6 with fail
  go_upto_region 7 with (go_at_call 39; refine (T1.out.t fun ow ht => set1 w1 ow 1 b 0 [] [] ht 3 3 (by unfold I64; omega) (by omega)).mono ?_; rintro e w2 ⟨rfl, h1⟩; (have T2 : Hid (U0 w w2 b 1 (setRL [] 3 3) []) := h1); clear h1 T1)
  go_wp2
  have B1 : Hid (n ≤ 1048576) := by show _ ≤ _; omega
  go_loopw [4] (fun si wr => ∃ (i : Nat) (A : List (Int × Int)) (H : List (List (Int × Int))), i ≤ n ∧ si = .int .i64 (i : Int) ∧ U0 w wr b (1 + i) A H) (fun si _ => n - (intOf si).toNat)
  case atStart => exact ⟨0, _, _, by omega, rfl, T2.out⟩
  case round =>
    obtain ⟨i, A, H, hi, rfl, hA⟩ := hrel
    have A0 : Hid (U0 w wr b (1 + i) A H) := hA
    clear hA T2
    by_cases hin : i < n
    · have iI : (i : Int) < (n : Int) := by omega
      obtain ⟨g, a, rfl, ok0, dc⟩ := ops_at X1.out hin
      generalize (x i) = op at ok0 dc
      obtain ⟨kd, tw, ok, ov⟩ := op
      have OK : Hid (I64 ok) := ok0
      obtain ⟨d0, d1, d2, d3⟩ := dc wr A0.out.bel
      clear ok0 dc
      go_wp2_with (go_at_call 38; refine (A0.out.do (by have := B1.out; omega) kd tw ok ov OK.out).mono ?_; rintro e w4 ⟨rfl, h4⟩; (have L4 : Hid (U0 w w4 b (1 + i + 1) (nxA kd ok ov A H) (nxH kd ok A H)) := h4); clear h4)
      go_roundw
      case rel => exact ⟨i + 1, _, _, by omega, by go_num, L4.out⟩
      case measure => simp [intOf]; omega
    · have iI : ¬ (i : Int) < (n : Int) := by omega
      generalize hN0 : 1 + i = N0 at A0
      have BN : Hid (N0 ≤ 1048577) := by have := B1.out; show _ ≤ _; omega
      go_upto_region 11 with fail
      clear hN0 iI hi hin
      go_upto_region 12 with (go_at_call 40; refine (A0.out.seen (by have := BN.out; omega)).mono ?_; rintro e v1 ⟨ka, kc, va, vc, rfl, h1⟩)
      obtain ⟨m, em⟩ : ∃ m, A.length = m := ⟨_, rfl⟩
      rw [em] at h1 ⊢
      have EM : Hid (A.length = m) := em
      clear em
      change Code.wp _ _ _ _ (v1.alloc (.cells #[.slice ka m kc, .slice va m vc] 67))
      have V2 : Hid (UY w (v1.alloc (.cells #[.slice ka m kc, .slice va m vc] 67)) b N0 A H (RV v1.heap.size (.slice ka m kc) (.slice va m vc) A)) := UV.uy h1
      clear h1 A0
      generalize v1.alloc (.cells #[.slice ka m kc, .slice va m vc] 67) = v2 at V2 ⊢
      generalize v1.heap.size = xb at V2 ⊢
      have HR : Hid (Ris A ∧ m ≤ N0) := ⟨V2.out.ris.1, by have := V2.out.ris.2.1; rw [EM.out] at this; exact this⟩
      have mX : (m : Int) ≤ 1048577 := by have := HR.out; have := BN.out; omega
      have RS2 : Hid (Stb (RV xb (.slice ka m kc) (.slice va m vc) A)) := RV.stb _ _ _ _
      have RF2 : Hid (∀ ow V, RV xb (.slice ka m kc) (.slice va m vc) A ow V → (IsI V ow (.slice ka m kc) (A.map Prod.fst) ∧ IsI V ow (.slice va m vc) (A.map Prod.snd)) ∧ (V.cell? ⟨xb, 0, none⟩ = some (.slice ka m kc) ∧ V.cell? ⟨xb, 1, none⟩ = some (.slice va m vc))) := fun ow V h => ⟨h.1, h.2.1.cell 0, h.2.1.cell 1⟩
      generalize RV xb (.slice ka m kc) (.slice va m vc) A = R at V2 RS2 RF2
      have PL : Hid (∀ l : List Int, l.Perm (A.map Prod.fst) → l.length = A.length) := fun l h => by rw [h.length_eq, List.length_map]
      go_upto_region 13 with (go_at_call 49; refine (V2.out.keys RS2.out (Q := fun l => l = (A.map Prod.fst).reverse) (fun l hl => by rw [hl, List.length_reverse, List.length_map]) (fun ow ht => keysF1 v2 ow 1 b N0 A H ht (by have := BN.out; omega))).mono ?_; rintro e v3 ⟨ld, gd, qd, rfl, h1⟩; rw [EM.out] at h1 ⊢)
      have V3 : Hid (UY w v3 b N0 A H fun ow V => R ow V ∧ IsI V ow (.slice (some ⟨gd, 0, none⟩) m m) ld) := h1
      have QD : Hid (ld = (A.map Prod.fst).reverse) := qd
      clear h1 V2 qd
      have RS3 : Hid (Stb fun ow V => R ow V ∧ IsI V ow (.slice (some ⟨gd, 0, none⟩) m m) ld) := RS2.out.and (Stb.isI _ _)
      go_upto_region 14 with (go_at_call 49; refine (V3.out.keys RS3.out (Q := fun l => l.Perm (A.map Prod.fst)) PL.out (fun ow ht => keysZ1 v3 ow 1 b N0 A H ht (by have := BN.out; omega))).mono ?_; rintro e v4 ⟨lz, gz, qz, rfl, h1⟩; rw [EM.out] at h1 ⊢)
      have V4 : Hid (UY w v4 b N0 A H fun ow V => (R ow V ∧ IsI V ow (.slice (some ⟨gd, 0, none⟩) m m) ld) ∧ IsI V ow (.slice (some ⟨gz, 0, none⟩) m m) lz) := h1
      have QZ : Hid (lz.Perm (A.map Prod.fst)) := qz
      clear h1 V3 qz
      have RS4 : Hid (Stb fun ow V => (R ow V ∧ IsI V ow (.slice (some ⟨gd, 0, none⟩) m m) ld) ∧ IsI V ow (.slice (some ⟨gz, 0, none⟩) m m) lz) := RS3.out.and (Stb.isI _ _)
      go_upto_region 15 with (go_at_call 49; refine (V4.out.keys RS4.out (Q := fun l => l.Perm (A.map Prod.fst)) PL.out (fun ow ht => keysN1 v4 ow 1 b N0 A H ht (by have := BN.out; omega))).mono ?_; rintro e v5 ⟨ln, gn, qn, rfl, h1⟩; rw [EM.out] at h1 ⊢)
      have QN : Hid (ln.Perm (A.map Prod.fst)) := qn
      obtain ⟨R5, e5⟩ : ∃ R5 : (Nat → Nat) → World → Prop, R5 = fun ow V => ((R ow V ∧ IsI V ow (.slice (some ⟨gd, 0, none⟩) m m) ld) ∧ IsI V ow (.slice (some ⟨gz, 0, none⟩) m m) lz) ∧ IsI V ow (.slice (some ⟨gn, 0, none⟩) m m) ln := ⟨_, rfl⟩
      have V5 : Hid (UY w v5 b N0 A H R5) := by rw [e5]; exact h1
      have RS5 : Hid (Stb R5) := by rw [e5]; exact RS4.out.and (Stb.isI _ _)
      have RF5 : Hid (∀ ow V, R5 ow V → ((IsI V ow (.slice ka m kc) (A.map Prod.fst) ∧ IsI V ow (.slice va m vc) (A.map Prod.snd)) ∧ (V.cell? ⟨xb, 0, none⟩ = some (.slice ka m kc) ∧ V.cell? ⟨xb, 1, none⟩ = some (.slice va m vc))) ∧ IsI V ow (.slice (some ⟨gd, 0, none⟩) m m) ld ∧ IsI V ow (.slice (some ⟨gz, 0, none⟩) m m) lz ∧ IsI V ow (.slice (some ⟨gn, 0, none⟩) m m) ln) := by rw [e5]; exact fun ow V h => ⟨RF2.out ow V h.1.1.1, h.1.1.2, h.1.2, h.2⟩
      clear h1 V4 qn e5 RS2 RF2 RS3 RS4 PL
      have VC : Hid (∀ W, UY w W b N0 A H R5 → W.cell? ⟨xb, 0, none⟩ = some (.slice ka m kc) ∧ W.cell? ⟨xb, 1, none⟩ = some (.slice va m vc)) := fun W hW => by obtain ⟨ow, h1⟩ := hW.have; exact (RF5.out ow W h1).1.2
      obtain ⟨c0, c1⟩ := VC.out v5 V5.out
      go_upto_region 16 with fail
      refine wp_region_lit ?_
      refine lst_val (v := .slice (some ⟨gd, 0, none⟩) m m) (by kernel_rfl) ?_ ?_
      · go_simp
      simp only [Act.put, List.setIfInBounds_toArray, List.set_cons_zero, List.set_cons_succ]
      refine lst_val (v := .int .i64 (m : Int)) (by kernel_rfl) ?_ ?_
      · go_simp
      simp only [Act.put, List.setIfInBounds_toArray, List.set_cons_zero, List.set_cons_succ]
      refine lst_val (v := .int .i64 (m : Int)) (by kernel_rfl) ?_ ?_
      · go_simp
      simp only [Act.put, List.setIfInBounds_toArray, List.set_cons_zero, List.set_cons_succ]
      refine lst_val (v := .bool false) (by kernel_rfl) ?_ ?_
      · go_simp
      simp only [Act.put, List.setIfInBounds_toArray, List.set_cons_zero, List.set_cons_succ]
      refine lst_val (v := .bool false) (by kernel_rfl) ?_ ?_
      · go_simp
      simp only [Act.put, List.setIfInBounds_toArray, List.set_cons_zero, List.set_cons_succ]
      refine lst_val (v := .slice (some ⟨gz, 0, none⟩) m m) (by kernel_rfl) ?_ ?_
      · go_simp
      simp only [Act.put, List.setIfInBounds_toArray, List.set_cons_zero, List.set_cons_succ]
      refine lst_val (v := .int .i64 (m : Int)) (by kernel_rfl) ?_ ?_
      · go_simp
      simp only [Act.put, List.setIfInBounds_toArray, List.set_cons_zero, List.set_cons_succ]
      refine lst_val (v := .int .i64 (m : Int)) (by kernel_rfl) ?_ ?_
      · go_simp
      simp only [Act.put, List.setIfInBounds_toArray, List.set_cons_zero, List.set_cons_succ]
      refine lst_val (v := .bool false) (by kernel_rfl) ?_ ?_
      · go_simp
      simp only [Act.put, List.setIfInBounds_toArray, List.set_cons_zero, List.set_cons_succ]
      refine lst_val (v := .bool false) (by kernel_rfl) ?_ ?_
      · go_simp
      simp only [Act.put, List.setIfInBounds_toArray, List.set_cons_zero, List.set_cons_succ]
      refine lst_val (v := .bool false) (by kernel_rfl) ?_ ?_
      · go_simp
      simp only [Act.put, List.setIfInBounds_toArray, List.set_cons_zero, List.set_cons_succ]
      refine lst_val (v := .slice (some ⟨gn, 0, none⟩) m m) (by kernel_rfl) ?_ ?_
      · go_simp
      simp only [Act.put, List.setIfInBounds_toArray, List.set_cons_zero, List.set_cons_succ]
      refine lst_val (v := .int .i64 (m : Int)) (by kernel_rfl) ?_ ?_
      · go_simp
      simp only [Act.put, List.setIfInBounds_toArray, List.set_cons_zero, List.set_cons_succ]
      refine lst_val (v := .int .i64 (m : Int)) (by kernel_rfl) ?_ ?_
      · go_simp
      simp only [Act.put, List.setIfInBounds_toArray, List.set_cons_zero, List.set_cons_succ]
      refine lst_val (v := .bool false) (by kernel_rfl) ?_ ?_
      · go_simp
      simp only [Act.put, List.setIfInBounds_toArray, List.set_cons_zero, List.set_cons_succ]
      refine lst_val (v := .bool false) (by kernel_rfl) ?_ ?_
      · go_simp
      simp only [Act.put, List.setIfInBounds_toArray, List.set_cons_zero, List.set_cons_succ]
      refine wpList_nil ?_
      clear c0 c1
      go_upto_region 18 with fail
      go_wp2
      go_loopw [10] (fun si wr => ∃ (q : Nat), q ≤ m ∧ si = .int .i64 (q : Int) ∧ UY w wr b N0 A H R5) (fun si _ => m - (intOf si).toNat)
      case atStart => exact ⟨0, by omega, rfl, V5.out⟩
      case round =>
        obtain ⟨q, hq, rfl, hA⟩ := hrel
        have A0 : Hid (UY w wr b N0 A H R5) := hA
        clear hA V5
        by_cases hin : q < m
        · have iI : (q : Int) < (m : Int) := by omega
          obtain ⟨j, hj⟩ : ∃ j, j + q + 1 = m := ⟨m - 1 - q, by omega⟩
          obtain ⟨m1, hm1⟩ : ∃ m1, m1 + 1 = m := ⟨m - 1, by omega⟩
          have mm : (m : Int) - 1 = (m1 : Int) := by omega
          have wm : IntKind.i64.wrap (m1 : Int) = (m1 : Int) := by rw [IntKind.wrap_i64]; omega
          have mq : (m1 : Int) - (q : Int) = (j : Int) := by omega
          have wj : IntKind.i64.wrap (j : Int) = (j : Int) := by rw [IntKind.wrap_i64]; omega
          have jI : (j : Int) < (m : Int) := by omega
          obtain ⟨⟨kx, vx⟩, hp⟩ : ∃ p, A[q]? = some p := ⟨_, List.getElem?_eq_getElem (by rw [EM.out]; exact hin)⟩
          obtain ⟨⟨ky, vy⟩, hp2⟩ : ∃ p, A[j]? = some p := ⟨_, List.getElem?_eq_getElem (by rw [EM.out]; omega)⟩
          have KD : Hid (ld[q]? = some ky) := by
            show _ = _
            rw [QD.out, List.getElem?_reverse (by rw [List.length_map, EM.out]; exact hin), List.length_map, EM.out, show m - 1 - q = j by omega, List.getElem?_map, hp2]
            rfl
          have OC : Hid (∀ W, UY w W b N0 A H R5 → (Calls Try.prog 52 #[.slice (some ⟨gz, 0, none⟩) m m, .int .i64 kx] W fun e w' => e = .returned (.bool true) ∧ w' = W) ∧ (Calls Try.prog 52 #[.slice (some ⟨gn, 0, none⟩) m m, .int .i64 kx] W fun e w' => e = .returned (.bool true) ∧ w' = W)) := fun W hW => by
            obtain ⟨ow, h1⟩ := hW.have
            obtain ⟨_, _, i1, i2⟩ := RF5.out ow W h1
            have mk : kx ∈ A.map Prod.fst := List.mem_map.2 ⟨(kx, vx), List.mem_iff_getElem?.2 ⟨q, hp⟩, rfl⟩
            exact ⟨once_is W ow _ lz kx i1 (by rw [QZ.out.length_eq, List.length_map, EM.out]; omega) (count_one HR.out.1 QZ.out mk), once_is W ow _ ln kx i2 (by rw [QN.out.length_eq, List.length_map, EM.out]; omega) (count_one HR.out.1 QN.out mk)⟩
          have GK : ∃ gk, ka = some ⟨gk, 0, none⟩ := by
            obtain ⟨ow, h1⟩ := A0.out.have
            obtain ⟨⟨⟨⟨ka2, kc2, ek, i1⟩, _⟩, _⟩, _⟩ := RF5.out ow wr h1
            injection ek with ek
            obtain ⟨g, e1, _⟩ := i1 q kx (by rw [List.getElem?_map, hp]; rfl)
            exact ⟨g, by rw [ek, e1]⟩
          obtain ⟨gk, rfl⟩ := GK
          have DC : Hid (∀ W, UY w W b N0 A H R5 → W.cell? ⟨xb, 0, none⟩ = some (.slice (some ⟨gk, 0, none⟩) m kc) ∧ W.cell? ⟨gd, q, none⟩ = some (.int .i64 ky) ∧ W.cell? ⟨gk, j, none⟩ = some (.int .i64 ky) ∧ W.cell? ⟨gk, q, none⟩ = some (.int .i64 kx)) := fun W hW => by
            obtain ⟨ow, h1⟩ := hW.have
            obtain ⟨⟨⟨⟨ka2, kc2, ek, i1⟩, _⟩, c0, _⟩, ⟨ad2, cp2, ed, i2⟩, _⟩ := RF5.out ow W h1
            injection ek with ek
            injection ed with ed
            subst ek ed
            obtain ⟨g1, e1, _, d1⟩ := i2 q ky KD.out
            obtain ⟨g2, e2, _, d2⟩ := i1 j ky (by rw [List.getElem?_map, hp2]; rfl)
            obtain ⟨g3, e3, _, d3⟩ := i1 q kx (by rw [List.getElem?_map, hp]; rfl)
            injection e1 with e1
            injection e1 with e1
            injection e2 with e2
            injection e2 with e2
            injection e3 with e3
            injection e3 with e3
            subst e1 e2 e3
            exact ⟨c0, d1, d2, d3⟩
          have A1 : Hid (UY w wr.drew b N0 A H R5) := A0.out.past RS5.out ((Below.refl _ _).drew)
          clear hp hp2 hj hm1
          go_upto_region 21 with fail
          refine wp_region_held_drew (S := fun V' => V'.cell? ⟨xb, 0, none⟩ = some (.slice (some ⟨gk, 0, none⟩) m kc) ∧ V'.cell? ⟨gd, q, none⟩ = some (.int .i64 ky) ∧ V'.cell? ⟨gk, j, none⟩ = some (.int .i64 ky) ∧ V'.cell? ⟨gk, q, none⟩ = some (.int .i64 kx)) (by kernel_rfl) (DC.out wr.drew A1.out) (fun hHeld => ?_)
          generalize wr.drew = z0 at hHeld A1 ⊢
          clear A0
          refine wpAnyH_take (i := 0) (v := .slice (some ⟨gd, 0, none⟩) m m) ov0 (by kernel_rfl) (by kernel_rfl) (by kernel_rfl) (fun _ _ _ h => h) (Or.inl ⟨by rfl, fun V' hS => ?_⟩) hHeld ?_
          · go_simp
          simp only [Act.put, List.setIfInBounds_toArray, List.set_cons_zero, List.set_cons_succ]
          refine wpAnyH_take (i := 1) (v := .int .i64 (q : Int)) ov1 (by kernel_rfl) (by kernel_rfl) (by kernel_rfl) (fun _ _ _ h => h) (Or.inl ⟨by rfl, fun V' hS => ?_⟩) hHeld ?_
          · go_simp
          simp only [Act.put, List.setIfInBounds_toArray, List.set_cons_zero, List.set_cons_succ]
          refine wpAnyH_take (i := 2) (v := .pointer (some ⟨gd, q, none⟩)) ov2 (by kernel_rfl) (by kernel_rfl) (by kernel_rfl) (fun _ _ _ h => h) (Or.inl ⟨by rfl, fun V' hS => ?_⟩) hHeld ?_
          · go_simp
          simp only [Act.put, List.setIfInBounds_toArray, List.set_cons_zero, List.set_cons_succ]
          refine wpAnyH_take (i := 3) (v := .int .i64 ky) ov3 (by kernel_rfl) (by kernel_rfl) (by kernel_rfl) (fun _ _ _ h => h) (Or.inl ⟨by rfl, fun V' hS => ?_⟩) hHeld ?_
          · obtain ⟨r0, r1, r2, r3⟩ := hS
            go_simp
          simp only [Act.put, List.setIfInBounds_toArray, List.set_cons_zero, List.set_cons_succ]
          refine wpAnyH_take (i := 4) (v := .pointer (some ⟨xb, 0, none⟩)) ov4 (by kernel_rfl) (by kernel_rfl) (by kernel_rfl) (fun _ _ _ h => h) (Or.inl ⟨by rfl, fun V' hS => ?_⟩) hHeld ?_
          · go_simp
          simp only [Act.put, List.setIfInBounds_toArray, List.set_cons_zero, List.set_cons_succ]
          refine wpAnyH_take (i := 5) (v := .slice (some ⟨gk, 0, none⟩) m kc) ov5 (by kernel_rfl) (by kernel_rfl) (by kernel_rfl) (fun _ _ _ h => h) (Or.inl ⟨by rfl, fun V' hS => ?_⟩) hHeld ?_
          · obtain ⟨r0, r1, r2, r3⟩ := hS
            go_simp
          simp only [Act.put, List.setIfInBounds_toArray, List.set_cons_zero, List.set_cons_succ]
          refine wpAnyH_take (i := 6) (v := .int .i64 (m : Int)) ov6 (by kernel_rfl) (by kernel_rfl) (by kernel_rfl) (fun _ _ _ h => h) (Or.inl ⟨by rfl, fun V' hS => ?_⟩) hHeld ?_
          · go_simp
          simp only [Act.put, List.setIfInBounds_toArray, List.set_cons_zero, List.set_cons_succ]
          refine wpAnyH_take (i := 7) (v := .int .i64 (m1 : Int)) ov7 (by kernel_rfl) (by kernel_rfl) (by kernel_rfl) (fun _ _ _ h => h) (Or.inl ⟨by rfl, fun V' hS => ?_⟩) hHeld ?_
          · go_simp
          simp only [Act.put, List.setIfInBounds_toArray, List.set_cons_zero, List.set_cons_succ]
          refine wpAnyH_take (i := 8) (v := .int .i64 (q : Int)) ov8 (by kernel_rfl) (by kernel_rfl) (by kernel_rfl) (fun _ _ _ h => h) (Or.inl ⟨by rfl, fun V' hS => ?_⟩) hHeld ?_
          · go_simp
          simp only [Act.put, List.setIfInBounds_toArray, List.set_cons_zero, List.set_cons_succ]
          refine wpAnyH_take (i := 9) (v := .int .i64 (j : Int)) ov9 (by kernel_rfl) (by kernel_rfl) (by kernel_rfl) (fun _ _ _ h => h) (Or.inl ⟨by rfl, fun V' hS => ?_⟩) hHeld ?_
          · go_simp
          simp only [Act.put, List.setIfInBounds_toArray, List.set_cons_zero, List.set_cons_succ]
          refine wpAnyH_take (i := 10) (v := .pointer (some ⟨gk, j, none⟩)) ov10 (by kernel_rfl) (by kernel_rfl) (by kernel_rfl) (fun _ _ _ h => h) (Or.inl ⟨by rfl, fun V' hS => ?_⟩) hHeld ?_
          · go_simp
          simp only [Act.put, List.setIfInBounds_toArray, List.set_cons_zero, List.set_cons_succ]
          refine wpAnyH_take (i := 11) (v := .int .i64 ky) ov11 (by kernel_rfl) (by kernel_rfl) (by kernel_rfl) (fun _ _ _ h => h) (Or.inl ⟨by rfl, fun V' hS => ?_⟩) hHeld ?_
          · obtain ⟨r0, r1, r2, r3⟩ := hS
            go_simp
          simp only [Act.put, List.setIfInBounds_toArray, List.set_cons_zero, List.set_cons_succ]
          refine wpAnyH_take (i := 12) (v := .bool false) ov12 (by kernel_rfl) (by kernel_rfl) (by kernel_rfl) (fun _ _ _ h => h) (Or.inl ⟨by rfl, fun V' hS => ?_⟩) hHeld ?_
          · go_simp
          simp only [Act.put, List.setIfInBounds_toArray, List.set_cons_zero, List.set_cons_succ]
          refine wpAnyH_take (i := 13) (v := .bool false) ov13 (by kernel_rfl) (by kernel_rfl) (by kernel_rfl) (fun _ _ _ h => h) (Or.inl ⟨by rfl, fun V' hS => ?_⟩) hHeld ?_
          · go_simp
          simp only [Act.put, List.setIfInBounds_toArray, List.set_cons_zero, List.set_cons_succ]
          refine wpAnyH_take (i := 14) (v := .slice (some ⟨gz, 0, none⟩) m m) ov14 (by kernel_rfl) (by kernel_rfl) (by kernel_rfl) (fun _ _ _ h => h) (Or.inl ⟨by rfl, fun V' hS => ?_⟩) hHeld ?_
          · go_simp
          simp only [Act.put, List.setIfInBounds_toArray, List.set_cons_zero, List.set_cons_succ]
          refine wpAnyH_take (i := 15) (v := .pointer (some ⟨xb, 0, none⟩)) ov15 (by kernel_rfl) (by kernel_rfl) (by kernel_rfl) (fun _ _ _ h => h) (Or.inl ⟨by rfl, fun V' hS => ?_⟩) hHeld ?_
          · go_simp
          simp only [Act.put, List.setIfInBounds_toArray, List.set_cons_zero, List.set_cons_succ]
          refine wpAnyH_take (i := 16) (v := .slice (some ⟨gk, 0, none⟩) m kc) ov16 (by kernel_rfl) (by kernel_rfl) (by kernel_rfl) (fun _ _ _ h => h) (Or.inl ⟨by rfl, fun V' hS => ?_⟩) hHeld ?_
          · obtain ⟨r0, r1, r2, r3⟩ := hS
            go_simp
          simp only [Act.put, List.setIfInBounds_toArray, List.set_cons_zero, List.set_cons_succ]
          refine wpAnyH_take (i := 17) (v := .int .i64 (q : Int)) ov17 (by kernel_rfl) (by kernel_rfl) (by kernel_rfl) (fun _ _ _ h => h) (Or.inl ⟨by rfl, fun V' hS => ?_⟩) hHeld ?_
          · go_simp
          simp only [Act.put, List.setIfInBounds_toArray, List.set_cons_zero, List.set_cons_succ]
          refine wpAnyH_take (i := 18) (v := .pointer (some ⟨gk, q, none⟩)) ov18 (by kernel_rfl) (by kernel_rfl) (by kernel_rfl) (fun _ _ _ h => h) (Or.inl ⟨by rfl, fun V' hS => ?_⟩) hHeld ?_
          · go_simp
          simp only [Act.put, List.setIfInBounds_toArray, List.set_cons_zero, List.set_cons_succ]
          refine wpAnyH_take (i := 19) (v := .int .i64 kx) ov19 (by kernel_rfl) (by kernel_rfl) (by kernel_rfl) (fun _ _ _ h => h) (Or.inl ⟨by rfl, fun V' hS => ?_⟩) hHeld ?_
          · obtain ⟨r0, r1, r2, r3⟩ := hS
            go_simp
          simp only [Act.put, List.setIfInBounds_toArray, List.set_cons_zero, List.set_cons_succ]
          refine wpAnyH_ready (rs := [20]) (by kernel_rfl) (by simp) ?_
          refine AllReadyH.cons ov20 (fun K hK => ?_) AllReadyH.nil
          rw [if_pos (by rfl)]
          go_simp
          refine ((OC.out z0 A1.out).1).mono ?_
          rintro e w' ⟨rfl, hw⟩
          have hw2 := hw.symm
          clear hw
          subst hw2
          (try go_wp2_with fail)
          refine hK.out _ _ hHeld (fun _ => ?_)
          clear hK K
          (try simp only [Act.put, List.setIfInBounds_toArray, List.set_cons_zero, List.set_cons_succ])
          refine wpAnyH_take (i := 21) (v := .bool false) ov21 (by kernel_rfl) (by kernel_rfl) (by kernel_rfl) (fun _ _ _ h => h) (Or.inl ⟨by rfl, fun V' hS => ?_⟩) hHeld ?_
          · go_simp
          simp only [Act.put, List.setIfInBounds_toArray, List.set_cons_zero, List.set_cons_succ]
          refine wpAnyH_take (i := 22) (v := .bool false) ov22 (by kernel_rfl) (by kernel_rfl) (by kernel_rfl) (fun _ _ _ h => h) (Or.inl ⟨by rfl, fun V' hS => ?_⟩) hHeld ?_
          · go_simp
          simp only [Act.put, List.setIfInBounds_toArray, List.set_cons_zero, List.set_cons_succ]
          refine wpAnyH_take (i := 23) (v := .bool false) ov23 (by kernel_rfl) (by kernel_rfl) (by kernel_rfl) (fun _ _ _ h => h) (Or.inl ⟨by rfl, fun V' hS => ?_⟩) hHeld ?_
          · go_simp
          simp only [Act.put, List.setIfInBounds_toArray, List.set_cons_zero, List.set_cons_succ]
          refine wpAnyH_take (i := 24) (v := .slice (some ⟨gn, 0, none⟩) m m) ov24 (by kernel_rfl) (by kernel_rfl) (by kernel_rfl) (fun _ _ _ h => h) (Or.inl ⟨by rfl, fun V' hS => ?_⟩) hHeld ?_
          · go_simp
          simp only [Act.put, List.setIfInBounds_toArray, List.set_cons_zero, List.set_cons_succ]
          refine wpAnyH_take (i := 25) (v := .pointer (some ⟨xb, 0, none⟩)) ov25 (by kernel_rfl) (by kernel_rfl) (by kernel_rfl) (fun _ _ _ h => h) (Or.inl ⟨by rfl, fun V' hS => ?_⟩) hHeld ?_
          · go_simp
          simp only [Act.put, List.setIfInBounds_toArray, List.set_cons_zero, List.set_cons_succ]
          refine wpAnyH_take (i := 26) (v := .slice (some ⟨gk, 0, none⟩) m kc) ov26 (by kernel_rfl) (by kernel_rfl) (by kernel_rfl) (fun _ _ _ h => h) (Or.inl ⟨by rfl, fun V' hS => ?_⟩) hHeld ?_
          · obtain ⟨r0, r1, r2, r3⟩ := hS
            go_simp
          simp only [Act.put, List.setIfInBounds_toArray, List.set_cons_zero, List.set_cons_succ]
          refine wpAnyH_take (i := 27) (v := .int .i64 (q : Int)) ov27 (by kernel_rfl) (by kernel_rfl) (by kernel_rfl) (fun _ _ _ h => h) (Or.inl ⟨by rfl, fun V' hS => ?_⟩) hHeld ?_
          · go_simp
          simp only [Act.put, List.setIfInBounds_toArray, List.set_cons_zero, List.set_cons_succ]
          refine wpAnyH_take (i := 28) (v := .pointer (some ⟨gk, q, none⟩)) ov28 (by kernel_rfl) (by kernel_rfl) (by kernel_rfl) (fun _ _ _ h => h) (Or.inl ⟨by rfl, fun V' hS => ?_⟩) hHeld ?_
          · go_simp
          simp only [Act.put, List.setIfInBounds_toArray, List.set_cons_zero, List.set_cons_succ]
          refine wpAnyH_take (i := 29) (v := .int .i64 kx) ov29 (by kernel_rfl) (by kernel_rfl) (by kernel_rfl) (fun _ _ _ h => h) (Or.inl ⟨by rfl, fun V' hS => ?_⟩) hHeld ?_
          · obtain ⟨r0, r1, r2, r3⟩ := hS
            go_simp
          simp only [Act.put, List.setIfInBounds_toArray, List.set_cons_zero, List.set_cons_succ]
          refine wpAnyH_ready (rs := [30]) (by kernel_rfl) (by simp) ?_
          refine AllReadyH.cons ov30 (fun K hK => ?_) AllReadyH.nil
          rw [if_pos (by rfl)]
          go_simp
          refine ((OC.out z0 A1.out).2).mono ?_
          rintro e w' ⟨rfl, hw⟩
          have hw2 := hw.symm
          clear hw
          subst hw2
          (try go_wp2_with fail)
          refine hK.out _ _ hHeld (fun _ => ?_)
          clear hK K
          (try simp only [Act.put, List.setIfInBounds_toArray, List.set_cons_zero, List.set_cons_succ])
          refine wpAnyH_take (i := 31) (v := .bool false) ov31 (by kernel_rfl) (by kernel_rfl) (by kernel_rfl) (fun _ _ _ h => h) (Or.inl ⟨by rfl, fun V' hS => ?_⟩) hHeld ?_
          · go_simp
          simp only [Act.put, List.setIfInBounds_toArray, List.set_cons_zero, List.set_cons_succ]
          refine wpAnyH_take (i := 32) (v := .bool false) ov32 (by kernel_rfl) (by kernel_rfl) (by kernel_rfl) (fun _ _ _ h => h) (Or.inl ⟨by rfl, fun V' hS => ?_⟩) hHeld ?_
          · go_simp
          simp only [Act.put, List.setIfInBounds_toArray, List.set_cons_zero, List.set_cons_succ]
          refine wpAnyH_done (by kernel_rfl) ?_ _
          clear mm wm mq wj jI
          go_wp2
          go_roundw
          case rel => exact ⟨q + 1, by omega, by go_num, A1.out⟩
          case measure => simp [intOf]; omega
        · have iI : ¬ (q : Int) < (m : Int) := by omega
          obtain ⟨c0, c1⟩ := VC.out wr A0.out
          have TE7 : Hid (Calls Try.prog 46 #[.pointer (some ⟨b, 0, none⟩), .agg #[.slice ka m kc, .slice va m vc]] wr fun e w' => e = .returned (.bool true) ∧ UY w w' b N0 A H R5) := A0.out.tells RS5.out (fun ow V h => (RF5.out ow V h).1.1) (by have := BN.out; omega)
          go_wp2_with (first | (go_at_call 46; refine (TE7.out).mono ?_; rintro e z5 ⟨rfl, h5⟩; (have B5 : Hid (Below w.heap.size w z5) := h5.bel); clear h5) | (go_at_call 13; refine (awake_is z5).mono ?_; rintro e z6 ⟨rfl, h3⟩; (have B6 : Hid (Below w.heap.size w z6) := B5.out.trans (h3.mono B5.out.size)); clear h3))
          go_ret
          exact ⟨rfl, B6.out⟩
end Go.Proofs.Ytohfkgfjcnldaaa
