/- UndoSets. -/
import Derived.Test.YtohfkgfjcnldaaaTyd
import Derived.Test.YtohfkgfjcnldaaaUl
namespace Go.Proofs.Ytohfkgfjcnldaaa
open Go.RowKit Go.Shelf
set_option maxHeartbeats 8000000 in
set_option maxRecDepth 100000 in
theorem undoSets_walk (w : World) (v0 : Value) (n : Nat) (x : Nat → OpR) (k v : Int) (hv : OpsAt w v0 n x) (hn : n ≤ 4398046511104) (hk : -9223372036854775808 ≤ k ∧ k ≤ 9223372036854775807) (_ : -9223372036854775808 ≤ v ∧ v ≤ 9223372036854775807) : Calls Try.prog 8 #[v0, .int .i64 k, .int .i64 v] w fun e w' => e = .returned (.bool true) ∧ Below w.heap.size w w' := by
  obtain ⟨ad, cap, rfl, hx⟩ := hv
  have HX : Hid (0 < n → ∃ g a, ad = some ⟨g, a, none⟩ ∧ ∀ i, i < n → OpAt w g (a + i * 4) (x i) ∧ OpOk (x i)) := hx
  have HK : Hid (I64 k) := hk
  clear hx hk
  have nX : (n : Int) ≤ 4398046511104 := by omega
  by_cases hbig : (1048576 : Int) < (n : Int)
  · go_enter Try.func8, Try.ntmps8
    go_wp2
    go_ret
    exact ⟨rfl, Below.refl _ _⟩
  go_enter Try.func8, Try.ntmps8
  go_upto_region 4 with (go_at_call 37; refine (U0.new w 0).mono ?_; rintro e v1 ⟨b, rfl, h1⟩; (have T1 : Hid (U0 w v1 b 0 [] []) := h1); clear h1)
  go_wp2
  go_loopw [8] (fun si wr => ∃ (i : Nat) (A : List (Int × Int)) (H : List (List (Int × Int))), i ≤ n ∧ si = .int .i64 (i : Int) ∧ U0 w wr b i A H) (fun si _ => n - (intOf si).toNat)
  case atStart => exact ⟨0, _, _, by omega, rfl, T1.out⟩
  case round =>
    obtain ⟨i, A, H, hi, rfl, hA⟩ := hrel
    have A0 : Hid (U0 w wr b i A H) := hA
    clear hA T1
    by_cases hin : i < n
    · have iI : (i : Int) < (n : Int) := by omega
      obtain ⟨g, a, rfl, hat⟩ := HX.out (by omega)
      obtain ⟨⟨d0, d1, d2, d3⟩, ok⟩ := hat i hin
      have bl := A0.out.bel
      have lt0 : g < w.heap.size := World.block_lt_of_cell? w _ d0
      replace d0 := (bl.cell (p := ⟨g, _, none⟩) lt0).trans d0
      replace d1 := (bl.cell (p := ⟨g, _, none⟩) lt0).trans d1
      replace d2 := (bl.cell (p := ⟨g, _, none⟩) lt0).trans d2
      replace d3 := (bl.cell (p := ⟨g, _, none⟩) lt0).trans d3
      have OK : Hid (I64 (x i).k) := ok
      clear ok hat bl lt0
      generalize (x i) = op at d0 d1 d2 d3 OK
      obtain ⟨kd, tw, ok, ov⟩ := op
      change wr.cell? ⟨g, a + i * 4, none⟩ = some (.int .i64 kd) at d0
      change wr.cell? ⟨g, a + i * 4 + 1, none⟩ = some (.bool tw) at d1
      change wr.cell? ⟨g, a + i * 4 + 2, none⟩ = some (.int .i64 ok) at d2
      change wr.cell? ⟨g, a + i * 4 + 3, none⟩ = some (.int .i64 ov) at d3
      change Hid (I64 ok) at OK
      go_wp2_with (go_at_call 38; refine (A0.out.do (by omega) kd tw ok ov OK.out).mono ?_; rintro e w4 ⟨rfl, h4⟩; (have L4 : Hid (U0 w w4 b (i + 1) (nxA kd ok ov A H) (nxH kd ok A H)) := h4); clear h4)
      go_roundw
      case rel => exact ⟨i + 1, _, _, by omega, by go_num, L4.out⟩
      case measure => simp [intOf]; omega
    · have iI : ¬ (i : Int) < (n : Int) := by omega
      go_upto_region 10 with fail
      go_upto_region 11 with (go_at_call 40; refine (A0.out.seen (by omega)).mono ?_; rintro e v1 ⟨ka, kc, va, vc, rfl, h1⟩)
      obtain ⟨m, em⟩ : ∃ m, A.length = m := ⟨_, rfl⟩
      rw [em] at h1 ⊢
      have EM : Hid (A.length = m) := em
      clear em
      change Code.wp _ _ _ _ (v1.alloc (.cells #[.slice ka m kc, .slice va m vc] 67))
      have V2 : Hid (UV w (v1.alloc (.cells #[.slice ka m kc, .slice va m vc] 67)) b v1.heap.size i A H (.slice ka m kc) (.slice va m vc) A) := h1
      clear h1 A0
      generalize v1.alloc (.cells #[.slice ka m kc, .slice va m vc] 67) = v2 at V2 ⊢
      generalize v1.heap.size = xb at V2 ⊢
      have IN : Hid (i ≤ 1048576 ∧ m ≤ i) := ⟨by omega, by have := V2.out.ris; rw [EM.out] at this; exact this.2.1⟩
      have mX : (m : Int) ≤ 1048576 := by have := IN.out; omega
      clear iI hi hin
      have c0 : v2.cell? ⟨xb, 0, none⟩ = some (.slice ka m kc) := V2.out.bx.cell 0
      have GSET : Hid (Calls Try.prog 39 #[.pointer (some ⟨b, 0, none⟩), .int .i64 k, .int .i64 v] v2 fun e w' => e = .returned (.tuple #[]) ∧ UV w w' b xb (i + 1) (setRL A k v) H (.slice ka m kc) (.slice va m vc) A) := V2.out.set k v HK.out (by have := IN.out; omega)
      cases hr : getR A k with
      | none =>
        have GA : Hid (Calls Try.prog 44 #[.pointer (some ⟨b, 0, none⟩), .int .i64 k] v2 fun e w' => e = .returned (.tuple #[.int .i64 0, .bool false]) ∧ w' = v2) := V2.out.get k HK.out (by have := IN.out; omega) _ hr
        have LN : Hid ((setRL A k v).length = m + 1) := by show _ = _; rw [set_len, hr]; exact congrArg (· + 1) EM.out
        have HA : Hid (Ris A ∧ A.length = m ∧ ∀ p ∈ A, I64 p.1) := by
          obtain ⟨ow, t1, _⟩ := V2.out.ex
          exact ⟨V2.out.ris.1, EM.out, t1.i64⟩
        have GB : Hid (∀ W, UV w W b xb (i + 1) (setRL A k v) H (.slice ka m kc) (.slice va m vc) A → Ris (setRL A k v) ∧ (∀ q, getR (setRL A k v) q = if q = k then some v else getR A q)) := fun W hW => ⟨hW.ris.1, getR_set HA.out.1 hW.ris.1⟩
        generalize setRL A k v = B at GSET LN GB
        go_upto_region 13 with (first | (go_at_call 44; refine (GA.out).mono ?_; rintro e w' ⟨rfl, hw⟩; (have hw2 := hw.symm); clear hw; subst hw2) | (go_at_call 39; refine (GSET.out).mono ?_; rintro e v3 ⟨rfl, h3⟩; (have V3 : Hid (UV w v3 b xb (i + 1) B H (.slice ka m kc) (.slice va m vc) A) := h3); clear h3))
        have G3 : Hid (Calls Try.prog 44 #[.pointer (some ⟨b, 0, none⟩), .int .i64 k] v3 fun e w' => e = .returned (.tuple #[.int .i64 v, .bool true]) ∧ w' = v3) := V3.out.get k HK.out (by have := IN.out; omega) (some v) (by rw [(GB.out v3 V3.out).2, if_pos rfl])
        have L3 : Hid (Calls Try.prog 48 #[.pointer (some ⟨b, 0, none⟩)] v3 fun e w' => e = .returned (.int .i64 ((m : Int) + 1)) ∧ w' = v3) := by have := V3.out.len; rw [LN.out] at this; exact this
        clear c0 GA GSET
        have c0 : v3.cell? ⟨xb, 0, none⟩ = some (.slice ka m kc) := V3.out.bx.cell 0
        have c1 : v3.cell? ⟨xb, 1, none⟩ = some (.slice va m vc) := V3.out.bx.cell 1
        go_upto_region 17 with (go_at_call 44; refine (G3.out).mono ?_; rintro e w' ⟨rfl, hw⟩; (have hw2 := hw.symm); clear hw; subst hw2)
        refine wp_region_lit ?_
        refine lst_val (v := .bool true) (by kernel_rfl) ?_ ?_
        · go_simp
        simp only [Act.put, List.setIfInBounds_toArray, List.set_cons_zero, List.set_cons_succ]
        refine lst_val (v := .bool false) (by kernel_rfl) ?_ ?_
        · go_simp
        simp only [Act.put, List.setIfInBounds_toArray, List.set_cons_zero, List.set_cons_succ]
        refine lst_val (v := .bool false) (by kernel_rfl) ?_ ?_
        · go_simp
        simp only [Act.put, List.setIfInBounds_toArray, List.set_cons_zero, List.set_cons_succ]
        refine lst_val (v := .int .i64 v) (by kernel_rfl) ?_ ?_
        · go_simp
        simp only [Act.put, List.setIfInBounds_toArray, List.set_cons_zero, List.set_cons_succ]
        refine lst_val (v := .int .i64 v) (by kernel_rfl) ?_ ?_
        · go_simp
        simp only [Act.put, List.setIfInBounds_toArray, List.set_cons_zero, List.set_cons_succ]
        refine lst_val (v := .bool false) (by kernel_rfl) ?_ ?_
        · go_simp
        simp only [Act.put, List.setIfInBounds_toArray, List.set_cons_zero, List.set_cons_succ]
        refine lst_val (v := .bool false) (by kernel_rfl) ?_ ?_
        · go_simp
        simp only [Act.put, List.setIfInBounds_toArray, List.set_cons_zero, List.set_cons_succ]
        refine lst_val (v := .bool false) (by kernel_rfl) ?_ ?_
        · go_simp
        simp only [Act.put, List.setIfInBounds_toArray, List.set_cons_zero, List.set_cons_succ]
        refine lst_val (v := .pointer (some ⟨b, 0, none⟩)) (by kernel_rfl) ?_ ?_
        · go_simp
        simp only [Act.put, List.setIfInBounds_toArray, List.set_cons_zero, List.set_cons_succ]
        refine lst_call (by kernel_rfl) (by first | (go_simp; done) | (go_simp; first | exact rfl | exact ⟨rfl, rfl⟩ | exact ⟨rfl, rfl, rfl⟩)) (L3.out) ?_
        rintro e w' ⟨rfl, hw⟩
        have hw2 := hw.symm
        clear hw
        subst hw2
        refine ⟨_, rfl, ?_⟩
        simp only [Act.put, List.setIfInBounds_toArray, List.set_cons_zero, List.set_cons_succ]
        refine lst_val (v := .int .i64 ((m : Int) + 1)) (by kernel_rfl) ?_ ?_
        · go_simp
        simp only [Act.put, List.setIfInBounds_toArray, List.set_cons_zero, List.set_cons_succ]
        refine lst_val (v := .bool false) (by kernel_rfl) ?_ ?_
        · go_simp
        simp only [Act.put, List.setIfInBounds_toArray, List.set_cons_zero, List.set_cons_succ]
        refine lst_val (v := .bool false) (by kernel_rfl) ?_ ?_
        · go_simp
        simp only [Act.put, List.setIfInBounds_toArray, List.set_cons_zero, List.set_cons_succ]
        refine wpList_nil ?_
        clear G3 L3
        go_upto_region 19 with fail
        go_wp2
        go_loopw [15] (fun si wr => ∃ q : Nat, q ≤ m ∧ si = .int .i64 (q : Int) ∧ wr = v3) (fun si _ => m - (intOf si).toNat)
        case atStart => exact ⟨0, by omega, rfl, rfl⟩
        case round =>
          obtain ⟨q, hq, rfl, hw⟩ := hrel
          have hw2 := hw.symm
          clear hw
          subst hw2
          by_cases e : q < m
          · have iI : (q : Int) < (m : Int) := by omega
            obtain ⟨⟨kx, vx⟩, hp⟩ : ∃ p, A[q]? = some p := ⟨_, List.getElem?_eq_getElem (by rw [HA.out.2.1]; exact e)⟩
            have gA : getR A kx = some vx := (getR_mem HA.out.1).2 (List.mem_iff_getElem?.2 ⟨q, hp⟩)
            obtain ⟨ka2, kc2, va2, vc2, e1, e2, hat⟩ := V3.out.at
            rw [HA.out.2.1] at e1 e2
            injection e1 with e1 _ e1'
            injection e2 with e2 _ e2'
            subst e1 e1' e2 e2'
            obtain ⟨g, g', rfl, rfl, d1, d2⟩ := hat q kx vx hp
            have hkx : I64 kx := HA.out.2.2 _ (List.mem_iff_getElem?.2 ⟨q, hp⟩)
            clear hat hp
            by_cases ek : kx = k
            · subst ek
              have GQ : Hid (Calls Try.prog 44 #[.pointer (some ⟨b, 0, none⟩), .int .i64 kx] v3 fun e w' => e = .returned (.tuple #[.int .i64 v, .bool true]) ∧ w' = v3) := V3.out.get kx hkx (by have := IN.out; omega) (some v) (by rw [(GB.out v3 V3.out).2, if_pos rfl])
              clear hkx gA
              go_upto_region 23 with (go_at_call 44; refine (GQ.out).mono ?_; rintro e w' ⟨rfl, hw⟩; (have hw2 := hw.symm); clear hw; subst hw2)
              refine wp_region_lit ?_
              refine lst_val (v := .bool true) (by kernel_rfl) ?_ ?_
              · go_simp
              simp only [Act.put, List.setIfInBounds_toArray, List.set_cons_zero, List.set_cons_succ]
              refine lst_val (v := .bool false) (by kernel_rfl) ?_ ?_
              · go_simp
              simp only [Act.put, List.setIfInBounds_toArray, List.set_cons_zero, List.set_cons_succ]
              refine lst_val (v := .bool false) (by kernel_rfl) ?_ ?_
              · go_simp
              simp only [Act.put, List.setIfInBounds_toArray, List.set_cons_zero, List.set_cons_succ]
              refine lst_val (v := .pointer (some ⟨xb, 0, none⟩)) (by kernel_rfl) ?_ ?_
              · go_simp
              simp only [Act.put, List.setIfInBounds_toArray, List.set_cons_zero, List.set_cons_succ]
              refine lst_val (v := .slice (some ⟨g, 0, none⟩) m kc) (by kernel_rfl) ?_ ?_
              · go_simp
              simp only [Act.put, List.setIfInBounds_toArray, List.set_cons_zero, List.set_cons_succ]
              refine lst_val (v := .int .i64 (q : Int)) (by kernel_rfl) ?_ ?_
              · go_simp
              simp only [Act.put, List.setIfInBounds_toArray, List.set_cons_zero, List.set_cons_succ]
              refine lst_val (v := .pointer (some ⟨g, q, none⟩)) (by kernel_rfl) ?_ ?_
              · go_simp
              simp only [Act.put, List.setIfInBounds_toArray, List.set_cons_zero, List.set_cons_succ]
              refine lst_val (v := .int .i64 kx) (by kernel_rfl) ?_ ?_
              · go_simp
              simp only [Act.put, List.setIfInBounds_toArray, List.set_cons_zero, List.set_cons_succ]
              refine lst_val (v := .int .i64 kx) (by kernel_rfl) ?_ ?_
              · go_simp
              simp only [Act.put, List.setIfInBounds_toArray, List.set_cons_zero, List.set_cons_succ]
              refine lst_val (v := .bool false) (by kernel_rfl) ?_ ?_
              · go_simp
              simp only [Act.put, List.setIfInBounds_toArray, List.set_cons_zero, List.set_cons_succ]
              go_wp2
              go_roundw
              case rel => exact ⟨q + 1, by omega, by go_num, by trivial⟩
              case measure => simp [intOf]; omega
            · have GQ : Hid (Calls Try.prog 44 #[.pointer (some ⟨b, 0, none⟩), .int .i64 kx] v3 fun e w' => e = .returned (.tuple #[.int .i64 vx, .bool true]) ∧ w' = v3) := V3.out.get kx hkx (by have := IN.out; omega) (some vx) (by rw [(GB.out v3 V3.out).2, if_neg ek, gA])
              clear hkx gA
              go_upto_region 23 with (go_at_call 44; refine (GQ.out).mono ?_; rintro e w' ⟨rfl, hw⟩; (have hw2 := hw.symm); clear hw; subst hw2)
              refine wp_region_lit ?_
              refine lst_val (v := .bool true) (by kernel_rfl) ?_ ?_
              · go_simp
              simp only [Act.put, List.setIfInBounds_toArray, List.set_cons_zero, List.set_cons_succ]
              refine lst_val (v := .bool false) (by kernel_rfl) ?_ ?_
              · go_simp
              simp only [Act.put, List.setIfInBounds_toArray, List.set_cons_zero, List.set_cons_succ]
              refine lst_val (v := .bool false) (by kernel_rfl) ?_ ?_
              · go_simp
              simp only [Act.put, List.setIfInBounds_toArray, List.set_cons_zero, List.set_cons_succ]
              refine lst_val (v := .pointer (some ⟨xb, 0, none⟩)) (by kernel_rfl) ?_ ?_
              · go_simp
              simp only [Act.put, List.setIfInBounds_toArray, List.set_cons_zero, List.set_cons_succ]
              refine lst_val (v := .slice (some ⟨g, 0, none⟩) m kc) (by kernel_rfl) ?_ ?_
              · go_simp
              simp only [Act.put, List.setIfInBounds_toArray, List.set_cons_zero, List.set_cons_succ]
              refine lst_val (v := .int .i64 (q : Int)) (by kernel_rfl) ?_ ?_
              · go_simp
              simp only [Act.put, List.setIfInBounds_toArray, List.set_cons_zero, List.set_cons_succ]
              refine lst_val (v := .pointer (some ⟨g, q, none⟩)) (by kernel_rfl) ?_ ?_
              · go_simp
              simp only [Act.put, List.setIfInBounds_toArray, List.set_cons_zero, List.set_cons_succ]
              refine lst_val (v := .int .i64 kx) (by kernel_rfl) ?_ ?_
              · go_simp
              simp only [Act.put, List.setIfInBounds_toArray, List.set_cons_zero, List.set_cons_succ]
              refine lst_val (v := .int .i64 k) (by kernel_rfl) ?_ ?_
              · go_simp
              simp only [Act.put, List.setIfInBounds_toArray, List.set_cons_zero, List.set_cons_succ]
              refine lst_val (v := .bool true) (by kernel_rfl) ?_ ?_
              · go_simp
              simp only [Act.put, List.setIfInBounds_toArray, List.set_cons_zero, List.set_cons_succ]
              go_wp2
              go_roundw
              case rel => exact ⟨q + 1, by omega, by go_num, by trivial⟩
              case measure => simp [intOf]; omega
          · have iI : ¬ (q : Int) < (m : Int) := by omega
            have GK : Hid (getR B k = some v) := by show _ = _; rw [(GB.out v3 V3.out).2, if_pos rfl]
            have D3 : Hid (Calls Try.prog 43 #[.pointer (some ⟨b, 0, none⟩), .int .i64 k] v3 fun e w' => e = .returned (.bool true) ∧ UV w w' b xb (i + 1 + 1) (delA B k) H (.slice ka m kc) (.slice va m vc) A) := by have := V3.out.del k HK.out (by have := IN.out; omega); rw [GK.out] at this; exact this
            have LC : Hid ((delA B k).length + 1 = m + 1) := by have := del_len B k (by rw [GK.out]; rfl); rw [LN.out] at this; exact this
            have GC : Hid (∀ W N, UV w W b xb N (delA B k) H (.slice ka m kc) (.slice va m vc) A → (∀ q, getR (delA B k) q = if q = k then none else getR A q)) := fun W N hW q => by rw [getR_del (GB.out v3 V3.out).1 hW.ris.1]; split; rfl; rename_i e; rw [(GB.out v3 V3.out).2, if_neg e]
            have GD : Hid (∀ W, UV w W b xb (i + 1 + 1) (delA B k) H (.slice ka m kc) (.slice va m vc) A → Calls Try.prog 43 #[.pointer (some ⟨b, 0, none⟩), .int .i64 k] W fun e w' => e = .returned (.bool false) ∧ UV w w' b xb (i + 1 + 1 + 1) (delA B k) H (.slice ka m kc) (.slice va m vc) A) := fun W hW => by
              have h1 := GC.out W _ hW k
              rw [if_pos rfl] at h1
              have := hW.del k HK.out (by have := IN.out; omega)
              rw [h1, del_none h1] at this
              exact this
            generalize delA B k = C at D3 LC GC GD
            have mB2 : (C.length : Int) = (m : Int) := by have := LC.out; omega
            go_upto_region 25 with fail
            refine wp_region_lit ?_
            refine lst_val (v := .pointer (some ⟨b, 0, none⟩)) (by kernel_rfl) ?_ ?_
            · go_simp
            simp only [Act.put, List.setIfInBounds_toArray, List.set_cons_zero, List.set_cons_succ]
            refine lst_val (v := .int .i64 k) (by kernel_rfl) ?_ ?_
            · go_simp
            simp only [Act.put, List.setIfInBounds_toArray, List.set_cons_zero, List.set_cons_succ]
            refine lst_call (by kernel_rfl) (by first | (go_simp; done) | (go_simp; first | exact rfl | exact ⟨rfl, rfl⟩ | exact ⟨rfl, rfl, rfl⟩)) (D3.out) ?_
            rintro e v4 ⟨rfl, h3⟩
            refine ⟨_, rfl, ?_⟩
            have V4 : Hid (UV w v4 b xb (i + 1 + 1) C H (.slice ka m kc) (.slice va m vc) A) := h3
            clear h3 D3
            simp only [Act.put, List.setIfInBounds_toArray, List.set_cons_zero, List.set_cons_succ]
            refine lst_val (v := .bool false) (by kernel_rfl) ?_ ?_
            · go_simp
            simp only [Act.put, List.setIfInBounds_toArray, List.set_cons_zero, List.set_cons_succ]
            refine lst_val (v := .bool false) (by kernel_rfl) ?_ ?_
            · go_simp
            simp only [Act.put, List.setIfInBounds_toArray, List.set_cons_zero, List.set_cons_succ]
            refine lst_val (v := .pointer (some ⟨b, 0, none⟩)) (by kernel_rfl) ?_ ?_
            · go_simp
            simp only [Act.put, List.setIfInBounds_toArray, List.set_cons_zero, List.set_cons_succ]
            refine lst_val (v := .int .i64 k) (by kernel_rfl) ?_ ?_
            · go_simp
            simp only [Act.put, List.setIfInBounds_toArray, List.set_cons_zero, List.set_cons_succ]
            refine lst_call (by kernel_rfl) (by first | (go_simp; done) | (go_simp; first | exact rfl | exact ⟨rfl, rfl⟩ | exact ⟨rfl, rfl, rfl⟩)) (GD.out v4 V4.out) ?_
            rintro e v5 ⟨rfl, h3⟩
            refine ⟨_, rfl, ?_⟩
            have V5 : Hid (UV w v5 b xb (i + 1 + 1 + 1) C H (.slice ka m kc) (.slice va m vc) A) := h3
            clear h3 GD
            have L5 : Hid (Calls Try.prog 48 #[.pointer (some ⟨b, 0, none⟩)] v5 fun e w' => e = .returned (.int .i64 ((m : Int))) ∧ w' = v5) := by have := V5.out.len; rw [mB2] at this; exact this
            simp only [Act.put, List.setIfInBounds_toArray, List.set_cons_zero, List.set_cons_succ]
            refine lst_val (v := .bool false) (by kernel_rfl) ?_ ?_
            · go_simp
            simp only [Act.put, List.setIfInBounds_toArray, List.set_cons_zero, List.set_cons_succ]
            refine lst_val (v := .bool false) (by kernel_rfl) ?_ ?_
            · go_simp
            simp only [Act.put, List.setIfInBounds_toArray, List.set_cons_zero, List.set_cons_succ]
            refine lst_val (v := .pointer (some ⟨b, 0, none⟩)) (by kernel_rfl) ?_ ?_
            · go_simp
            simp only [Act.put, List.setIfInBounds_toArray, List.set_cons_zero, List.set_cons_succ]
            refine lst_call (by kernel_rfl) (by first | (go_simp; done) | (go_simp; first | exact rfl | exact ⟨rfl, rfl⟩ | exact ⟨rfl, rfl, rfl⟩)) (L5.out) ?_
            rintro e w' ⟨rfl, hw⟩
            have hw2 := hw.symm
            clear hw
            subst hw2
            refine ⟨_, rfl, ?_⟩
            simp only [Act.put, List.setIfInBounds_toArray, List.set_cons_zero, List.set_cons_succ]
            refine lst_val (v := .int .i64 ((m : Int) + 1)) (by kernel_rfl) ?_ ?_
            · go_simp
            simp only [Act.put, List.setIfInBounds_toArray, List.set_cons_zero, List.set_cons_succ]
            refine lst_val (v := .int .i64 (m : Int)) (by kernel_rfl) ?_ ?_
            · (go_simp; try (first | (rw [IntKind.wrap_u64]; omega) | (rw [IntKind.wrap_i64]; omega)))
            simp only [Act.put, List.setIfInBounds_toArray, List.set_cons_zero, List.set_cons_succ]
            refine lst_val (v := .bool false) (by kernel_rfl) ?_ ?_
            · go_simp
            simp only [Act.put, List.setIfInBounds_toArray, List.set_cons_zero, List.set_cons_succ]
            refine lst_val (v := .bool false) (by kernel_rfl) ?_ ?_
            · go_simp
            simp only [Act.put, List.setIfInBounds_toArray, List.set_cons_zero, List.set_cons_succ]
            refine wpList_nil ?_
            go_upto_region 27 with fail
            have G5 : Hid (Calls Try.prog 44 #[.pointer (some ⟨b, 0, none⟩), .int .i64 k] v5 fun e w' => e = .returned (.tuple #[.int .i64 0, .bool false]) ∧ w' = v5) := V5.out.get k HK.out (by have := IN.out; omega) none (by rw [GC.out v5 _ V5.out, if_pos rfl])
            go_upto_region 28 with (go_at_call 44; refine (G5.out).mono ?_; rintro e w' ⟨rfl, hw⟩; (have hw2 := hw.symm); clear hw; subst hw2)
            clear c0 c1 iI hq e G5 mB2
            have c0 : v5.cell? ⟨xb, 0, none⟩ = some (.slice ka m kc) := V5.out.bx.cell 0
            have c1 : v5.cell? ⟨xb, 1, none⟩ = some (.slice va m vc) := V5.out.bx.cell 1
            go_wp2
            go_loopw [20] (fun si wr => ∃ q : Nat, q ≤ m ∧ si = .int .i64 (q : Int) ∧ wr = v5) (fun si _ => m - (intOf si).toNat)
            case atStart => exact ⟨0, by omega, rfl, rfl⟩
            case round =>
              obtain ⟨q, hq, rfl, hw⟩ := hrel
              have hw2 := hw.symm
              clear hw
              subst hw2
              by_cases e : q < m
              · have iI : (q : Int) < (m : Int) := by omega
                obtain ⟨⟨kx, vx⟩, hp⟩ : ∃ p, A[q]? = some p := ⟨_, List.getElem?_eq_getElem (by rw [HA.out.2.1]; exact e)⟩
                have gA : getR A kx = some vx := (getR_mem HA.out.1).2 (List.mem_iff_getElem?.2 ⟨q, hp⟩)
                obtain ⟨ka2, kc2, va2, vc2, e1, e2, hat⟩ := V5.out.at
                rw [HA.out.2.1] at e1 e2
                injection e1 with e1 _ e1'
                injection e2 with e2 _ e2'
                subst e1 e1' e2 e2'
                obtain ⟨g, g', rfl, rfl, d1, d2⟩ := hat q kx vx hp
                have hkx : I64 kx := HA.out.2.2 _ (List.mem_iff_getElem?.2 ⟨q, hp⟩)
                clear hat hp
                by_cases ek : kx = k
                · subst ek
                  have GQ : Hid (Calls Try.prog 44 #[.pointer (some ⟨b, 0, none⟩), .int .i64 kx] v5 fun e w' => e = .returned (.tuple #[.int .i64 0, .bool false]) ∧ w' = v5) := V5.out.get kx hkx (by have := IN.out; omega) none (by rw [GC.out v5 _ V5.out, if_pos rfl])
                  clear hkx gA
                  go_upto_region 32 with (go_at_call 44; refine (GQ.out).mono ?_; rintro e w' ⟨rfl, hw⟩; (have hw2 := hw.symm); clear hw; subst hw2)
                  refine wp_region_lit ?_
                  refine lst_val (v := .bool false) (by kernel_rfl) ?_ ?_
                  · go_simp
                  simp only [Act.put, List.setIfInBounds_toArray, List.set_cons_zero, List.set_cons_succ]
                  refine lst_val (v := .pointer (some ⟨xb, 0, none⟩)) (by kernel_rfl) ?_ ?_
                  · go_simp
                  simp only [Act.put, List.setIfInBounds_toArray, List.set_cons_zero, List.set_cons_succ]
                  refine lst_val (v := .slice (some ⟨g, 0, none⟩) m kc) (by kernel_rfl) ?_ ?_
                  · go_simp
                  simp only [Act.put, List.setIfInBounds_toArray, List.set_cons_zero, List.set_cons_succ]
                  refine lst_val (v := .int .i64 (q : Int)) (by kernel_rfl) ?_ ?_
                  · go_simp
                  simp only [Act.put, List.setIfInBounds_toArray, List.set_cons_zero, List.set_cons_succ]
                  refine lst_val (v := .pointer (some ⟨g, q, none⟩)) (by kernel_rfl) ?_ ?_
                  · go_simp
                  simp only [Act.put, List.setIfInBounds_toArray, List.set_cons_zero, List.set_cons_succ]
                  refine lst_val (v := .int .i64 kx) (by kernel_rfl) ?_ ?_
                  · go_simp
                  simp only [Act.put, List.setIfInBounds_toArray, List.set_cons_zero, List.set_cons_succ]
                  refine lst_val (v := .int .i64 kx) (by kernel_rfl) ?_ ?_
                  · go_simp
                  simp only [Act.put, List.setIfInBounds_toArray, List.set_cons_zero, List.set_cons_succ]
                  refine lst_val (v := .bool false) (by kernel_rfl) ?_ ?_
                  · go_simp
                  simp only [Act.put, List.setIfInBounds_toArray, List.set_cons_zero, List.set_cons_succ]
                  refine lst_val (v := .bool false) (by kernel_rfl) ?_ ?_
                  · go_simp
                  simp only [Act.put, List.setIfInBounds_toArray, List.set_cons_zero, List.set_cons_succ]
                  refine lst_val (v := .bool false) (by kernel_rfl) ?_ ?_
                  · go_simp
                  simp only [Act.put, List.setIfInBounds_toArray, List.set_cons_zero, List.set_cons_succ]
                  refine lst_val (v := .bool false) (by kernel_rfl) ?_ ?_
                  · go_simp
                  simp only [Act.put, List.setIfInBounds_toArray, List.set_cons_zero, List.set_cons_succ]
                  go_wp2
                  go_roundw
                  case rel => exact ⟨q + 1, by omega, by go_num, by trivial⟩
                  case measure => simp [intOf]; omega
                · have GQ : Hid (Calls Try.prog 44 #[.pointer (some ⟨b, 0, none⟩), .int .i64 kx] v5 fun e w' => e = .returned (.tuple #[.int .i64 vx, .bool true]) ∧ w' = v5) := V5.out.get kx hkx (by have := IN.out; omega) (some vx) (by rw [GC.out v5 _ V5.out, if_neg ek, gA])
                  clear hkx gA
                  go_upto_region 32 with (go_at_call 44; refine (GQ.out).mono ?_; rintro e w' ⟨rfl, hw⟩; (have hw2 := hw.symm); clear hw; subst hw2)
                  refine wp_region_lit ?_
                  refine lst_val (v := .bool true) (by kernel_rfl) ?_ ?_
                  · go_simp
                  simp only [Act.put, List.setIfInBounds_toArray, List.set_cons_zero, List.set_cons_succ]
                  refine lst_val (v := .pointer (some ⟨xb, 0, none⟩)) (by kernel_rfl) ?_ ?_
                  · go_simp
                  simp only [Act.put, List.setIfInBounds_toArray, List.set_cons_zero, List.set_cons_succ]
                  refine lst_val (v := .slice (some ⟨g, 0, none⟩) m kc) (by kernel_rfl) ?_ ?_
                  · go_simp
                  simp only [Act.put, List.setIfInBounds_toArray, List.set_cons_zero, List.set_cons_succ]
                  refine lst_val (v := .int .i64 (q : Int)) (by kernel_rfl) ?_ ?_
                  · go_simp
                  simp only [Act.put, List.setIfInBounds_toArray, List.set_cons_zero, List.set_cons_succ]
                  refine lst_val (v := .pointer (some ⟨g, q, none⟩)) (by kernel_rfl) ?_ ?_
                  · go_simp
                  simp only [Act.put, List.setIfInBounds_toArray, List.set_cons_zero, List.set_cons_succ]
                  refine lst_val (v := .int .i64 kx) (by kernel_rfl) ?_ ?_
                  · go_simp
                  simp only [Act.put, List.setIfInBounds_toArray, List.set_cons_zero, List.set_cons_succ]
                  refine lst_val (v := .int .i64 k) (by kernel_rfl) ?_ ?_
                  · go_simp
                  simp only [Act.put, List.setIfInBounds_toArray, List.set_cons_zero, List.set_cons_succ]
                  refine lst_val (v := .bool true) (by kernel_rfl) ?_ ?_
                  · go_simp
                  simp only [Act.put, List.setIfInBounds_toArray, List.set_cons_zero, List.set_cons_succ]
                  refine lst_val (v := .bool false) (by kernel_rfl) ?_ ?_
                  · go_simp
                  simp only [Act.put, List.setIfInBounds_toArray, List.set_cons_zero, List.set_cons_succ]
                  refine lst_val (v := .bool false) (by kernel_rfl) ?_ ?_
                  · go_simp
                  simp only [Act.put, List.setIfInBounds_toArray, List.set_cons_zero, List.set_cons_succ]
                  refine lst_val (v := .bool true) (by kernel_rfl) ?_ ?_
                  · go_simp
                  simp only [Act.put, List.setIfInBounds_toArray, List.set_cons_zero, List.set_cons_succ]
                  go_wp2
                  go_roundw
                  case rel => exact ⟨q + 1, by omega, by go_num, by trivial⟩
                  case measure => simp [intOf]; omega
              · have iI : ¬ (q : Int) < (m : Int) := by omega
                go_upto_region 34 with fail
                refine wp_region_lit ?_
                refine lst_val (v := .bool false) (by kernel_rfl) ?_ ?_
                · go_simp
                simp only [Act.put, List.setIfInBounds_toArray, List.set_cons_zero, List.set_cons_succ]
                refine lst_val (v := .bool true) (by kernel_rfl) ?_ ?_
                · go_simp
                simp only [Act.put, List.setIfInBounds_toArray, List.set_cons_zero, List.set_cons_succ]
                refine lst_val (v := .bool true) (by kernel_rfl) ?_ ?_
                · go_simp
                simp only [Act.put, List.setIfInBounds_toArray, List.set_cons_zero, List.set_cons_succ]
                refine lst_val (v := .int .i64 0) (by kernel_rfl) ?_ ?_
                · go_simp
                simp only [Act.put, List.setIfInBounds_toArray, List.set_cons_zero, List.set_cons_succ]
                refine lst_val (v := .bool true) (by kernel_rfl) ?_ ?_
                · go_simp
                simp only [Act.put, List.setIfInBounds_toArray, List.set_cons_zero, List.set_cons_succ]
                refine lst_val (v := .bool true) (by kernel_rfl) ?_ ?_
                · go_simp
                simp only [Act.put, List.setIfInBounds_toArray, List.set_cons_zero, List.set_cons_succ]
                refine lst_val (v := .bool true) (by kernel_rfl) ?_ ?_
                · go_simp
                simp only [Act.put, List.setIfInBounds_toArray, List.set_cons_zero, List.set_cons_succ]
                refine lst_call (by kernel_rfl) (by first | (go_simp; done) | (go_simp; first | exact rfl | exact ⟨rfl, rfl⟩ | exact ⟨rfl, rfl, rfl⟩)) (awake_is v5) ?_
                rintro e v6 ⟨rfl, h3⟩
                refine ⟨_, rfl, ?_⟩
                have B6 : Hid (Below w.heap.size w v6) := V5.out.bel.trans (h3.mono V5.out.bel.size)
                clear h3
                simp only [Act.put, List.setIfInBounds_toArray, List.set_cons_zero, List.set_cons_succ]
                refine lst_val (v := .bool true) (by kernel_rfl) ?_ ?_
                · go_simp
                simp only [Act.put, List.setIfInBounds_toArray, List.set_cons_zero, List.set_cons_succ]
                refine lst_val (v := .bool true) (by kernel_rfl) ?_ ?_
                · go_simp
                simp only [Act.put, List.setIfInBounds_toArray, List.set_cons_zero, List.set_cons_succ]
                refine wpList_nil ?_
                go_wp2
                go_ret
                exact ⟨rfl, B6.out⟩
      | some y =>
        have GA : Hid (Calls Try.prog 44 #[.pointer (some ⟨b, 0, none⟩), .int .i64 k] v2 fun e w' => e = .returned (.tuple #[.int .i64 y, .bool true]) ∧ w' = v2) := V2.out.get k HK.out (by have := IN.out; omega) _ hr
        have LN : Hid ((setRL A k v).length = m) := by show _ = _; rw [set_len, hr]; exact EM.out
        have HA : Hid (Ris A ∧ A.length = m ∧ ∀ p ∈ A, I64 p.1) := by
          obtain ⟨ow, t1, _⟩ := V2.out.ex
          exact ⟨V2.out.ris.1, EM.out, t1.i64⟩
        have GB : Hid (∀ W, UV w W b xb (i + 1) (setRL A k v) H (.slice ka m kc) (.slice va m vc) A → Ris (setRL A k v) ∧ (∀ q, getR (setRL A k v) q = if q = k then some v else getR A q)) := fun W hW => ⟨hW.ris.1, getR_set HA.out.1 hW.ris.1⟩
        generalize setRL A k v = B at GSET LN GB
        go_upto_region 13 with (first | (go_at_call 44; refine (GA.out).mono ?_; rintro e w' ⟨rfl, hw⟩; (have hw2 := hw.symm); clear hw; subst hw2) | (go_at_call 39; refine (GSET.out).mono ?_; rintro e v3 ⟨rfl, h3⟩; (have V3 : Hid (UV w v3 b xb (i + 1) B H (.slice ka m kc) (.slice va m vc) A) := h3); clear h3))
        have G3 : Hid (Calls Try.prog 44 #[.pointer (some ⟨b, 0, none⟩), .int .i64 k] v3 fun e w' => e = .returned (.tuple #[.int .i64 v, .bool true]) ∧ w' = v3) := V3.out.get k HK.out (by have := IN.out; omega) (some v) (by rw [(GB.out v3 V3.out).2, if_pos rfl])
        have L3 : Hid (Calls Try.prog 48 #[.pointer (some ⟨b, 0, none⟩)] v3 fun e w' => e = .returned (.int .i64 (m : Int)) ∧ w' = v3) := by have := V3.out.len; rw [LN.out] at this; exact this
        clear c0 GA GSET
        have c0 : v3.cell? ⟨xb, 0, none⟩ = some (.slice ka m kc) := V3.out.bx.cell 0
        have c1 : v3.cell? ⟨xb, 1, none⟩ = some (.slice va m vc) := V3.out.bx.cell 1
        go_upto_region 17 with (go_at_call 44; refine (G3.out).mono ?_; rintro e w' ⟨rfl, hw⟩; (have hw2 := hw.symm); clear hw; subst hw2)
        refine wp_region_lit ?_
        refine lst_val (v := .bool true) (by kernel_rfl) ?_ ?_
        · go_simp
        simp only [Act.put, List.setIfInBounds_toArray, List.set_cons_zero, List.set_cons_succ]
        refine lst_val (v := .bool false) (by kernel_rfl) ?_ ?_
        · go_simp
        simp only [Act.put, List.setIfInBounds_toArray, List.set_cons_zero, List.set_cons_succ]
        refine lst_val (v := .bool false) (by kernel_rfl) ?_ ?_
        · go_simp
        simp only [Act.put, List.setIfInBounds_toArray, List.set_cons_zero, List.set_cons_succ]
        refine lst_val (v := .int .i64 v) (by kernel_rfl) ?_ ?_
        · go_simp
        simp only [Act.put, List.setIfInBounds_toArray, List.set_cons_zero, List.set_cons_succ]
        refine lst_val (v := .int .i64 v) (by kernel_rfl) ?_ ?_
        · go_simp
        simp only [Act.put, List.setIfInBounds_toArray, List.set_cons_zero, List.set_cons_succ]
        refine lst_val (v := .bool false) (by kernel_rfl) ?_ ?_
        · go_simp
        simp only [Act.put, List.setIfInBounds_toArray, List.set_cons_zero, List.set_cons_succ]
        refine lst_val (v := .bool false) (by kernel_rfl) ?_ ?_
        · go_simp
        simp only [Act.put, List.setIfInBounds_toArray, List.set_cons_zero, List.set_cons_succ]
        refine lst_val (v := .bool false) (by kernel_rfl) ?_ ?_
        · go_simp
        simp only [Act.put, List.setIfInBounds_toArray, List.set_cons_zero, List.set_cons_succ]
        refine lst_val (v := .pointer (some ⟨b, 0, none⟩)) (by kernel_rfl) ?_ ?_
        · go_simp
        simp only [Act.put, List.setIfInBounds_toArray, List.set_cons_zero, List.set_cons_succ]
        refine lst_call (by kernel_rfl) (by first | (go_simp; done) | (go_simp; first | exact rfl | exact ⟨rfl, rfl⟩ | exact ⟨rfl, rfl, rfl⟩)) (L3.out) ?_
        rintro e w' ⟨rfl, hw⟩
        have hw2 := hw.symm
        clear hw
        subst hw2
        refine ⟨_, rfl, ?_⟩
        simp only [Act.put, List.setIfInBounds_toArray, List.set_cons_zero, List.set_cons_succ]
        refine lst_val (v := .int .i64 (m : Int)) (by kernel_rfl) ?_ ?_
        · go_simp
        simp only [Act.put, List.setIfInBounds_toArray, List.set_cons_zero, List.set_cons_succ]
        refine lst_val (v := .bool false) (by kernel_rfl) ?_ ?_
        · go_simp
        simp only [Act.put, List.setIfInBounds_toArray, List.set_cons_zero, List.set_cons_succ]
        refine lst_val (v := .bool false) (by kernel_rfl) ?_ ?_
        · go_simp
        simp only [Act.put, List.setIfInBounds_toArray, List.set_cons_zero, List.set_cons_succ]
        refine wpList_nil ?_
        clear G3 L3
        go_upto_region 19 with fail
        go_wp2
        go_loopw [15] (fun si wr => ∃ q : Nat, q ≤ m ∧ si = .int .i64 (q : Int) ∧ wr = v3) (fun si _ => m - (intOf si).toNat)
        case atStart => exact ⟨0, by omega, rfl, rfl⟩
        case round =>
          obtain ⟨q, hq, rfl, hw⟩ := hrel
          have hw2 := hw.symm
          clear hw
          subst hw2
          by_cases e : q < m
          · have iI : (q : Int) < (m : Int) := by omega
            obtain ⟨⟨kx, vx⟩, hp⟩ : ∃ p, A[q]? = some p := ⟨_, List.getElem?_eq_getElem (by rw [HA.out.2.1]; exact e)⟩
            have gA : getR A kx = some vx := (getR_mem HA.out.1).2 (List.mem_iff_getElem?.2 ⟨q, hp⟩)
            obtain ⟨ka2, kc2, va2, vc2, e1, e2, hat⟩ := V3.out.at
            rw [HA.out.2.1] at e1 e2
            injection e1 with e1 _ e1'
            injection e2 with e2 _ e2'
            subst e1 e1' e2 e2'
            obtain ⟨g, g', rfl, rfl, d1, d2⟩ := hat q kx vx hp
            have hkx : I64 kx := HA.out.2.2 _ (List.mem_iff_getElem?.2 ⟨q, hp⟩)
            clear hat hp
            by_cases ek : kx = k
            · subst ek
              have GQ : Hid (Calls Try.prog 44 #[.pointer (some ⟨b, 0, none⟩), .int .i64 kx] v3 fun e w' => e = .returned (.tuple #[.int .i64 v, .bool true]) ∧ w' = v3) := V3.out.get kx hkx (by have := IN.out; omega) (some v) (by rw [(GB.out v3 V3.out).2, if_pos rfl])
              clear hkx gA
              go_upto_region 23 with (go_at_call 44; refine (GQ.out).mono ?_; rintro e w' ⟨rfl, hw⟩; (have hw2 := hw.symm); clear hw; subst hw2)
              refine wp_region_lit ?_
              refine lst_val (v := .bool true) (by kernel_rfl) ?_ ?_
              · go_simp
              simp only [Act.put, List.setIfInBounds_toArray, List.set_cons_zero, List.set_cons_succ]
              refine lst_val (v := .bool false) (by kernel_rfl) ?_ ?_
              · go_simp
              simp only [Act.put, List.setIfInBounds_toArray, List.set_cons_zero, List.set_cons_succ]
              refine lst_val (v := .bool false) (by kernel_rfl) ?_ ?_
              · go_simp
              simp only [Act.put, List.setIfInBounds_toArray, List.set_cons_zero, List.set_cons_succ]
              refine lst_val (v := .pointer (some ⟨xb, 0, none⟩)) (by kernel_rfl) ?_ ?_
              · go_simp
              simp only [Act.put, List.setIfInBounds_toArray, List.set_cons_zero, List.set_cons_succ]
              refine lst_val (v := .slice (some ⟨g, 0, none⟩) m kc) (by kernel_rfl) ?_ ?_
              · go_simp
              simp only [Act.put, List.setIfInBounds_toArray, List.set_cons_zero, List.set_cons_succ]
              refine lst_val (v := .int .i64 (q : Int)) (by kernel_rfl) ?_ ?_
              · go_simp
              simp only [Act.put, List.setIfInBounds_toArray, List.set_cons_zero, List.set_cons_succ]
              refine lst_val (v := .pointer (some ⟨g, q, none⟩)) (by kernel_rfl) ?_ ?_
              · go_simp
              simp only [Act.put, List.setIfInBounds_toArray, List.set_cons_zero, List.set_cons_succ]
              refine lst_val (v := .int .i64 kx) (by kernel_rfl) ?_ ?_
              · go_simp
              simp only [Act.put, List.setIfInBounds_toArray, List.set_cons_zero, List.set_cons_succ]
              refine lst_val (v := .int .i64 kx) (by kernel_rfl) ?_ ?_
              · go_simp
              simp only [Act.put, List.setIfInBounds_toArray, List.set_cons_zero, List.set_cons_succ]
              refine lst_val (v := .bool false) (by kernel_rfl) ?_ ?_
              · go_simp
              simp only [Act.put, List.setIfInBounds_toArray, List.set_cons_zero, List.set_cons_succ]
              go_wp2
              go_roundw
              case rel => exact ⟨q + 1, by omega, by go_num, by trivial⟩
              case measure => simp [intOf]; omega
            · have GQ : Hid (Calls Try.prog 44 #[.pointer (some ⟨b, 0, none⟩), .int .i64 kx] v3 fun e w' => e = .returned (.tuple #[.int .i64 vx, .bool true]) ∧ w' = v3) := V3.out.get kx hkx (by have := IN.out; omega) (some vx) (by rw [(GB.out v3 V3.out).2, if_neg ek, gA])
              clear hkx gA
              go_upto_region 23 with (go_at_call 44; refine (GQ.out).mono ?_; rintro e w' ⟨rfl, hw⟩; (have hw2 := hw.symm); clear hw; subst hw2)
              refine wp_region_lit ?_
              refine lst_val (v := .bool true) (by kernel_rfl) ?_ ?_
              · go_simp
              simp only [Act.put, List.setIfInBounds_toArray, List.set_cons_zero, List.set_cons_succ]
              refine lst_val (v := .bool false) (by kernel_rfl) ?_ ?_
              · go_simp
              simp only [Act.put, List.setIfInBounds_toArray, List.set_cons_zero, List.set_cons_succ]
              refine lst_val (v := .bool false) (by kernel_rfl) ?_ ?_
              · go_simp
              simp only [Act.put, List.setIfInBounds_toArray, List.set_cons_zero, List.set_cons_succ]
              refine lst_val (v := .pointer (some ⟨xb, 0, none⟩)) (by kernel_rfl) ?_ ?_
              · go_simp
              simp only [Act.put, List.setIfInBounds_toArray, List.set_cons_zero, List.set_cons_succ]
              refine lst_val (v := .slice (some ⟨g, 0, none⟩) m kc) (by kernel_rfl) ?_ ?_
              · go_simp
              simp only [Act.put, List.setIfInBounds_toArray, List.set_cons_zero, List.set_cons_succ]
              refine lst_val (v := .int .i64 (q : Int)) (by kernel_rfl) ?_ ?_
              · go_simp
              simp only [Act.put, List.setIfInBounds_toArray, List.set_cons_zero, List.set_cons_succ]
              refine lst_val (v := .pointer (some ⟨g, q, none⟩)) (by kernel_rfl) ?_ ?_
              · go_simp
              simp only [Act.put, List.setIfInBounds_toArray, List.set_cons_zero, List.set_cons_succ]
              refine lst_val (v := .int .i64 kx) (by kernel_rfl) ?_ ?_
              · go_simp
              simp only [Act.put, List.setIfInBounds_toArray, List.set_cons_zero, List.set_cons_succ]
              refine lst_val (v := .int .i64 k) (by kernel_rfl) ?_ ?_
              · go_simp
              simp only [Act.put, List.setIfInBounds_toArray, List.set_cons_zero, List.set_cons_succ]
              refine lst_val (v := .bool true) (by kernel_rfl) ?_ ?_
              · go_simp
              simp only [Act.put, List.setIfInBounds_toArray, List.set_cons_zero, List.set_cons_succ]
              go_wp2
              go_roundw
              case rel => exact ⟨q + 1, by omega, by go_num, by trivial⟩
              case measure => simp [intOf]; omega
          · have iI : ¬ (q : Int) < (m : Int) := by omega
            have GK : Hid (getR B k = some v) := by show _ = _; rw [(GB.out v3 V3.out).2, if_pos rfl]
            have D3 : Hid (Calls Try.prog 43 #[.pointer (some ⟨b, 0, none⟩), .int .i64 k] v3 fun e w' => e = .returned (.bool true) ∧ UV w w' b xb (i + 1 + 1) (delA B k) H (.slice ka m kc) (.slice va m vc) A) := by have := V3.out.del k HK.out (by have := IN.out; omega); rw [GK.out] at this; exact this
            have LC : Hid ((delA B k).length + 1 = m) := by have := del_len B k (by rw [GK.out]; rfl); rw [LN.out] at this; exact this
            have GC : Hid (∀ W N, UV w W b xb N (delA B k) H (.slice ka m kc) (.slice va m vc) A → (∀ q, getR (delA B k) q = if q = k then none else getR A q)) := fun W N hW q => by rw [getR_del (GB.out v3 V3.out).1 hW.ris.1]; split; rfl; rename_i e; rw [(GB.out v3 V3.out).2, if_neg e]
            have GD : Hid (∀ W, UV w W b xb (i + 1 + 1) (delA B k) H (.slice ka m kc) (.slice va m vc) A → Calls Try.prog 43 #[.pointer (some ⟨b, 0, none⟩), .int .i64 k] W fun e w' => e = .returned (.bool false) ∧ UV w w' b xb (i + 1 + 1 + 1) (delA B k) H (.slice ka m kc) (.slice va m vc) A) := fun W hW => by
              have h1 := GC.out W _ hW k
              rw [if_pos rfl] at h1
              have := hW.del k HK.out (by have := IN.out; omega)
              rw [h1, del_none h1] at this
              exact this
            generalize delA B k = C at D3 LC GC GD
            have mB2 : (C.length : Int) = (m : Int) - 1 := by have := LC.out; omega
            go_upto_region 25 with fail
            refine wp_region_lit ?_
            refine lst_val (v := .pointer (some ⟨b, 0, none⟩)) (by kernel_rfl) ?_ ?_
            · go_simp
            simp only [Act.put, List.setIfInBounds_toArray, List.set_cons_zero, List.set_cons_succ]
            refine lst_val (v := .int .i64 k) (by kernel_rfl) ?_ ?_
            · go_simp
            simp only [Act.put, List.setIfInBounds_toArray, List.set_cons_zero, List.set_cons_succ]
            refine lst_call (by kernel_rfl) (by first | (go_simp; done) | (go_simp; first | exact rfl | exact ⟨rfl, rfl⟩ | exact ⟨rfl, rfl, rfl⟩)) (D3.out) ?_
            rintro e v4 ⟨rfl, h3⟩
            refine ⟨_, rfl, ?_⟩
            have V4 : Hid (UV w v4 b xb (i + 1 + 1) C H (.slice ka m kc) (.slice va m vc) A) := h3
            clear h3 D3
            simp only [Act.put, List.setIfInBounds_toArray, List.set_cons_zero, List.set_cons_succ]
            refine lst_val (v := .bool false) (by kernel_rfl) ?_ ?_
            · go_simp
            simp only [Act.put, List.setIfInBounds_toArray, List.set_cons_zero, List.set_cons_succ]
            refine lst_val (v := .bool false) (by kernel_rfl) ?_ ?_
            · go_simp
            simp only [Act.put, List.setIfInBounds_toArray, List.set_cons_zero, List.set_cons_succ]
            refine lst_val (v := .pointer (some ⟨b, 0, none⟩)) (by kernel_rfl) ?_ ?_
            · go_simp
            simp only [Act.put, List.setIfInBounds_toArray, List.set_cons_zero, List.set_cons_succ]
            refine lst_val (v := .int .i64 k) (by kernel_rfl) ?_ ?_
            · go_simp
            simp only [Act.put, List.setIfInBounds_toArray, List.set_cons_zero, List.set_cons_succ]
            refine lst_call (by kernel_rfl) (by first | (go_simp; done) | (go_simp; first | exact rfl | exact ⟨rfl, rfl⟩ | exact ⟨rfl, rfl, rfl⟩)) (GD.out v4 V4.out) ?_
            rintro e v5 ⟨rfl, h3⟩
            refine ⟨_, rfl, ?_⟩
            have V5 : Hid (UV w v5 b xb (i + 1 + 1 + 1) C H (.slice ka m kc) (.slice va m vc) A) := h3
            clear h3 GD
            have L5 : Hid (Calls Try.prog 48 #[.pointer (some ⟨b, 0, none⟩)] v5 fun e w' => e = .returned (.int .i64 (((m : Int) - 1))) ∧ w' = v5) := by have := V5.out.len; rw [mB2] at this; exact this
            simp only [Act.put, List.setIfInBounds_toArray, List.set_cons_zero, List.set_cons_succ]
            refine lst_val (v := .bool false) (by kernel_rfl) ?_ ?_
            · go_simp
            simp only [Act.put, List.setIfInBounds_toArray, List.set_cons_zero, List.set_cons_succ]
            refine lst_val (v := .bool false) (by kernel_rfl) ?_ ?_
            · go_simp
            simp only [Act.put, List.setIfInBounds_toArray, List.set_cons_zero, List.set_cons_succ]
            refine lst_val (v := .pointer (some ⟨b, 0, none⟩)) (by kernel_rfl) ?_ ?_
            · go_simp
            simp only [Act.put, List.setIfInBounds_toArray, List.set_cons_zero, List.set_cons_succ]
            refine lst_call (by kernel_rfl) (by first | (go_simp; done) | (go_simp; first | exact rfl | exact ⟨rfl, rfl⟩ | exact ⟨rfl, rfl, rfl⟩)) (L5.out) ?_
            rintro e w' ⟨rfl, hw⟩
            have hw2 := hw.symm
            clear hw
            subst hw2
            refine ⟨_, rfl, ?_⟩
            simp only [Act.put, List.setIfInBounds_toArray, List.set_cons_zero, List.set_cons_succ]
            refine lst_val (v := .int .i64 (m : Int)) (by kernel_rfl) ?_ ?_
            · go_simp
            simp only [Act.put, List.setIfInBounds_toArray, List.set_cons_zero, List.set_cons_succ]
            refine lst_val (v := .int .i64 ((m : Int) - 1)) (by kernel_rfl) ?_ ?_
            · (go_simp; try (first | (rw [IntKind.wrap_u64]; omega) | (rw [IntKind.wrap_i64]; omega)))
            simp only [Act.put, List.setIfInBounds_toArray, List.set_cons_zero, List.set_cons_succ]
            refine lst_val (v := .bool false) (by kernel_rfl) ?_ ?_
            · go_simp
            simp only [Act.put, List.setIfInBounds_toArray, List.set_cons_zero, List.set_cons_succ]
            refine lst_val (v := .bool false) (by kernel_rfl) ?_ ?_
            · go_simp
            simp only [Act.put, List.setIfInBounds_toArray, List.set_cons_zero, List.set_cons_succ]
            refine wpList_nil ?_
            go_upto_region 27 with fail
            have G5 : Hid (Calls Try.prog 44 #[.pointer (some ⟨b, 0, none⟩), .int .i64 k] v5 fun e w' => e = .returned (.tuple #[.int .i64 0, .bool false]) ∧ w' = v5) := V5.out.get k HK.out (by have := IN.out; omega) none (by rw [GC.out v5 _ V5.out, if_pos rfl])
            go_upto_region 28 with (go_at_call 44; refine (G5.out).mono ?_; rintro e w' ⟨rfl, hw⟩; (have hw2 := hw.symm); clear hw; subst hw2)
            clear c0 c1 iI hq e G5 mB2
            have c0 : v5.cell? ⟨xb, 0, none⟩ = some (.slice ka m kc) := V5.out.bx.cell 0
            have c1 : v5.cell? ⟨xb, 1, none⟩ = some (.slice va m vc) := V5.out.bx.cell 1
            go_wp2
            go_loopw [20] (fun si wr => ∃ q : Nat, q ≤ m ∧ si = .int .i64 (q : Int) ∧ wr = v5) (fun si _ => m - (intOf si).toNat)
            case atStart => exact ⟨0, by omega, rfl, rfl⟩
            case round =>
              obtain ⟨q, hq, rfl, hw⟩ := hrel
              have hw2 := hw.symm
              clear hw
              subst hw2
              by_cases e : q < m
              · have iI : (q : Int) < (m : Int) := by omega
                obtain ⟨⟨kx, vx⟩, hp⟩ : ∃ p, A[q]? = some p := ⟨_, List.getElem?_eq_getElem (by rw [HA.out.2.1]; exact e)⟩
                have gA : getR A kx = some vx := (getR_mem HA.out.1).2 (List.mem_iff_getElem?.2 ⟨q, hp⟩)
                obtain ⟨ka2, kc2, va2, vc2, e1, e2, hat⟩ := V5.out.at
                rw [HA.out.2.1] at e1 e2
                injection e1 with e1 _ e1'
                injection e2 with e2 _ e2'
                subst e1 e1' e2 e2'
                obtain ⟨g, g', rfl, rfl, d1, d2⟩ := hat q kx vx hp
                have hkx : I64 kx := HA.out.2.2 _ (List.mem_iff_getElem?.2 ⟨q, hp⟩)
                clear hat hp
                by_cases ek : kx = k
                · subst ek
                  have GQ : Hid (Calls Try.prog 44 #[.pointer (some ⟨b, 0, none⟩), .int .i64 kx] v5 fun e w' => e = .returned (.tuple #[.int .i64 0, .bool false]) ∧ w' = v5) := V5.out.get kx hkx (by have := IN.out; omega) none (by rw [GC.out v5 _ V5.out, if_pos rfl])
                  clear hkx gA
                  go_upto_region 32 with (go_at_call 44; refine (GQ.out).mono ?_; rintro e w' ⟨rfl, hw⟩; (have hw2 := hw.symm); clear hw; subst hw2)
                  refine wp_region_lit ?_
                  refine lst_val (v := .bool false) (by kernel_rfl) ?_ ?_
                  · go_simp
                  simp only [Act.put, List.setIfInBounds_toArray, List.set_cons_zero, List.set_cons_succ]
                  refine lst_val (v := .pointer (some ⟨xb, 0, none⟩)) (by kernel_rfl) ?_ ?_
                  · go_simp
                  simp only [Act.put, List.setIfInBounds_toArray, List.set_cons_zero, List.set_cons_succ]
                  refine lst_val (v := .slice (some ⟨g, 0, none⟩) m kc) (by kernel_rfl) ?_ ?_
                  · go_simp
                  simp only [Act.put, List.setIfInBounds_toArray, List.set_cons_zero, List.set_cons_succ]
                  refine lst_val (v := .int .i64 (q : Int)) (by kernel_rfl) ?_ ?_
                  · go_simp
                  simp only [Act.put, List.setIfInBounds_toArray, List.set_cons_zero, List.set_cons_succ]
                  refine lst_val (v := .pointer (some ⟨g, q, none⟩)) (by kernel_rfl) ?_ ?_
                  · go_simp
                  simp only [Act.put, List.setIfInBounds_toArray, List.set_cons_zero, List.set_cons_succ]
                  refine lst_val (v := .int .i64 kx) (by kernel_rfl) ?_ ?_
                  · go_simp
                  simp only [Act.put, List.setIfInBounds_toArray, List.set_cons_zero, List.set_cons_succ]
                  refine lst_val (v := .int .i64 kx) (by kernel_rfl) ?_ ?_
                  · go_simp
                  simp only [Act.put, List.setIfInBounds_toArray, List.set_cons_zero, List.set_cons_succ]
                  refine lst_val (v := .bool false) (by kernel_rfl) ?_ ?_
                  · go_simp
                  simp only [Act.put, List.setIfInBounds_toArray, List.set_cons_zero, List.set_cons_succ]
                  refine lst_val (v := .bool false) (by kernel_rfl) ?_ ?_
                  · go_simp
                  simp only [Act.put, List.setIfInBounds_toArray, List.set_cons_zero, List.set_cons_succ]
                  refine lst_val (v := .bool false) (by kernel_rfl) ?_ ?_
                  · go_simp
                  simp only [Act.put, List.setIfInBounds_toArray, List.set_cons_zero, List.set_cons_succ]
                  refine lst_val (v := .bool false) (by kernel_rfl) ?_ ?_
                  · go_simp
                  simp only [Act.put, List.setIfInBounds_toArray, List.set_cons_zero, List.set_cons_succ]
                  go_wp2
                  go_roundw
                  case rel => exact ⟨q + 1, by omega, by go_num, by trivial⟩
                  case measure => simp [intOf]; omega
                · have GQ : Hid (Calls Try.prog 44 #[.pointer (some ⟨b, 0, none⟩), .int .i64 kx] v5 fun e w' => e = .returned (.tuple #[.int .i64 vx, .bool true]) ∧ w' = v5) := V5.out.get kx hkx (by have := IN.out; omega) (some vx) (by rw [GC.out v5 _ V5.out, if_neg ek, gA])
                  clear hkx gA
                  go_upto_region 32 with (go_at_call 44; refine (GQ.out).mono ?_; rintro e w' ⟨rfl, hw⟩; (have hw2 := hw.symm); clear hw; subst hw2)
                  refine wp_region_lit ?_
                  refine lst_val (v := .bool true) (by kernel_rfl) ?_ ?_
                  · go_simp
                  simp only [Act.put, List.setIfInBounds_toArray, List.set_cons_zero, List.set_cons_succ]
                  refine lst_val (v := .pointer (some ⟨xb, 0, none⟩)) (by kernel_rfl) ?_ ?_
                  · go_simp
                  simp only [Act.put, List.setIfInBounds_toArray, List.set_cons_zero, List.set_cons_succ]
                  refine lst_val (v := .slice (some ⟨g, 0, none⟩) m kc) (by kernel_rfl) ?_ ?_
                  · go_simp
                  simp only [Act.put, List.setIfInBounds_toArray, List.set_cons_zero, List.set_cons_succ]
                  refine lst_val (v := .int .i64 (q : Int)) (by kernel_rfl) ?_ ?_
                  · go_simp
                  simp only [Act.put, List.setIfInBounds_toArray, List.set_cons_zero, List.set_cons_succ]
                  refine lst_val (v := .pointer (some ⟨g, q, none⟩)) (by kernel_rfl) ?_ ?_
                  · go_simp
                  simp only [Act.put, List.setIfInBounds_toArray, List.set_cons_zero, List.set_cons_succ]
                  refine lst_val (v := .int .i64 kx) (by kernel_rfl) ?_ ?_
                  · go_simp
                  simp only [Act.put, List.setIfInBounds_toArray, List.set_cons_zero, List.set_cons_succ]
                  refine lst_val (v := .int .i64 k) (by kernel_rfl) ?_ ?_
                  · go_simp
                  simp only [Act.put, List.setIfInBounds_toArray, List.set_cons_zero, List.set_cons_succ]
                  refine lst_val (v := .bool true) (by kernel_rfl) ?_ ?_
                  · go_simp
                  simp only [Act.put, List.setIfInBounds_toArray, List.set_cons_zero, List.set_cons_succ]
                  refine lst_val (v := .bool false) (by kernel_rfl) ?_ ?_
                  · go_simp
                  simp only [Act.put, List.setIfInBounds_toArray, List.set_cons_zero, List.set_cons_succ]
                  refine lst_val (v := .bool false) (by kernel_rfl) ?_ ?_
                  · go_simp
                  simp only [Act.put, List.setIfInBounds_toArray, List.set_cons_zero, List.set_cons_succ]
                  refine lst_val (v := .bool true) (by kernel_rfl) ?_ ?_
                  · go_simp
                  simp only [Act.put, List.setIfInBounds_toArray, List.set_cons_zero, List.set_cons_succ]
                  go_wp2
                  go_roundw
                  case rel => exact ⟨q + 1, by omega, by go_num, by trivial⟩
                  case measure => simp [intOf]; omega
              · have iI : ¬ (q : Int) < (m : Int) := by omega
                go_upto_region 34 with fail
                refine wp_region_lit ?_
                refine lst_val (v := .bool false) (by kernel_rfl) ?_ ?_
                · go_simp
                simp only [Act.put, List.setIfInBounds_toArray, List.set_cons_zero, List.set_cons_succ]
                refine lst_val (v := .bool true) (by kernel_rfl) ?_ ?_
                · go_simp
                simp only [Act.put, List.setIfInBounds_toArray, List.set_cons_zero, List.set_cons_succ]
                refine lst_val (v := .bool true) (by kernel_rfl) ?_ ?_
                · go_simp
                simp only [Act.put, List.setIfInBounds_toArray, List.set_cons_zero, List.set_cons_succ]
                refine lst_val (v := .int .i64 0) (by kernel_rfl) ?_ ?_
                · go_simp
                simp only [Act.put, List.setIfInBounds_toArray, List.set_cons_zero, List.set_cons_succ]
                refine lst_val (v := .bool true) (by kernel_rfl) ?_ ?_
                · go_simp
                simp only [Act.put, List.setIfInBounds_toArray, List.set_cons_zero, List.set_cons_succ]
                refine lst_val (v := .bool true) (by kernel_rfl) ?_ ?_
                · go_simp
                simp only [Act.put, List.setIfInBounds_toArray, List.set_cons_zero, List.set_cons_succ]
                refine lst_val (v := .bool true) (by kernel_rfl) ?_ ?_
                · go_simp
                simp only [Act.put, List.setIfInBounds_toArray, List.set_cons_zero, List.set_cons_succ]
                refine lst_call (by kernel_rfl) (by first | (go_simp; done) | (go_simp; first | exact rfl | exact ⟨rfl, rfl⟩ | exact ⟨rfl, rfl, rfl⟩)) (awake_is v5) ?_
                rintro e v6 ⟨rfl, h3⟩
                refine ⟨_, rfl, ?_⟩
                have B6 : Hid (Below w.heap.size w v6) := V5.out.bel.trans (h3.mono V5.out.bel.size)
                clear h3
                simp only [Act.put, List.setIfInBounds_toArray, List.set_cons_zero, List.set_cons_succ]
                refine lst_val (v := .bool true) (by kernel_rfl) ?_ ?_
                · go_simp
                simp only [Act.put, List.setIfInBounds_toArray, List.set_cons_zero, List.set_cons_succ]
                refine lst_val (v := .bool true) (by kernel_rfl) ?_ ?_
                · go_simp
                simp only [Act.put, List.setIfInBounds_toArray, List.set_cons_zero, List.set_cons_succ]
                refine wpList_nil ?_
                go_wp2
                go_ret
                exact ⟨rfl, B6.out⟩
end Go.Proofs.Ytohfkgfjcnldaaa
