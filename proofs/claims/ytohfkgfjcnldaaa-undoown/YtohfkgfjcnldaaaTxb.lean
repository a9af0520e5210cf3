/- UndoOwn. -/
import Derived.Test.YtohfkgfjcnldaaaTxd
import Derived.Test.YtohfkgfjcnldaaaTyfM
namespace Go.Proofs.Ytohfkgfjcnldaaa
open Go.RowKit Go.Shelf
theorem stbT : Stb (fun _ _ => True) := fun _ _ _ _ _ _ _ _ => trivial
theorem set34 : setRL [] 4 4 = [(4, 4)] := rfl
set_option maxHeartbeats 8000000 in
set_option maxRecDepth 100000 in
theorem undoOwn_walk (w : World) (v1 : Value) (n1 : Nat) (x1 : Nat → OpR) (hv1 : OpsAt w v1 n1 x1) (hn1 : n1 ≤ 4398046511104) : Calls Try.prog 11 #[v1] w fun e w' => e = .returned (.bool true) ∧ Below w.heap.size w w' := by
  obtain ⟨a1, p1, rfl, hx1⟩ := hv1
  have X1 : Hid (0 < n1 → ∃ g a, a1 = some ⟨g, a, none⟩ ∧ ∀ i, i < n1 → OpAt w g (a + i * 4) (x1 i) ∧ OpOk (x1 i)) := hx1
  clear hx1
  have nX : (n1 : Int) ≤ 4398046511104 := by omega
  go_enter Try.func11, Try.ntmps11
  go_upto_region 1 with fail
  go_upto_region 2 with (go_at_call 37; refine (U0.new w 0).mono ?_; rintro e w1 ⟨b, rfl, h1⟩; (have T1 : Hid (U0 w w1 b 0 [] []) := h1); clear h1)
  go_upto_region 3 with (go_at_call 37; refine (T1.out.newU).mono ?_; rintro e w2 ⟨c, rfl, h1⟩; (have T2 : Hid (U2 w w2 b c 0 [] [] [] []) := h1); clear h1 T1)
  go_upto_region 5 with fail
  go_upto_region 6 with (go_at_call 39; refine (T2.out.t fun ow ht => mv_mo (set1 w2 ow 1 b 0 [] [] ht 3 3 (by unfold I64; omega) (by omega))).mono ?_; rintro e w3 ⟨rfl, h1⟩; (have T3 : Hid (U2 w w3 b c 1 (setRL [] 3 3) [] [] []) := h1); clear h1 T2)
  go_upto_region 7 with (go_at_call 39; refine (T3.out.u fun ow ht => mv_mo (set1 w3 ow 2 c 1 [] [] ht 4 4 (by unfold I64; omega) (by omega))).mono ?_; rintro e w4 ⟨rfl, h1⟩; (have T4 : Hid (U2 w w4 b c 2 (setRL [] 3 3) [] [(4, 4)] []) := h1); clear h1 T3)
  have L0 : Hid (UO w w4 b c 2 (setRL [] 3 3) [] (LR [] none 0 0 [] (fun _ _ => True))) := by
    obtain ⟨⟨ow, k1, k2, k3⟩, k4⟩ := T4.out
    exact ⟨⟨ow, k1, k2, ⟨⟨(fun i g l hi => by cases hi), Cnt.nil _ _ _⟩, trivial⟩, k3⟩, k4⟩
  clear T4
  go_wp2
  go_loopw [5, 6] (fun s5 s wr => ∃ (i m : Nat) (A : List (Int × Int)) (H : List (List (Int × Int))) (D : List (Nat × List Int)) (ad : Option Addr) (cap : Nat), (i ≤ n1 ∧ i ≤ 60 ∧ m = 3 * i ∧ D.length = m ∧ ∀ p ∈ D, p.2.length ≤ 63) ∧ s = .int .i64 (i : Int) ∧ s5 = .slice ad m cap ∧ UO w wr b c (2 + i) A H (LR D ad m cap (D.map rowV) (fun _ _ => True))) (fun _ s _ => 60 - (intOf s).toNat)
  case atStart => exact ⟨0, 0, _, _, [], none, 0, ⟨by omega, by omega, rfl, rfl, fun p hp => by cases hp⟩, rfl, rfl, L0.out⟩
  case round =>
    clear L0
    obtain ⟨i, m, A, H, D, ad, cap, ⟨hi, hi6, hm, hD, hRl⟩, rfl, rfl, hA⟩ := hrel
    have HRL : Hid (∀ p ∈ D, p.2.length ≤ 63) := hRl
    clear hRl
    have A0 : Hid (UO w wr b c (2 + i) A H (LR D ad m cap (D.map rowV) (fun _ _ => True))) := hA
    have HM : Hid (m = 3 * i ∧ D.length = m ∧ i ≤ 60) := ⟨hm, hD, hi6⟩
    clear hA hm hD
    by_cases hin : i < n1
    · have iI : (i : Int) < (n1 : Int) := by omega
      by_cases hi60 : i < 60
      · have iJ : (i : Int) < 60 := by omega
        obtain ⟨g, a, rfl, ok0, dc⟩ := ops_at X1.out hin
        generalize (x1 i) = op at ok0 dc
        obtain ⟨kd, tw, ok, ov⟩ := op
        have OK : Hid (I64 ok) := ok0
        obtain ⟨d0, d1, d2, d3⟩ := dc wr A0.out.bel
        clear ok0 dc
        go_upto_region 11 with fail
        go_upto_region 12 with (go_at_call 38; refine (A0.out.doO stbT (by omega) kd tw ok ov OK.out).mono ?_; rintro e w4 ⟨rfl, h4⟩; (have L4 : Hid (UO w w4 b c (2 + i + 1) (nxA kd ok ov A H) (nxH kd ok A H) (LR D ad m cap (D.map rowV) (fun _ _ => True))) := h4); clear h4)
        clear d0 d1 d2 d3 A0
        generalize nxA kd ok ov A H = A2 at L4
        generalize nxH kd ok A H = H2 at L4
        obtain ⟨al, eal⟩ : ∃ al, A2.length = al := ⟨_, rfl⟩
        have EA : Hid (A2.length = al ∧ (A2.map Prod.fst).length = al ∧ al ≤ 63) := by
          obtain ⟨ow, k1, _⟩ := L4.out.ex
          exact ⟨eal, by rw [List.length_map]; exact eal, by have := k1.lA; omega⟩
        clear eal
        have KT : Hid (∀ V, UO w V b c (2 + i + 1) A2 H2 (LR D ad m cap (D.map rowV) (fun _ _ => True)) → True) := fun _ _ => trivial
        clear KT
        refine wp_region_lit ?_
        refine lst_val (v := .slice ad m cap) (by kernel_rfl) ?_ ?_
        · go_simp
        simp only [Act.put, List.setIfInBounds_toArray, List.set_cons_zero, List.set_cons_succ]
        refine lst_val (v := .pointer (some ⟨b, 0, none⟩)) (by kernel_rfl) ?_ ?_
        · go_simp
        simp only [Act.put, List.setIfInBounds_toArray, List.set_cons_zero, List.set_cons_succ]
        refine lst_call (by kernel_rfl) (by first | (go_simp; done) | (go_simp; first | exact rfl | exact ⟨rfl, rfl⟩ | exact ⟨rfl, rfl, rfl⟩)) ((by have k := L4.out.keysT (by have := HM.out; omega); rw [EA.out.1] at k; exact k : Calls Try.prog 49 #[.pointer (some ⟨b, 0, none⟩), .func (.func 54) #[] #[]] w4 _)) ?_
        rintro e v1 ⟨rfl, q1, q2⟩
        refine ⟨_, rfl, ?_⟩
        have L5 : Hid (UO w v1 b c (2 + i + 1) A2 H2 (LR (D ++ [(w4.heap.size, A2.map Prod.fst)]) ad m cap (D.map rowV) (fun _ _ => True))) := L4.out.row stbT q2 q1
        clear q1 q2
        simp only [Act.put, List.setIfInBounds_toArray, List.set_cons_zero, List.set_cons_succ]
        refine lst_val (v := .pointer (some ⟨b, 0, none⟩)) (by kernel_rfl) ?_ ?_
        · go_simp
        simp only [Act.put, List.setIfInBounds_toArray, List.set_cons_zero, List.set_cons_succ]
        refine lst_call (by kernel_rfl) (by first | (go_simp; done) | (go_simp; first | exact rfl | exact ⟨rfl, rfl⟩ | exact ⟨rfl, rfl, rfl⟩)) ((by have k := L5.out.keysT (by have := HM.out; omega); rw [EA.out.1] at k; exact k : Calls Try.prog 49 #[.pointer (some ⟨b, 0, none⟩), .func (.func 54) #[] #[]] v1 _)) ?_
        rintro e v2 ⟨rfl, q1, q2⟩
        refine ⟨_, rfl, ?_⟩
        have L6 : Hid (UO w v2 b c (2 + i + 1) A2 H2 (LR (D ++ [(w4.heap.size, A2.map Prod.fst)] ++ [(v1.heap.size, A2.map Prod.fst)]) ad m cap (D.map rowV) (fun _ _ => True))) := L5.out.row stbT q2 q1
        clear q1 q2
        simp only [Act.put, List.setIfInBounds_toArray, List.set_cons_zero, List.set_cons_succ]
        refine lst_val (v := .pointer (some ⟨c, 0, none⟩)) (by kernel_rfl) ?_ ?_
        · go_simp
        simp only [Act.put, List.setIfInBounds_toArray, List.set_cons_zero, List.set_cons_succ]
        refine lst_call (by kernel_rfl) (by first | (go_simp; done) | (go_simp; first | exact rfl | exact ⟨rfl, rfl⟩ | exact ⟨rfl, rfl, rfl⟩)) (L6.out.keysU (by have := HM.out; omega)) ?_
        rintro e v3 ⟨rfl, q1, q2⟩
        refine ⟨_, rfl, ?_⟩
        have L7 : Hid (UO w v3 b c (2 + i + 1) A2 H2 (LR (D ++ [(w4.heap.size, A2.map Prod.fst)] ++ [(v1.heap.size, A2.map Prod.fst)] ++ [(v2.heap.size, [4])]) ad m cap (D.map rowV) (fun _ _ => True))) := L6.out.row stbT q2 (l := [4]) q1
        clear q1 q2
        simp only [Act.put, List.setIfInBounds_toArray, List.set_cons_zero, List.set_cons_succ]
        refine lst_new (v := .slice (some ⟨v3.heap.size, 0, none⟩) 3 3) (w' := v3.alloc (.cells #[.slice (some ⟨w4.heap.size, 0, none⟩) al al, .slice (some ⟨v1.heap.size, 0, none⟩) al al, .slice (some ⟨v2.heap.size, 0, none⟩) 1 1] 65)) (by kernel_rfl) ?_ ?_
        · go_simp
        simp only [Act.put, List.setIfInBounds_toArray, List.set_cons_zero, List.set_cons_succ]
        have BK : Below v3.heap.size v3 (v3.alloc (.cells #[.slice (some ⟨w4.heap.size, 0, none⟩) al al, .slice (some ⟨v1.heap.size, 0, none⟩) al al, .slice (some ⟨v2.heap.size, 0, none⟩) 1 1] 65)) := (Below.refl _ _).alloc (Nat.le_refl _) _
        have L8 : Hid (UO w (v3.alloc (.cells #[.slice (some ⟨w4.heap.size, 0, none⟩) al al, .slice (some ⟨v1.heap.size, 0, none⟩) al al, .slice (some ⟨v2.heap.size, 0, none⟩) 1 1] 65)) b c (2 + i + 1) A2 H2 (LR (D ++ [(w4.heap.size, A2.map Prod.fst)] ++ [(v1.heap.size, A2.map Prod.fst)] ++ [(v2.heap.size, [4])]) ad m cap (D.map rowV) (fun _ _ => True))) := L7.out.keep stbT BK
        have CB : Hid (CBox (v3.alloc (.cells #[.slice (some ⟨w4.heap.size, 0, none⟩) al al, .slice (some ⟨v1.heap.size, 0, none⟩) al al, .slice (some ⟨v2.heap.size, 0, none⟩) 1 1] 65)) v3.heap.size 65 [.slice (some ⟨w4.heap.size, 0, none⟩) al al, .slice (some ⟨v1.heap.size, 0, none⟩) al al, .slice (some ⟨v2.heap.size, 0, none⟩) 1 1]) := CBox.new v3 _ [_, _, _]
        clear BK
        generalize v3.alloc (.cells #[.slice (some ⟨w4.heap.size, 0, none⟩) al al, .slice (some ⟨v1.heap.size, 0, none⟩) al al, .slice (some ⟨v2.heap.size, 0, none⟩) 1 1] 65) = v4 at L8 CB ⊢
        refine wpList_apps rfl _ _ rfl ad m cap (D.map rowV) rfl L8.out.own v3.heap.size 3 3 _ rfl CB.out rfl (by simp [Value.oneCell']) (by have := HM.out; omega) ?_
        intro ad' cap' v5 h1 h2 h3
        have L9 : Hid (UO w v5 b c (2 + i + 1) A2 H2 (LR (D ++ [(w4.heap.size, A2.map Prod.fst)] ++ [(v1.heap.size, A2.map Prod.fst)] ++ [(v2.heap.size, [4])]) ad' (m + 3) cap' (D.map rowV ++ [.slice (some ⟨w4.heap.size, 0, none⟩) al al, .slice (some ⟨v1.heap.size, 0, none⟩) al al, .slice (some ⟨v2.heap.size, 0, none⟩) 1 1]) (fun _ _ => True))) := L8.out.app stbT h1 h2 h3
        clear h1 h2 h3 CB L8 L7 L6 L5 L4
        simp only [Act.put, List.setIfInBounds_toArray, List.set_cons_zero, List.set_cons_succ]
        refine lst_val (v := .slice ad' (m + 3) cap') (by kernel_rfl) ?_ ?_
        · go_simp
        simp only [Act.put, List.setIfInBounds_toArray, List.set_cons_zero, List.set_cons_succ]
        refine wpList_nil ?_
        generalize w4.heap.size = k1 at L9 ⊢
        generalize v1.heap.size = k2 at L9 ⊢
        generalize v2.heap.size = k3 at L9 ⊢
        generalize A2.map Prod.fst = kl at L9 EA
        obtain ⟨DD, eDD⟩ : ∃ DD, DD = D ++ [(k1, kl)] ++ [(k2, kl)] ++ [(k3, [4])] := ⟨_, rfl⟩
        have HD : Hid (DD.length = m + 3 ∧ DD[m]? = some (k1, kl) ∧ DD[m + 1]? = some (k2, kl) ∧ DD[m + 2]? = some (k3, [4])) := by
          have e := HM.out.2.1
          rw [eDD]
          refine ⟨by simp [e], ?_, ?_, ?_⟩
          · rw [← e]; simp
          · rw [← e]; simp
          · rw [← e]; simp
        have L10 : Hid (UO w v5 b c (2 + i + 1) A2 H2 (LR DD ad' (m + 3) cap' (DD.map rowV) (fun _ _ => True))) := by
          have e : DD.map rowV = D.map rowV ++ [.slice (some ⟨k1, 0, none⟩) al al, .slice (some ⟨k2, 0, none⟩) al al, .slice (some ⟨k3, 0, none⟩) 1 1] := by
            rw [eDD]
            simp [rowV, EA.out.2.1]
          rw [e, eDD]
          exact L9.out
        have HR3 : Hid (∀ p ∈ DD, p.2.length ≤ 63) := by
          rw [eDD]
          intro p hp
          simp only [List.mem_append, List.mem_singleton] at hp
          rcases hp with ((hp | rfl) | rfl) | rfl
          · exact HRL.out p hp
          · show kl.length ≤ 63; rw [EA.out.2.1]; exact EA.out.2.2
          · show kl.length ≤ 63; rw [EA.out.2.1]; exact EA.out.2.2
          · show [4].length ≤ 63; simp
        clear L9 eDD
        obtain ⟨ga, rfl, _⟩ := L10.out.at (i := m) (v := rowV (k1, kl)) (by rw [List.getElem?_map, HD.out.2.1]; rfl)
        have CX : Hid (∀ V, UO w V b c (2 + i + 1) A2 H2 (LR DD (some ⟨ga, 0, none⟩) (m + 3) cap' (DD.map rowV) (fun _ _ => True)) → V.cell? ⟨ga, m, none⟩ = some (.slice (some ⟨k1, 0, none⟩) al al) ∧ V.cell? ⟨ga, m + 1, none⟩ = some (.slice (some ⟨k2, 0, none⟩) al al) ∧ V.cell? ⟨ga, m + 2, none⟩ = some (.slice (some ⟨k3, 0, none⟩) 1 1)) := fun V hV => by
          obtain ⟨g1, e1, c1⟩ := hV.at (i := m) (v := .slice (some ⟨k1, 0, none⟩) al al) (by rw [List.getElem?_map, HD.out.2.1, ← EA.out.2.1]; rfl)
          obtain ⟨g2, e2, c2⟩ := hV.at (i := m + 1) (v := .slice (some ⟨k2, 0, none⟩) al al) (by rw [List.getElem?_map, HD.out.2.2.1, ← EA.out.2.1]; rfl)
          obtain ⟨g3, e3, c3⟩ := hV.at (i := m + 2) (v := .slice (some ⟨k3, 0, none⟩) 1 1) (by rw [List.getElem?_map, HD.out.2.2.2]; rfl)
          injection e1 with e1; injection e1 with e1; injection e2 with e2; injection e2 with e2; injection e3 with e3; injection e3 with e3
          subst e1 e2 e3
          exact ⟨c1, c2, c3⟩
        have SR : Hid (∀ V, UO w V b c (2 + i + 1) A2 H2 (LR DD (some ⟨ga, 0, none⟩) (m + 3) cap' (DD.map rowV) (fun _ _ => True)) → (∀ q, CBox V q 3 (intsD [4]) → Calls Try.prog 55 #[.slice (some ⟨k3, 0, none⟩) 1 1, .slice (some ⟨q, 0, none⟩) 1 1] V fun e w' => e = .returned (.bool true) ∧ Below V.heap.size V w') ∧ Calls Try.prog 55 #[.slice (some ⟨k2, 0, none⟩) al al, .slice (some ⟨k1, 0, none⟩) al al] V fun e w' => e = .returned (.bool true) ∧ Below V.heap.size V w') := fun V hV => by
          have e4 : ∀ q, rowV (q, [4]) = .slice (some ⟨q, 0, none⟩) 1 1 := fun _ => rfl
          have el : ∀ q, rowV (q, kl) = .slice (some ⟨q, 0, none⟩) al al := fun _ => by rw [← EA.out.2.1]; rfl
          have ll : kl.length < 549755813888 := by rw [EA.out.2.1]; have := EA.out.2.2; omega
          have k := same_rows V (hV.rw HD.out.2.2.1) (hV.rw HD.out.2.1) ll
          rw [el, el] at k
          refine ⟨fun q hq => ?_, k⟩
          have k' := same_rows V (hV.rw HD.out.2.2.2) hq (by simp)
          rw [e4, e4] at k'
          exact k'
        go_upto_region 13 with fail
        obtain ⟨m3, e3⟩ : ∃ m3, m3 = m + 3 := ⟨_, rfl⟩
        obtain ⟨q2, f2⟩ : ∃ q2, q2 = m + 2 := ⟨_, rfl⟩
        obtain ⟨q1, f1⟩ : ∃ q1, q1 = m + 1 := ⟨_, rfl⟩
        have HQ : Hid (m3 = m + 3) := e3
        have hmm := HM.out
        have s1 : (m3 : Int) - 1 = (q2 : Int) := by omega
        have s2 : (m3 : Int) - 2 = (q1 : Int) := by omega
        have s3 : (m3 : Int) - 3 = (m : Int) := by omega
        have ww1 : IntKind.i64.wrap (q2 : Int) = (q2 : Int) := by rw [IntKind.wrap_i64]; omega
        have ww2 : IntKind.i64.wrap (q1 : Int) = (q1 : Int) := by rw [IntKind.wrap_i64]; omega
        have ww3 : IntKind.i64.wrap (m : Int) = (m : Int) := by rw [IntKind.wrap_i64]; omega
        have lt1 : (q2 : Int) < (m3 : Int) := by omega
        have lt2 : (q1 : Int) < (m3 : Int) := by omega
        have lt3 : (m : Int) < (m3 : Int) := by omega
        rw [← f1, ← f2] at CX
        rw [← e3] at L10 CX SR ⊢
        clear e3 f1 f2 hmm
        refine wp_region_held_drew (S := fun V => UO w V b c (2 + i + 1) A2 H2 (LR DD (some ⟨ga, 0, none⟩) m3 cap' (DD.map rowV) (fun _ _ => True))) (by kernel_rfl) (L10.out.keep stbT (Below.refl _ _).drew) (fun hHeld => ?_)
        generalize v5.drew = z0 at hHeld ⊢
        refine wpAnyH_take (i := 0) (v := .slice (some ⟨ga, 0, none⟩) m3 cap') ov0 (by kernel_rfl) (by kernel_rfl) (by kernel_rfl) (fun _ _ _ h => h) (Or.inl ⟨by rfl, fun V' hS => ?_⟩) hHeld ?_
        · go_simp
        simp only [Act.put, List.setIfInBounds_toArray, List.set_cons_zero, List.set_cons_succ]
        refine wpAnyH_take (i := 1) (v := .slice (some ⟨ga, 0, none⟩) m3 cap') ov1 (by kernel_rfl) (by kernel_rfl) (by kernel_rfl) (fun _ _ _ h => h) (Or.inl ⟨by rfl, fun V' hS => ?_⟩) hHeld ?_
        · go_simp
        simp only [Act.put, List.setIfInBounds_toArray, List.set_cons_zero, List.set_cons_succ]
        refine wpAnyH_take (i := 2) (v := .int .i64 (m3 : Int)) ov2 (by kernel_rfl) (by kernel_rfl) (by kernel_rfl) (fun _ _ _ h => h) (Or.inl ⟨by rfl, fun V' hS => ?_⟩) hHeld ?_
        · go_simp
        simp only [Act.put, List.setIfInBounds_toArray, List.set_cons_zero, List.set_cons_succ]
        refine wpAnyH_take (i := 3) (v := .int .i64 (q2 : Int)) ov3 (by kernel_rfl) (by kernel_rfl) (by kernel_rfl) (fun _ _ _ h => h) (Or.inl ⟨by rfl, fun V' hS => ?_⟩) hHeld ?_
        · go_simp
        simp only [Act.put, List.setIfInBounds_toArray, List.set_cons_zero, List.set_cons_succ]
        refine wpAnyH_take (i := 4) (v := .pointer (some ⟨ga, q2, none⟩)) ov4 (by kernel_rfl) (by kernel_rfl) (by kernel_rfl) (fun _ _ _ h => h) (Or.inl ⟨by rfl, fun V' hS => ?_⟩) hHeld ?_
        · go_simp
        simp only [Act.put, List.setIfInBounds_toArray, List.set_cons_zero, List.set_cons_succ]
        refine wpAnyH_take (i := 5) (v := .slice (some ⟨k3, 0, none⟩) 1 1) ov5 (by kernel_rfl) (by kernel_rfl) (by kernel_rfl) (fun _ _ _ h => h) (Or.inl ⟨by rfl, fun V' hS => ?_⟩) hHeld ?_
        · obtain ⟨c0, c1, c2⟩ := CX.out V' hS
          go_simp
        simp only [Act.put, List.setIfInBounds_toArray, List.set_cons_zero, List.set_cons_succ]
        refine wpAnyH_ready (rs := [6]) (by kernel_rfl) (by simp) ?_
        refine AllReadyH.cons ov6 (fun K hK => ?_) AllReadyH.nil
        rw [if_pos (by rfl)]
        go_simp
        have BK : Below z0.heap.size z0 (z0.alloc (.cells #[.int .i64 4] 3)) := (Below.refl _ _).alloc (Nat.le_refl _) _
        have hHeld := hHeld.keep stbT BK
        have BX : Hid (CBox (z0.alloc (.cells #[.int .i64 4] 3)) z0.heap.size 3 (intsD [4])) := CBox.new z0 _ [_]
        obtain ⟨b59, e59⟩ : ∃ b, b = z0.heap.size := ⟨_, rfl⟩
        rw [← e59] at BX ⊢
        clear e59
        generalize z0.alloc (.cells #[.int .i64 4] 3) = z0 at hHeld BX ⊢
        refine hK.out _ _ hHeld (fun _ => ?_)
        clear hK K
        (try simp only [Act.put, List.setIfInBounds_toArray, List.set_cons_zero, List.set_cons_succ])
        refine wpAnyH_ready (rs := [7]) (by kernel_rfl) (by simp) ?_
        refine AllReadyH.cons ov7 (fun K hK => ?_) AllReadyH.nil
        rw [if_pos (by rfl)]
        go_simp
        refine ((SR.out z0 hHeld).1 b59 BX.out).mono ?_
        rintro e w9 ⟨rfl, BK⟩
        have hHeld := hHeld.keep stbT BK
        generalize w9 = z0 at hHeld ⊢
        (try go_wp2_with fail)
        refine hK.out _ _ hHeld (fun _ => ?_)
        clear hK K
        (try simp only [Act.put, List.setIfInBounds_toArray, List.set_cons_zero, List.set_cons_succ])
        refine wpAnyH_take (i := 8) (v := .bool false) ov8 (by kernel_rfl) (by kernel_rfl) (by kernel_rfl) (fun _ _ _ h => h) (Or.inl ⟨by rfl, fun V' hS => ?_⟩) hHeld ?_
        · go_simp
        simp only [Act.put, List.setIfInBounds_toArray, List.set_cons_zero, List.set_cons_succ]
        refine wpAnyH_take (i := 9) (v := .bool false) ov9 (by kernel_rfl) (by kernel_rfl) (by kernel_rfl) (fun _ _ _ h => h) (Or.inl ⟨by rfl, fun V' hS => ?_⟩) hHeld ?_
        · go_simp
        simp only [Act.put, List.setIfInBounds_toArray, List.set_cons_zero, List.set_cons_succ]
        refine wpAnyH_take (i := 10) (v := .slice (some ⟨ga, 0, none⟩) m3 cap') ov10 (by kernel_rfl) (by kernel_rfl) (by kernel_rfl) (fun _ _ _ h => h) (Or.inl ⟨by rfl, fun V' hS => ?_⟩) hHeld ?_
        · go_simp
        simp only [Act.put, List.setIfInBounds_toArray, List.set_cons_zero, List.set_cons_succ]
        refine wpAnyH_take (i := 11) (v := .slice (some ⟨ga, 0, none⟩) m3 cap') ov11 (by kernel_rfl) (by kernel_rfl) (by kernel_rfl) (fun _ _ _ h => h) (Or.inl ⟨by rfl, fun V' hS => ?_⟩) hHeld ?_
        · go_simp
        simp only [Act.put, List.setIfInBounds_toArray, List.set_cons_zero, List.set_cons_succ]
        refine wpAnyH_take (i := 12) (v := .int .i64 (m3 : Int)) ov12 (by kernel_rfl) (by kernel_rfl) (by kernel_rfl) (fun _ _ _ h => h) (Or.inl ⟨by rfl, fun V' hS => ?_⟩) hHeld ?_
        · go_simp
        simp only [Act.put, List.setIfInBounds_toArray, List.set_cons_zero, List.set_cons_succ]
        refine wpAnyH_take (i := 13) (v := .int .i64 (q1 : Int)) ov13 (by kernel_rfl) (by kernel_rfl) (by kernel_rfl) (fun _ _ _ h => h) (Or.inl ⟨by rfl, fun V' hS => ?_⟩) hHeld ?_
        · go_simp
        simp only [Act.put, List.setIfInBounds_toArray, List.set_cons_zero, List.set_cons_succ]
        refine wpAnyH_take (i := 14) (v := .pointer (some ⟨ga, q1, none⟩)) ov14 (by kernel_rfl) (by kernel_rfl) (by kernel_rfl) (fun _ _ _ h => h) (Or.inl ⟨by rfl, fun V' hS => ?_⟩) hHeld ?_
        · go_simp
        simp only [Act.put, List.setIfInBounds_toArray, List.set_cons_zero, List.set_cons_succ]
        refine wpAnyH_take (i := 15) (v := .slice (some ⟨k2, 0, none⟩) al al) ov15 (by kernel_rfl) (by kernel_rfl) (by kernel_rfl) (fun _ _ _ h => h) (Or.inl ⟨by rfl, fun V' hS => ?_⟩) hHeld ?_
        · obtain ⟨c0, c1, c2⟩ := CX.out V' hS
          go_simp
        simp only [Act.put, List.setIfInBounds_toArray, List.set_cons_zero, List.set_cons_succ]
        refine wpAnyH_take (i := 16) (v := .slice (some ⟨ga, 0, none⟩) m3 cap') ov16 (by kernel_rfl) (by kernel_rfl) (by kernel_rfl) (fun _ _ _ h => h) (Or.inl ⟨by rfl, fun V' hS => ?_⟩) hHeld ?_
        · go_simp
        simp only [Act.put, List.setIfInBounds_toArray, List.set_cons_zero, List.set_cons_succ]
        refine wpAnyH_take (i := 17) (v := .slice (some ⟨ga, 0, none⟩) m3 cap') ov17 (by kernel_rfl) (by kernel_rfl) (by kernel_rfl) (fun _ _ _ h => h) (Or.inl ⟨by rfl, fun V' hS => ?_⟩) hHeld ?_
        · go_simp
        simp only [Act.put, List.setIfInBounds_toArray, List.set_cons_zero, List.set_cons_succ]
        refine wpAnyH_take (i := 18) (v := .int .i64 (m3 : Int)) ov18 (by kernel_rfl) (by kernel_rfl) (by kernel_rfl) (fun _ _ _ h => h) (Or.inl ⟨by rfl, fun V' hS => ?_⟩) hHeld ?_
        · go_simp
        simp only [Act.put, List.setIfInBounds_toArray, List.set_cons_zero, List.set_cons_succ]
        refine wpAnyH_take (i := 19) (v := .int .i64 (m : Int)) ov19 (by kernel_rfl) (by kernel_rfl) (by kernel_rfl) (fun _ _ _ h => h) (Or.inl ⟨by rfl, fun V' hS => ?_⟩) hHeld ?_
        · go_simp
        simp only [Act.put, List.setIfInBounds_toArray, List.set_cons_zero, List.set_cons_succ]
        refine wpAnyH_take (i := 20) (v := .pointer (some ⟨ga, m, none⟩)) ov20 (by kernel_rfl) (by kernel_rfl) (by kernel_rfl) (fun _ _ _ h => h) (Or.inl ⟨by rfl, fun V' hS => ?_⟩) hHeld ?_
        · go_simp
        simp only [Act.put, List.setIfInBounds_toArray, List.set_cons_zero, List.set_cons_succ]
        refine wpAnyH_take (i := 21) (v := .slice (some ⟨k1, 0, none⟩) al al) ov21 (by kernel_rfl) (by kernel_rfl) (by kernel_rfl) (fun _ _ _ h => h) (Or.inl ⟨by rfl, fun V' hS => ?_⟩) hHeld ?_
        · obtain ⟨c0, c1, c2⟩ := CX.out V' hS
          go_simp
        simp only [Act.put, List.setIfInBounds_toArray, List.set_cons_zero, List.set_cons_succ]
        refine wpAnyH_ready (rs := [22]) (by kernel_rfl) (by simp) ?_
        refine AllReadyH.cons ov22 (fun K hK => ?_) AllReadyH.nil
        rw [if_pos (by rfl)]
        go_simp
        refine ((SR.out z0 hHeld).2).mono ?_
        rintro e w9 ⟨rfl, BK⟩
        have hHeld := hHeld.keep stbT BK
        generalize w9 = z0 at hHeld ⊢
        (try go_wp2_with fail)
        refine hK.out _ _ hHeld (fun _ => ?_)
        clear hK K
        (try simp only [Act.put, List.setIfInBounds_toArray, List.set_cons_zero, List.set_cons_succ])
        refine wpAnyH_take (i := 23) (v := .bool false) ov23 (by kernel_rfl) (by kernel_rfl) (by kernel_rfl) (fun _ _ _ h => h) (Or.inl ⟨by rfl, fun V' hS => ?_⟩) hHeld ?_
        · go_simp
        simp only [Act.put, List.setIfInBounds_toArray, List.set_cons_zero, List.set_cons_succ]
        refine wpAnyH_take (i := 24) (v := .bool false) ov24 (by kernel_rfl) (by kernel_rfl) (by kernel_rfl) (fun _ _ _ h => h) (Or.inl ⟨by rfl, fun V' hS => ?_⟩) hHeld ?_
        · go_simp
        simp only [Act.put, List.setIfInBounds_toArray, List.set_cons_zero, List.set_cons_succ]
        refine wpAnyH_done (by kernel_rfl) ?_ _
        have LF : Hid (UO w z0 b c (2 + i + 1) A2 H2 (LR DD (some ⟨ga, 0, none⟩) m3 cap' (DD.map rowV) (fun _ _ => True))) := hHeld
        clear CX SR L10 s1 s2 s3 ww1 ww2 ww3 lt1 lt2 lt3
        go_wp2
        go_roundw
        case rel => exact ⟨i + 1, m3, A2, H2, DD, _, _, ⟨by omega, by omega, by have := HM.out; have := HQ.out; omega, by rw [HQ.out]; exact HD.out.1, HR3.out⟩, by go_num, rfl, LF.out⟩
        case measure => simp [intOf]; omega
      · have iJ : ¬ (i : Int) < 60 := by omega
        go_upto_region 15 with fail
        generalize hNN : 2 + i = NN at A0
        have HN : Hid (NN ≤ 62 ∧ m ≤ 180 ∧ D.length = m) := by have := HM.out; exact ⟨by omega, by omega, by omega⟩
        clear hNN HM
        obtain ⟨mm, em⟩ : ∃ mm, A.length = mm := ⟨_, rfl⟩
        have EM : Hid (A.length = mm ∧ (A.map Prod.fst).length = mm ∧ mm ≤ 62) := by
          obtain ⟨ow, k1, _⟩ := A0.out.ex
          exact ⟨em, by rw [List.length_map]; exact em, by have := k1.lA; have := HN.out; omega⟩
        have SEE := A0.out.seenO stbT (by have := HN.out; omega)
        rw [em] at SEE
        clear em
        go_upto_region 16 with (go_at_call 40; refine SEE.mono ?_; rintro e v1 ⟨ka, kc, va, vc, rfl, h1⟩)
        change Code.wp _ _ _ _ (v1.alloc (.cells #[.slice ka mm kc, .slice va mm vc] 67))
        clear SEE A0
        obtain ⟨X, eX⟩ : ∃ X, X = RV v1.heap.size (.slice ka mm kc) (.slice va mm vc) A := ⟨_, rfl⟩
        have V2 : Hid (UO w (v1.alloc (.cells #[.slice ka mm kc, .slice va mm vc] 67)) b c NN A H (LR D ad m cap (D.map rowV) X)) := by rw [eX]; exact h1
        clear h1
        generalize v1.alloc (.cells #[.slice ka mm kc, .slice va mm vc] 67) = v2 at V2 ⊢
        generalize v1.heap.size = xb at eX ⊢
        have EX : Hid (X = RV xb (.slice ka mm kc) (.slice va mm vc) A) := eX
        have SX : Hid (Stb X) := by rw [eX]; exact RV.stb _ _ _ _
        have XF : Hid (∀ ow V, X ow V → IsI V (fun _ => 0) (.slice ka mm kc) (A.map Prod.fst) ∧ V.cell? ⟨xb, 0, none⟩ = some (.slice ka mm kc) ∧ V.cell? ⟨xb, 1, none⟩ = some (.slice va mm vc)) := by rw [eX]; exact fun ow V h => ⟨h.1.1.any, h.2.1.cell 0, h.2.1.cell 1⟩
        clear eX
        refine wp_region_lit ?_
        refine lst_val (v := .slice ad m cap) (by kernel_rfl) ?_ ?_
        · go_simp
        simp only [Act.put, List.setIfInBounds_toArray, List.set_cons_zero, List.set_cons_succ]
        refine lst_val (v := .pointer (some ⟨b, 0, none⟩)) (by kernel_rfl) ?_ ?_
        · go_simp
        simp only [Act.put, List.setIfInBounds_toArray, List.set_cons_zero, List.set_cons_succ]
        refine lst_call (by kernel_rfl) (by first | (go_simp; done) | (go_simp; first | exact rfl | exact ⟨rfl, rfl⟩ | exact ⟨rfl, rfl, rfl⟩)) ((by have k := V2.out.keysT (by have := HN.out; omega); rw [EM.out.1] at k; exact k : Calls Try.prog 49 #[.pointer (some ⟨b, 0, none⟩), .func (.func 54) #[] #[]] v2 _)) ?_
        rintro e v3 ⟨rfl, q1, q2⟩
        refine ⟨_, rfl, ?_⟩
        have L5 : Hid (UO w v3 b c NN A H (LR (D ++ [(v2.heap.size, A.map Prod.fst)]) ad m cap (D.map rowV) X)) := V2.out.row SX.out q2 q1
        clear q1 q2
        simp only [Act.put, List.setIfInBounds_toArray, List.set_cons_zero, List.set_cons_succ]
        refine lst_val (v := .pointer (some ⟨c, 0, none⟩)) (by kernel_rfl) ?_ ?_
        · go_simp
        simp only [Act.put, List.setIfInBounds_toArray, List.set_cons_zero, List.set_cons_succ]
        refine lst_call (by kernel_rfl) (by first | (go_simp; done) | (go_simp; first | exact rfl | exact ⟨rfl, rfl⟩ | exact ⟨rfl, rfl, rfl⟩)) (L5.out.keysU (by have := HN.out; omega)) ?_
        rintro e v4 ⟨rfl, q1, q2⟩
        refine ⟨_, rfl, ?_⟩
        have L7 : Hid (UO w v4 b c NN A H (LR (D ++ [(v2.heap.size, A.map Prod.fst)] ++ [(v3.heap.size, [4])]) ad m cap (D.map rowV) X)) := L5.out.row SX.out q2 (l := [4]) q1
        clear q1 q2
        simp only [Act.put, List.setIfInBounds_toArray, List.set_cons_zero, List.set_cons_succ]
        refine lst_new (v := .slice (some ⟨v4.heap.size, 0, none⟩) 2 2) (w' := v4.alloc (.cells #[.slice (some ⟨v2.heap.size, 0, none⟩) mm mm, .slice (some ⟨v3.heap.size, 0, none⟩) 1 1] 65)) (by kernel_rfl) ?_ ?_
        · go_simp
        simp only [Act.put, List.setIfInBounds_toArray, List.set_cons_zero, List.set_cons_succ]
        have BK : Below v4.heap.size v4 (v4.alloc (.cells #[.slice (some ⟨v2.heap.size, 0, none⟩) mm mm, .slice (some ⟨v3.heap.size, 0, none⟩) 1 1] 65)) := (Below.refl _ _).alloc (Nat.le_refl _) _
        have L8 : Hid (UO w (v4.alloc (.cells #[.slice (some ⟨v2.heap.size, 0, none⟩) mm mm, .slice (some ⟨v3.heap.size, 0, none⟩) 1 1] 65)) b c NN A H (LR (D ++ [(v2.heap.size, A.map Prod.fst)] ++ [(v3.heap.size, [4])]) ad m cap (D.map rowV) X)) := L7.out.keep SX.out BK
        have CB : Hid (CBox (v4.alloc (.cells #[.slice (some ⟨v2.heap.size, 0, none⟩) mm mm, .slice (some ⟨v3.heap.size, 0, none⟩) 1 1] 65)) v4.heap.size 65 [.slice (some ⟨v2.heap.size, 0, none⟩) mm mm, .slice (some ⟨v3.heap.size, 0, none⟩) 1 1]) := CBox.new v4 _ [_, _]
        clear BK
        generalize hg4 : v4.heap.size = g4 at CB ⊢
        generalize v4.alloc (.cells #[.slice (some ⟨v2.heap.size, 0, none⟩) mm mm, .slice (some ⟨v3.heap.size, 0, none⟩) 1 1] 65) = v4' at L8 CB ⊢
        clear hg4
        refine wpList_apps rfl _ _ rfl ad m cap (D.map rowV) rfl L8.out.own g4 2 2 _ rfl CB.out rfl (by simp [Value.oneCell']) (by have := HN.out; omega) ?_
        intro ad' cap' v5 h1 h2 h3
        have L9 : Hid (UO w v5 b c NN A H (LR (D ++ [(v2.heap.size, A.map Prod.fst)] ++ [(v3.heap.size, [4])]) ad' (m + 2) cap' (D.map rowV ++ [.slice (some ⟨v2.heap.size, 0, none⟩) mm mm, .slice (some ⟨v3.heap.size, 0, none⟩) 1 1]) X)) := L8.out.app SX.out h1 h2 h3
        clear h1 h2 h3 CB L8 L7 L5 V2
        simp only [Act.put, List.setIfInBounds_toArray, List.set_cons_zero, List.set_cons_succ]
        refine lst_val (v := .slice ad' (m + 2) cap') (by kernel_rfl) ?_ ?_
        · go_simp
        simp only [Act.put, List.setIfInBounds_toArray, List.set_cons_zero, List.set_cons_succ]
        refine wpList_nil ?_
        generalize v2.heap.size = k1 at L9 ⊢
        generalize v3.heap.size = k2 at L9 ⊢
        generalize hkl : A.map Prod.fst = kl at L9 EM XF
        have EK : Hid (A.map Prod.fst = kl) := hkl
        clear hkl
        obtain ⟨DD, eDD⟩ : ∃ DD, DD = D ++ [(k1, kl)] ++ [(k2, [4])] := ⟨_, rfl⟩
        have HD : Hid (DD.length = m + 2 ∧ DD[m]? = some (k1, kl)) := by
          have e := HN.out.2.2
          rw [eDD]
          refine ⟨by simp [e], ?_⟩
          rw [← e]; simp
        have L10 : Hid (UO w v5 b c NN A H (LR DD ad' (m + 2) cap' (DD.map rowV) X)) := by
          have e : DD.map rowV = D.map rowV ++ [.slice (some ⟨k1, 0, none⟩) mm mm, .slice (some ⟨k2, 0, none⟩) 1 1] := by
            rw [eDD]
            simp [rowV, EM.out.2.1]
          rw [e, eDD]
          exact L9.out
        have HR3 : Hid (∀ p ∈ DD, p.2.length ≤ 63) := by
          rw [eDD]
          intro p hp
          simp only [List.mem_append, List.mem_singleton] at hp
          rcases hp with (hp | rfl) | rfl
          · exact HRL.out p hp
          · show kl.length ≤ 63; rw [EM.out.2.1]; have := EM.out.2.2; omega
          · show [4].length ≤ 63; simp
        clear L9 eDD
        obtain ⟨ga, rfl, _⟩ := L10.out.at (i := m) (v := rowV (k1, kl)) (by rw [List.getElem?_map, HD.out.2]; rfl)
        obtain ⟨M, eM⟩ : ∃ M, M = m + 2 := ⟨_, rfl⟩
        rw [← eM] at L10 HD ⊢
        have HM2 : Hid (M = m + 2) := eM
        have CX : Hid (∀ V, UO w V b c NN A H (LR DD (some ⟨ga, 0, none⟩) M cap' (DD.map rowV) X) → V.cell? ⟨ga, m, none⟩ = some (.slice (some ⟨k1, 0, none⟩) mm mm) ∧ V.cell? ⟨xb, 0, none⟩ = some (.slice ka mm kc)) := fun V hV => by
          obtain ⟨g1, e1, c1⟩ := hV.at (i := m) (v := .slice (some ⟨k1, 0, none⟩) mm mm) (by rw [List.getElem?_map, HD.out.2, ← EM.out.2.1]; rfl)
          injection e1 with e1; injection e1 with e1
          subst e1
          obtain ⟨ow, r⟩ := hV.have
          exact ⟨c1, (XF.out ow V r.2).2.1⟩
        have SR : Hid (∀ V, UO w V b c NN A H (LR DD (some ⟨ga, 0, none⟩) M cap' (DD.map rowV) X) → Calls Try.prog 55 #[.slice (some ⟨k1, 0, none⟩) mm mm, .slice ka mm kc] V fun e w' => e = .returned (.bool true) ∧ Below V.heap.size V w') := fun V hV => by
          obtain ⟨ow, r⟩ := hV.have
          have el : rowV (k1, kl) = .slice (some ⟨k1, 0, none⟩) mm mm := by rw [← EM.out.2.1]; rfl
          have ll : kl.length < 549755813888 := by rw [EM.out.2.1]; have := EM.out.2.2; omega
          have k := sameInts_is V (fun _ => 0) (rowV (k1, kl)) (.slice ka mm kc) kl (IsI.box (hV.rw HD.out.2) rfl) (XF.out ow V r.2).1 ll
          rw [el] at k
          exact k
        go_upto_region 17 with fail
        have hmm := HN.out
        have s2 : (M : Int) - 2 = (m : Int) := by omega
        have ww3 : IntKind.i64.wrap (m : Int) = (m : Int) := by rw [IntKind.wrap_i64]; omega
        have lt3 : (m : Int) < (M : Int) := by omega
        clear eM hmm
        refine wp_region_held_drew (S := fun V => UO w V b c NN A H (LR DD (some ⟨ga, 0, none⟩) M cap' (DD.map rowV) X)) (by kernel_rfl) (L10.out.keep SX.out (Below.refl _ _).drew) (fun hHeld => ?_)
        generalize v5.drew = z0 at hHeld ⊢
        refine wpAnyH_take (i := 0) (v := .slice (some ⟨ga, 0, none⟩) M cap') ov0 (by kernel_rfl) (by kernel_rfl) (by kernel_rfl) (fun _ _ _ h => h) (Or.inl ⟨by rfl, fun V' hS => ?_⟩) hHeld ?_
        · go_simp
        simp only [Act.put, List.setIfInBounds_toArray, List.set_cons_zero, List.set_cons_succ]
        refine wpAnyH_take (i := 1) (v := .slice (some ⟨ga, 0, none⟩) M cap') ov1 (by kernel_rfl) (by kernel_rfl) (by kernel_rfl) (fun _ _ _ h => h) (Or.inl ⟨by rfl, fun V' hS => ?_⟩) hHeld ?_
        · go_simp
        simp only [Act.put, List.setIfInBounds_toArray, List.set_cons_zero, List.set_cons_succ]
        refine wpAnyH_take (i := 2) (v := .int .i64 (M : Int)) ov2 (by kernel_rfl) (by kernel_rfl) (by kernel_rfl) (fun _ _ _ h => h) (Or.inl ⟨by rfl, fun V' hS => ?_⟩) hHeld ?_
        · go_simp
        simp only [Act.put, List.setIfInBounds_toArray, List.set_cons_zero, List.set_cons_succ]
        refine wpAnyH_take (i := 3) (v := .int .i64 (m : Int)) ov3 (by kernel_rfl) (by kernel_rfl) (by kernel_rfl) (fun _ _ _ h => h) (Or.inl ⟨by rfl, fun V' hS => ?_⟩) hHeld ?_
        · go_simp
        simp only [Act.put, List.setIfInBounds_toArray, List.set_cons_zero, List.set_cons_succ]
        refine wpAnyH_take (i := 4) (v := .pointer (some ⟨ga, m, none⟩)) ov4 (by kernel_rfl) (by kernel_rfl) (by kernel_rfl) (fun _ _ _ h => h) (Or.inl ⟨by rfl, fun V' hS => ?_⟩) hHeld ?_
        · go_simp
        simp only [Act.put, List.setIfInBounds_toArray, List.set_cons_zero, List.set_cons_succ]
        refine wpAnyH_take (i := 5) (v := .slice (some ⟨k1, 0, none⟩) mm mm) ov5 (by kernel_rfl) (by kernel_rfl) (by kernel_rfl) (fun _ _ _ h => h) (Or.inl ⟨by rfl, fun V' hS => ?_⟩) hHeld ?_
        · obtain ⟨c0, c1⟩ := CX.out V' hS
          go_simp
        simp only [Act.put, List.setIfInBounds_toArray, List.set_cons_zero, List.set_cons_succ]
        refine wpAnyH_take (i := 6) (v := .pointer (some ⟨xb, 0, none⟩)) ov6 (by kernel_rfl) (by kernel_rfl) (by kernel_rfl) (fun _ _ _ h => h) (Or.inl ⟨by rfl, fun V' hS => ?_⟩) hHeld ?_
        · go_simp
        simp only [Act.put, List.setIfInBounds_toArray, List.set_cons_zero, List.set_cons_succ]
        refine wpAnyH_take (i := 7) (v := .slice ka mm kc) ov7 (by kernel_rfl) (by kernel_rfl) (by kernel_rfl) (fun _ _ _ h => h) (Or.inl ⟨by rfl, fun V' hS => ?_⟩) hHeld ?_
        · obtain ⟨c0, c1⟩ := CX.out V' hS
          go_simp
        simp only [Act.put, List.setIfInBounds_toArray, List.set_cons_zero, List.set_cons_succ]
        refine wpAnyH_ready (rs := [8]) (by kernel_rfl) (by simp) ?_
        refine AllReadyH.cons ov8 (fun K hK => ?_) AllReadyH.nil
        rw [if_pos (by rfl)]
        go_simp
        refine (SR.out z0 hHeld).mono ?_
        rintro e w9 ⟨rfl, BK⟩
        have hHeld := hHeld.keep SX.out BK
        generalize w9 = z0 at hHeld ⊢
        (try go_wp2_with fail)
        refine hK.out _ _ hHeld (fun _ => ?_)
        clear hK K
        (try simp only [Act.put, List.setIfInBounds_toArray, List.set_cons_zero, List.set_cons_succ])
        refine wpAnyH_take (i := 9) (v := .bool false) ov9 (by kernel_rfl) (by kernel_rfl) (by kernel_rfl) (fun _ _ _ h => h) (Or.inl ⟨by rfl, fun V' hS => ?_⟩) hHeld ?_
        · go_simp
        simp only [Act.put, List.setIfInBounds_toArray, List.set_cons_zero, List.set_cons_succ]
        refine wpAnyH_done (by kernel_rfl) ?_ _
        have LF : Hid (UO w z0 b c NN A H (LR DD (some ⟨ga, 0, none⟩) M cap' (DD.map rowV) X)) := hHeld
        clear CX SR L10 s2 ww3 lt3
        have HL : Hid (DD.length = M ∧ M ≤ 182) := ⟨HD.out.1, by have := HN.out; have := HM2.out; omega⟩
        have RL : Hid (∀ (j g : Nat) (l : List Int), DD[j]? = some (g, l) → l.length ≤ 63) := fun j g l h => HR3.out (g, l) (List.mem_of_getElem? h)
        clear HM2 HD
        go_wp2
        go_loopw [8] (fun s wr => ∃ i : Nat, i ≤ M ∧ s = .int .i64 (i : Int) ∧ UO w wr b c NN A H (LR (fil DD i 0) (some ⟨ga, 0, none⟩) M cap' (DD.map rowV) X)) (fun s _ => M - (intOf s).toNat)
        case atStart => exact ⟨0, by omega, rfl, by rw [fil_zero]; exact LF.out⟩
        case round =>
          clear LF
          obtain ⟨j, hj, rfl, hA⟩ := hrel
          have A0 : Hid (UO w wr b c NN A H (LR (fil DD j 0) (some ⟨ga, 0, none⟩) M cap' (DD.map rowV) X)) := hA
          clear hA
          by_cases hjn : j < M
          · have jI : (j : Int) < (M : Int) := by omega
            obtain ⟨⟨gi, li⟩, hjr⟩ : ∃ p, DD[j]? = some p := ⟨_, List.getElem?_eq_getElem (by rw [HL.out.1]; exact hjn)⟩
            obtain ⟨ll, ell⟩ : ∃ ll, li.length = ll := ⟨_, rfl⟩
            have HJ : Hid (DD[j]? = some (gi, li) ∧ li.length = ll ∧ ll ≤ 63 ∧ M ≤ 182) := ⟨hjr, ell, by rw [← ell]; exact RL.out j gi li hjr, HL.out.2⟩
            clear hjr ell
            have CJ : Hid (∀ k V, UO w V b c NN A H (LR (fil DD j k) (some ⟨ga, 0, none⟩) M cap' (DD.map rowV) X) → V.cell? ⟨ga, j, none⟩ = some (.slice (some ⟨gi, 0, none⟩) ll ll) ∧ CBox V gi 3 (intsD (frow li (mrk j) k))) := fun k V hV => by
              obtain ⟨g1, e1, c1⟩ := hV.at (i := j) (v := .slice (some ⟨gi, 0, none⟩) ll ll) (by rw [List.getElem?_map, HJ.out.1, ← HJ.out.2.1]; rfl)
              injection e1 with e1; injection e1 with e1
              subst e1
              exact ⟨c1, hV.rw (fil_row DD j k HJ.out.1)⟩
            obtain ⟨mj, ej⟩ : ∃ mj : Int, mj = mrk j := ⟨_, rfl⟩
            have HMJ : Hid (mj = mrk j) := ej
            have s5 : (-100000 : Int) - (j : Int) = mj := by rw [ej]; rfl
            have w5 : IntKind.i64.wrap mj = mj := by rw [IntKind.wrap_i64, ← s5]; have := HJ.out.2.2.2; omega
            clear ej
            go_wp2
            go_loopw [9] (fun s wr => ∃ k : Nat, k ≤ ll ∧ s = .int .i64 (k : Int) ∧ UO w wr b c NN A H (LR (fil DD j k) (some ⟨ga, 0, none⟩) M cap' (DD.map rowV) X)) (fun s _ => ll - (intOf s).toNat)
            case atStart => exact ⟨0, by omega, rfl, A0.out⟩
            case round =>
              clear A0
              obtain ⟨k, hk, rfl, hB⟩ := hrel
              have B0 : Hid (UO w wr b c NN A H (LR (fil DD j k) (some ⟨ga, 0, none⟩) M cap' (DD.map rowV) X)) := hB
              clear hB
              obtain ⟨cj, cb⟩ := CJ.out k wr B0.out
              have llX : (ll : Int) ≤ 63 := by have := HJ.out.2.2.1; omega
              by_cases hkl : k < ll
              · have kI : (k : Int) < (ll : Int) := by omega
                obtain ⟨y, cy⟩ : ∃ y, wr.cell? ⟨gi, k, none⟩ = some (.int .i64 y) := by
                  rw [cb.cell]
                  have hlt : k < (frow li (mrk j) k).length := by rw [frow_len, HJ.out.2.1]; exact hkl
                  exact ⟨(frow li (mrk j) k)[k], by simp [intsD, List.getElem?_eq_getElem hlt]⟩
                have fy : wr.frozen? ⟨gi, k, none⟩ = false := cb.frozen k
                have L1 : Hid (UO w (wr.setCell ⟨gi, k, none⟩ (.int .i64 mj)) b c NN A H (LR (fil DD j (k + 1)) (some ⟨ga, 0, none⟩) M cap' (DD.map rowV) X)) := by
                  have h := B0.out.put SX.out (fil_row DD j k HJ.out.1) k (mrk j)
                  rw [fil_set DD j k HJ.out.1 (by rw [HJ.out.2.1]; exact hkl), ← HMJ.out] at h
                  exact h
                clear cb B0
                go_wp2
                go_roundw
                case rel => exact ⟨k + 1, by omega, by go_num, L1.out⟩
                case measure => simp [intOf]; omega
              · obtain rfl : k = ll := by omega
                have kI : ¬ (k : Int) < (k : Int) := by omega
                have L2 : Hid (UO w wr b c NN A H (LR (fil DD (j + 1) 0) (some ⟨ga, 0, none⟩) M cap' (DD.map rowV) X)) := by
                  have h := B0.out
                  rw [← HJ.out.2.1, fil_next DD j HJ.out.1] at h
                  exact h
                clear cb B0
                have MX : (M : Int) ≤ 182 := by have := HJ.out.2.2.2; omega
                go_wp2
                go_roundw
                case rel => exact ⟨j + 1, by omega, by go_num, L2.out⟩
                case measure => simp [intOf]; omega
          · obtain rfl : M = j := by omega
            have jI : ¬ (M : Int) < (M : Int) := by omega
            obtain ⟨FD, eF⟩ : ∃ FD, FD = fil DD M 0 := ⟨_, rfl⟩
            have HF : Hid (FD.length = M ∧ M ≤ 182 ∧ ∀ q, q < M → ∃ g n, FD[q]? = some (g, List.replicate n (mrk q)) ∧ n ≤ 63) := by
              refine ⟨by rw [eF, fil_len]; exact HL.out.1, HL.out.2, fun q hq => ?_⟩
              obtain ⟨⟨g, l⟩, hp⟩ : ∃ p, DD[q]? = some p := ⟨_, List.getElem?_eq_getElem (by rw [HL.out.1]; exact hq)⟩
              exact ⟨g, l.length, by rw [eF]; exact fil_full DD hq hp, RL.out q g l hp⟩
            have B1 : Hid (UO w wr b c NN A H (L3 FD (some ⟨ga, 0, none⟩) M cap' (FD.map rowV) X [] none 0 0 (fun _ _ => True))) := by
              rw [eF, fil_vs]
              exact A0.out.l3
            clear A0 eF RL HL hj hjn
            go_wp2
            go_loopw [10, 11] (fun s10 s wr => ∃ (i : Nat) (E : List (Nat × Nat × Nat)) (ad2 : Option Addr) (cap2 : Nat), (i ≤ M ∧ E.length = i ∧ ∀ e ∈ E, e.2.1 ≤ 200) ∧ s = .int .i64 (i : Int) ∧ s10 = .slice ad2 i cap2 ∧ UO w wr b c NN A H (L3 FD (some ⟨ga, 0, none⟩) M cap' (FD.map rowV) X E ad2 i cap2 (fun _ _ => True))) (fun _ s _ => M - (intOf s).toNat)
            case atStart => exact ⟨0, [], none, 0, ⟨by omega, rfl, fun e he => by cases he⟩, rfl, rfl, B1.out⟩
            case round =>
              clear B1
              obtain ⟨i, E, ad2, cap2, ⟨hi, hE, hEb⟩, rfl, rfl, hA⟩ := hrel
              have A0 : Hid (UO w wr b c NN A H (L3 FD (some ⟨ga, 0, none⟩) M cap' (FD.map rowV) X E ad2 i cap2 (fun _ _ => True))) := hA
              have HE : Hid (E.length = i ∧ ∀ e ∈ E, e.2.1 ≤ 200) := ⟨hE, hEb⟩
              clear hA hE hEb
              by_cases hin : i < M
              · have iI : (i : Int) < (M : Int) := by omega
                obtain ⟨gi, ni, hFi, hni⟩ := HF.out.2.2 i hin
                have HI : Hid (FD[i]? = some (gi, List.replicate ni (mrk i)) ∧ ni ≤ 63 ∧ M ≤ 182 ∧ FD.length = M) := ⟨hFi, hni, HF.out.2.1, HF.out.1⟩
                clear hFi hni
                have ci : wr.cell? ⟨ga, i, none⟩ = some (.slice (some ⟨gi, 0, none⟩) ni ni) := by
                  obtain ⟨ow, r⟩ := A0.out.have
                  obtain ⟨g1, e1, c1⟩ := r.1.1.2.at (i := i) (v := .slice (some ⟨gi, 0, none⟩) ni ni) (by rw [List.getElem?_map, HI.out.1]; simp [rowV])
                  injection e1 with e1; injection e1 with e1
                  subst e1
                  exact c1
                obtain ⟨mi, ei⟩ : ∃ mi : Int, mi = mrk i := ⟨_, rfl⟩
                have HMI : Hid (mi = mrk i) := ei
                have s5 : (-100000 : Int) - (i : Int) = mi := by rw [ei]; rfl
                have w5 : IntKind.i64.wrap mi = mi := by rw [IntKind.wrap_i64, ← s5]; have := HI.out.2.2.1; omega
                have NX : Hid (∀ n (v : List Value), v = intsD (List.replicate n (mrk i)) → v ++ [.int .i64 mi] = intsD (List.replicate (n + 1) (mrk i))) := fun n v e => by rw [e, HMI.out, List.replicate_succ']; simp [intsD]
                clear ei
                go_wp2
                clear ci
                go_loopw [12, 13] (fun s12 s wr => ∃ k : Nat, k ≤ 70 ∧ s = .int .i64 (k : Int) ∧ ((k = 0 ∧ s12 = .slice (some ⟨gi, 0, none⟩) ni ni ∧ UO w wr b c NN A H (L3 FD (some ⟨ga, 0, none⟩) M cap' (FD.map rowV) X E ad2 i cap2 (fun _ _ => True))) ∨ (0 < k ∧ ∃ g3 c3, s12 = .slice (some ⟨g3, 0, none⟩) (ni + k) c3 ∧ UO w wr b c NN A H (L3 FD (some ⟨ga, 0, none⟩) M cap' (FD.map rowV) X E ad2 i cap2 (Grw (1000 + i) (some ⟨g3, 0, none⟩) (ni + k) c3 (intsD (List.replicate (ni + k) (mrk i)))))))) (fun _ s _ => 70 - (intOf s).toNat)
                case atStart => exact ⟨0, by omega, rfl, Or.inl ⟨rfl, rfl, A0.out⟩⟩
                case round =>
                  clear A0
                  obtain ⟨k, hk, rfl, hB⟩ := hrel
                  by_cases hk7 : k < 70
                  · have kI : (k : Int) < 70 := by omega
                    rcases hB with ⟨rfl, rfl, hB⟩ | ⟨hk0, g3, c3, rfl, hB⟩
                    · have B0 : Hid (UO w wr b c NN A H (L3 FD (some ⟨ga, 0, none⟩) M cap' (FD.map rowV) X E ad2 i cap2 (fun _ _ => True))) := hB
                      clear hB
                      go_upto_region 34 with fail
                      refine wp_region_lit ?_
                      refine lst_val (v := .slice (some ⟨gi, 0, none⟩) ni ni) (by kernel_rfl) ?_ ?_
                      · go_simp
                      simp only [Act.put, List.setIfInBounds_toArray, List.set_cons_zero, List.set_cons_succ]
                      refine lst_val (v := .int .i64 (i : Int)) (by kernel_rfl) ?_ ?_
                      · go_simp
                      simp only [Act.put, List.setIfInBounds_toArray, List.set_cons_zero, List.set_cons_succ]
                      refine lst_val (v := .int .i64 mi) (by kernel_rfl) ?_ ?_
                      · (go_simp; try (first | (rw [IntKind.wrap_u64]; omega) | (rw [IntKind.wrap_i64]; omega)))
                      simp only [Act.put, List.setIfInBounds_toArray, List.set_cons_zero, List.set_cons_succ]
                      refine lst_new (v := .slice (some ⟨wr.heap.size, 0, none⟩) 1 1) (w' := wr.alloc (.cells #[.int .i64 mi] 3)) (by kernel_rfl) ?_ ?_
                      · go_simp
                      simp only [Act.put, List.setIfInBounds_toArray, List.set_cons_zero, List.set_cons_succ]
                      have BK : Below wr.heap.size wr (wr.alloc (.cells #[.int .i64 mi] 3)) := (Below.refl _ _).alloc (Nat.le_refl _) _
                      have B1 : Hid (UO w (wr.alloc (.cells #[.int .i64 mi] 3)) b c NN A H (L3 FD (some ⟨ga, 0, none⟩) M cap' (FD.map rowV) X E ad2 i cap2 (fun _ _ => True))) := B0.out.keep3 SX.out BK 0 (fun _ _ => trivial)
                      have CB : Hid (CBox (wr.alloc (.cells #[.int .i64 mi] 3)) wr.heap.size 3 [.int .i64 mi]) := CBox.new wr _ [_]
                      clear BK B0
                      generalize hgx : wr.heap.size = gx at CB ⊢
                      clear hgx
                      generalize wr.alloc (.cells #[.int .i64 mi] 3) = z1 at B1 CB ⊢
                      have OW : z1.ownsRow 0 3 1 (.slice (some ⟨gi, 0, none⟩) ni ni) ni (intsD (List.replicate ni (mrk i))) := by
                        obtain ⟨ow, r⟩ := B1.out.have
                        have hh := box_owns (r.1.1.1 i gi _ HI.out.1).1 (by rw [List.length_replicate]; have := HI.out.2.1; omega)
                        rw [List.length_replicate] at hh
                        exact hh
                      refine wpList_new rfl _ _ rfl gi ni (intsD (List.replicate ni (mrk i))) rfl OW gx 1 mi rfl CB.out (by have := HI.out.2.1; omega) ?_
                      intro c4 z2 h1 h2
                      have L1 : Hid (UO w z2 b c NN A H (L3 FD (some ⟨ga, 0, none⟩) M cap' (FD.map rowV) X E ad2 i cap2 (Grw (1000 + i) (some ⟨z1.heap.size, 0, none⟩) (ni + 1) c4 (intsD (List.replicate (ni + 1) (mrk i)))))) := B1.out.keep3 SX.out h2 (1000 + i) (fun ow _ => ⟨by rw [← NX.out ni _ rfl]; exact h1, fun a e => by injection e with e; subst e; exact grow_ge (Nat.le_refl _)⟩)
                      clear h1 h2 CB B1 OW
                      simp only [Act.put, List.setIfInBounds_toArray, List.set_cons_zero, List.set_cons_succ]
                      refine lst_val (v := .slice (some ⟨z1.heap.size, 0, none⟩) (ni + 1) c4) (by kernel_rfl) ?_ ?_
                      · go_simp
                      simp only [Act.put, List.setIfInBounds_toArray, List.set_cons_zero, List.set_cons_succ]
                      refine wpList_nil ?_
                      generalize hb3 : z1.heap.size = g3 at L1 ⊢
                      clear hb3
                      go_wp2
                      go_roundw
                      case rel => exact ⟨1, by omega, by go_num, Or.inr ⟨by omega, g3, c4, rfl, L1.out⟩⟩
                      case measure => simp [intOf]
                    · have B0 : Hid (UO w wr b c NN A H (L3 FD (some ⟨ga, 0, none⟩) M cap' (FD.map rowV) X E ad2 i cap2 (Grw (1000 + i) (some ⟨g3, 0, none⟩) (ni + k) c3 (intsD (List.replicate (ni + k) (mrk i)))))) := hB
                      clear hB
                      go_upto_region 34 with fail
                      refine wp_region_lit ?_
                      refine lst_val (v := .slice (some ⟨g3, 0, none⟩) (ni + k) c3) (by kernel_rfl) ?_ ?_
                      · go_simp
                      simp only [Act.put, List.setIfInBounds_toArray, List.set_cons_zero, List.set_cons_succ]
                      refine lst_val (v := .int .i64 (i : Int)) (by kernel_rfl) ?_ ?_
                      · go_simp
                      simp only [Act.put, List.setIfInBounds_toArray, List.set_cons_zero, List.set_cons_succ]
                      refine lst_val (v := .int .i64 mi) (by kernel_rfl) ?_ ?_
                      · (go_simp; try (first | (rw [IntKind.wrap_u64]; omega) | (rw [IntKind.wrap_i64]; omega)))
                      simp only [Act.put, List.setIfInBounds_toArray, List.set_cons_zero, List.set_cons_succ]
                      refine lst_new (v := .slice (some ⟨wr.heap.size, 0, none⟩) 1 1) (w' := wr.alloc (.cells #[.int .i64 mi] 3)) (by kernel_rfl) ?_ ?_
                      · go_simp
                      simp only [Act.put, List.setIfInBounds_toArray, List.set_cons_zero, List.set_cons_succ]
                      have BK : Below wr.heap.size wr (wr.alloc (.cells #[.int .i64 mi] 3)) := (Below.refl _ _).alloc (Nat.le_refl _) _
                      have B1 : Hid (UO w (wr.alloc (.cells #[.int .i64 mi] 3)) b c NN A H (L3 FD (some ⟨ga, 0, none⟩) M cap' (FD.map rowV) X E ad2 i cap2 (Grw (1000 + i) (some ⟨g3, 0, none⟩) (ni + k) c3 (intsD (List.replicate (ni + k) (mrk i)))))) := B0.out.keep3 SX.out BK 0 (fun _ y => y.mo (P := fun _ => False) (Mo.below BK) id)
                      have CB : Hid (CBox (wr.alloc (.cells #[.int .i64 mi] 3)) wr.heap.size 3 [.int .i64 mi]) := CBox.new wr _ [_]
                      clear BK B0
                      generalize hgx : wr.heap.size = gx at CB ⊢
                      clear hgx
                      generalize wr.alloc (.cells #[.int .i64 mi] 3) = z1 at B1 CB ⊢
                      have OW : z1.ownsRow 0 3 1 (.slice (some ⟨g3, 0, none⟩) (ni + k) c3) (ni + k) (intsD (List.replicate (ni + k) (mrk i))) := by obtain ⟨ow, r⟩ := B1.out.have; exact r.2.2.1
                      refine wpList_app rfl _ _ 65 3 rfl (.int .i64 0) 1 8 Try.underlying65 info_int rfl (by omega) (by omega) (some ⟨g3, 0, none⟩) (ni + k) c3 _ rfl OW gx 1 [.int .i64 mi] rfl CB.out rfl (by simp [Value.oneCell']) (by have := HI.out.2.1; omega) ?_
                      intro ad4 c4 z2 h1 h2 h3
                      rw [NX.out _ _ rfl] at h1
                      obtain ⟨g4, rfl⟩ : ∃ g4, ad4 = some ⟨g4, 0, none⟩ := by
                        rcases h3 with rfl | ⟨g, rfl, _⟩
                        · exact ⟨g3, rfl⟩
                        · exact ⟨g, rfl⟩
                      have L1 : Hid (UO w z2 b c NN A H (L3 FD (some ⟨ga, 0, none⟩) M cap' (FD.map rowV) X E ad2 i cap2 (Grw (1000 + i) (some ⟨g4, 0, none⟩) (ni + k + 1) c4 (intsD (List.replicate (ni + k + 1) (mrk i)))))) := B1.out.grow3 SX.out (by rw [HE.out.1]) (by have := HI.out; omega) h1 h2 h3
                      clear h1 h2 h3 CB B1 OW
                      simp only [Act.put, List.setIfInBounds_toArray, List.set_cons_zero, List.set_cons_succ]
                      refine lst_val (v := .slice (some ⟨g4, 0, none⟩) (ni + k + 1) c4) (by kernel_rfl) ?_ ?_
                      · go_simp
                      simp only [Act.put, List.setIfInBounds_toArray, List.set_cons_zero, List.set_cons_succ]
                      refine wpList_nil ?_
                      go_wp2
                      go_roundw
                      case rel => exact ⟨k + 1, by omega, by go_num, Or.inr ⟨by omega, g4, c4, rfl, L1.out⟩⟩
                      case measure => simp [intOf]; omega
                  · obtain rfl : k = 70 := by omega
                    have kI : ¬ ((70 : Nat) : Int) < 70 := by omega
                    rcases hB with ⟨h0, _⟩ | ⟨hk0, g3, c3, rfl, hB⟩
                    · omega
                    have B0 : Hid (UO w wr b c NN A H (L3 FD (some ⟨ga, 0, none⟩) M cap' (FD.map rowV) X E ad2 i cap2 (Grw (1000 + i) (some ⟨g3, 0, none⟩) (ni + 70) c3 (intsD (List.replicate (ni + 70) (mrk i)))))) := hB
                    clear hB
                    go_upto_region 35 with fail
                    refine wp_region_lit ?_
                    refine lst_val (v := .slice ad2 i cap2) (by kernel_rfl) ?_ ?_
                    · go_simp
                    simp only [Act.put, List.setIfInBounds_toArray, List.set_cons_zero, List.set_cons_succ]
                    refine lst_val (v := .slice (some ⟨g3, 0, none⟩) (ni + 70) c3) (by kernel_rfl) ?_ ?_
                    · go_simp
                    simp only [Act.put, List.setIfInBounds_toArray, List.set_cons_zero, List.set_cons_succ]
                    refine lst_new (v := .slice (some ⟨wr.heap.size, 0, none⟩) 1 1) (w' := wr.alloc (.cells #[.slice (some ⟨g3, 0, none⟩) (ni + 70) c3] 65)) (by kernel_rfl) ?_ ?_
                    · go_simp
                    simp only [Act.put, List.setIfInBounds_toArray, List.set_cons_zero, List.set_cons_succ]
                    have BK : Below wr.heap.size wr (wr.alloc (.cells #[.slice (some ⟨g3, 0, none⟩) (ni + 70) c3] 65)) := (Below.refl _ _).alloc (Nat.le_refl _) _
                    have B1 : Hid (UO w (wr.alloc (.cells #[.slice (some ⟨g3, 0, none⟩) (ni + 70) c3] 65)) b c NN A H (L3 FD (some ⟨ga, 0, none⟩) M cap' (FD.map rowV) X E ad2 i cap2 (Grw (1000 + i) (some ⟨g3, 0, none⟩) (ni + 70) c3 (intsD (List.replicate (ni + 70) (mrk i)))))) := B0.out.keep3 SX.out BK 0 (fun _ y => y.mo (P := fun _ => False) (Mo.below BK) id)
                    have CB : Hid (CBox (wr.alloc (.cells #[.slice (some ⟨g3, 0, none⟩) (ni + 70) c3] 65)) wr.heap.size 65 [.slice (some ⟨g3, 0, none⟩) (ni + 70) c3]) := CBox.new wr _ [_]
                    clear BK B0
                    generalize hgx : wr.heap.size = gx at CB ⊢
                    clear hgx
                    generalize wr.alloc (.cells #[.slice (some ⟨g3, 0, none⟩) (ni + 70) c3] 65) = z1 at B1 CB ⊢
                    have OW : z1.ownsRow 0 65 1 (.slice ad2 i cap2) i (E.map lngV) := by obtain ⟨ow, r⟩ := B1.out.have; exact r.2.1.2.1
                    refine wpList_apps rfl _ _ rfl ad2 i cap2 (E.map lngV) rfl OW gx 1 1 _ rfl CB.out rfl (by simp [Value.oneCell']) (by have := HI.out; omega) ?_
                    intro ad4 cap4 z2 h1 h2 h3
                    have L2 : Hid (UO w z2 b c NN A H (L3 FD (some ⟨ga, 0, none⟩) M cap' (FD.map rowV) X (E ++ [(g3, ni + 70, c3)]) ad4 (i + 1) cap4 (fun _ _ => True))) := by
                      have hh := B1.out
                      rw [← HE.out.1] at hh h1 ⊢
                      exact hh.lay3 SX.out (by rw [List.map_append]; exact h1) h2 h3
                    clear h1 h2 h3 CB B1 OW
                    simp only [Act.put, List.setIfInBounds_toArray, List.set_cons_zero, List.set_cons_succ]
                    refine lst_val (v := .slice ad4 (i + 1) cap4) (by kernel_rfl) ?_ ?_
                    · go_simp
                    simp only [Act.put, List.setIfInBounds_toArray, List.set_cons_zero, List.set_cons_succ]
                    refine wpList_nil ?_
                    have MX : (M : Int) ≤ 182 := by have := HI.out.2.2.1; omega
                    go_wp2
                    go_roundw
                    case rel => exact ⟨i + 1, E ++ [(g3, ni + 70, c3)], ad4, cap4, ⟨by omega, by simp [HE.out.1], fun e he => by
                      rcases List.mem_append.1 he with he | he
                      · exact HE.out.2 e he
                      · obtain rfl := List.mem_singleton.1 he
                        show ni + 70 ≤ 200
                        have := HI.out.2.1; omega⟩, by go_num, rfl, L2.out⟩
                    case measure => simp [intOf]; omega
              · obtain rfl : M = i := by omega
                have iI : ¬ (M : Int) < (M : Int) := by omega
                go_wp2
                go_loopw [14] (fun s wr => ∃ j : Nat, j ≤ M ∧ s = .int .i64 (j : Int) ∧ UO w wr b c NN A H (L3 FD (some ⟨ga, 0, none⟩) M cap' (FD.map rowV) X E ad2 M cap2 (fun _ _ => True))) (fun s _ => M - (intOf s).toNat)
                case atStart => exact ⟨0, by omega, rfl, A0.out⟩
                case round =>
                  clear A0
                  obtain ⟨j, hj, rfl, hA⟩ := hrel
                  have A0 : Hid (UO w wr b c NN A H (L3 FD (some ⟨ga, 0, none⟩) M cap' (FD.map rowV) X E ad2 M cap2 (fun _ _ => True))) := hA
                  clear hA
                  by_cases hjn : j < M
                  · have jI : (j : Int) < (M : Int) := by omega
                    obtain ⟨gi, ni, hFi, hni⟩ := HF.out.2.2 j hjn
                    obtain ⟨⟨ge, ne, ce⟩, hEj⟩ : ∃ p, E[j]? = some p := ⟨_, List.getElem?_eq_getElem (by rw [HE.out.1]; exact hjn)⟩
                    have hne : ne ≤ 200 := HE.out.2 _ (List.mem_of_getElem? hEj)
                    obtain ⟨gl, rfl, _⟩ : ∃ gl, ad2 = some ⟨gl, 0, none⟩ ∧ True := by
                      obtain ⟨ow, r⟩ := A0.out.have
                      obtain ⟨g1, e1, _⟩ := r.2.1.2.at (i := j) (v := lngV (ge, ne, ce)) (by rw [List.getElem?_map, hEj]; rfl)
                      exact ⟨g1, e1, trivial⟩
                    obtain ⟨mi, ei⟩ : ∃ mi : Int, mi = mrk j := ⟨_, rfl⟩
                    have CC : Hid (∀ V, UO w V b c NN A H (L3 FD (some ⟨ga, 0, none⟩) M cap' (FD.map rowV) X E (some ⟨gl, 0, none⟩) M cap2 (fun _ _ => True)) → (V.cell? ⟨gl, j, none⟩ = some (.slice (some ⟨ge, 0, none⟩) ne ce) ∧ V.cell? ⟨ga, j, none⟩ = some (.slice (some ⟨gi, 0, none⟩) ni ni)) ∧ (∀ k, k < ne → V.cell? ⟨ge, k, none⟩ = some (.int .i64 mi)) ∧ ∀ k, k < ni → V.cell? ⟨gi, k, none⟩ = some (.int .i64 mi)) := fun V hV => by
                      obtain ⟨ow, r⟩ := hV.have
                      obtain ⟨g1, e1, d1⟩ := r.2.1.2.at (i := j) (v := .slice (some ⟨ge, 0, none⟩) ne ce) (by rw [List.getElem?_map, hEj]; rfl)
                      injection e1 with e1; injection e1 with e1
                      subst e1
                      obtain ⟨g2, e2, d2⟩ := r.1.1.2.at (i := j) (v := .slice (some ⟨gi, 0, none⟩) ni ni) (by rw [List.getElem?_map, hFi]; simp [rowV])
                      injection e2 with e2; injection e2 with e2
                      subst e2
                      refine ⟨⟨d1, d2⟩, fun k hk => ?_, fun k hk => ?_⟩
                      · obtain ⟨g3, e3, d3⟩ := (r.2.1.1 j ge ne ce hEj).at (i := k) (v := .int .i64 mi) (by rw [ei]; simp [intsD, hk])
                        injection e3 with e3; injection e3 with e3
                        subst e3
                        exact d3
                      · rw [(r.1.1.1 j gi _ hFi).1.cell, ei]
                        simp [intsD, hk]
                    have s5 : (-100000 : Int) - (j : Int) = mi := by rw [ei]; rfl
                    have HB : Hid (M ≤ 182 ∧ ne ≤ 200 ∧ ni ≤ 63) := ⟨HF.out.2.1, hne, hni⟩
                    have w5 : IntKind.i64.wrap mi = mi := by rw [IntKind.wrap_i64, ← s5]; have := HB.out.1; omega
                    clear ei hEj hFi hne hni
                    go_wp2
                    go_loopw [15] (fun s wr => ∃ k : Nat, k ≤ ne ∧ s = .int .i64 (k : Int) ∧ UO w wr b c NN A H (L3 FD (some ⟨ga, 0, none⟩) M cap' (FD.map rowV) X E (some ⟨gl, 0, none⟩) M cap2 (fun _ _ => True))) (fun s _ => ne - (intOf s).toNat)
                    case atStart => exact ⟨0, by omega, rfl, A0.out⟩
                    case round =>
                      clear A0
                      obtain ⟨k, hk, rfl, hB⟩ := hrel
                      have B0 : Hid (UO w wr b c NN A H (L3 FD (some ⟨ga, 0, none⟩) M cap' (FD.map rowV) X E (some ⟨gl, 0, none⟩) M cap2 (fun _ _ => True))) := hB
                      clear hB
                      obtain ⟨⟨cl, cg⟩, ck, cr⟩ := CC.out wr B0.out
                      have neX : (ne : Int) ≤ 200 := by have := HB.out.2.1; omega
                      by_cases hkn : k < ne
                      · have kI : (k : Int) < (ne : Int) := by omega
                        have ck' := ck k hkn
                        clear ck
                        go_upto_region 42 with fail
                        by_cases hkr : k < ni
                        · have kR : (k : Int) < (ni : Int) := by omega
                          have cr' := cr k hkr
                          clear cr
                          refine wp_region_lit ?_
                          refine lst_val (v := .slice (some ⟨gl, 0, none⟩) M cap2) (by kernel_rfl) ?_ ?_
                          · go_simp
                          simp only [Act.put, List.setIfInBounds_toArray, List.set_cons_zero, List.set_cons_succ]
                          refine lst_val (v := .int .i64 (j : Int)) (by kernel_rfl) ?_ ?_
                          · go_simp
                          simp only [Act.put, List.setIfInBounds_toArray, List.set_cons_zero, List.set_cons_succ]
                          refine lst_val (v := .pointer (some ⟨gl, j, none⟩)) (by kernel_rfl) ?_ ?_
                          · go_simp
                          simp only [Act.put, List.setIfInBounds_toArray, List.set_cons_zero, List.set_cons_succ]
                          refine lst_val (v := .slice (some ⟨ge, 0, none⟩) ne ce) (by kernel_rfl) ?_ ?_
                          · go_simp
                          simp only [Act.put, List.setIfInBounds_toArray, List.set_cons_zero, List.set_cons_succ]
                          refine lst_val (v := .int .i64 (k : Int)) (by kernel_rfl) ?_ ?_
                          · go_simp
                          simp only [Act.put, List.setIfInBounds_toArray, List.set_cons_zero, List.set_cons_succ]
                          refine lst_val (v := .pointer (some ⟨ge, k, none⟩)) (by kernel_rfl) ?_ ?_
                          · go_simp
                          simp only [Act.put, List.setIfInBounds_toArray, List.set_cons_zero, List.set_cons_succ]
                          refine lst_val (v := .int .i64 mi) (by kernel_rfl) ?_ ?_
                          · go_simp
                          simp only [Act.put, List.setIfInBounds_toArray, List.set_cons_zero, List.set_cons_succ]
                          refine lst_val (v := .int .i64 (j : Int)) (by kernel_rfl) ?_ ?_
                          · go_simp
                          simp only [Act.put, List.setIfInBounds_toArray, List.set_cons_zero, List.set_cons_succ]
                          refine lst_val (v := .int .i64 mi) (by kernel_rfl) ?_ ?_
                          · (go_simp; try (first | (rw [IntKind.wrap_u64]; omega) | (rw [IntKind.wrap_i64]; omega)))
                          simp only [Act.put, List.setIfInBounds_toArray, List.set_cons_zero, List.set_cons_succ]
                          refine lst_val (v := .bool false) (by kernel_rfl) ?_ ?_
                          · go_simp
                          simp only [Act.put, List.setIfInBounds_toArray, List.set_cons_zero, List.set_cons_succ]
                          refine lst_val (v := .bool false) (by kernel_rfl) ?_ ?_
                          · go_simp
                          simp only [Act.put, List.setIfInBounds_toArray, List.set_cons_zero, List.set_cons_succ]
                          refine lst_val (v := .int .i64 (k : Int)) (by kernel_rfl) ?_ ?_
                          · go_simp
                          simp only [Act.put, List.setIfInBounds_toArray, List.set_cons_zero, List.set_cons_succ]
                          refine lst_val (v := .slice (some ⟨ga, 0, none⟩) M cap') (by kernel_rfl) ?_ ?_
                          · go_simp
                          simp only [Act.put, List.setIfInBounds_toArray, List.set_cons_zero, List.set_cons_succ]
                          refine lst_val (v := .int .i64 (j : Int)) (by kernel_rfl) ?_ ?_
                          · go_simp
                          simp only [Act.put, List.setIfInBounds_toArray, List.set_cons_zero, List.set_cons_succ]
                          refine lst_val (v := .pointer (some ⟨ga, j, none⟩)) (by kernel_rfl) ?_ ?_
                          · go_simp
                          simp only [Act.put, List.setIfInBounds_toArray, List.set_cons_zero, List.set_cons_succ]
                          refine lst_val (v := .slice (some ⟨gi, 0, none⟩) ni ni) (by kernel_rfl) ?_ ?_
                          · go_simp
                          simp only [Act.put, List.setIfInBounds_toArray, List.set_cons_zero, List.set_cons_succ]
                          refine lst_val (v := .int .i64 (ni : Int)) (by kernel_rfl) ?_ ?_
                          · go_simp
                          simp only [Act.put, List.setIfInBounds_toArray, List.set_cons_zero, List.set_cons_succ]
                          refine lst_val (v := .bool true) (by kernel_rfl) ?_ ?_
                          · go_simp
                          simp only [Act.put, List.setIfInBounds_toArray, List.set_cons_zero, List.set_cons_succ]
                          go_wp2
                          go_roundw
                          case rel => exact ⟨k + 1, by omega, by go_num, B0.out⟩
                          case measure => simp [intOf]; omega
                        · have kR : ¬ (k : Int) < (ni : Int) := by omega
                          clear cr
                          refine wp_region_lit ?_
                          refine lst_val (v := .slice (some ⟨gl, 0, none⟩) M cap2) (by kernel_rfl) ?_ ?_
                          · go_simp
                          simp only [Act.put, List.setIfInBounds_toArray, List.set_cons_zero, List.set_cons_succ]
                          refine lst_val (v := .int .i64 (j : Int)) (by kernel_rfl) ?_ ?_
                          · go_simp
                          simp only [Act.put, List.setIfInBounds_toArray, List.set_cons_zero, List.set_cons_succ]
                          refine lst_val (v := .pointer (some ⟨gl, j, none⟩)) (by kernel_rfl) ?_ ?_
                          · go_simp
                          simp only [Act.put, List.setIfInBounds_toArray, List.set_cons_zero, List.set_cons_succ]
                          refine lst_val (v := .slice (some ⟨ge, 0, none⟩) ne ce) (by kernel_rfl) ?_ ?_
                          · go_simp
                          simp only [Act.put, List.setIfInBounds_toArray, List.set_cons_zero, List.set_cons_succ]
                          refine lst_val (v := .int .i64 (k : Int)) (by kernel_rfl) ?_ ?_
                          · go_simp
                          simp only [Act.put, List.setIfInBounds_toArray, List.set_cons_zero, List.set_cons_succ]
                          refine lst_val (v := .pointer (some ⟨ge, k, none⟩)) (by kernel_rfl) ?_ ?_
                          · go_simp
                          simp only [Act.put, List.setIfInBounds_toArray, List.set_cons_zero, List.set_cons_succ]
                          refine lst_val (v := .int .i64 mi) (by kernel_rfl) ?_ ?_
                          · go_simp
                          simp only [Act.put, List.setIfInBounds_toArray, List.set_cons_zero, List.set_cons_succ]
                          refine lst_val (v := .int .i64 (j : Int)) (by kernel_rfl) ?_ ?_
                          · go_simp
                          simp only [Act.put, List.setIfInBounds_toArray, List.set_cons_zero, List.set_cons_succ]
                          refine lst_val (v := .int .i64 mi) (by kernel_rfl) ?_ ?_
                          · (go_simp; try (first | (rw [IntKind.wrap_u64]; omega) | (rw [IntKind.wrap_i64]; omega)))
                          simp only [Act.put, List.setIfInBounds_toArray, List.set_cons_zero, List.set_cons_succ]
                          refine lst_val (v := .bool false) (by kernel_rfl) ?_ ?_
                          · go_simp
                          simp only [Act.put, List.setIfInBounds_toArray, List.set_cons_zero, List.set_cons_succ]
                          refine lst_val (v := .bool false) (by kernel_rfl) ?_ ?_
                          · go_simp
                          simp only [Act.put, List.setIfInBounds_toArray, List.set_cons_zero, List.set_cons_succ]
                          refine lst_val (v := .int .i64 (k : Int)) (by kernel_rfl) ?_ ?_
                          · go_simp
                          simp only [Act.put, List.setIfInBounds_toArray, List.set_cons_zero, List.set_cons_succ]
                          refine lst_val (v := .slice (some ⟨ga, 0, none⟩) M cap') (by kernel_rfl) ?_ ?_
                          · go_simp
                          simp only [Act.put, List.setIfInBounds_toArray, List.set_cons_zero, List.set_cons_succ]
                          refine lst_val (v := .int .i64 (j : Int)) (by kernel_rfl) ?_ ?_
                          · go_simp
                          simp only [Act.put, List.setIfInBounds_toArray, List.set_cons_zero, List.set_cons_succ]
                          refine lst_val (v := .pointer (some ⟨ga, j, none⟩)) (by kernel_rfl) ?_ ?_
                          · go_simp
                          simp only [Act.put, List.setIfInBounds_toArray, List.set_cons_zero, List.set_cons_succ]
                          refine lst_val (v := .slice (some ⟨gi, 0, none⟩) ni ni) (by kernel_rfl) ?_ ?_
                          · go_simp
                          simp only [Act.put, List.setIfInBounds_toArray, List.set_cons_zero, List.set_cons_succ]
                          refine lst_val (v := .int .i64 (ni : Int)) (by kernel_rfl) ?_ ?_
                          · go_simp
                          simp only [Act.put, List.setIfInBounds_toArray, List.set_cons_zero, List.set_cons_succ]
                          refine lst_val (v := .bool false) (by kernel_rfl) ?_ ?_
                          · go_simp
                          simp only [Act.put, List.setIfInBounds_toArray, List.set_cons_zero, List.set_cons_succ]
                          go_wp2
                          go_roundw
                          case rel => exact ⟨k + 1, by omega, by go_num, B0.out⟩
                          case measure => simp [intOf]; omega
                      · obtain rfl : ne = k := by omega
                        have kI : ¬ (ne : Int) < (ne : Int) := by omega
                        clear ck cr
                        have MX : (M : Int) ≤ 182 := by have := HB.out.1; omega
                        go_wp2
                        go_roundw
                        case rel => exact ⟨j + 1, by omega, by go_num, B0.out⟩
                        case measure => simp [intOf]; omega
                  · obtain rfl : M = j := by omega
                    have jI : ¬ (M : Int) < (M : Int) := by omega
                    have TT1 : Hid (∀ V, UO w V b c NN A H (L3 FD (some ⟨ga, 0, none⟩) M cap' (FD.map rowV) X E ad2 M cap2 (fun _ _ => True)) → (V.cell? ⟨xb, 0, none⟩ = some (.slice ka mm kc) ∧ V.cell? ⟨xb, 1, none⟩ = some (.slice va mm vc)) ∧ Calls Try.prog 46 #[.pointer (some ⟨b, 0, none⟩), .agg #[.slice ka mm kc, .slice va mm vc]] V fun e w' => e = .returned (.bool true) ∧ Below V.heap.size V w') := fun V hV => by
                      obtain ⟨ow, k1, k2, k3, k4⟩ := hV.ex
                      have hx := k3.1.2
                      refine ⟨⟨(XF.out ow V hx).2.1, (XF.out ow V hx).2.2⟩, ?_⟩
                      rw [EX.out] at hx
                      exact tells_is V ow 1 b NN A H k1 (by have := HN.out; omega) _ _ hx.1.1 hx.1.2
                    go_upto_region 44 with fail
                    obtain ⟨⟨x0, x1'⟩, tl⟩ := TT1.out wr A0.out
                    refine wp_region_lit ?_
                    refine lst_val (v := .pointer (some ⟨b, 0, none⟩)) (by kernel_rfl) ?_ ?_
                    · go_simp
                    simp only [Act.put, List.setIfInBounds_toArray, List.set_cons_zero, List.set_cons_succ]
                    refine lst_val (v := .agg #[.slice ka mm kc, .slice va mm vc]) (by kernel_rfl) ?_ ?_
                    · go_simp
                    simp only [Act.put, List.setIfInBounds_toArray, List.set_cons_zero, List.set_cons_succ]
                    refine lst_call (by kernel_rfl) (by first | (go_simp; done) | (go_simp; first | exact rfl | exact ⟨rfl, rfl⟩ | exact ⟨rfl, rfl, rfl⟩)) (tl) ?_
                    rintro e z1 ⟨rfl, BK⟩
                    refine ⟨_, rfl, ?_⟩
                    have A1 : Hid (UO w z1 b c NN A H (fun _ _ => True)) := ((A0.out.keep3 (Y' := fun _ _ => True) SX.out BK 0 (fun _ _ => trivial)).imp fun _ _ _ => trivial)
                    clear x0 x1' tl TT1 A0 BK
                    simp only [Act.put, List.setIfInBounds_toArray, List.set_cons_zero, List.set_cons_succ]
                    refine lst_val (v := .bool true) (by kernel_rfl) ?_ ?_
                    · go_simp
                    simp only [Act.put, List.setIfInBounds_toArray, List.set_cons_zero, List.set_cons_succ]
                    refine lst_val (v := .pointer (some ⟨c, 0, none⟩)) (by kernel_rfl) ?_ ?_
                    · go_simp
                    simp only [Act.put, List.setIfInBounds_toArray, List.set_cons_zero, List.set_cons_succ]
                    refine lst_new (v := .slice (some ⟨z1.heap.size, 0, none⟩) 1 1) (w' := z1.alloc (.cells #[.int .i64 4] 3)) (by kernel_rfl) ?_ ?_
                    · go_simp
                    simp only [Act.put, List.setIfInBounds_toArray, List.set_cons_zero, List.set_cons_succ]
                    refine lst_new (v := .slice (some ⟨z1.heap.size + 1, 0, none⟩) 1 1) (w' := (z1.alloc (.cells #[.int .i64 4] 3)).alloc (.cells #[.int .i64 4] 3)) (by kernel_rfl) ?_ ?_
                    · go_simp
                    simp only [Act.put, List.setIfInBounds_toArray, List.set_cons_zero, List.set_cons_succ]
                    refine lst_val (v := .agg #[.slice (some ⟨z1.heap.size, 0, none⟩) 1 1, .slice (some ⟨z1.heap.size + 1, 0, none⟩) 1 1]) (by kernel_rfl) ?_ ?_
                    · go_simp
                    simp only [Act.put, List.setIfInBounds_toArray, List.set_cons_zero, List.set_cons_succ]
                    go_wp2_with (first | (go_at_call 46; refine (A1.out.tells4 (by have := HN.out; omega)).mono ?_; rintro e z2 ⟨rfl, BK2⟩) | (go_at_call 13; refine (awake_is z2).mono ?_; rintro e z3 ⟨rfl, BK3⟩))
                    go_ret
                    exact ⟨rfl, BK2.trans (BK3.mono BK2.size)⟩
    · have iI : ¬ (i : Int) < (n1 : Int) := by omega
      go_upto_region 15 with fail
      generalize hNN : 2 + i = NN at A0
      have HN : Hid (NN ≤ 62 ∧ m ≤ 180 ∧ D.length = m) := by have := HM.out; exact ⟨by omega, by omega, by omega⟩
      clear hNN HM
      obtain ⟨mm, em⟩ : ∃ mm, A.length = mm := ⟨_, rfl⟩
      have EM : Hid (A.length = mm ∧ (A.map Prod.fst).length = mm ∧ mm ≤ 62) := by
        obtain ⟨ow, k1, _⟩ := A0.out.ex
        exact ⟨em, by rw [List.length_map]; exact em, by have := k1.lA; have := HN.out; omega⟩
      have SEE := A0.out.seenO stbT (by have := HN.out; omega)
      rw [em] at SEE
      clear em
      go_upto_region 16 with (go_at_call 40; refine SEE.mono ?_; rintro e v1 ⟨ka, kc, va, vc, rfl, h1⟩)
      change Code.wp _ _ _ _ (v1.alloc (.cells #[.slice ka mm kc, .slice va mm vc] 67))
      clear SEE A0
      obtain ⟨X, eX⟩ : ∃ X, X = RV v1.heap.size (.slice ka mm kc) (.slice va mm vc) A := ⟨_, rfl⟩
      have V2 : Hid (UO w (v1.alloc (.cells #[.slice ka mm kc, .slice va mm vc] 67)) b c NN A H (LR D ad m cap (D.map rowV) X)) := by rw [eX]; exact h1
      clear h1
      generalize v1.alloc (.cells #[.slice ka mm kc, .slice va mm vc] 67) = v2 at V2 ⊢
      generalize v1.heap.size = xb at eX ⊢
      have EX : Hid (X = RV xb (.slice ka mm kc) (.slice va mm vc) A) := eX
      have SX : Hid (Stb X) := by rw [eX]; exact RV.stb _ _ _ _
      have XF : Hid (∀ ow V, X ow V → IsI V (fun _ => 0) (.slice ka mm kc) (A.map Prod.fst) ∧ V.cell? ⟨xb, 0, none⟩ = some (.slice ka mm kc) ∧ V.cell? ⟨xb, 1, none⟩ = some (.slice va mm vc)) := by rw [eX]; exact fun ow V h => ⟨h.1.1.any, h.2.1.cell 0, h.2.1.cell 1⟩
      clear eX
      refine wp_region_lit ?_
      refine lst_val (v := .slice ad m cap) (by kernel_rfl) ?_ ?_
      · go_simp
      simp only [Act.put, List.setIfInBounds_toArray, List.set_cons_zero, List.set_cons_succ]
      refine lst_val (v := .pointer (some ⟨b, 0, none⟩)) (by kernel_rfl) ?_ ?_
      · go_simp
      simp only [Act.put, List.setIfInBounds_toArray, List.set_cons_zero, List.set_cons_succ]
      refine lst_call (by kernel_rfl) (by first | (go_simp; done) | (go_simp; first | exact rfl | exact ⟨rfl, rfl⟩ | exact ⟨rfl, rfl, rfl⟩)) ((by have k := V2.out.keysT (by have := HN.out; omega); rw [EM.out.1] at k; exact k : Calls Try.prog 49 #[.pointer (some ⟨b, 0, none⟩), .func (.func 54) #[] #[]] v2 _)) ?_
      rintro e v3 ⟨rfl, q1, q2⟩
      refine ⟨_, rfl, ?_⟩
      have L5 : Hid (UO w v3 b c NN A H (LR (D ++ [(v2.heap.size, A.map Prod.fst)]) ad m cap (D.map rowV) X)) := V2.out.row SX.out q2 q1
      clear q1 q2
      simp only [Act.put, List.setIfInBounds_toArray, List.set_cons_zero, List.set_cons_succ]
      refine lst_val (v := .pointer (some ⟨c, 0, none⟩)) (by kernel_rfl) ?_ ?_
      · go_simp
      simp only [Act.put, List.setIfInBounds_toArray, List.set_cons_zero, List.set_cons_succ]
      refine lst_call (by kernel_rfl) (by first | (go_simp; done) | (go_simp; first | exact rfl | exact ⟨rfl, rfl⟩ | exact ⟨rfl, rfl, rfl⟩)) (L5.out.keysU (by have := HN.out; omega)) ?_
      rintro e v4 ⟨rfl, q1, q2⟩
      refine ⟨_, rfl, ?_⟩
      have L7 : Hid (UO w v4 b c NN A H (LR (D ++ [(v2.heap.size, A.map Prod.fst)] ++ [(v3.heap.size, [4])]) ad m cap (D.map rowV) X)) := L5.out.row SX.out q2 (l := [4]) q1
      clear q1 q2
      simp only [Act.put, List.setIfInBounds_toArray, List.set_cons_zero, List.set_cons_succ]
      refine lst_new (v := .slice (some ⟨v4.heap.size, 0, none⟩) 2 2) (w' := v4.alloc (.cells #[.slice (some ⟨v2.heap.size, 0, none⟩) mm mm, .slice (some ⟨v3.heap.size, 0, none⟩) 1 1] 65)) (by kernel_rfl) ?_ ?_
      · go_simp
      simp only [Act.put, List.setIfInBounds_toArray, List.set_cons_zero, List.set_cons_succ]
      have BK : Below v4.heap.size v4 (v4.alloc (.cells #[.slice (some ⟨v2.heap.size, 0, none⟩) mm mm, .slice (some ⟨v3.heap.size, 0, none⟩) 1 1] 65)) := (Below.refl _ _).alloc (Nat.le_refl _) _
      have L8 : Hid (UO w (v4.alloc (.cells #[.slice (some ⟨v2.heap.size, 0, none⟩) mm mm, .slice (some ⟨v3.heap.size, 0, none⟩) 1 1] 65)) b c NN A H (LR (D ++ [(v2.heap.size, A.map Prod.fst)] ++ [(v3.heap.size, [4])]) ad m cap (D.map rowV) X)) := L7.out.keep SX.out BK
      have CB : Hid (CBox (v4.alloc (.cells #[.slice (some ⟨v2.heap.size, 0, none⟩) mm mm, .slice (some ⟨v3.heap.size, 0, none⟩) 1 1] 65)) v4.heap.size 65 [.slice (some ⟨v2.heap.size, 0, none⟩) mm mm, .slice (some ⟨v3.heap.size, 0, none⟩) 1 1]) := CBox.new v4 _ [_, _]
      clear BK
      generalize hg4 : v4.heap.size = g4 at CB ⊢
      generalize v4.alloc (.cells #[.slice (some ⟨v2.heap.size, 0, none⟩) mm mm, .slice (some ⟨v3.heap.size, 0, none⟩) 1 1] 65) = v4' at L8 CB ⊢
      clear hg4
      refine wpList_apps rfl _ _ rfl ad m cap (D.map rowV) rfl L8.out.own g4 2 2 _ rfl CB.out rfl (by simp [Value.oneCell']) (by have := HN.out; omega) ?_
      intro ad' cap' v5 h1 h2 h3
      have L9 : Hid (UO w v5 b c NN A H (LR (D ++ [(v2.heap.size, A.map Prod.fst)] ++ [(v3.heap.size, [4])]) ad' (m + 2) cap' (D.map rowV ++ [.slice (some ⟨v2.heap.size, 0, none⟩) mm mm, .slice (some ⟨v3.heap.size, 0, none⟩) 1 1]) X)) := L8.out.app SX.out h1 h2 h3
      clear h1 h2 h3 CB L8 L7 L5 V2
      simp only [Act.put, List.setIfInBounds_toArray, List.set_cons_zero, List.set_cons_succ]
      refine lst_val (v := .slice ad' (m + 2) cap') (by kernel_rfl) ?_ ?_
      · go_simp
      simp only [Act.put, List.setIfInBounds_toArray, List.set_cons_zero, List.set_cons_succ]
      refine wpList_nil ?_
      generalize v2.heap.size = k1 at L9 ⊢
      generalize v3.heap.size = k2 at L9 ⊢
      generalize hkl : A.map Prod.fst = kl at L9 EM XF
      have EK : Hid (A.map Prod.fst = kl) := hkl
      clear hkl
      obtain ⟨DD, eDD⟩ : ∃ DD, DD = D ++ [(k1, kl)] ++ [(k2, [4])] := ⟨_, rfl⟩
      have HD : Hid (DD.length = m + 2 ∧ DD[m]? = some (k1, kl)) := by
        have e := HN.out.2.2
        rw [eDD]
        refine ⟨by simp [e], ?_⟩
        rw [← e]; simp
      have L10 : Hid (UO w v5 b c NN A H (LR DD ad' (m + 2) cap' (DD.map rowV) X)) := by
        have e : DD.map rowV = D.map rowV ++ [.slice (some ⟨k1, 0, none⟩) mm mm, .slice (some ⟨k2, 0, none⟩) 1 1] := by
          rw [eDD]
          simp [rowV, EM.out.2.1]
        rw [e, eDD]
        exact L9.out
      have HR3 : Hid (∀ p ∈ DD, p.2.length ≤ 63) := by
        rw [eDD]
        intro p hp
        simp only [List.mem_append, List.mem_singleton] at hp
        rcases hp with (hp | rfl) | rfl
        · exact HRL.out p hp
        · show kl.length ≤ 63; rw [EM.out.2.1]; have := EM.out.2.2; omega
        · show [4].length ≤ 63; simp
      clear L9 eDD
      obtain ⟨ga, rfl, _⟩ := L10.out.at (i := m) (v := rowV (k1, kl)) (by rw [List.getElem?_map, HD.out.2]; rfl)
      obtain ⟨M, eM⟩ : ∃ M, M = m + 2 := ⟨_, rfl⟩
      rw [← eM] at L10 HD ⊢
      have HM2 : Hid (M = m + 2) := eM
      have CX : Hid (∀ V, UO w V b c NN A H (LR DD (some ⟨ga, 0, none⟩) M cap' (DD.map rowV) X) → V.cell? ⟨ga, m, none⟩ = some (.slice (some ⟨k1, 0, none⟩) mm mm) ∧ V.cell? ⟨xb, 0, none⟩ = some (.slice ka mm kc)) := fun V hV => by
        obtain ⟨g1, e1, c1⟩ := hV.at (i := m) (v := .slice (some ⟨k1, 0, none⟩) mm mm) (by rw [List.getElem?_map, HD.out.2, ← EM.out.2.1]; rfl)
        injection e1 with e1; injection e1 with e1
        subst e1
        obtain ⟨ow, r⟩ := hV.have
        exact ⟨c1, (XF.out ow V r.2).2.1⟩
      have SR : Hid (∀ V, UO w V b c NN A H (LR DD (some ⟨ga, 0, none⟩) M cap' (DD.map rowV) X) → Calls Try.prog 55 #[.slice (some ⟨k1, 0, none⟩) mm mm, .slice ka mm kc] V fun e w' => e = .returned (.bool true) ∧ Below V.heap.size V w') := fun V hV => by
        obtain ⟨ow, r⟩ := hV.have
        have el : rowV (k1, kl) = .slice (some ⟨k1, 0, none⟩) mm mm := by rw [← EM.out.2.1]; rfl
        have ll : kl.length < 549755813888 := by rw [EM.out.2.1]; have := EM.out.2.2; omega
        have k := sameInts_is V (fun _ => 0) (rowV (k1, kl)) (.slice ka mm kc) kl (IsI.box (hV.rw HD.out.2) rfl) (XF.out ow V r.2).1 ll
        rw [el] at k
        exact k
      go_upto_region 17 with fail
      have hmm := HN.out
      have s2 : (M : Int) - 2 = (m : Int) := by omega
      have ww3 : IntKind.i64.wrap (m : Int) = (m : Int) := by rw [IntKind.wrap_i64]; omega
      have lt3 : (m : Int) < (M : Int) := by omega
      clear eM hmm
      refine wp_region_held_drew (S := fun V => UO w V b c NN A H (LR DD (some ⟨ga, 0, none⟩) M cap' (DD.map rowV) X)) (by kernel_rfl) (L10.out.keep SX.out (Below.refl _ _).drew) (fun hHeld => ?_)
      generalize v5.drew = z0 at hHeld ⊢
      refine wpAnyH_take (i := 0) (v := .slice (some ⟨ga, 0, none⟩) M cap') ov0 (by kernel_rfl) (by kernel_rfl) (by kernel_rfl) (fun _ _ _ h => h) (Or.inl ⟨by rfl, fun V' hS => ?_⟩) hHeld ?_
      · go_simp
      simp only [Act.put, List.setIfInBounds_toArray, List.set_cons_zero, List.set_cons_succ]
      refine wpAnyH_take (i := 1) (v := .slice (some ⟨ga, 0, none⟩) M cap') ov1 (by kernel_rfl) (by kernel_rfl) (by kernel_rfl) (fun _ _ _ h => h) (Or.inl ⟨by rfl, fun V' hS => ?_⟩) hHeld ?_
      · go_simp
      simp only [Act.put, List.setIfInBounds_toArray, List.set_cons_zero, List.set_cons_succ]
      refine wpAnyH_take (i := 2) (v := .int .i64 (M : Int)) ov2 (by kernel_rfl) (by kernel_rfl) (by kernel_rfl) (fun _ _ _ h => h) (Or.inl ⟨by rfl, fun V' hS => ?_⟩) hHeld ?_
      · go_simp
      simp only [Act.put, List.setIfInBounds_toArray, List.set_cons_zero, List.set_cons_succ]
      refine wpAnyH_take (i := 3) (v := .int .i64 (m : Int)) ov3 (by kernel_rfl) (by kernel_rfl) (by kernel_rfl) (fun _ _ _ h => h) (Or.inl ⟨by rfl, fun V' hS => ?_⟩) hHeld ?_
      · go_simp
      simp only [Act.put, List.setIfInBounds_toArray, List.set_cons_zero, List.set_cons_succ]
      refine wpAnyH_take (i := 4) (v := .pointer (some ⟨ga, m, none⟩)) ov4 (by kernel_rfl) (by kernel_rfl) (by kernel_rfl) (fun _ _ _ h => h) (Or.inl ⟨by rfl, fun V' hS => ?_⟩) hHeld ?_
      · go_simp
      simp only [Act.put, List.setIfInBounds_toArray, List.set_cons_zero, List.set_cons_succ]
      refine wpAnyH_take (i := 5) (v := .slice (some ⟨k1, 0, none⟩) mm mm) ov5 (by kernel_rfl) (by kernel_rfl) (by kernel_rfl) (fun _ _ _ h => h) (Or.inl ⟨by rfl, fun V' hS => ?_⟩) hHeld ?_
      · obtain ⟨c0, c1⟩ := CX.out V' hS
        go_simp
      simp only [Act.put, List.setIfInBounds_toArray, List.set_cons_zero, List.set_cons_succ]
      refine wpAnyH_take (i := 6) (v := .pointer (some ⟨xb, 0, none⟩)) ov6 (by kernel_rfl) (by kernel_rfl) (by kernel_rfl) (fun _ _ _ h => h) (Or.inl ⟨by rfl, fun V' hS => ?_⟩) hHeld ?_
      · go_simp
      simp only [Act.put, List.setIfInBounds_toArray, List.set_cons_zero, List.set_cons_succ]
      refine wpAnyH_take (i := 7) (v := .slice ka mm kc) ov7 (by kernel_rfl) (by kernel_rfl) (by kernel_rfl) (fun _ _ _ h => h) (Or.inl ⟨by rfl, fun V' hS => ?_⟩) hHeld ?_
      · obtain ⟨c0, c1⟩ := CX.out V' hS
        go_simp
      simp only [Act.put, List.setIfInBounds_toArray, List.set_cons_zero, List.set_cons_succ]
      refine wpAnyH_ready (rs := [8]) (by kernel_rfl) (by simp) ?_
      refine AllReadyH.cons ov8 (fun K hK => ?_) AllReadyH.nil
      rw [if_pos (by rfl)]
      go_simp
      refine (SR.out z0 hHeld).mono ?_
      rintro e w9 ⟨rfl, BK⟩
      have hHeld := hHeld.keep SX.out BK
      generalize w9 = z0 at hHeld ⊢
      (try go_wp2_with fail)
      refine hK.out _ _ hHeld (fun _ => ?_)
      clear hK K
      (try simp only [Act.put, List.setIfInBounds_toArray, List.set_cons_zero, List.set_cons_succ])
      refine wpAnyH_take (i := 9) (v := .bool false) ov9 (by kernel_rfl) (by kernel_rfl) (by kernel_rfl) (fun _ _ _ h => h) (Or.inl ⟨by rfl, fun V' hS => ?_⟩) hHeld ?_
      · go_simp
      simp only [Act.put, List.setIfInBounds_toArray, List.set_cons_zero, List.set_cons_succ]
      refine wpAnyH_done (by kernel_rfl) ?_ _
      have LF : Hid (UO w z0 b c NN A H (LR DD (some ⟨ga, 0, none⟩) M cap' (DD.map rowV) X)) := hHeld
      clear CX SR L10 s2 ww3 lt3
      have HL : Hid (DD.length = M ∧ M ≤ 182) := ⟨HD.out.1, by have := HN.out; have := HM2.out; omega⟩
      have RL : Hid (∀ (j g : Nat) (l : List Int), DD[j]? = some (g, l) → l.length ≤ 63) := fun j g l h => HR3.out (g, l) (List.mem_of_getElem? h)
      clear HM2 HD
      go_wp2
      go_loopw [8] (fun s wr => ∃ i : Nat, i ≤ M ∧ s = .int .i64 (i : Int) ∧ UO w wr b c NN A H (LR (fil DD i 0) (some ⟨ga, 0, none⟩) M cap' (DD.map rowV) X)) (fun s _ => M - (intOf s).toNat)
      case atStart => exact ⟨0, by omega, rfl, by rw [fil_zero]; exact LF.out⟩
      case round =>
        clear LF
        obtain ⟨j, hj, rfl, hA⟩ := hrel
        have A0 : Hid (UO w wr b c NN A H (LR (fil DD j 0) (some ⟨ga, 0, none⟩) M cap' (DD.map rowV) X)) := hA
        clear hA
        by_cases hjn : j < M
        · have jI : (j : Int) < (M : Int) := by omega
          obtain ⟨⟨gi, li⟩, hjr⟩ : ∃ p, DD[j]? = some p := ⟨_, List.getElem?_eq_getElem (by rw [HL.out.1]; exact hjn)⟩
          obtain ⟨ll, ell⟩ : ∃ ll, li.length = ll := ⟨_, rfl⟩
          have HJ : Hid (DD[j]? = some (gi, li) ∧ li.length = ll ∧ ll ≤ 63 ∧ M ≤ 182) := ⟨hjr, ell, by rw [← ell]; exact RL.out j gi li hjr, HL.out.2⟩
          clear hjr ell
          have CJ : Hid (∀ k V, UO w V b c NN A H (LR (fil DD j k) (some ⟨ga, 0, none⟩) M cap' (DD.map rowV) X) → V.cell? ⟨ga, j, none⟩ = some (.slice (some ⟨gi, 0, none⟩) ll ll) ∧ CBox V gi 3 (intsD (frow li (mrk j) k))) := fun k V hV => by
            obtain ⟨g1, e1, c1⟩ := hV.at (i := j) (v := .slice (some ⟨gi, 0, none⟩) ll ll) (by rw [List.getElem?_map, HJ.out.1, ← HJ.out.2.1]; rfl)
            injection e1 with e1; injection e1 with e1
            subst e1
            exact ⟨c1, hV.rw (fil_row DD j k HJ.out.1)⟩
          obtain ⟨mj, ej⟩ : ∃ mj : Int, mj = mrk j := ⟨_, rfl⟩
          have HMJ : Hid (mj = mrk j) := ej
          have s5 : (-100000 : Int) - (j : Int) = mj := by rw [ej]; rfl
          have w5 : IntKind.i64.wrap mj = mj := by rw [IntKind.wrap_i64, ← s5]; have := HJ.out.2.2.2; omega
          clear ej
          go_wp2
          go_loopw [9] (fun s wr => ∃ k : Nat, k ≤ ll ∧ s = .int .i64 (k : Int) ∧ UO w wr b c NN A H (LR (fil DD j k) (some ⟨ga, 0, none⟩) M cap' (DD.map rowV) X)) (fun s _ => ll - (intOf s).toNat)
          case atStart => exact ⟨0, by omega, rfl, A0.out⟩
          case round =>
            clear A0
            obtain ⟨k, hk, rfl, hB⟩ := hrel
            have B0 : Hid (UO w wr b c NN A H (LR (fil DD j k) (some ⟨ga, 0, none⟩) M cap' (DD.map rowV) X)) := hB
            clear hB
            obtain ⟨cj, cb⟩ := CJ.out k wr B0.out
            have llX : (ll : Int) ≤ 63 := by have := HJ.out.2.2.1; omega
            by_cases hkl : k < ll
            · have kI : (k : Int) < (ll : Int) := by omega
              obtain ⟨y, cy⟩ : ∃ y, wr.cell? ⟨gi, k, none⟩ = some (.int .i64 y) := by
                rw [cb.cell]
                have hlt : k < (frow li (mrk j) k).length := by rw [frow_len, HJ.out.2.1]; exact hkl
                exact ⟨(frow li (mrk j) k)[k], by simp [intsD, List.getElem?_eq_getElem hlt]⟩
              have fy : wr.frozen? ⟨gi, k, none⟩ = false := cb.frozen k
              have L1 : Hid (UO w (wr.setCell ⟨gi, k, none⟩ (.int .i64 mj)) b c NN A H (LR (fil DD j (k + 1)) (some ⟨ga, 0, none⟩) M cap' (DD.map rowV) X)) := by
                have h := B0.out.put SX.out (fil_row DD j k HJ.out.1) k (mrk j)
                rw [fil_set DD j k HJ.out.1 (by rw [HJ.out.2.1]; exact hkl), ← HMJ.out] at h
                exact h
              clear cb B0
              go_wp2
              go_roundw
              case rel => exact ⟨k + 1, by omega, by go_num, L1.out⟩
              case measure => simp [intOf]; omega
            · obtain rfl : k = ll := by omega
              have kI : ¬ (k : Int) < (k : Int) := by omega
              have L2 : Hid (UO w wr b c NN A H (LR (fil DD (j + 1) 0) (some ⟨ga, 0, none⟩) M cap' (DD.map rowV) X)) := by
                have h := B0.out
                rw [← HJ.out.2.1, fil_next DD j HJ.out.1] at h
                exact h
              clear cb B0
              have MX : (M : Int) ≤ 182 := by have := HJ.out.2.2.2; omega
              go_wp2
              go_roundw
              case rel => exact ⟨j + 1, by omega, by go_num, L2.out⟩
              case measure => simp [intOf]; omega
        · obtain rfl : M = j := by omega
          have jI : ¬ (M : Int) < (M : Int) := by omega
          obtain ⟨FD, eF⟩ : ∃ FD, FD = fil DD M 0 := ⟨_, rfl⟩
          have HF : Hid (FD.length = M ∧ M ≤ 182 ∧ ∀ q, q < M → ∃ g n, FD[q]? = some (g, List.replicate n (mrk q)) ∧ n ≤ 63) := by
            refine ⟨by rw [eF, fil_len]; exact HL.out.1, HL.out.2, fun q hq => ?_⟩
            obtain ⟨⟨g, l⟩, hp⟩ : ∃ p, DD[q]? = some p := ⟨_, List.getElem?_eq_getElem (by rw [HL.out.1]; exact hq)⟩
            exact ⟨g, l.length, by rw [eF]; exact fil_full DD hq hp, RL.out q g l hp⟩
          have B1 : Hid (UO w wr b c NN A H (L3 FD (some ⟨ga, 0, none⟩) M cap' (FD.map rowV) X [] none 0 0 (fun _ _ => True))) := by
            rw [eF, fil_vs]
            exact A0.out.l3
          clear A0 eF RL HL hj hjn
          go_wp2
          go_loopw [10, 11] (fun s10 s wr => ∃ (i : Nat) (E : List (Nat × Nat × Nat)) (ad2 : Option Addr) (cap2 : Nat), (i ≤ M ∧ E.length = i ∧ ∀ e ∈ E, e.2.1 ≤ 200) ∧ s = .int .i64 (i : Int) ∧ s10 = .slice ad2 i cap2 ∧ UO w wr b c NN A H (L3 FD (some ⟨ga, 0, none⟩) M cap' (FD.map rowV) X E ad2 i cap2 (fun _ _ => True))) (fun _ s _ => M - (intOf s).toNat)
          case atStart => exact ⟨0, [], none, 0, ⟨by omega, rfl, fun e he => by cases he⟩, rfl, rfl, B1.out⟩
          case round =>
            clear B1
            obtain ⟨i, E, ad2, cap2, ⟨hi, hE, hEb⟩, rfl, rfl, hA⟩ := hrel
            have A0 : Hid (UO w wr b c NN A H (L3 FD (some ⟨ga, 0, none⟩) M cap' (FD.map rowV) X E ad2 i cap2 (fun _ _ => True))) := hA
            have HE : Hid (E.length = i ∧ ∀ e ∈ E, e.2.1 ≤ 200) := ⟨hE, hEb⟩
            clear hA hE hEb
            by_cases hin : i < M
            · have iI : (i : Int) < (M : Int) := by omega
              obtain ⟨gi, ni, hFi, hni⟩ := HF.out.2.2 i hin
              have HI : Hid (FD[i]? = some (gi, List.replicate ni (mrk i)) ∧ ni ≤ 63 ∧ M ≤ 182 ∧ FD.length = M) := ⟨hFi, hni, HF.out.2.1, HF.out.1⟩
              clear hFi hni
              have ci : wr.cell? ⟨ga, i, none⟩ = some (.slice (some ⟨gi, 0, none⟩) ni ni) := by
                obtain ⟨ow, r⟩ := A0.out.have
                obtain ⟨g1, e1, c1⟩ := r.1.1.2.at (i := i) (v := .slice (some ⟨gi, 0, none⟩) ni ni) (by rw [List.getElem?_map, HI.out.1]; simp [rowV])
                injection e1 with e1; injection e1 with e1
                subst e1
                exact c1
              obtain ⟨mi, ei⟩ : ∃ mi : Int, mi = mrk i := ⟨_, rfl⟩
              have HMI : Hid (mi = mrk i) := ei
              have s5 : (-100000 : Int) - (i : Int) = mi := by rw [ei]; rfl
              have w5 : IntKind.i64.wrap mi = mi := by rw [IntKind.wrap_i64, ← s5]; have := HI.out.2.2.1; omega
              have NX : Hid (∀ n (v : List Value), v = intsD (List.replicate n (mrk i)) → v ++ [.int .i64 mi] = intsD (List.replicate (n + 1) (mrk i))) := fun n v e => by rw [e, HMI.out, List.replicate_succ']; simp [intsD]
              clear ei
              go_wp2
              clear ci
              go_loopw [12, 13] (fun s12 s wr => ∃ k : Nat, k ≤ 70 ∧ s = .int .i64 (k : Int) ∧ ((k = 0 ∧ s12 = .slice (some ⟨gi, 0, none⟩) ni ni ∧ UO w wr b c NN A H (L3 FD (some ⟨ga, 0, none⟩) M cap' (FD.map rowV) X E ad2 i cap2 (fun _ _ => True))) ∨ (0 < k ∧ ∃ g3 c3, s12 = .slice (some ⟨g3, 0, none⟩) (ni + k) c3 ∧ UO w wr b c NN A H (L3 FD (some ⟨ga, 0, none⟩) M cap' (FD.map rowV) X E ad2 i cap2 (Grw (1000 + i) (some ⟨g3, 0, none⟩) (ni + k) c3 (intsD (List.replicate (ni + k) (mrk i)))))))) (fun _ s _ => 70 - (intOf s).toNat)
              case atStart => exact ⟨0, by omega, rfl, Or.inl ⟨rfl, rfl, A0.out⟩⟩
              case round =>
                clear A0
                obtain ⟨k, hk, rfl, hB⟩ := hrel
                by_cases hk7 : k < 70
                · have kI : (k : Int) < 70 := by omega
                  rcases hB with ⟨rfl, rfl, hB⟩ | ⟨hk0, g3, c3, rfl, hB⟩
                  · have B0 : Hid (UO w wr b c NN A H (L3 FD (some ⟨ga, 0, none⟩) M cap' (FD.map rowV) X E ad2 i cap2 (fun _ _ => True))) := hB
                    clear hB
                    go_upto_region 34 with fail
                    refine wp_region_lit ?_
                    refine lst_val (v := .slice (some ⟨gi, 0, none⟩) ni ni) (by kernel_rfl) ?_ ?_
                    · go_simp
                    simp only [Act.put, List.setIfInBounds_toArray, List.set_cons_zero, List.set_cons_succ]
                    refine lst_val (v := .int .i64 (i : Int)) (by kernel_rfl) ?_ ?_
                    · go_simp
                    simp only [Act.put, List.setIfInBounds_toArray, List.set_cons_zero, List.set_cons_succ]
                    refine lst_val (v := .int .i64 mi) (by kernel_rfl) ?_ ?_
                    · (go_simp; try (first | (rw [IntKind.wrap_u64]; omega) | (rw [IntKind.wrap_i64]; omega)))
                    simp only [Act.put, List.setIfInBounds_toArray, List.set_cons_zero, List.set_cons_succ]
                    refine lst_new (v := .slice (some ⟨wr.heap.size, 0, none⟩) 1 1) (w' := wr.alloc (.cells #[.int .i64 mi] 3)) (by kernel_rfl) ?_ ?_
                    · go_simp
                    simp only [Act.put, List.setIfInBounds_toArray, List.set_cons_zero, List.set_cons_succ]
                    have BK : Below wr.heap.size wr (wr.alloc (.cells #[.int .i64 mi] 3)) := (Below.refl _ _).alloc (Nat.le_refl _) _
                    have B1 : Hid (UO w (wr.alloc (.cells #[.int .i64 mi] 3)) b c NN A H (L3 FD (some ⟨ga, 0, none⟩) M cap' (FD.map rowV) X E ad2 i cap2 (fun _ _ => True))) := B0.out.keep3 SX.out BK 0 (fun _ _ => trivial)
                    have CB : Hid (CBox (wr.alloc (.cells #[.int .i64 mi] 3)) wr.heap.size 3 [.int .i64 mi]) := CBox.new wr _ [_]
                    clear BK B0
                    generalize hgx : wr.heap.size = gx at CB ⊢
                    clear hgx
                    generalize wr.alloc (.cells #[.int .i64 mi] 3) = z1 at B1 CB ⊢
                    have OW : z1.ownsRow 0 3 1 (.slice (some ⟨gi, 0, none⟩) ni ni) ni (intsD (List.replicate ni (mrk i))) := by
                      obtain ⟨ow, r⟩ := B1.out.have
                      have hh := box_owns (r.1.1.1 i gi _ HI.out.1).1 (by rw [List.length_replicate]; have := HI.out.2.1; omega)
                      rw [List.length_replicate] at hh
                      exact hh
                    refine wpList_new rfl _ _ rfl gi ni (intsD (List.replicate ni (mrk i))) rfl OW gx 1 mi rfl CB.out (by have := HI.out.2.1; omega) ?_
                    intro c4 z2 h1 h2
                    have L1 : Hid (UO w z2 b c NN A H (L3 FD (some ⟨ga, 0, none⟩) M cap' (FD.map rowV) X E ad2 i cap2 (Grw (1000 + i) (some ⟨z1.heap.size, 0, none⟩) (ni + 1) c4 (intsD (List.replicate (ni + 1) (mrk i)))))) := B1.out.keep3 SX.out h2 (1000 + i) (fun ow _ => ⟨by rw [← NX.out ni _ rfl]; exact h1, fun a e => by injection e with e; subst e; exact grow_ge (Nat.le_refl _)⟩)
                    clear h1 h2 CB B1 OW
                    simp only [Act.put, List.setIfInBounds_toArray, List.set_cons_zero, List.set_cons_succ]
                    refine lst_val (v := .slice (some ⟨z1.heap.size, 0, none⟩) (ni + 1) c4) (by kernel_rfl) ?_ ?_
                    · go_simp
                    simp only [Act.put, List.setIfInBounds_toArray, List.set_cons_zero, List.set_cons_succ]
                    refine wpList_nil ?_
                    generalize hb3 : z1.heap.size = g3 at L1 ⊢
                    clear hb3
                    go_wp2
                    go_roundw
                    case rel => exact ⟨1, by omega, by go_num, Or.inr ⟨by omega, g3, c4, rfl, L1.out⟩⟩
                    case measure => simp [intOf]
                  · have B0 : Hid (UO w wr b c NN A H (L3 FD (some ⟨ga, 0, none⟩) M cap' (FD.map rowV) X E ad2 i cap2 (Grw (1000 + i) (some ⟨g3, 0, none⟩) (ni + k) c3 (intsD (List.replicate (ni + k) (mrk i)))))) := hB
                    clear hB
                    go_upto_region 34 with fail
                    refine wp_region_lit ?_
                    refine lst_val (v := .slice (some ⟨g3, 0, none⟩) (ni + k) c3) (by kernel_rfl) ?_ ?_
                    · go_simp
                    simp only [Act.put, List.setIfInBounds_toArray, List.set_cons_zero, List.set_cons_succ]
                    refine lst_val (v := .int .i64 (i : Int)) (by kernel_rfl) ?_ ?_
                    · go_simp
                    simp only [Act.put, List.setIfInBounds_toArray, List.set_cons_zero, List.set_cons_succ]
                    refine lst_val (v := .int .i64 mi) (by kernel_rfl) ?_ ?_
                    · (go_simp; try (first | (rw [IntKind.wrap_u64]; omega) | (rw [IntKind.wrap_i64]; omega)))
                    simp only [Act.put, List.setIfInBounds_toArray, List.set_cons_zero, List.set_cons_succ]
                    refine lst_new (v := .slice (some ⟨wr.heap.size, 0, none⟩) 1 1) (w' := wr.alloc (.cells #[.int .i64 mi] 3)) (by kernel_rfl) ?_ ?_
                    · go_simp
                    simp only [Act.put, List.setIfInBounds_toArray, List.set_cons_zero, List.set_cons_succ]
                    have BK : Below wr.heap.size wr (wr.alloc (.cells #[.int .i64 mi] 3)) := (Below.refl _ _).alloc (Nat.le_refl _) _
                    have B1 : Hid (UO w (wr.alloc (.cells #[.int .i64 mi] 3)) b c NN A H (L3 FD (some ⟨ga, 0, none⟩) M cap' (FD.map rowV) X E ad2 i cap2 (Grw (1000 + i) (some ⟨g3, 0, none⟩) (ni + k) c3 (intsD (List.replicate (ni + k) (mrk i)))))) := B0.out.keep3 SX.out BK 0 (fun _ y => y.mo (P := fun _ => False) (Mo.below BK) id)
                    have CB : Hid (CBox (wr.alloc (.cells #[.int .i64 mi] 3)) wr.heap.size 3 [.int .i64 mi]) := CBox.new wr _ [_]
                    clear BK B0
                    generalize hgx : wr.heap.size = gx at CB ⊢
                    clear hgx
                    generalize wr.alloc (.cells #[.int .i64 mi] 3) = z1 at B1 CB ⊢
                    have OW : z1.ownsRow 0 3 1 (.slice (some ⟨g3, 0, none⟩) (ni + k) c3) (ni + k) (intsD (List.replicate (ni + k) (mrk i))) := by obtain ⟨ow, r⟩ := B1.out.have; exact r.2.2.1
                    refine wpList_app rfl _ _ 65 3 rfl (.int .i64 0) 1 8 Try.underlying65 info_int rfl (by omega) (by omega) (some ⟨g3, 0, none⟩) (ni + k) c3 _ rfl OW gx 1 [.int .i64 mi] rfl CB.out rfl (by simp [Value.oneCell']) (by have := HI.out.2.1; omega) ?_
                    intro ad4 c4 z2 h1 h2 h3
                    rw [NX.out _ _ rfl] at h1
                    obtain ⟨g4, rfl⟩ : ∃ g4, ad4 = some ⟨g4, 0, none⟩ := by
                      rcases h3 with rfl | ⟨g, rfl, _⟩
                      · exact ⟨g3, rfl⟩
                      · exact ⟨g, rfl⟩
                    have L1 : Hid (UO w z2 b c NN A H (L3 FD (some ⟨ga, 0, none⟩) M cap' (FD.map rowV) X E ad2 i cap2 (Grw (1000 + i) (some ⟨g4, 0, none⟩) (ni + k + 1) c4 (intsD (List.replicate (ni + k + 1) (mrk i)))))) := B1.out.grow3 SX.out (by rw [HE.out.1]) (by have := HI.out; omega) h1 h2 h3
                    clear h1 h2 h3 CB B1 OW
                    simp only [Act.put, List.setIfInBounds_toArray, List.set_cons_zero, List.set_cons_succ]
                    refine lst_val (v := .slice (some ⟨g4, 0, none⟩) (ni + k + 1) c4) (by kernel_rfl) ?_ ?_
                    · go_simp
                    simp only [Act.put, List.setIfInBounds_toArray, List.set_cons_zero, List.set_cons_succ]
                    refine wpList_nil ?_
                    go_wp2
                    go_roundw
                    case rel => exact ⟨k + 1, by omega, by go_num, Or.inr ⟨by omega, g4, c4, rfl, L1.out⟩⟩
                    case measure => simp [intOf]; omega
                · obtain rfl : k = 70 := by omega
                  have kI : ¬ ((70 : Nat) : Int) < 70 := by omega
                  rcases hB with ⟨h0, _⟩ | ⟨hk0, g3, c3, rfl, hB⟩
                  · omega
                  have B0 : Hid (UO w wr b c NN A H (L3 FD (some ⟨ga, 0, none⟩) M cap' (FD.map rowV) X E ad2 i cap2 (Grw (1000 + i) (some ⟨g3, 0, none⟩) (ni + 70) c3 (intsD (List.replicate (ni + 70) (mrk i)))))) := hB
                  clear hB
                  go_upto_region 35 with fail
                  refine wp_region_lit ?_
                  refine lst_val (v := .slice ad2 i cap2) (by kernel_rfl) ?_ ?_
                  · go_simp
                  simp only [Act.put, List.setIfInBounds_toArray, List.set_cons_zero, List.set_cons_succ]
                  refine lst_val (v := .slice (some ⟨g3, 0, none⟩) (ni + 70) c3) (by kernel_rfl) ?_ ?_
                  · go_simp
                  simp only [Act.put, List.setIfInBounds_toArray, List.set_cons_zero, List.set_cons_succ]
                  refine lst_new (v := .slice (some ⟨wr.heap.size, 0, none⟩) 1 1) (w' := wr.alloc (.cells #[.slice (some ⟨g3, 0, none⟩) (ni + 70) c3] 65)) (by kernel_rfl) ?_ ?_
                  · go_simp
                  simp only [Act.put, List.setIfInBounds_toArray, List.set_cons_zero, List.set_cons_succ]
                  have BK : Below wr.heap.size wr (wr.alloc (.cells #[.slice (some ⟨g3, 0, none⟩) (ni + 70) c3] 65)) := (Below.refl _ _).alloc (Nat.le_refl _) _
                  have B1 : Hid (UO w (wr.alloc (.cells #[.slice (some ⟨g3, 0, none⟩) (ni + 70) c3] 65)) b c NN A H (L3 FD (some ⟨ga, 0, none⟩) M cap' (FD.map rowV) X E ad2 i cap2 (Grw (1000 + i) (some ⟨g3, 0, none⟩) (ni + 70) c3 (intsD (List.replicate (ni + 70) (mrk i)))))) := B0.out.keep3 SX.out BK 0 (fun _ y => y.mo (P := fun _ => False) (Mo.below BK) id)
                  have CB : Hid (CBox (wr.alloc (.cells #[.slice (some ⟨g3, 0, none⟩) (ni + 70) c3] 65)) wr.heap.size 65 [.slice (some ⟨g3, 0, none⟩) (ni + 70) c3]) := CBox.new wr _ [_]
                  clear BK B0
                  generalize hgx : wr.heap.size = gx at CB ⊢
                  clear hgx
                  generalize wr.alloc (.cells #[.slice (some ⟨g3, 0, none⟩) (ni + 70) c3] 65) = z1 at B1 CB ⊢
                  have OW : z1.ownsRow 0 65 1 (.slice ad2 i cap2) i (E.map lngV) := by obtain ⟨ow, r⟩ := B1.out.have; exact r.2.1.2.1
                  refine wpList_apps rfl _ _ rfl ad2 i cap2 (E.map lngV) rfl OW gx 1 1 _ rfl CB.out rfl (by simp [Value.oneCell']) (by have := HI.out; omega) ?_
                  intro ad4 cap4 z2 h1 h2 h3
                  have L2 : Hid (UO w z2 b c NN A H (L3 FD (some ⟨ga, 0, none⟩) M cap' (FD.map rowV) X (E ++ [(g3, ni + 70, c3)]) ad4 (i + 1) cap4 (fun _ _ => True))) := by
                    have hh := B1.out
                    rw [← HE.out.1] at hh h1 ⊢
                    exact hh.lay3 SX.out (by rw [List.map_append]; exact h1) h2 h3
                  clear h1 h2 h3 CB B1 OW
                  simp only [Act.put, List.setIfInBounds_toArray, List.set_cons_zero, List.set_cons_succ]
                  refine lst_val (v := .slice ad4 (i + 1) cap4) (by kernel_rfl) ?_ ?_
                  · go_simp
                  simp only [Act.put, List.setIfInBounds_toArray, List.set_cons_zero, List.set_cons_succ]
                  refine wpList_nil ?_
                  have MX : (M : Int) ≤ 182 := by have := HI.out.2.2.1; omega
                  go_wp2
                  go_roundw
                  case rel => exact ⟨i + 1, E ++ [(g3, ni + 70, c3)], ad4, cap4, ⟨by omega, by simp [HE.out.1], fun e he => by
                    rcases List.mem_append.1 he with he | he
                    · exact HE.out.2 e he
                    · obtain rfl := List.mem_singleton.1 he
                      show ni + 70 ≤ 200
                      have := HI.out.2.1; omega⟩, by go_num, rfl, L2.out⟩
                  case measure => simp [intOf]; omega
            · obtain rfl : M = i := by omega
              have iI : ¬ (M : Int) < (M : Int) := by omega
              go_wp2
              go_loopw [14] (fun s wr => ∃ j : Nat, j ≤ M ∧ s = .int .i64 (j : Int) ∧ UO w wr b c NN A H (L3 FD (some ⟨ga, 0, none⟩) M cap' (FD.map rowV) X E ad2 M cap2 (fun _ _ => True))) (fun s _ => M - (intOf s).toNat)
              case atStart => exact ⟨0, by omega, rfl, A0.out⟩
              case round =>
                clear A0
                obtain ⟨j, hj, rfl, hA⟩ := hrel
                have A0 : Hid (UO w wr b c NN A H (L3 FD (some ⟨ga, 0, none⟩) M cap' (FD.map rowV) X E ad2 M cap2 (fun _ _ => True))) := hA
                clear hA
                by_cases hjn : j < M
                · have jI : (j : Int) < (M : Int) := by omega
                  obtain ⟨gi, ni, hFi, hni⟩ := HF.out.2.2 j hjn
                  obtain ⟨⟨ge, ne, ce⟩, hEj⟩ : ∃ p, E[j]? = some p := ⟨_, List.getElem?_eq_getElem (by rw [HE.out.1]; exact hjn)⟩
                  have hne : ne ≤ 200 := HE.out.2 _ (List.mem_of_getElem? hEj)
                  obtain ⟨gl, rfl, _⟩ : ∃ gl, ad2 = some ⟨gl, 0, none⟩ ∧ True := by
                    obtain ⟨ow, r⟩ := A0.out.have
                    obtain ⟨g1, e1, _⟩ := r.2.1.2.at (i := j) (v := lngV (ge, ne, ce)) (by rw [List.getElem?_map, hEj]; rfl)
                    exact ⟨g1, e1, trivial⟩
                  obtain ⟨mi, ei⟩ : ∃ mi : Int, mi = mrk j := ⟨_, rfl⟩
                  have CC : Hid (∀ V, UO w V b c NN A H (L3 FD (some ⟨ga, 0, none⟩) M cap' (FD.map rowV) X E (some ⟨gl, 0, none⟩) M cap2 (fun _ _ => True)) → (V.cell? ⟨gl, j, none⟩ = some (.slice (some ⟨ge, 0, none⟩) ne ce) ∧ V.cell? ⟨ga, j, none⟩ = some (.slice (some ⟨gi, 0, none⟩) ni ni)) ∧ (∀ k, k < ne → V.cell? ⟨ge, k, none⟩ = some (.int .i64 mi)) ∧ ∀ k, k < ni → V.cell? ⟨gi, k, none⟩ = some (.int .i64 mi)) := fun V hV => by
                    obtain ⟨ow, r⟩ := hV.have
                    obtain ⟨g1, e1, d1⟩ := r.2.1.2.at (i := j) (v := .slice (some ⟨ge, 0, none⟩) ne ce) (by rw [List.getElem?_map, hEj]; rfl)
                    injection e1 with e1; injection e1 with e1
                    subst e1
                    obtain ⟨g2, e2, d2⟩ := r.1.1.2.at (i := j) (v := .slice (some ⟨gi, 0, none⟩) ni ni) (by rw [List.getElem?_map, hFi]; simp [rowV])
                    injection e2 with e2; injection e2 with e2
                    subst e2
                    refine ⟨⟨d1, d2⟩, fun k hk => ?_, fun k hk => ?_⟩
                    · obtain ⟨g3, e3, d3⟩ := (r.2.1.1 j ge ne ce hEj).at (i := k) (v := .int .i64 mi) (by rw [ei]; simp [intsD, hk])
                      injection e3 with e3; injection e3 with e3
                      subst e3
                      exact d3
                    · rw [(r.1.1.1 j gi _ hFi).1.cell, ei]
                      simp [intsD, hk]
                  have s5 : (-100000 : Int) - (j : Int) = mi := by rw [ei]; rfl
                  have HB : Hid (M ≤ 182 ∧ ne ≤ 200 ∧ ni ≤ 63) := ⟨HF.out.2.1, hne, hni⟩
                  have w5 : IntKind.i64.wrap mi = mi := by rw [IntKind.wrap_i64, ← s5]; have := HB.out.1; omega
                  clear ei hEj hFi hne hni
                  go_wp2
                  go_loopw [15] (fun s wr => ∃ k : Nat, k ≤ ne ∧ s = .int .i64 (k : Int) ∧ UO w wr b c NN A H (L3 FD (some ⟨ga, 0, none⟩) M cap' (FD.map rowV) X E (some ⟨gl, 0, none⟩) M cap2 (fun _ _ => True))) (fun s _ => ne - (intOf s).toNat)
                  case atStart => exact ⟨0, by omega, rfl, A0.out⟩
                  case round =>
                    clear A0
                    obtain ⟨k, hk, rfl, hB⟩ := hrel
                    have B0 : Hid (UO w wr b c NN A H (L3 FD (some ⟨ga, 0, none⟩) M cap' (FD.map rowV) X E (some ⟨gl, 0, none⟩) M cap2 (fun _ _ => True))) := hB
                    clear hB
                    obtain ⟨⟨cl, cg⟩, ck, cr⟩ := CC.out wr B0.out
                    have neX : (ne : Int) ≤ 200 := by have := HB.out.2.1; omega
                    by_cases hkn : k < ne
                    · have kI : (k : Int) < (ne : Int) := by omega
                      have ck' := ck k hkn
                      clear ck
                      go_upto_region 42 with fail
                      by_cases hkr : k < ni
                      · have kR : (k : Int) < (ni : Int) := by omega
                        have cr' := cr k hkr
                        clear cr
                        refine wp_region_lit ?_
                        refine lst_val (v := .slice (some ⟨gl, 0, none⟩) M cap2) (by kernel_rfl) ?_ ?_
                        · go_simp
                        simp only [Act.put, List.setIfInBounds_toArray, List.set_cons_zero, List.set_cons_succ]
                        refine lst_val (v := .int .i64 (j : Int)) (by kernel_rfl) ?_ ?_
                        · go_simp
                        simp only [Act.put, List.setIfInBounds_toArray, List.set_cons_zero, List.set_cons_succ]
                        refine lst_val (v := .pointer (some ⟨gl, j, none⟩)) (by kernel_rfl) ?_ ?_
                        · go_simp
                        simp only [Act.put, List.setIfInBounds_toArray, List.set_cons_zero, List.set_cons_succ]
                        refine lst_val (v := .slice (some ⟨ge, 0, none⟩) ne ce) (by kernel_rfl) ?_ ?_
                        · go_simp
                        simp only [Act.put, List.setIfInBounds_toArray, List.set_cons_zero, List.set_cons_succ]
                        refine lst_val (v := .int .i64 (k : Int)) (by kernel_rfl) ?_ ?_
                        · go_simp
                        simp only [Act.put, List.setIfInBounds_toArray, List.set_cons_zero, List.set_cons_succ]
                        refine lst_val (v := .pointer (some ⟨ge, k, none⟩)) (by kernel_rfl) ?_ ?_
                        · go_simp
                        simp only [Act.put, List.setIfInBounds_toArray, List.set_cons_zero, List.set_cons_succ]
                        refine lst_val (v := .int .i64 mi) (by kernel_rfl) ?_ ?_
                        · go_simp
                        simp only [Act.put, List.setIfInBounds_toArray, List.set_cons_zero, List.set_cons_succ]
                        refine lst_val (v := .int .i64 (j : Int)) (by kernel_rfl) ?_ ?_
                        · go_simp
                        simp only [Act.put, List.setIfInBounds_toArray, List.set_cons_zero, List.set_cons_succ]
                        refine lst_val (v := .int .i64 mi) (by kernel_rfl) ?_ ?_
                        · (go_simp; try (first | (rw [IntKind.wrap_u64]; omega) | (rw [IntKind.wrap_i64]; omega)))
                        simp only [Act.put, List.setIfInBounds_toArray, List.set_cons_zero, List.set_cons_succ]
                        refine lst_val (v := .bool false) (by kernel_rfl) ?_ ?_
                        · go_simp
                        simp only [Act.put, List.setIfInBounds_toArray, List.set_cons_zero, List.set_cons_succ]
                        refine lst_val (v := .bool false) (by kernel_rfl) ?_ ?_
                        · go_simp
                        simp only [Act.put, List.setIfInBounds_toArray, List.set_cons_zero, List.set_cons_succ]
                        refine lst_val (v := .int .i64 (k : Int)) (by kernel_rfl) ?_ ?_
                        · go_simp
                        simp only [Act.put, List.setIfInBounds_toArray, List.set_cons_zero, List.set_cons_succ]
                        refine lst_val (v := .slice (some ⟨ga, 0, none⟩) M cap') (by kernel_rfl) ?_ ?_
                        · go_simp
                        simp only [Act.put, List.setIfInBounds_toArray, List.set_cons_zero, List.set_cons_succ]
                        refine lst_val (v := .int .i64 (j : Int)) (by kernel_rfl) ?_ ?_
                        · go_simp
                        simp only [Act.put, List.setIfInBounds_toArray, List.set_cons_zero, List.set_cons_succ]
                        refine lst_val (v := .pointer (some ⟨ga, j, none⟩)) (by kernel_rfl) ?_ ?_
                        · go_simp
                        simp only [Act.put, List.setIfInBounds_toArray, List.set_cons_zero, List.set_cons_succ]
                        refine lst_val (v := .slice (some ⟨gi, 0, none⟩) ni ni) (by kernel_rfl) ?_ ?_
                        · go_simp
                        simp only [Act.put, List.setIfInBounds_toArray, List.set_cons_zero, List.set_cons_succ]
                        refine lst_val (v := .int .i64 (ni : Int)) (by kernel_rfl) ?_ ?_
                        · go_simp
                        simp only [Act.put, List.setIfInBounds_toArray, List.set_cons_zero, List.set_cons_succ]
                        refine lst_val (v := .bool true) (by kernel_rfl) ?_ ?_
                        · go_simp
                        simp only [Act.put, List.setIfInBounds_toArray, List.set_cons_zero, List.set_cons_succ]
                        go_wp2
                        go_roundw
                        case rel => exact ⟨k + 1, by omega, by go_num, B0.out⟩
                        case measure => simp [intOf]; omega
                      · have kR : ¬ (k : Int) < (ni : Int) := by omega
                        clear cr
                        refine wp_region_lit ?_
                        refine lst_val (v := .slice (some ⟨gl, 0, none⟩) M cap2) (by kernel_rfl) ?_ ?_
                        · go_simp
                        simp only [Act.put, List.setIfInBounds_toArray, List.set_cons_zero, List.set_cons_succ]
                        refine lst_val (v := .int .i64 (j : Int)) (by kernel_rfl) ?_ ?_
                        · go_simp
                        simp only [Act.put, List.setIfInBounds_toArray, List.set_cons_zero, List.set_cons_succ]
                        refine lst_val (v := .pointer (some ⟨gl, j, none⟩)) (by kernel_rfl) ?_ ?_
                        · go_simp
                        simp only [Act.put, List.setIfInBounds_toArray, List.set_cons_zero, List.set_cons_succ]
                        refine lst_val (v := .slice (some ⟨ge, 0, none⟩) ne ce) (by kernel_rfl) ?_ ?_
                        · go_simp
                        simp only [Act.put, List.setIfInBounds_toArray, List.set_cons_zero, List.set_cons_succ]
                        refine lst_val (v := .int .i64 (k : Int)) (by kernel_rfl) ?_ ?_
                        · go_simp
                        simp only [Act.put, List.setIfInBounds_toArray, List.set_cons_zero, List.set_cons_succ]
                        refine lst_val (v := .pointer (some ⟨ge, k, none⟩)) (by kernel_rfl) ?_ ?_
                        · go_simp
                        simp only [Act.put, List.setIfInBounds_toArray, List.set_cons_zero, List.set_cons_succ]
                        refine lst_val (v := .int .i64 mi) (by kernel_rfl) ?_ ?_
                        · go_simp
                        simp only [Act.put, List.setIfInBounds_toArray, List.set_cons_zero, List.set_cons_succ]
                        refine lst_val (v := .int .i64 (j : Int)) (by kernel_rfl) ?_ ?_
                        · go_simp
                        simp only [Act.put, List.setIfInBounds_toArray, List.set_cons_zero, List.set_cons_succ]
                        refine lst_val (v := .int .i64 mi) (by kernel_rfl) ?_ ?_
                        · (go_simp; try (first | (rw [IntKind.wrap_u64]; omega) | (rw [IntKind.wrap_i64]; omega)))
                        simp only [Act.put, List.setIfInBounds_toArray, List.set_cons_zero, List.set_cons_succ]
                        refine lst_val (v := .bool false) (by kernel_rfl) ?_ ?_
                        · go_simp
                        simp only [Act.put, List.setIfInBounds_toArray, List.set_cons_zero, List.set_cons_succ]
                        refine lst_val (v := .bool false) (by kernel_rfl) ?_ ?_
                        · go_simp
                        simp only [Act.put, List.setIfInBounds_toArray, List.set_cons_zero, List.set_cons_succ]
                        refine lst_val (v := .int .i64 (k : Int)) (by kernel_rfl) ?_ ?_
                        · go_simp
                        simp only [Act.put, List.setIfInBounds_toArray, List.set_cons_zero, List.set_cons_succ]
                        refine lst_val (v := .slice (some ⟨ga, 0, none⟩) M cap') (by kernel_rfl) ?_ ?_
                        · go_simp
                        simp only [Act.put, List.setIfInBounds_toArray, List.set_cons_zero, List.set_cons_succ]
                        refine lst_val (v := .int .i64 (j : Int)) (by kernel_rfl) ?_ ?_
                        · go_simp
                        simp only [Act.put, List.setIfInBounds_toArray, List.set_cons_zero, List.set_cons_succ]
                        refine lst_val (v := .pointer (some ⟨ga, j, none⟩)) (by kernel_rfl) ?_ ?_
                        · go_simp
                        simp only [Act.put, List.setIfInBounds_toArray, List.set_cons_zero, List.set_cons_succ]
                        refine lst_val (v := .slice (some ⟨gi, 0, none⟩) ni ni) (by kernel_rfl) ?_ ?_
                        · go_simp
                        simp only [Act.put, List.setIfInBounds_toArray, List.set_cons_zero, List.set_cons_succ]
                        refine lst_val (v := .int .i64 (ni : Int)) (by kernel_rfl) ?_ ?_
                        · go_simp
                        simp only [Act.put, List.setIfInBounds_toArray, List.set_cons_zero, List.set_cons_succ]
                        refine lst_val (v := .bool false) (by kernel_rfl) ?_ ?_
                        · go_simp
                        simp only [Act.put, List.setIfInBounds_toArray, List.set_cons_zero, List.set_cons_succ]
                        go_wp2
                        go_roundw
                        case rel => exact ⟨k + 1, by omega, by go_num, B0.out⟩
                        case measure => simp [intOf]; omega
                    · obtain rfl : ne = k := by omega
                      have kI : ¬ (ne : Int) < (ne : Int) := by omega
                      clear ck cr
                      have MX : (M : Int) ≤ 182 := by have := HB.out.1; omega
                      go_wp2
                      go_roundw
                      case rel => exact ⟨j + 1, by omega, by go_num, B0.out⟩
                      case measure => simp [intOf]; omega
                · obtain rfl : M = j := by omega
                  have jI : ¬ (M : Int) < (M : Int) := by omega
                  have TT1 : Hid (∀ V, UO w V b c NN A H (L3 FD (some ⟨ga, 0, none⟩) M cap' (FD.map rowV) X E ad2 M cap2 (fun _ _ => True)) → (V.cell? ⟨xb, 0, none⟩ = some (.slice ka mm kc) ∧ V.cell? ⟨xb, 1, none⟩ = some (.slice va mm vc)) ∧ Calls Try.prog 46 #[.pointer (some ⟨b, 0, none⟩), .agg #[.slice ka mm kc, .slice va mm vc]] V fun e w' => e = .returned (.bool true) ∧ Below V.heap.size V w') := fun V hV => by
                    obtain ⟨ow, k1, k2, k3, k4⟩ := hV.ex
                    have hx := k3.1.2
                    refine ⟨⟨(XF.out ow V hx).2.1, (XF.out ow V hx).2.2⟩, ?_⟩
                    rw [EX.out] at hx
                    exact tells_is V ow 1 b NN A H k1 (by have := HN.out; omega) _ _ hx.1.1 hx.1.2
                  go_upto_region 44 with fail
                  obtain ⟨⟨x0, x1'⟩, tl⟩ := TT1.out wr A0.out
                  refine wp_region_lit ?_
                  refine lst_val (v := .pointer (some ⟨b, 0, none⟩)) (by kernel_rfl) ?_ ?_
                  · go_simp
                  simp only [Act.put, List.setIfInBounds_toArray, List.set_cons_zero, List.set_cons_succ]
                  refine lst_val (v := .agg #[.slice ka mm kc, .slice va mm vc]) (by kernel_rfl) ?_ ?_
                  · go_simp
                  simp only [Act.put, List.setIfInBounds_toArray, List.set_cons_zero, List.set_cons_succ]
                  refine lst_call (by kernel_rfl) (by first | (go_simp; done) | (go_simp; first | exact rfl | exact ⟨rfl, rfl⟩ | exact ⟨rfl, rfl, rfl⟩)) (tl) ?_
                  rintro e z1 ⟨rfl, BK⟩
                  refine ⟨_, rfl, ?_⟩
                  have A1 : Hid (UO w z1 b c NN A H (fun _ _ => True)) := ((A0.out.keep3 (Y' := fun _ _ => True) SX.out BK 0 (fun _ _ => trivial)).imp fun _ _ _ => trivial)
                  clear x0 x1' tl TT1 A0 BK
                  simp only [Act.put, List.setIfInBounds_toArray, List.set_cons_zero, List.set_cons_succ]
                  refine lst_val (v := .bool true) (by kernel_rfl) ?_ ?_
                  · go_simp
                  simp only [Act.put, List.setIfInBounds_toArray, List.set_cons_zero, List.set_cons_succ]
                  refine lst_val (v := .pointer (some ⟨c, 0, none⟩)) (by kernel_rfl) ?_ ?_
                  · go_simp
                  simp only [Act.put, List.setIfInBounds_toArray, List.set_cons_zero, List.set_cons_succ]
                  refine lst_new (v := .slice (some ⟨z1.heap.size, 0, none⟩) 1 1) (w' := z1.alloc (.cells #[.int .i64 4] 3)) (by kernel_rfl) ?_ ?_
                  · go_simp
                  simp only [Act.put, List.setIfInBounds_toArray, List.set_cons_zero, List.set_cons_succ]
                  refine lst_new (v := .slice (some ⟨z1.heap.size + 1, 0, none⟩) 1 1) (w' := (z1.alloc (.cells #[.int .i64 4] 3)).alloc (.cells #[.int .i64 4] 3)) (by kernel_rfl) ?_ ?_
                  · go_simp
                  simp only [Act.put, List.setIfInBounds_toArray, List.set_cons_zero, List.set_cons_succ]
                  refine lst_val (v := .agg #[.slice (some ⟨z1.heap.size, 0, none⟩) 1 1, .slice (some ⟨z1.heap.size + 1, 0, none⟩) 1 1]) (by kernel_rfl) ?_ ?_
                  · go_simp
                  simp only [Act.put, List.setIfInBounds_toArray, List.set_cons_zero, List.set_cons_succ]
                  go_wp2_with (first | (go_at_call 46; refine (A1.out.tells4 (by have := HN.out; omega)).mono ?_; rintro e z2 ⟨rfl, BK2⟩) | (go_at_call 13; refine (awake_is z2).mono ?_; rintro e z3 ⟨rfl, BK3⟩))
                  go_ret
                  exact ⟨rfl, BK2.trans (BK3.mono BK2.size)⟩
end Go.Proofs.Ytohfkgfjcnldaaa
