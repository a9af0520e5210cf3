/- The document's containers: Serialize, Size. -/
import Derived.Test.YtndhabhlajldeaaBre
import Derived.Test.YtndhabhlajldeaaBkn
namespace Go.Proofs.Ytndhabhlajldeaa
open Go.RowKit
set_option maxHeartbeats 4000000 in
set_option maxRecDepth 100000 in
theorem rserialize_is {P : Nat → Prop} (w : World) (v : Value) (c : Con) (h : CW P w v c) (hsm : Small c) : Calls Try.prog 36 #[v] w fun e w' => ∃ v', e = .returned (.tuple #[v', .int .i64 (chk c)]) ∧ w'.ownsRow w.heap.size 5 1 v' (serR c).length (bV (serR c)) ∧ Below w.heap.size w w' := by
  have h : CW (fun g => g < w.heap.size) w v c := h.mono (fun _ _ hg => hg)
  obtain ⟨tv, cv, sv, dv, rfl, hT, hC, hS, hD⟩ := id h
  obtain ⟨ta, tc, rfl, _⟩ := hT.len
  obtain ⟨ca, cc, rfl, _⟩ := hC.len
  obtain ⟨sa, sc, rfl, _⟩ := hS.len
  obtain ⟨da, dc, rfl, _, hd1⟩ := hD.len
  have CK : Hid (∀ W, Below w.heap.size w W → Calls Try.prog 21 #[.agg #[.slice ta c.ts.length tc, .slice ca c.cs.length cc, .slice sa c.ss.length sc, .slice da c.d.length dc, .int .i64 c.n]] W fun e w' => e = .returned (.int .i64 (chk c)) ∧ Below W.heap.size W w') := fun W hW => rCheck_is W _ c (h.past hW)
  have B0 : Hid (Below w.heap.size w (w.alloc (.cells #[.slice ta c.ts.length tc, .slice ca c.cs.length cc, .slice sa c.ss.length sc, .slice da c.d.length dc, .int .i64 c.n] 28)) ∧ CBox (w.alloc (.cells #[.slice ta c.ts.length tc, .slice ca c.cs.length cc, .slice sa c.ss.length sc, .slice da c.d.length dc, .int .i64 c.n] 28)) w.heap.size 28 [.slice ta c.ts.length tc, .slice ca c.cs.length cc, .slice sa c.ss.length sc, .slice da c.d.length dc, .int .i64 c.n]) := ⟨below_alloc _ _, CBox.new _ _ [_, _, _, _, _]⟩
  by_cases ok : chk c = 0
  rotate_left
  · have E0 : Hid (serR c = []) := by unfold Hid serR; rw [if_neg ok]
    rw [E0.out]
    have q2 : (chk c == 0) = false := by simpa using ok
    have q3 : (chk c != 0) = true := by simpa using ok
    clear hT hC hS hD hd1 E0 h hsm ok
    generalize chk c = r at *
    generalize c.ts.length = nt at *
    generalize c.cs.length = nc at *
    generalize c.ss.length = ns at *
    generalize c.d.length = nd at *
    generalize c.n = z at *
    generalize hbx : w.heap.size = bx at *
    have GE : Hid (bx ≤ w.heap.size) := by unfold Hid; omega
    go_enter Try.func36, Try.ntmps36
    go_upto_region 1 with fail
    generalize w.alloc _ = W0 at B0 ⊢
    have c0 : W0.cell? ⟨bx, 0, none⟩ = some (.slice ta nt tc) := B0.out.2.cell 0
    have c1 : W0.cell? ⟨bx, 1, none⟩ = some (.slice ca nc cc) := B0.out.2.cell 1
    have c2 : W0.cell? ⟨bx, 2, none⟩ = some (.slice sa ns sc) := B0.out.2.cell 2
    have c3 : W0.cell? ⟨bx, 3, none⟩ = some (.slice da nd dc) := B0.out.2.cell 3
    have c4 : W0.cell? ⟨bx, 4, none⟩ = some (.int .i64 z) := B0.out.2.cell 4
    clear hbx
    go_wp2_with (go_at_call 21; refine (CK.out _ B0.out.1).mono ?_; rintro e w1 ⟨rfl, hB⟩)
    go_ret2
    exact ⟨_, rfl, World.ownsRow_nil _ _ _ _, B0.out.1.trans (hB.mono (Nat.le_trans GE.out B0.out.1.size))⟩
  have my := chk_may ok
  obtain ⟨q, hq⟩ : ∃ q : Nat, c.n = (q : Int) := ⟨c.n.toNat, by have := my.z2; omega⟩
  have eq : c.n.toNat = q := by omega
  have qI : q ≤ 65535 := by have := my.z1; omega
  have SS9 := ser_small my hsm
  have EF : Hid ((((hd (lns c.cs) (lns c.ss) q ++ c.ts.flatMap tyb) ++ c.cs.flatten) ++ c.ss.flatten) ++ c.d = serR c) := by unfold Hid serR; rw [if_pos ok, ser, eq]
  have HB9 : Hid ((hd (lns c.cs) (lns c.ss) q).length + (c.ts.flatMap tyb).length + c.cs.flatten.length + c.ss.flatten.length + c.d.length ≤ 67108864 ∧ (c.ts.flatMap tyb).length = 4 * c.ts.length) := by
    have h9 := congrArg List.length EF.out
    simp only [List.length_append, serR, if_pos ok] at h9
    exact ⟨by omega, tys_len _⟩
  have LC : Hid (∀ W, Below w.heap.size w W → Calls Try.prog 79 #[.slice ca c.cs.length cc] W fun e w' => ∃ v', e = .returned v' ∧ InO W.heap.size w' v' (lns c.cs) ∧ Below W.heap.size W w') := fun W hW => rlen_is W _ c.cs (hC.past hW) (by have := my.n2; omega)
  have LS : Hid (∀ W, Below w.heap.size w W → Calls Try.prog 79 #[.slice sa c.ss.length sc] W fun e w' => ∃ v', e = .returned v' ∧ InO W.heap.size w' v' (lns c.ss) ∧ Below W.heap.size W w') := fun W hW => rlen_is W _ c.ss (hS.past hW) (by have := my.ns; omega)
  have key : ∀ (l : List (List Nat)) (x : Nat), x ∈ lns l → x ≤ l.flatten.length := by
    intro l x hx
    obtain ⟨y, hy, rfl⟩ := List.mem_map.1 hx
    exact (List.sublist_flatten_of_mem hy).length_le
  have sm := hsm
  unfold Small at sm
  have HDc : Hid (∀ W v1 v2, InO 0 W v1 (lns c.cs) → InO 0 W v2 (lns c.ss) → Calls Try.prog 78 #[v1, v2, .int .i64 (q : Int)] W fun e w' => ∃ v', e = .returned v' ∧ w'.ownsRow W.heap.size 5 1 v' (hd (lns c.cs) (lns c.ss) q).length (bV (hd (lns c.cs) (lns c.ss) q)) ∧ Below W.heap.size W w') := fun W v1 v2 h1 h2 => headR_is W v1 v2 _ _ q h1 h2 (fun x hx => by have := key _ x hx; omega) (fun x hx => by have := key _ x hx; omega) (by rw [lns_len]; have := my.n2; omega) (by rw [lns_len]; have := my.ns; omega) (by omega)
  have HTy : Hid (∀ t ∈ c.ts, TyOk t) := chkT_ok c.ts 0 my.ty
  have HTL : Hid (∀ W, Below w.heap.size w W → TL (fun g => g < w.heap.size) W (.slice ta c.ts.length tc) c.ts) := fun W hW => hT.past hW
  have HCL : Hid (∀ W, Below w.heap.size w W → PL (fun g => g < w.heap.size) W (.slice ca c.cs.length cc) c.cs) := fun W hW => hC.past hW
  have HSL : Hid (∀ W, Below w.heap.size w W → PL (fun g => g < w.heap.size) W (.slice sa c.ss.length sc) c.ss) := fun W hW => hS.past hW
  have DT : Hid (∀ W, Below w.heap.size w W → BL (fun g => g < w.heap.size) W (.slice da c.d.length dc) c.d) := fun W hW => hD.past hW
  have nn : c.ts.length ≤ 1024 ∧ c.cs.length ≤ 1024 ∧ c.ss.length ≤ 256 := ⟨by have := my.nt; have := my.n2; omega, my.n2, my.ns⟩
  rw [ok, hq] at CK
  rw [ok]
  rw [hq] at B0
  rw [hq]
  clear h my hT hC hS hD hq eq ok hd1 hsm SS9 qI key sm
  generalize hd (lns c.cs) (lns c.ss) q = HDR at *
  generalize lns c.cs = L1 at *
  generalize lns c.ss = L2 at *
  generalize hnt : c.ts.length = nt at *
  generalize hnc : c.cs.length = nc at *
  generalize hns : c.ss.length = ns at *
  generalize hnd : c.d.length = nd at *
  generalize c.ts = TT at *
  generalize c.cs = CC at *
  generalize c.ss = SS at *
  generalize c.d = DD at *
  have HN : Hid (TT.length = nt ∧ CC.length = nc ∧ SS.length = ns ∧ DD.length = nd) := ⟨hnt, hnc, hns, hnd⟩
  have tI : (nt : Int) ≤ 1024 := by omega
  have cI : (nc : Int) ≤ 1024 := by omega
  have sI : (ns : Int) ≤ 256 := by omega
  clear hnt hnc hns hnd nn
  generalize hbw : w.heap.size = bw at *
  have GE : Hid (bw ≤ w.heap.size) := by unfold Hid; omega
  go_enter Try.func36, Try.ntmps36
  go_upto_region 1 with fail
  generalize w.alloc _ = W0 at B0 ⊢
  have c0 : W0.cell? ⟨bw, 0, none⟩ = some (.slice ta nt tc) := B0.out.2.cell 0
  have c1 : W0.cell? ⟨bw, 1, none⟩ = some (.slice ca nc cc) := B0.out.2.cell 1
  have c2 : W0.cell? ⟨bw, 2, none⟩ = some (.slice sa ns sc) := B0.out.2.cell 2
  have c3 : W0.cell? ⟨bw, 3, none⟩ = some (.slice da nd dc) := B0.out.2.cell 3
  have c4 : W0.cell? ⟨bw, 4, none⟩ = some (.int .i64 (q : Int)) := B0.out.2.cell 4
  clear hbw
  go_upto_region 4 with (go_at_call 21; refine (CK.out _ B0.out.1).mono ?_; rintro e w1 ⟨rfl, hB⟩)
  have B1 : Hid (Below bw w w1 ∧ CBox w1 bw 28 (conV ta nt tc ca nc cc sa ns sc da nd dc (q : Int))) := ⟨B0.out.1.trans (hB.mono (Nat.le_trans GE.out B0.out.1.size)), B0.out.2.past hB⟩
  clear c0 c1 c2 c3 c4 hB B0 CK
  refine wp_region_held_drew (S := fun V' => Below bw w V' ∧ CBox V' bw 28 (conV ta nt tc ca nc cc sa ns sc da nd dc (q : Int)) ∧ bw ≤ w.heap.size) (by kernel_rfl) (by exact ⟨B1.out.1.trans ((below_drew).mono (Nat.le_trans GE.out B1.out.1.size)), B1.out.2.past below_drew, GE.out⟩) (fun hHeld => ?_)
  generalize w1.drew = zz at hHeld ⊢
  refine wpAnyH_take (i := 0) (v := .pointer (some ⟨bw, 1, none⟩)) ov0 (by kernel_rfl) (by kernel_rfl) (by kernel_rfl) (fun _ _ _ h => h) (Or.inl ⟨by rfl, fun V' hS => ?_⟩) hHeld ?_
  · go_simp
  simp only [Act.put, List.setIfInBounds_toArray, List.set_cons_zero, List.set_cons_succ]
  refine wpAnyH_take (i := 1) (v := .slice ca nc cc) ov1 (by kernel_rfl) (by kernel_rfl) (by kernel_rfl) (fun _ _ _ h => h) (Or.inl ⟨by rfl, fun V' hS => ?_⟩) hHeld ?_
  · have k1 : V'.cell? ⟨bw, 1, none⟩ = some (.slice ca nc cc) := hS.2.1.cell 1
    go_simp
  simp only [Act.put, List.setIfInBounds_toArray, List.set_cons_zero, List.set_cons_succ]
  refine wpAnyH_take (i := 3) (v := .pointer (some ⟨bw, 2, none⟩)) ov3 (by kernel_rfl) (by kernel_rfl) (by kernel_rfl) (fun _ _ _ h => h) (Or.inl ⟨by rfl, fun V' hS => ?_⟩) hHeld ?_
  · go_simp
  simp only [Act.put, List.setIfInBounds_toArray, List.set_cons_zero, List.set_cons_succ]
  refine wpAnyH_take (i := 4) (v := .slice sa ns sc) ov4 (by kernel_rfl) (by kernel_rfl) (by kernel_rfl) (fun _ _ _ h => h) (Or.inl ⟨by rfl, fun V' hS => ?_⟩) hHeld ?_
  · have k1 : V'.cell? ⟨bw, 2, none⟩ = some (.slice sa ns sc) := hS.2.1.cell 2
    go_simp
  simp only [Act.put, List.setIfInBounds_toArray, List.set_cons_zero, List.set_cons_succ]
  refine wpAnyH_take (i := 6) (v := .pointer (some ⟨bw, 4, none⟩)) ov6 (by kernel_rfl) (by kernel_rfl) (by kernel_rfl) (fun _ _ _ h => h) (Or.inl ⟨by rfl, fun V' hS => ?_⟩) hHeld ?_
  · go_simp
  simp only [Act.put, List.setIfInBounds_toArray, List.set_cons_zero, List.set_cons_succ]
  refine wpAnyH_take (i := 7) (v := .int .i64 (q : Int)) ov7 (by kernel_rfl) (by kernel_rfl) (by kernel_rfl) (fun _ _ _ h => h) (Or.inl ⟨by rfl, fun V' hS => ?_⟩) hHeld ?_
  · have k1 : V'.cell? ⟨bw, 4, none⟩ = some (.int .i64 (q : Int)) := hS.2.1.cell 4
    go_simp
  simp only [Act.put, List.setIfInBounds_toArray, List.set_cons_zero, List.set_cons_succ]
  refine wpAnyH_ready (rs := [2]) (by kernel_rfl) (by simp) ?_
  refine AllReadyH.cons ov2 (fun K hK => ?_) AllReadyH.nil
  rw [if_pos (by rfl)]
  go_simp
  refine (LC.out _ hHeld.1).mono ?_
  rintro e zz ⟨v1, rfl, hI1, hB⟩
  have hHeld : Below bw w zz ∧ CBox zz bw 28 (conV ta nt tc ca nc cc sa ns sc da nd dc (q : Int)) ∧ bw ≤ w.heap.size := ⟨hHeld.1.trans (hB.mono (Nat.le_trans hHeld.2.2 hHeld.1.size)), hHeld.2.1.past hB, hHeld.2.2⟩
  have HI1 : Hid (InO 0 zz v1 L1) := owns_base hI1 (Nat.zero_le _)
  clear hI1 hB
  (try go_wp2_with fail)
  refine hK.out _ _ hHeld (fun _ => ?_)
  clear hK K
  (try simp only [Act.put, List.setIfInBounds_toArray, List.set_cons_zero, List.set_cons_succ])
  refine wpAnyH_ready (rs := [5]) (by kernel_rfl) (by simp) ?_
  refine AllReadyH.cons ov5 (fun K hK => ?_) AllReadyH.nil
  rw [if_pos (by rfl)]
  go_simp
  refine (LS.out _ hHeld.1).mono ?_
  rintro e zz ⟨v2, rfl, hI2, hB⟩
  have hHeld : Below bw w zz ∧ CBox zz bw 28 (conV ta nt tc ca nc cc sa ns sc da nd dc (q : Int)) ∧ bw ≤ w.heap.size := ⟨hHeld.1.trans (hB.mono (Nat.le_trans hHeld.2.2 hHeld.1.size)), hHeld.2.1.past hB, hHeld.2.2⟩
  have HI1 : Hid (InO 0 zz v1 L1) := HI1.out.past hB
  have HI2 : Hid (InO 0 zz v2 L2) := owns_base hI2 (Nat.zero_le _)
  clear hI2 hB
  (try go_wp2_with fail)
  refine hK.out _ _ hHeld (fun _ => ?_)
  clear hK K
  (try simp only [Act.put, List.setIfInBounds_toArray, List.set_cons_zero, List.set_cons_succ])
  refine wpAnyH_ready (rs := [8]) (by kernel_rfl) (by simp) ?_
  refine AllReadyH.cons ov8 (fun K hK => ?_) AllReadyH.nil
  rw [if_pos (by rfl)]
  go_simp
  refine (HDc.out _ v1 v2 HI1.out HI2.out).mono ?_
  rintro e zz ⟨v3, rfl, hO, hB⟩
  have hle := Nat.le_trans hHeld.2.2 hHeld.1.size
  have hHeld : Below bw w zz ∧ CBox zz bw 28 (conV ta nt tc ca nc cc sa ns sc da nd dc (q : Int)) ∧ bw ≤ w.heap.size := ⟨hHeld.1.trans (hB.mono (Nat.le_trans hHeld.2.2 hHeld.1.size)), hHeld.2.1.past hB, hHeld.2.2⟩
  have Y1 : Hid (HY bw w zz (conV ta nt tc ca nc cc sa ns sc da nd dc (q : Int)) v3 HDR) := ⟨hHeld.1, hHeld.2.1, owns_base hO hle, hHeld.2.2⟩
  clear hO hB hle
  (try go_wp2_with fail)
  refine hK.out _ _ hHeld (fun _ => ?_)
  clear hK K
  (try simp only [Act.put, List.setIfInBounds_toArray, List.set_cons_zero, List.set_cons_succ])
  refine wpAnyH_take (i := 9) (v := v3) ov9 (by kernel_rfl) (by kernel_rfl) (by kernel_rfl) (fun _ _ _ h => h) (Or.inl ⟨by rfl, fun V' hS => ?_⟩) hHeld ?_
  · go_simp
  simp only [Act.put, List.setIfInBounds_toArray, List.set_cons_zero, List.set_cons_succ]
  refine wpAnyH_done (by kernel_rfl) ?_ _
  have M : Hid (HY bw w zz (conV ta nt tc ca nc cc sa ns sc da nd dc (q : Int)) v3 HDR) := Y1.out
  clear hHeld Y1 HI1 HI2 B1 LC LS HDc
  go_wp2
  go_loopw [5, 6] (fun s5 s6 wr => ∃ k : Nat, s6 = .int .i64 (k : Int) ∧ k ≤ nt ∧ HY bw w wr (conV ta nt tc ca nc cc sa ns sc da nd dc (q : Int)) s5 (HDR ++ (TT.take k).flatMap tyb)) (fun _ s6 _ => nt - (intOf s6).toNat)
  case atStart => exact ⟨0, rfl, by omega, by simpa using M.out⟩
  case round =>
    obtain ⟨k, rfl, hk, hM⟩ := hrel
    have M : Hid (HY bw w wr (conV ta nt tc ca nc cc sa ns sc da nd dc (q : Int)) u5 (HDR ++ (TT.take k).flatMap tyb)) := hM
    clear hM
    by_cases e : k = nt
    rotate_left
    · have kn : (k : Int) < (nt : Int) := by omega
      obtain ⟨⟨y1, y2, y3⟩, hl⟩ : ∃ t, TT[k]? = some t := ⟨TT[k]'(by have := HN.out; omega), List.getElem?_eq_getElem _⟩
      have ok := HTy.out _ (List.mem_of_getElem? hl)
      unfold TyOk at ok
      obtain ⟨t1, e1⟩ : ∃ t1 : Nat, y1 = (t1 : Int) := ⟨y1.toNat, by have := ok.1; simp only at this; omega⟩
      obtain ⟨t2, e2⟩ : ∃ t2 : Nat, y2 = (t2 : Int) := ⟨y2.toNat, by have := ok.2.1; simp only at this; omega⟩
      obtain ⟨t3, e3⟩ : ∃ t3 : Nat, y3 = (t3 : Int) := ⟨y3.toNat, by have := ok.2.2; simp only at this; omega⟩
      subst e1 e2 e3
      have HT : Hid (t1 ≤ 65535 ∧ t2 ≤ 65535 ∧ t3 ≤ 65535) := by unfold Hid; simp only at ok; omega
      have HLK : Hid (TT[k]? = some ((t1 : Int), (t2 : Int), (t3 : Int))) := hl
      have FL : Hid (((TT.take k).flatMap tyb).length ≤ 4 * nt) := by unfold Hid; rw [tys_len, List.length_take]; omega
      have EL : Hid ((TT.take (k + 1)).flatMap tyb = (TT.take k).flatMap tyb ++ (dig 1 t1 ++ dig 1 t2 ++ dig 2 t3)) := by unfold Hid; rw [flat_snoc hl]; simp [tyb]
      have D1 := dig_len 1 t1
      have D2 := dig_len 1 t2
      have HDD : Hid ((dig 1 t1).length = 1 ∧ (dig 1 t2).length = 1) := ⟨D1, D2⟩
      clear hl ok e D1 D2
      obtain ⟨g, a, eg, f0, _⟩ := (HTL.out wr M.out.bel).get HLK.out
      subst eg
      have NC : Hid (Calls Try.prog 80 #[u5, .int .i64 (t1 : Int), .int .i64 1] wr fun e w' => ∃ v', e = .returned v' ∧ App bw 5 1 wr w' u5 v' ((HDR ++ (TT.take k).flatMap tyb) ++ dig 1 t1).length (bV ((HDR ++ (TT.take k).flatMap tyb) ++ dig 1 t1))) := numberR_is wr bw M.out.le u5 (HDR ++ (TT.take k).flatMap tyb) M.out.row 1 t1 (by omega) (by have := HT.out; omega) (by have h1 := HB9.out; have h2 := FL.out; have h3 := HDD.out; simp only [List.length_append]; omega)
      have c0 : wr.cell? ⟨bw, 0, none⟩ = some (.slice (some ⟨g, a, none⟩) nt tc) := M.out.c1.cell 0
      go_upto_region 9 with (go_at_call 80; refine NC.out.mono ?_; rintro e q0 ⟨p0, rfl, hA⟩)
      have M2 : Hid (HY bw w q0 (conV (some ⟨g, a, none⟩) nt tc ca nc cc sa ns sc da nd dc (q : Int)) p0 ((HDR ++ (TT.take k).flatMap tyb) ++ dig 1 t1)) := M.out.step hA
      clear NC hA M c0 f0
      have M := M2
      clear M2
      have NC : Hid (Calls Try.prog 80 #[p0, .int .i64 (t2 : Int), .int .i64 1] q0 fun e w' => ∃ v', e = .returned v' ∧ App bw 5 1 q0 w' p0 v' (((HDR ++ (TT.take k).flatMap tyb) ++ dig 1 t1) ++ dig 1 t2).length (bV (((HDR ++ (TT.take k).flatMap tyb) ++ dig 1 t1) ++ dig 1 t2))) := numberR_is q0 bw M.out.le p0 ((HDR ++ (TT.take k).flatMap tyb) ++ dig 1 t1) M.out.row 1 t2 (by omega) (by have := HT.out; omega) (by have h1 := HB9.out; have h2 := FL.out; have h3 := HDD.out; simp only [List.length_append]; omega)
      have c0 : q0.cell? ⟨bw, 0, none⟩ = some (.slice (some ⟨g, a, none⟩) nt tc) := M.out.c1.cell 0
      obtain ⟨g', a', eg, f10, f11, f12⟩ := (HTL.out q0 M.out.bel).get HLK.out
      cases eg
      go_upto_region 10 with (go_at_call 80; refine NC.out.mono ?_; rintro e q1 ⟨p1, rfl, hA⟩)
      have M2 : Hid (HY bw w q1 (conV (some ⟨g, a, none⟩) nt tc ca nc cc sa ns sc da nd dc (q : Int)) p1 (((HDR ++ (TT.take k).flatMap tyb) ++ dig 1 t1) ++ dig 1 t2)) := M.out.step hA
      clear NC hA M c0 f10 f11 f12
      have M := M2
      clear M2
      have NC : Hid (Calls Try.prog 80 #[p1, .int .i64 (t3 : Int), .int .i64 2] q1 fun e w' => ∃ v', e = .returned v' ∧ App bw 5 1 q1 w' p1 v' ((((HDR ++ (TT.take k).flatMap tyb) ++ dig 1 t1) ++ dig 1 t2) ++ dig 2 t3).length (bV ((((HDR ++ (TT.take k).flatMap tyb) ++ dig 1 t1) ++ dig 1 t2) ++ dig 2 t3))) := numberR_is q1 bw M.out.le p1 (((HDR ++ (TT.take k).flatMap tyb) ++ dig 1 t1) ++ dig 1 t2) M.out.row 2 t3 (by omega) (by have := HT.out; omega) (by have h1 := HB9.out; have h2 := FL.out; have h3 := HDD.out; simp only [List.length_append]; omega)
      have c0 : q1.cell? ⟨bw, 0, none⟩ = some (.slice (some ⟨g, a, none⟩) nt tc) := M.out.c1.cell 0
      obtain ⟨g', a', eg, f20, f21, f22⟩ := (HTL.out q1 M.out.bel).get HLK.out
      cases eg
      go_wp2_with (go_at_call 80; refine NC.out.mono ?_; rintro e q2 ⟨p2, rfl, hA⟩)
      have M2 : Hid (HY bw w q2 (conV (some ⟨g, a, none⟩) nt tc ca nc cc sa ns sc da nd dc (q : Int)) p2 ((((HDR ++ (TT.take k).flatMap tyb) ++ dig 1 t1) ++ dig 1 t2) ++ dig 2 t3)) := M.out.step hA
      clear NC hA M c0 f20 f21 f22
      have M := M2
      clear M2
      have HR : Hid (HY bw w q2 (conV (some ⟨g, a, none⟩) nt tc ca nc cc sa ns sc da nd dc (q : Int)) p2 (HDR ++ (TT.take (k + 1)).flatMap tyb)) := by
        have h9 := M.out
        rw [show ((HDR ++ (TT.take k).flatMap tyb) ++ dig 1 t1) ++ dig 1 t2 ++ dig 2 t3 = HDR ++ (TT.take (k + 1)).flatMap tyb by rw [EL.out]; simp only [List.append_assoc]] at h9
        exact h9
      clear M
      go_roundw
      case rel => exact ⟨k + 1, by first | rfl | go_num, by omega, HR.out⟩
      case measure => simp [intOf]; omega
    have e9 := e.symm
    clear e
    subst e9
    have M2 : Hid (HY bw w wr (conV ta nt tc ca nc cc sa ns sc da nd dc (q : Int)) u5 (HDR ++ TT.flatMap tyb)) := by have := M.out; rwa [List.take_of_length_le (by have := HN.out; omega)] at this
    clear M
    have M := M2
    clear M2
    have cE0 : wr.cell? ⟨bw, 0, none⟩ = some (.slice ta nt tc) := M.out.c1.cell 0
    go_wp2
    go_loopw [5, 7] (fun s5 s6 wr => ∃ k : Nat, s6 = .int .i64 (k : Int) ∧ k ≤ nc ∧ HY bw w wr (conV ta nt tc ca nc cc sa ns sc da nd dc (q : Int)) s5 ((HDR ++ TT.flatMap tyb) ++ (CC.take k).flatten)) (fun _ s6 _ => nc - (intOf s6).toNat)
    case atStart => exact ⟨0, rfl, by omega, by simpa using M.out⟩
    case round =>
      obtain ⟨k, rfl, hk, hM⟩ := hrel
      have M : Hid (HY bw w wr (conV ta nt tc ca nc cc sa ns sc da nd dc (q : Int)) u5 ((HDR ++ TT.flatMap tyb) ++ (CC.take k).flatten)) := hM
      clear hM
      by_cases e : k = nc
      rotate_left
      · have kn : (k : Int) < (nc : Int) := by omega
        obtain ⟨x, hx⟩ : ∃ x, CC[k]? = some x := ⟨CC[k]'(by have := HN.out; omega), List.getElem?_eq_getElem _⟩
        have c0 : wr.cell? ⟨bw, 1, none⟩ = some (.slice ca nc cc) := M.out.c1.cell 1
        obtain ⟨g, a, u, eg, hcell, hb⟩ := (HCL.out wr M.out.bel).get hx
        subst eg
        have HBx : Hid (BL (fun g => g < bw) wr u x) := hb
        have HXX : Hid (CC[k]? = some x) := hx
        have HLe : Hid (((HDR ++ TT.flatMap tyb) ++ (CC.take k).flatten).length + x.length ≤ 2199023255552) := by
          unfold Hid
          have h1 := HB9.out
          have h2 := flatten_le CC (k + 1)
          rw [flatten_snoc hx, List.length_append] at h2
          simp only [List.length_append]
          omega
        clear hx hb e
        go_wp2_with (at_builtin; refine wpList_appB rfl _ _ rfl bw M.out.le u5 ((HDR ++ TT.flatMap tyb) ++ (CC.take k).flatten) rfl M.out.row u x rfl HBx.out HLe.out ?_; intro v' w' hA)
        have HR : Hid (HY bw w w' (conV ta nt tc (some ⟨g, a, none⟩) nc cc sa ns sc da nd dc (q : Int)) v' ((HDR ++ TT.flatMap tyb) ++ (CC.take (k + 1)).flatten)) := by
          have h9 := M.out.step hA
          rw [List.append_assoc (HDR ++ TT.flatMap tyb), ← flatten_snoc HXX.out] at h9
          exact h9
        clear hA M c0 hcell
        go_roundw
        case rel => exact ⟨k + 1, by first | rfl | go_num, by omega, HR.out⟩
        case measure => simp [intOf]; omega
      have e9 := e.symm
      clear e
      subst e9
      have M2 : Hid (HY bw w wr (conV ta nt tc ca nc cc sa ns sc da nd dc (q : Int)) u5 ((HDR ++ TT.flatMap tyb) ++ CC.flatten)) := by have := M.out; rwa [List.take_of_length_le (by have := HN.out; omega)] at this
      clear M
      have M := M2
      clear M2
      have cE1 : wr.cell? ⟨bw, 1, none⟩ = some (.slice ca nc cc) := M.out.c1.cell 1
      go_wp2
      go_loopw [5, 8] (fun s5 s6 wr => ∃ k : Nat, s6 = .int .i64 (k : Int) ∧ k ≤ ns ∧ HY bw w wr (conV ta nt tc ca nc cc sa ns sc da nd dc (q : Int)) s5 (((HDR ++ TT.flatMap tyb) ++ CC.flatten) ++ (SS.take k).flatten)) (fun _ s6 _ => ns - (intOf s6).toNat)
      case atStart => exact ⟨0, rfl, by omega, by simpa using M.out⟩
      case round =>
        obtain ⟨k, rfl, hk, hM⟩ := hrel
        have M : Hid (HY bw w wr (conV ta nt tc ca nc cc sa ns sc da nd dc (q : Int)) u5 (((HDR ++ TT.flatMap tyb) ++ CC.flatten) ++ (SS.take k).flatten)) := hM
        clear hM
        by_cases e : k = ns
        rotate_left
        · have kn : (k : Int) < (ns : Int) := by omega
          obtain ⟨x, hx⟩ : ∃ x, SS[k]? = some x := ⟨SS[k]'(by have := HN.out; omega), List.getElem?_eq_getElem _⟩
          have c0 : wr.cell? ⟨bw, 2, none⟩ = some (.slice sa ns sc) := M.out.c1.cell 2
          obtain ⟨g, a, u, eg, hcell, hb⟩ := (HSL.out wr M.out.bel).get hx
          subst eg
          have HBx : Hid (BL (fun g => g < bw) wr u x) := hb
          have HXX : Hid (SS[k]? = some x) := hx
          have HLe : Hid ((((HDR ++ TT.flatMap tyb) ++ CC.flatten) ++ (SS.take k).flatten).length + x.length ≤ 2199023255552) := by
            unfold Hid
            have h1 := HB9.out
            have h2 := flatten_le SS (k + 1)
            rw [flatten_snoc hx, List.length_append] at h2
            simp only [List.length_append]
            omega
          clear hx hb e
          go_wp2_with (at_builtin; refine wpList_appB rfl _ _ rfl bw M.out.le u5 (((HDR ++ TT.flatMap tyb) ++ CC.flatten) ++ (SS.take k).flatten) rfl M.out.row u x rfl HBx.out HLe.out ?_; intro v' w' hA)
          have HR : Hid (HY bw w w' (conV ta nt tc ca nc cc (some ⟨g, a, none⟩) ns sc da nd dc (q : Int)) v' (((HDR ++ TT.flatMap tyb) ++ CC.flatten) ++ (SS.take (k + 1)).flatten)) := by
            have h9 := M.out.step hA
            rw [List.append_assoc ((HDR ++ TT.flatMap tyb) ++ CC.flatten), ← flatten_snoc HXX.out] at h9
            exact h9
          clear hA M c0 hcell
          go_roundw
          case rel => exact ⟨k + 1, by first | rfl | go_num, by omega, HR.out⟩
          case measure => simp [intOf]; omega
        have e9 := e.symm
        clear e
        subst e9
        have M2 : Hid (HY bw w wr (conV ta nt tc ca nc cc sa ns sc da nd dc (q : Int)) u5 (((HDR ++ TT.flatMap tyb) ++ CC.flatten) ++ SS.flatten)) := by have := M.out; rwa [List.take_of_length_le (by have := HN.out; omega)] at this
        clear M
        have M := M2
        clear M2
        have cE2 : wr.cell? ⟨bw, 2, none⟩ = some (.slice sa ns sc) := M.out.c1.cell 2
        have c3 : wr.cell? ⟨bw, 3, none⟩ = some (.slice da nd dc) := M.out.c1.cell 3
        have LB : Hid ((((HDR ++ TT.flatMap tyb) ++ CC.flatten) ++ SS.flatten).length + DD.length ≤ 2199023255552) := by unfold Hid; have h1 := HB9.out; have h2 := HN.out; simp only [List.length_append]; omega
        go_wp2_with (at_builtin; refine wpList_appB (P := fun g => g < bw) rfl _ _ rfl bw M.out.le u5 (((HDR ++ TT.flatMap tyb) ++ CC.flatten) ++ SS.flatten) rfl M.out.row (.slice da nd dc) DD rfl (DT.out wr M.out.bel) LB.out ?_; intro v5 y5 hA)
        have Y5 := M.out.step hA
        go_ret2
        exact ⟨v5, rfl, by rw [← EF.out]; exact Y5.row, Y5.bel⟩
end Go.Proofs.Ytndhabhlajldeaa
