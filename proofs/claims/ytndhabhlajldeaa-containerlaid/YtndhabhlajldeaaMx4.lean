/- Package container: Serialize. -/
import Derived.Test.YtndhabhlajldeaaMx3
namespace Go.Proofs.Ytndhabhlajldeaa
open Go.RowKit
theorem owns_base {W : World} {B B' : Nat} {t : TypeId} {s n : Nat} {v : Value} {cs : List Value} (h : W.ownsRow B t s v n cs) (hB : B' ≤ B) : W.ownsRow B' t s v n cs := by
  obtain ⟨hl, h | ⟨g, c, cur, rfl, h1, h2⟩⟩ := h
  · exact ⟨hl, Or.inl h⟩
  · exact ⟨hl, Or.inr ⟨g, c, cur, rfl, Nat.le_trans hB h1, h2⟩⟩
theorem make0g (bw : Nat) (W : World) (hb : bw ≤ W.heap.size) (M : Nat) (hM : M ≤ 140737488355328) : ∃ W1 g0, Sem.run Try.prog (Instr.makeSlice 22 (.int .i64 0) (.int .i64 (M : Int))) W = .ok (.slice (some ⟨g0, 0, none⟩) 0 M) W1 ∧ W1.ownsRow bw 5 1 (.slice (some ⟨g0, 0, none⟩) 0 M) 0 (bV []) ∧ Below W.heap.size W W1 := by
  obtain ⟨W1, h1, h2, h3⟩ := make0 W M hM
  exact ⟨W1, _, h1, owns_base h2 hb, h3⟩
def serR (c : Con) : List Nat := if chk c = 0 then ser c else []
/-- a container's box, and a row that is written -/
structure HY (bw : Nat) (w V : World) (l1 : List Value) (v : Value) (l : List Nat) : Prop where
  bel : Below bw w V
  c1 : CBox V bw 28 l1
  row : V.ownsRow bw 5 1 v l.length (bV l)
  ge : bw ≤ w.heap.size
theorem HY.le {bw : Nat} {w V : World} {l1 : List Value} {v : Value} {l : List Nat} (h : HY bw w V l1 v l) : bw ≤ V.heap.size := Nat.le_trans h.ge h.bel.size
theorem HY.step {bw : Nat} {w V V' : World} {l1 : List Value} {v v' : Value} {l l' : List Nat} (h : HY bw w V l1 v l) (k : App bw 5 1 V V' v v' l'.length (bV l')) : HY bw w V' l1 v' l' := ⟨h.bel.trans (k.below h.row h.le), h.c1.app k h.row (by decide), k.row, h.ge⟩
theorem HY.not {bw : Nat} {w V : World} {l1 : List Value} {v : Value} {l : List Nat} (h : HY bw w V l1 v l) : ∀ g, g < bw → ¬ OwnV v g := fun g hg e => by have := (h.row.lt g e).1; omega
set_option maxHeartbeats 4000000 in
set_option maxRecDepth 100000 in
theorem serialize_is {P : Nat → Prop} (w : World) (v : Value) (c : Con) (h : CW P w v c) (hsm : Small c) : Calls Try.prog 35 #[v] w fun e w' => ∃ v', e = .returned (.tuple #[v', .int .i64 (chk c)]) ∧ w'.ownsRow w.heap.size 5 1 v' (serR c).length (bV (serR c)) ∧ Below w.heap.size w w' := by
  have h : CW (fun g => g < w.heap.size) w v c := h.mono (fun _ _ hg => hg)
  obtain ⟨tv, cv, sv, dv, rfl, hT, hC, hS, hD⟩ := id h
  obtain ⟨ta, tc, rfl, _⟩ := hT.len
  obtain ⟨ca, cc, rfl, _⟩ := hC.len
  obtain ⟨sa, sc, rfl, _⟩ := hS.len
  obtain ⟨da, dc, rfl, _, hd1⟩ := hD.len
  have CK : Hid (∀ W, Below w.heap.size w W → Calls Try.prog 38 #[.agg #[.slice ta c.ts.length tc, .slice ca c.cs.length cc, .slice sa c.ss.length sc, .slice da c.d.length dc, .int .i64 c.n]] W fun e w' => e = .returned (.tuple #[.int .i64 ((if chk c = 0 then (ser c).length else 0 : Nat) : Int), .int .i64 (chk c)]) ∧ Below W.heap.size W w') := fun W hW => size_is W _ c (h.past hW) hsm
  have B0 : Hid (Below w.heap.size w (w.alloc (.cells #[.slice ta c.ts.length tc, .slice ca c.cs.length cc, .slice sa c.ss.length sc, .slice da c.d.length dc, .int .i64 c.n] 28)) ∧ CBox (w.alloc (.cells #[.slice ta c.ts.length tc, .slice ca c.cs.length cc, .slice sa c.ss.length sc, .slice da c.d.length dc, .int .i64 c.n] 28)) w.heap.size 28 [.slice ta c.ts.length tc, .slice ca c.cs.length cc, .slice sa c.ss.length sc, .slice da c.d.length dc, .int .i64 c.n]) := ⟨below_alloc _ _, CBox.new _ _ [_, _, _, _, _]⟩
  by_cases ok : chk c = 0
  rotate_left
  · have E0 : Hid (serR c = []) := by unfold Hid serR; rw [if_neg ok]
    rw [E0.out]
    rw [if_neg ok] at CK
    have q2 : (chk c == 0) = false := by simpa using ok
    have q3 : (chk c != 0) = true := by simpa using ok
    clear hT hC hS hD hd1 E0 h hsm ok
    generalize chk c = r at *
    generalize c.ts.length = nt at *
    generalize c.cs.length = nc at *
    generalize c.ss.length = ns at *
    generalize c.d.length = nd at *
    generalize c.n = z at *
    generalize hbx : w.heap.size = bx at *
    have GE : Hid (bx ≤ w.heap.size) := by unfold Hid; omega
    go_enter Try.func35, Try.ntmps35
    go_upto_region 1 with fail
    generalize w.alloc _ = W0 at B0 ⊢
    have c0 : W0.cell? ⟨bx, 0, none⟩ = some (.slice ta nt tc) := B0.out.2.cell 0
    have c1 : W0.cell? ⟨bx, 1, none⟩ = some (.slice ca nc cc) := B0.out.2.cell 1
    have c2 : W0.cell? ⟨bx, 2, none⟩ = some (.slice sa ns sc) := B0.out.2.cell 2
    have c3 : W0.cell? ⟨bx, 3, none⟩ = some (.slice da nd dc) := B0.out.2.cell 3
    have c4 : W0.cell? ⟨bx, 4, none⟩ = some (.int .i64 z) := B0.out.2.cell 4
    clear hbx
    go_wp2_with (go_at_call 38; refine (CK.out _ B0.out.1).mono ?_; rintro e w1 ⟨rfl, hB⟩)
    go_ret2
    exact ⟨_, rfl, World.ownsRow_nil _ _ _ _, B0.out.1.trans (hB.mono (Nat.le_trans GE.out B0.out.1.size))⟩
  have my := chk_may ok
  obtain ⟨q, hq⟩ : ∃ q : Nat, c.n = (q : Int) := ⟨c.n.toNat, by have := my.z2; omega⟩
  have eq : c.n.toNat = q := by omega
  have qI : q ≤ 65535 := by have := my.z1; omega
  have n1e := lns_len c.cs
  have n2e := lns_len c.ss
  have SLn := ser_len my
  have SS := ser_small my hsm
  have HX := lns_lt hsm
  have l1 : (lns c.cs).length ≤ 16777216 ∧ (lns c.ss).length ≤ 16777216 := by have := my.n2; have := my.ns; omega
  rw [eq] at SLn
  have HOc : Hid (∀ W, Below w.heap.size w W → Calls Try.prog 74 #[.agg #[.slice ta c.ts.length tc, .slice ca c.cs.length cc, .slice sa c.ss.length sc, .slice da c.d.length dc, .int .i64 c.n]] W fun e w' => ∃ a1 a2, e = .returned (.agg #[.slice a1 (lns c.cs).length (lns c.cs).length, .slice a2 (lns c.ss).length (lns c.ss).length, .int .u64 (q : Int)]) ∧ UL w' (.slice a1 (lns c.cs).length (lns c.cs).length) (lns c.cs) ∧ UL w' (.slice a2 (lns c.ss).length (lns c.ss).length) (lns c.ss) ∧ Below W.heap.size W w') := fun W hW => (headerOf_is W _ c (h.past hW) (by have := my.z1; omega) (by have := my.n2; omega) (by have := my.ns; omega)).mono fun e w' ⟨u1, u2, h1, h2, h3, h4⟩ => by
    obtain ⟨a1, rfl⟩ := h2.len
    obtain ⟨a2, rfl⟩ := h3.len
    rw [eq] at h1
    exact ⟨a1, a2, h1, h2, h3, h4⟩
  have EF : Hid ((((hd (lns c.cs) (lns c.ss) q ++ c.ts.flatMap tyb) ++ c.cs.flatten) ++ c.ss.flatten) ++ c.d = serR c) := by unfold Hid serR; rw [if_pos ok, ser, eq]
  have LB : Hid ((((hd (lns c.cs) (lns c.ss) q ++ c.ts.flatMap tyb) ++ c.cs.flatten) ++ c.ss.flatten).length + c.d.length ≤ 2199023255552) := by
    unfold Hid
    have h9 := congrArg List.length EF.out
    rw [List.length_append, serR, if_pos ok] at h9
    omega
  have lbs : (hd (lns c.cs) (lns c.ss) q).length + (c.ts.flatMap tyb).length + c.cs.flatten.length + c.ss.flatten.length ≤ 67108864 := by
    have h9 := congrArg List.length EF.out
    simp only [List.length_append, serR, if_pos ok] at h9
    omega
  have WR : Hid (∀ W a1 a2, w.heap.size ≤ W.heap.size → UL W (.slice a1 (lns c.cs).length (lns c.cs).length) (lns c.cs) → UL W (.slice a2 (lns c.ss).length (lns c.ss).length) (lns c.ss) → ∀ g0, W.ownsRow w.heap.size 5 1 (.slice (some ⟨g0, 0, none⟩) 0 (ser c).length) 0 (bV []) → Calls Try.prog 75 #[.agg #[.slice a1 (lns c.cs).length (lns c.cs).length, .slice a2 (lns c.ss).length (lns c.ss).length, .int .u64 (q : Int)], .slice (some ⟨g0, 0, none⟩) 0 (ser c).length] W fun e w' => ∃ v', e = .returned v' ∧ App w.heap.size 5 1 W w' (.slice (some ⟨g0, 0, none⟩) 0 (ser c).length) v' (hd (lns c.cs) (lns c.ss) q).length (bV (hd (lns c.cs) (lns c.ss) q))) := fun W a1 a2 hW h1 h2 g0 hr => (write_is W w.heap.size hW _ [] hr _ _ _ _ q h1 h2 HX.1 HX.2 l1.1 l1.2 (by omega) (by simp)).mono fun e w' ⟨v', h3, h4⟩ => by
    rw [List.nil_append] at h4
    exact ⟨v', h3, h4⟩
  have TY : Hid (∀ W v1, HY w.heap.size w W (conV ta c.ts.length tc ca c.cs.length cc sa c.ss.length sc da c.d.length dc (q : Int)) v1 (hd (lns c.cs) (lns c.ss) q) → Calls Try.prog 76 #[v1, .slice ta c.ts.length tc] W fun e w' => ∃ v', e = .returned v' ∧ App w.heap.size 5 1 W w' v1 v' (hd (lns c.cs) (lns c.ss) q ++ c.ts.flatMap tyb).length (bV (hd (lns c.cs) (lns c.ss) q ++ c.ts.flatMap tyb))) := fun W v1 hY => writeTypes_is W w.heap.size hY.le v1 _ hY.row _ c.ts (hT.past hY.bel) hY.not (chkT_ok c.ts 0 my.ty) (by have := my.n2; have := my.nt; omega) (by omega)
  have CP : Hid (∀ W v1, HY w.heap.size w W (conV ta c.ts.length tc ca c.cs.length cc sa c.ss.length sc da c.d.length dc (q : Int)) v1 (hd (lns c.cs) (lns c.ss) q ++ c.ts.flatMap tyb) → Calls Try.prog 77 #[v1, .slice ca c.cs.length cc] W fun e w' => ∃ v', e = .returned v' ∧ App w.heap.size 5 1 W w' v1 v' ((hd (lns c.cs) (lns c.ss) q ++ c.ts.flatMap tyb) ++ c.cs.flatten).length (bV ((hd (lns c.cs) (lns c.ss) q ++ c.ts.flatMap tyb) ++ c.cs.flatten))) := fun W v1 hY => writePieces_is W w.heap.size hY.le v1 _ hY.row _ c.cs (hC.past hY.bel) hY.not (by rw [List.length_append]; omega)
  have SPp : Hid (∀ W v1, HY w.heap.size w W (conV ta c.ts.length tc ca c.cs.length cc sa c.ss.length sc da c.d.length dc (q : Int)) v1 ((hd (lns c.cs) (lns c.ss) q ++ c.ts.flatMap tyb) ++ c.cs.flatten) → Calls Try.prog 77 #[v1, .slice sa c.ss.length sc] W fun e w' => ∃ v', e = .returned v' ∧ App w.heap.size 5 1 W w' v1 v' (((hd (lns c.cs) (lns c.ss) q ++ c.ts.flatMap tyb) ++ c.cs.flatten) ++ c.ss.flatten).length (bV (((hd (lns c.cs) (lns c.ss) q ++ c.ts.flatMap tyb) ++ c.cs.flatten) ++ c.ss.flatten))) := fun W v1 hY => writePieces_is W w.heap.size hY.le v1 _ hY.row _ c.ss (hS.past hY.bel) hY.not (by rw [List.length_append, List.length_append]; omega)
  have DT : Hid (∀ W, Below w.heap.size w W → BL (fun g => g < w.heap.size) W (.slice da c.d.length dc) c.d) := fun W hW => hD.past hW
  have RM : Hid ((ser c).length ≤ 140737488355328) := by unfold Hid; omega
  rw [if_pos ok] at CK
  rw [ok, hq] at CK
  rw [ok, hq]
  rw [hq] at B0 HOc
  clear h my HX l1 hT hC hS hD n1e n2e hq eq ok hd1 hsm SLn SS lbs qI
  generalize hd (lns c.cs) (lns c.ss) q = HDR at *
  generalize (ser c).length = rr at *
  generalize (lns c.cs).length = n1 at *
  generalize (lns c.ss).length = n2 at *
  generalize lns c.cs = L1 at *
  generalize lns c.ss = L2 at *
  generalize c.ts.flatMap tyb = TYS at *
  generalize c.cs.flatten = CF at *
  generalize c.ss.flatten = SF at *
  generalize c.ts.length = nt at *
  generalize c.cs.length = nc at *
  generalize c.ss.length = ns at *
  generalize hnd : c.d.length = nd at *
  generalize c.d = DD at *
  subst hnd
  generalize hnd : DD.length = nd at *
  have LB2 : Hid ((((HDR ++ TYS) ++ CF) ++ SF).length + DD.length ≤ 2199023255552) := by unfold Hid; rw [hnd]; exact LB.out
  clear LB
  generalize hbw : w.heap.size = bw at *
  have GE : Hid (bw ≤ w.heap.size) := by unfold Hid; omega
  go_enter Try.func35, Try.ntmps35
  go_upto_region 1 with fail
  generalize w.alloc _ = W0 at B0 ⊢
  have c0 : W0.cell? ⟨bw, 0, none⟩ = some (.slice ta nt tc) := B0.out.2.cell 0
  have c1 : W0.cell? ⟨bw, 1, none⟩ = some (.slice ca nc cc) := B0.out.2.cell 1
  have c2 : W0.cell? ⟨bw, 2, none⟩ = some (.slice sa ns sc) := B0.out.2.cell 2
  have c3 : W0.cell? ⟨bw, 3, none⟩ = some (.slice da nd dc) := B0.out.2.cell 3
  have c4 : W0.cell? ⟨bw, 4, none⟩ = some (.int .i64 (q : Int)) := B0.out.2.cell 4
  clear hbw hnd
  go_upto_region 4 with (go_at_call 38; refine (CK.out _ B0.out.1).mono ?_; rintro e w1 ⟨rfl, hB⟩)
  have B1 : Hid (Below bw w w1 ∧ CBox w1 bw 28 (conV ta nt tc ca nc cc sa ns sc da nd dc (q : Int))) := ⟨B0.out.1.trans (hB.mono (Nat.le_trans GE.out B0.out.1.size)), B0.out.2.past hB⟩
  clear c0 c1 c2 c3 c4 hB B0
  refine wp_region_held_drew (S := fun V' => Below bw w V' ∧ CBox V' bw 28 (conV ta nt tc ca nc cc sa ns sc da nd dc (q : Int)) ∧ bw ≤ w.heap.size) (by kernel_rfl) (by exact ⟨B1.out.1.trans ((below_drew).mono (Nat.le_trans GE.out B1.out.1.size)), B1.out.2.past below_drew, GE.out⟩) (fun hHeld => ?_)
  generalize w1.drew = zz at hHeld ⊢
  refine wpAnyH_take (i := 0) (v := (.agg #[.slice ta nt tc, .slice ca nc cc, .slice sa ns sc, .slice da nd dc, .int .i64 (q : Int)])) ov0 (by kernel_rfl) (by kernel_rfl) (by kernel_rfl) (fun _ _ _ h => h) (Or.inl ⟨by rfl, fun V' hS => ?_⟩) hHeld ?_
  · have k0 : V'.cell? ⟨bw, 0, none⟩ = some (.slice ta nt tc) := hS.2.1.cell 0; have k1 : V'.cell? ⟨bw, 1, none⟩ = some (.slice ca nc cc) := hS.2.1.cell 1; have k2 : V'.cell? ⟨bw, 2, none⟩ = some (.slice sa ns sc) := hS.2.1.cell 2; have k3 : V'.cell? ⟨bw, 3, none⟩ = some (.slice da nd dc) := hS.2.1.cell 3; have k4 : V'.cell? ⟨bw, 4, none⟩ = some (.int .i64 (q : Int)) := hS.2.1.cell 4
    go_simp
  simp only [Act.put, List.setIfInBounds_toArray, List.set_cons_zero, List.set_cons_succ]
  refine wpAnyH_take (i := 2) (v := .int .i64 (rr : Int)) ov2 (by kernel_rfl) (by kernel_rfl) (by kernel_rfl) (fun _ _ _ h => h) (Or.inl ⟨by rfl, fun V' hS => ?_⟩) hHeld ?_
  · go_simp
  simp only [Act.put, List.setIfInBounds_toArray, List.set_cons_zero, List.set_cons_succ]
  refine wpAnyH_ready (rs := [1, 3]) (by kernel_rfl) (by simp) ?_
  refine AllReadyH.cons ov1 (fun K hK => ?_) (AllReadyH.cons ov3 (fun K hK => ?_) AllReadyH.nil)
  · rw [if_pos (by rfl)]
    go_simp
    refine (HOc.out _ hHeld.1).mono ?_
    rintro e zz ⟨a1, a2, rfl, hU1, hU2, hB⟩
    have hHeld : Below bw w zz ∧ CBox zz bw 28 (conV ta nt tc ca nc cc sa ns sc da nd dc (q : Int)) ∧ bw ≤ w.heap.size := ⟨hHeld.1.trans (hB.mono (Nat.le_trans hHeld.2.2 hHeld.1.size)), hHeld.2.1.past hB, hHeld.2.2⟩
    have HU : Hid (UL zz (.slice a1 n1 n1) L1 ∧ UL zz (.slice a2 n2 n2) L2) := ⟨hU1, hU2⟩
    (try have HR : Hid (zz.ownsRow bw 5 1 (.slice (some ⟨g0, 0, none⟩) 0 rr) 0 (bV [])) := owns_past HR.out hB)
    clear hU1 hU2 hB
    (try go_wp2_with fail)
    refine hK.out _ _ hHeld (fun _ => ?_)
    clear hK K
    (try simp only [Act.put, List.setIfInBounds_toArray, List.set_cons_zero, List.set_cons_succ])
    refine wpAnyH_ready (rs := [3]) (by kernel_rfl) (by simp) ?_
    refine AllReadyH.cons ov3 (fun K hK => ?_) AllReadyH.nil
    rw [if_pos (by rfl)]
    obtain ⟨zm, g0, hmk, hrow, hBm⟩ := make0g bw zz (Nat.le_trans hHeld.2.2 hHeld.1.size) rr RM.out
    go_simp
    (try have HU : Hid (UL zm (.slice a1 n1 n1) L1 ∧ UL zm (.slice a2 n2 n2) L2) := ⟨HU.out.1.past hBm, HU.out.2.past hBm⟩)
    have HR : Hid (zm.ownsRow bw 5 1 (.slice (some ⟨g0, 0, none⟩) 0 rr) 0 (bV [])) := hrow
    have hHeld : Below bw w zm ∧ CBox zm bw 28 (conV ta nt tc ca nc cc sa ns sc da nd dc (q : Int)) ∧ bw ≤ w.heap.size := ⟨hHeld.1.trans (hBm.mono (Nat.le_trans hHeld.2.2 hHeld.1.size)), hHeld.2.1.past hBm, hHeld.2.2⟩
    refine hK.out _ zm hHeld (fun _ => ?_)
    clear hK K
    (try simp only [Act.put, List.setIfInBounds_toArray, List.set_cons_zero, List.set_cons_succ])
    clear hmk hrow hBm
    refine wpAnyH_ready (rs := [4]) (by kernel_rfl) (by simp) ?_
    refine AllReadyH.cons ov4 (fun K hK => ?_) AllReadyH.nil
    rw [if_pos (by rfl)]
    go_simp
    refine (WR.out _ a1 a2 (Nat.le_trans hHeld.2.2 hHeld.1.size) HU.out.1 HU.out.2 g0 HR.out).mono ?_
    rintro e zz ⟨v1, rfl, hA⟩
    have Y1 : Hid (HY bw w zz (conV ta nt tc ca nc cc sa ns sc da nd dc (q : Int)) v1 HDR) := HY.step ⟨hHeld.1, hHeld.2.1, HR.out, hHeld.2.2⟩ hA
    have hHeld : Below bw w zz ∧ CBox zz bw 28 (conV ta nt tc ca nc cc sa ns sc da nd dc (q : Int)) ∧ bw ≤ w.heap.size := ⟨Y1.out.bel, Y1.out.c1, Y1.out.ge⟩
    clear hA
    (try go_wp2_with fail)
    refine hK.out _ _ hHeld (fun _ => ?_)
    clear hK K
    (try simp only [Act.put, List.setIfInBounds_toArray, List.set_cons_zero, List.set_cons_succ])
    refine wpAnyH_take (i := 5) (v := v1) ov5 (by kernel_rfl) (by kernel_rfl) (by kernel_rfl) (fun _ _ _ h => h) (Or.inl ⟨by rfl, fun V' hS => ?_⟩) hHeld ?_
    · go_simp
    simp only [Act.put, List.setIfInBounds_toArray, List.set_cons_zero, List.set_cons_succ]
    refine wpAnyH_done (by kernel_rfl) ?_ _
    clear hHeld
    go_upto_region 5 with fail
    have TYP := TY.out zz v1 Y1.out
    have k0 : zz.cell? ⟨bw, 0, none⟩ = some (.slice ta nt tc) := Y1.out.c1.cell 0
    go_upto_region 6 with (go_at_call 76; refine TYP.mono ?_; rintro e y2 ⟨v2, rfl, hA⟩)
    have Y2 : Hid (HY bw w y2 (conV ta nt tc ca nc cc sa ns sc da nd dc (q : Int)) v2 (HDR ++ TYS)) := Y1.out.step hA
    clear hA k0 Y1 TYP
    have k1 : y2.cell? ⟨bw, 1, none⟩ = some (.slice ca nc cc) := Y2.out.c1.cell 1
    have CPc := CP.out y2 v2 Y2.out
    go_upto_region 7 with (go_at_call 77; refine CPc.mono ?_; rintro e y3 ⟨v3, rfl, hA⟩)
    have Y3 : Hid (HY bw w y3 (conV ta nt tc ca nc cc sa ns sc da nd dc (q : Int)) v3 ((HDR ++ TYS) ++ CF)) := Y2.out.step hA
    clear hA k1 Y2 CPc
    have k2 : y3.cell? ⟨bw, 2, none⟩ = some (.slice sa ns sc) := Y3.out.c1.cell 2
    have SPc := SPp.out y3 v3 Y3.out
    go_upto_region 8 with (go_at_call 77; refine SPc.mono ?_; rintro e y4 ⟨v4, rfl, hA⟩)
    have Y4 : Hid (HY bw w y4 (conV ta nt tc ca nc cc sa ns sc da nd dc (q : Int)) v4 (((HDR ++ TYS) ++ CF) ++ SF)) := Y3.out.step hA
    clear hA k2 Y3 SPc
    have k3 : y4.cell? ⟨bw, 3, none⟩ = some (.slice da nd dc) := Y4.out.c1.cell 3
    go_wp2_with (at_builtin; refine wpList_appB (P := fun g => g < bw) rfl _ _ rfl bw Y4.out.le v4 (((HDR ++ TYS) ++ CF) ++ SF) rfl Y4.out.row (.slice da nd dc) DD rfl (DT.out y4 Y4.out.bel) LB2.out ?_; intro v5 y5 hA)
    have Y5 := Y4.out.step hA
    go_ret2
    exact ⟨v5, rfl, by rw [← EF.out]; exact Y5.row, Y5.bel⟩
  · rw [if_pos (by rfl)]
    obtain ⟨zm, g0, hmk, hrow, hBm⟩ := make0g bw zz (Nat.le_trans hHeld.2.2 hHeld.1.size) rr RM.out
    go_simp
    (try have HU : Hid (UL zm (.slice a1 n1 n1) L1 ∧ UL zm (.slice a2 n2 n2) L2) := ⟨HU.out.1.past hBm, HU.out.2.past hBm⟩)
    have HR : Hid (zm.ownsRow bw 5 1 (.slice (some ⟨g0, 0, none⟩) 0 rr) 0 (bV [])) := hrow
    have hHeld : Below bw w zm ∧ CBox zm bw 28 (conV ta nt tc ca nc cc sa ns sc da nd dc (q : Int)) ∧ bw ≤ w.heap.size := ⟨hHeld.1.trans (hBm.mono (Nat.le_trans hHeld.2.2 hHeld.1.size)), hHeld.2.1.past hBm, hHeld.2.2⟩
    refine hK.out _ zm hHeld (fun _ => ?_)
    clear hK K
    (try simp only [Act.put, List.setIfInBounds_toArray, List.set_cons_zero, List.set_cons_succ])
    clear hmk hrow hBm
    refine wpAnyH_ready (rs := [1]) (by kernel_rfl) (by simp) ?_
    refine AllReadyH.cons ov1 (fun K hK => ?_) AllReadyH.nil
    rw [if_pos (by rfl)]
    go_simp
    refine (HOc.out _ hHeld.1).mono ?_
    rintro e zz ⟨a1, a2, rfl, hU1, hU2, hB⟩
    have hHeld : Below bw w zz ∧ CBox zz bw 28 (conV ta nt tc ca nc cc sa ns sc da nd dc (q : Int)) ∧ bw ≤ w.heap.size := ⟨hHeld.1.trans (hB.mono (Nat.le_trans hHeld.2.2 hHeld.1.size)), hHeld.2.1.past hB, hHeld.2.2⟩
    have HU : Hid (UL zz (.slice a1 n1 n1) L1 ∧ UL zz (.slice a2 n2 n2) L2) := ⟨hU1, hU2⟩
    (try have HR : Hid (zz.ownsRow bw 5 1 (.slice (some ⟨g0, 0, none⟩) 0 rr) 0 (bV [])) := owns_past HR.out hB)
    clear hU1 hU2 hB
    (try go_wp2_with fail)
    refine hK.out _ _ hHeld (fun _ => ?_)
    clear hK K
    (try simp only [Act.put, List.setIfInBounds_toArray, List.set_cons_zero, List.set_cons_succ])
    refine wpAnyH_ready (rs := [4]) (by kernel_rfl) (by simp) ?_
    refine AllReadyH.cons ov4 (fun K hK => ?_) AllReadyH.nil
    rw [if_pos (by rfl)]
    go_simp
    refine (WR.out _ a1 a2 (Nat.le_trans hHeld.2.2 hHeld.1.size) HU.out.1 HU.out.2 g0 HR.out).mono ?_
    rintro e zz ⟨v1, rfl, hA⟩
    have Y1 : Hid (HY bw w zz (conV ta nt tc ca nc cc sa ns sc da nd dc (q : Int)) v1 HDR) := HY.step ⟨hHeld.1, hHeld.2.1, HR.out, hHeld.2.2⟩ hA
    have hHeld : Below bw w zz ∧ CBox zz bw 28 (conV ta nt tc ca nc cc sa ns sc da nd dc (q : Int)) ∧ bw ≤ w.heap.size := ⟨Y1.out.bel, Y1.out.c1, Y1.out.ge⟩
    clear hA
    (try go_wp2_with fail)
    refine hK.out _ _ hHeld (fun _ => ?_)
    clear hK K
    (try simp only [Act.put, List.setIfInBounds_toArray, List.set_cons_zero, List.set_cons_succ])
    refine wpAnyH_take (i := 5) (v := v1) ov5 (by kernel_rfl) (by kernel_rfl) (by kernel_rfl) (fun _ _ _ h => h) (Or.inl ⟨by rfl, fun V' hS => ?_⟩) hHeld ?_
    · go_simp
    simp only [Act.put, List.setIfInBounds_toArray, List.set_cons_zero, List.set_cons_succ]
    refine wpAnyH_done (by kernel_rfl) ?_ _
    clear hHeld
    go_upto_region 5 with fail
    have TYP := TY.out zz v1 Y1.out
    have k0 : zz.cell? ⟨bw, 0, none⟩ = some (.slice ta nt tc) := Y1.out.c1.cell 0
    go_upto_region 6 with (go_at_call 76; refine TYP.mono ?_; rintro e y2 ⟨v2, rfl, hA⟩)
    have Y2 : Hid (HY bw w y2 (conV ta nt tc ca nc cc sa ns sc da nd dc (q : Int)) v2 (HDR ++ TYS)) := Y1.out.step hA
    clear hA k0 Y1 TYP
    have k1 : y2.cell? ⟨bw, 1, none⟩ = some (.slice ca nc cc) := Y2.out.c1.cell 1
    have CPc := CP.out y2 v2 Y2.out
    go_upto_region 7 with (go_at_call 77; refine CPc.mono ?_; rintro e y3 ⟨v3, rfl, hA⟩)
    have Y3 : Hid (HY bw w y3 (conV ta nt tc ca nc cc sa ns sc da nd dc (q : Int)) v3 ((HDR ++ TYS) ++ CF)) := Y2.out.step hA
    clear hA k1 Y2 CPc
    have k2 : y3.cell? ⟨bw, 2, none⟩ = some (.slice sa ns sc) := Y3.out.c1.cell 2
    have SPc := SPp.out y3 v3 Y3.out
    go_upto_region 8 with (go_at_call 77; refine SPc.mono ?_; rintro e y4 ⟨v4, rfl, hA⟩)
    have Y4 : Hid (HY bw w y4 (conV ta nt tc ca nc cc sa ns sc da nd dc (q : Int)) v4 (((HDR ++ TYS) ++ CF) ++ SF)) := Y3.out.step hA
    clear hA k2 Y3 SPc
    have k3 : y4.cell? ⟨bw, 3, none⟩ = some (.slice da nd dc) := Y4.out.c1.cell 3
    go_wp2_with (at_builtin; refine wpList_appB (P := fun g => g < bw) rfl _ _ rfl bw Y4.out.le v4 (((HDR ++ TYS) ++ CF) ++ SF) rfl Y4.out.row (.slice da nd dc) DD rfl (DT.out y4 Y4.out.bel) LB2.out ?_; intro v5 y5 hA)
    have Y5 := Y4.out.step hA
    go_ret2
    exact ⟨v5, rfl, by rw [← EF.out]; exact Y5.row, Y5.bel⟩
end Go.Proofs.Ytndhabhlajldeaa
/- The document's containers: Serialize, Size. -/
namespace Go.Proofs.Ytndhabhlajldeaa
open Go.RowKit
end Go.Proofs.Ytndhabhlajldeaa
/- The document's way through a header: a list of fields that grows; it comes to what hdr says. -/
namespace Go.Proofs.Ytndhabhlajldeaa
/-- where the document stands -/
structure HS where
  types : Nat
  k : Nat
  codes : List Nat
  subs : List Nat
  size : Nat
end Go.Proofs.Ytndhabhlajldeaa
/- The document's containers: unless, wrong. -/
namespace Go.Proofs.Ytndhabhlajldeaa
open Go.RowKit
end Go.Proofs.Ytndhabhlajldeaa
/- The document's containers: more: a list of fields that grows. -/
namespace Go.Proofs.Ytndhabhlajldeaa
open Go.RowKit
/-- fields as cells -/
def fV (l : List (Nat × Nat)) : List Value := l.flatMap fun p => [.int .i64 (p.1 : Int), .int .i64 (p.2 : Int)]
theorem fV_get : ∀ (l : List (Nat × Nat)) (i : Nat) (p : Nat × Nat), l[i]? = some p → (fV l)[i * 2]? = some (.int .i64 (p.1 : Int)) ∧ (fV l)[i * 2 + 1]? = some (.int .i64 (p.2 : Int))
  | [], i, p, h => by simp at h
  | q :: l, 0, p, h => by
    simp at h
    subst h
    exact ⟨rfl, rfl⟩
  | q :: l, i + 1, p, h => by
    obtain ⟨h1, h2⟩ := fV_get l i p (by simpa using h)
    show ([Value.int .i64 (q.1 : Int), .int .i64 (q.2 : Int)] ++ fV l)[(i + 1) * 2]? = _ ∧ ([Value.int .i64 (q.1 : Int), .int .i64 (q.2 : Int)] ++ fV l)[(i + 1) * 2 + 1]? = _
    rw [List.getElem?_append_right (by simp; omega), List.getElem?_append_right (by simp; omega)]
    exact ⟨by rw [show (i + 1) * 2 - [Value.int .i64 (q.1 : Int), .int .i64 (q.2 : Int)].length = i * 2 by simp; omega]; exact h1, by rw [show (i + 1) * 2 + 1 - [Value.int .i64 (q.1 : Int), .int .i64 (q.2 : Int)].length = i * 2 + 1 by simp; omega]; exact h2⟩
/-- a list of fields of one's own -/
def FO (B : Nat) (W : World) (v : Value) (l : List (Nat × Nat)) : Prop := W.ownsRow B 123 2 v l.length (fV l)
theorem FO.past {B : Nat} {W W' : World} {v : Value} {l : List (Nat × Nat)} (h : FO B W v l) (k : Below W.heap.size W W') : FO B W' v l := owns_past h k
end Go.Proofs.Ytndhabhlajldeaa
/- What is written is read as what it was; what is read is written as it was. -/
namespace Go.Proofs.Ytndhabhlajldeaa
theorem drop_more {b l r : List Nat} {k : Nat} (h : b.drop k = l ++ r) (hl : 0 < l.length) : k + l.length ≤ b.length ∧ b.drop (k + l.length) = r := by
  have e := congrArg List.length h
  rw [List.length_drop, List.length_append] at e
  refine ⟨by omega, ?_⟩
  rw [← List.drop_drop, h, List.drop_left]
theorem fld_at {b r : List Nat} {k w n why : Nat} {p : Nat → Bool} (h : b.drop k = dig w n ++ r) (hw : 0 < w) (hn : n < 256 ^ w) (hp : p n = true) : fld b k w why p = .ok n ∧ b.drop (k + w) = r := by
  obtain ⟨h1, h2⟩ := drop_more h (by rw [dig_len]; exact hw)
  rw [dig_len] at h1 h2
  have e : rd b k w = n := by
    unfold rd
    rw [h, List.take_left' (dig_len w n), num_dig, Nat.mod_eq_of_lt hn]
  refine ⟨?_, h2⟩
  unfold fld
  rw [if_neg (by omega), e, if_pos hp]
theorem lens_at {b : List Nat} {w : Nat} (hw : 0 < w) : ∀ (l : List Nat) (k : Nat) (r : List Nat), b.drop k = l.flatMap (dig w) ++ r → (∀ x ∈ l, 0 < x ∧ x < 256 ^ w) → lens b w k l.length = .ok l ∧ b.drop (k + w * l.length) = r
  | [], k, r, h, _ => ⟨rfl, by simpa using h⟩
  | x :: l, k, r, h, hl => by
    rw [List.flatMap_cons, List.append_assoc] at h
    obtain ⟨h1, h2⟩ := fld_at (why := 56) (p := fun n => decide (0 < n)) h hw (hl x (List.mem_cons_self ..)).2 (by simpa using (hl x (List.mem_cons_self ..)).1)
    obtain ⟨h3, h4⟩ := lens_at hw l (k + w) r h2 (fun y hy => hl y (List.mem_cons_of_mem _ hy))
    refine ⟨?_, ?_⟩
    · rw [List.length_cons, lens, h1]
      show (lens b w (k + w) l.length).bind _ = _
      rw [h3]
      rfl
    · rw [List.length_cons, Nat.mul_succ, show k + (w * l.length + w) = k + w + w * l.length by omega]
      exact h4
theorem cuts_at {b : List Nat} : ∀ (l : List (List Nat)) (k : Nat) (r : List Nat), b.drop k = l.flatten ++ r → cuts b k (lns l) = l ∧ b.drop (k + sumL (lns l)) = r
  | [], k, r, h => ⟨rfl, by simpa [lns, sumL] using h⟩
  | x :: l, k, r, h => by
    rw [List.flatten_cons, List.append_assoc] at h
    have h2 : b.drop (k + x.length) = l.flatten ++ r := by rw [← List.drop_drop, h, List.drop_left]
    obtain ⟨h3, h4⟩ := cuts_at l (k + x.length) r h2
    refine ⟨?_, ?_⟩
    · show (b.drop k).take x.length :: cuts b (k + x.length) (lns l) = _
      rw [h3, h, List.take_left]
    · show b.drop (k + sumL (x.length :: lns l)) = r
      rw [sumL_cons, ← Nat.add_assoc]
      exact h4
theorem ty_parts {i : Nat} {t : Ty} (h : ¬ tyBad i t < 3) : okIn i t.1 = true ∧ okOut i t.2.1 = true ∧ okMost t.2.2 = true := by
  have h0 : okIn i t.1 = true := by
    cases e : okIn i t.1
    · exact absurd (by unfold tyBad; rw [if_pos e]; omega) h
    · rfl
  have h1 : okOut i t.2.1 = true := by
    cases e : okOut i t.2.1
    · exact absurd (by unfold tyBad; rw [if_neg (by rw [h0]; decide), if_pos e]; omega) h
    · rfl
  refine ⟨h0, h1, ?_⟩
  cases e : okMost t.2.2
  · exact absurd (by unfold tyBad; rw [if_neg (by rw [h0]; decide), if_neg (by rw [h1]; decide), if_pos e]; omega) h
  · rfl
theorem ok_in {i : Nat} {x : Int} (h : okIn i x = true) : 0 ≤ x ∧ x < 256 := by
  unfold okIn at h
  simp at h
  omega
theorem ok_out {i : Nat} {x : Int} (h : okOut i x = true) : 0 ≤ x ∧ x < 256 := by
  unfold okOut at h
  simp at h
  omega
theorem ok_most {x : Int} (h : okMost x = true) : 0 ≤ x ∧ x < 65536 := by
  unfold okMost at h
  simp at h
  omega
theorem tyAt_at {b r : List Nat} {k i : Nat} {t : Ty} (h : b.drop k = tyb t ++ r) (ht : ¬ tyBad i t < 3) : tyAt b k i = .ok t ∧ b.drop (k + 4) = r := by
  obtain ⟨p0, p1, p2⟩ := ty_parts ht
  obtain ⟨x, y, z⟩ := t
  have q0 := ok_in p0
  have q1 := ok_out p1
  have q2 := ok_most p2
  simp only at p0 p1 p2 q0 q1 q2
  unfold tyb at h
  rw [List.append_assoc, List.append_assoc] at h
  obtain ⟨h1, h2⟩ := fld_at (why := 59) (p := fun n => okIn i n) h (by omega) (by simp only; omega) (by simp only; rw [Int.toNat_of_nonneg q0.1]; exact p0)
  obtain ⟨h3, h4⟩ := fld_at (why := 59) (p := fun n => okOut i n) h2 (by omega) (by simp only; omega) (by simp only; rw [Int.toNat_of_nonneg q1.1]; exact p1)
  obtain ⟨h5, h6⟩ := fld_at (why := 59) (p := fun n => okMost n) h4 (by omega) (by simp only; omega) (by simp only; rw [Int.toNat_of_nonneg q2.1]; exact p2)
  refine ⟨?_, by simpa [Nat.add_assoc] using h6⟩
  unfold tyAt
  rw [h1]
  show (fld b (k + 1) 1 59 _).bind _ = _
  rw [h3]
  show (fld b (k + 2) 2 59 _).bind _ = _
  rw [show k + 2 = k + 1 + 1 by omega, h5]
  show Except.ok _ = _
  simp only
  rw [Int.toNat_of_nonneg q0.1, Int.toNat_of_nonneg q1.1, Int.toNat_of_nonneg q2.1]
theorem tys_at {b : List Nat} : ∀ (l : List Ty) (k i : Nat) (r : List Nat), b.drop k = l.flatMap tyb ++ r → chkT i l = 0 → tys b k i l.length = .ok l ∧ b.drop (k + 4 * l.length) = r
  | [], k, i, r, h, _ => ⟨rfl, by simpa using h⟩
  | t :: l, k, i, r, h, hc => by
    rw [List.flatMap_cons, List.append_assoc] at h
    unfold chkT at hc
    split at hc
    · exact absurd hc (by decide)
    rename_i ht
    obtain ⟨h1, h2⟩ := tyAt_at h ht
    obtain ⟨h3, h4⟩ := tys_at l (k + 4) (i + 1) r h2 hc
    refine ⟨?_, ?_⟩
    · rw [List.length_cons, tys, h1]
      show (tys b (k + 4) (i + 1) l.length).bind _ = _
      rw [h3]
      rfl
    · rw [List.length_cons, Nat.mul_succ, show k + (4 * l.length + 4) = k + 4 + 4 * l.length by omega]
      exact h4
/-- a header that is written is read -/
theorem hdEnd_at {b r cs ss : List Nat} {k n : Nat} (h : b.drop k = dig 2 n ++ (dig 1 0 ++ r)) (hn : n < 65536) : hdEnd b k cs ss = .ok ⟨cs, ss, n, k + 3⟩ ∧ b.drop (k + 3) = r := by
  obtain ⟨h1, h2⟩ := fld_at (why := 0) (p := fun _ => true) h (by omega) (by omega) rfl
  obtain ⟨h3, h4⟩ := fld_at (why := 53) (p := fun n => n == 0) h2 (by omega) (by omega) rfl
  refine ⟨?_, h4⟩
  unfold hdEnd
  rw [h1]
  show (fld b (k + 2) 1 53 _).bind _ = _
  rw [h3]
  rfl
theorem hdSubs_at {b r cs ss : List Nat} {k n : Nat} (h : b.drop k = dig 2 ss.length ++ (ss.flatMap (dig 4) ++ (dig 1 255 ++ (dig 2 n ++ (dig 1 0 ++ r))))) (hn : n < 65536) (h0 : 0 < ss.length) (h1 : ss.length ≤ 256) (hs : ∀ x ∈ ss, 0 < x ∧ x < 256 ^ 4) : hdSubs b k cs = .ok ⟨cs, ss, n, k + 2 + 4 * ss.length + 1 + 3⟩ ∧ b.drop (k + 2 + 4 * ss.length + 1 + 3) = r := by
  obtain ⟨a1, a2⟩ := fld_at (why := 57) (p := pS) h (by omega) (by omega) (by unfold pS; simp; omega)
  obtain ⟨a3, a4⟩ := lens_at (by omega) ss (k + 2) _ a2 hs
  obtain ⟨a5, a6⟩ := fld_at (why := 53) (p := fun n => n == 255) a4 (by omega) (by omega) rfl
  obtain ⟨a7, a8⟩ := hdEnd_at (cs := cs) (ss := ss) a6 hn
  refine ⟨?_, a8⟩
  unfold hdSubs
  rw [a1]
  show (lens b 4 (k + 2) ss.length).bind _ = _
  rw [a3]
  show (fld b _ 1 53 _).bind _ = _
  rw [a5]
  exact a7
theorem hdr_at {r cs ss : List Nat} {n : Nat} (hn : n < 65536) (c0 : 0 < cs.length) (c1 : cs.length ≤ 1024) (hc : ∀ x ∈ cs, 0 < x ∧ x < 256 ^ 2) (s1 : ss.length ≤ 256) (hs : ∀ x ∈ ss, 0 < x ∧ x < 256 ^ 4) : hdr (hd cs ss n ++ r) = .ok ⟨cs, ss, n, (hd cs ss n).length⟩ := by
  generalize hb : hd cs ss n ++ r = b
  have h0 : b.drop 0 = dig 1 239 ++ (dig 1 0 ++ (dig 1 1 ++ (dig 1 1 ++ (dig 2 (4 * cs.length) ++ (dig 1 2 ++ (dig 2 cs.length ++ (cs.flatMap (dig 2) ++ ((if ss.length = 0 then [] else [3] ++ dig 2 ss.length ++ ss.flatMap (dig 4)) ++ (dig 1 255 ++ (dig 2 n ++ (dig 1 0 ++ r))))))))))) := by
    rw [← hb, List.drop_zero]
    simp [hd, dig]
  obtain ⟨a1, b1⟩ := fld_at (why := 51) (p := fun n => n == 239) h0 (by omega) (by omega) rfl
  obtain ⟨a2, b2⟩ := fld_at (why := 51) (p := fun n => n == 0) b1 (by omega) (by omega) rfl
  obtain ⟨a3, b3⟩ := fld_at (why := 52) (p := fun n => n == 1) b2 (by omega) (by omega) rfl
  obtain ⟨a4, b4⟩ := fld_at (why := 53) (p := fun n => n == 1) b3 (by omega) (by omega) rfl
  obtain ⟨a5, b5⟩ := fld_at (why := 54) (p := pT) b4 (by omega) (by omega) (by unfold pT; simp; omega)
  obtain ⟨a6, b6⟩ := fld_at (why := 53) (p := fun n => n == 2) b5 (by omega) (by omega) rfl
  obtain ⟨a7, b7⟩ := fld_at (why := 55) (p := fun m => m == 4 * cs.length / 4) b6 (by omega) (by omega) (by simp)
  obtain ⟨a8, b8⟩ := lens_at (by omega) cs _ _ b7 hc
  have key : hdKind b (9 + 2 * cs.length) cs = .ok ⟨cs, ss, n, (hd cs ss n).length⟩ := by
    rw [hd_len]
    unfold hdKind
    have b8' : b.drop (9 + 2 * cs.length) = _ := b8
    by_cases e : ss.length = 0
    · rw [if_pos e, List.nil_append] at b8'
      have e' : ss = [] := List.eq_nil_of_length_eq_zero e
      obtain ⟨a9, b9⟩ := fld_at (why := 53) (p := pK) b8' (by omega) (by omega) rfl
      obtain ⟨a10, _⟩ := hdEnd_at (cs := cs) (ss := []) b9 hn
      rw [a9]
      show (if (255 : Nat) = 3 then hdSubs b (9 + 2 * cs.length + 1) cs else hdEnd b (9 + 2 * cs.length + 1) cs []) = _
      rw [if_neg (by omega), a10, if_pos e, e']
      simp only [Except.ok.injEq, Hd.mk.injEq, true_and]
      omega
    · rw [if_neg e] at b8'
      rw [List.append_assoc, List.append_assoc] at b8'
      obtain ⟨a9, b9⟩ := fld_at (n := 3) (w := 1) (why := 53) (p := pK) b8' (by omega) (by omega) rfl
      obtain ⟨a10, _⟩ := hdSubs_at (cs := cs) b9 hn (by omega) s1 hs
      rw [a9]
      show (if (3 : Nat) = 3 then hdSubs b (9 + 2 * cs.length + 1) cs else hdEnd b (9 + 2 * cs.length + 1) cs []) = _
      rw [if_pos rfl, a10, if_neg e]
      simp only [Except.ok.injEq, Hd.mk.injEq, true_and]
      omega
  unfold hdr
  rw [a1]
  show (fld b 1 1 51 _).bind _ = _
  have a2' : fld b 1 1 51 (fun n => n == 0) = .ok 0 := a2
  rw [a2']
  show (fld b 2 1 52 _).bind _ = _
  have a3' : fld b 2 1 52 (fun n => n == 1) = .ok 1 := a3
  rw [a3']
  show (fld b 3 1 53 _).bind _ = _
  have a4' : fld b 3 1 53 (fun n => n == 1) = .ok 1 := a4
  rw [a4']
  show (fld b 4 2 54 _).bind _ = _
  have a5' : fld b 4 2 54 pT = .ok (4 * cs.length) := a5
  rw [a5']
  show (fld b 6 1 53 _).bind _ = _
  have a6' : fld b 6 1 53 (fun n => n == 2) = .ok 2 := a6
  rw [a6']
  show (fld b 7 2 55 _).bind _ = _
  have a7' : fld b 7 2 55 (fun m => m == 4 * cs.length / 4) = .ok cs.length := a7
  rw [a7']
  show (lens b 2 9 cs.length).bind _ = _
  have a8' : lens b 2 9 cs.length = .ok cs := a8
  rw [a8']
  exact key
theorem lns_pos {m : Nat} {l : List (List Nat)} (h : chkP m l = 0) : ∀ x ∈ lns l, 0 < x ∧ x < m + 1 := by
  intro x hx
  obtain ⟨y, hy, rfl⟩ := List.mem_map.1 hx
  have := chkP_ok m l h y hy
  omega
/-- 5.5: what is written is read as what it was -/
theorem prs_ser {c : Con} (h : May c) (opn : Bool) (ho : opn = false → (c.d.length : Int) = c.n) : prs (ser c) opn = .ok c := by
  have z1 := h.z1
  have z2 := h.z2
  have e1 : ser c = hd (lns c.cs) (lns c.ss) c.n.toNat ++ (c.ts.flatMap tyb ++ (c.cs.flatten ++ (c.ss.flatten ++ c.d))) := by
    unfold ser
    simp only [List.append_assoc]
  have e2 := hdr_at (r := c.ts.flatMap tyb ++ (c.cs.flatten ++ (c.ss.flatten ++ c.d))) (n := c.n.toNat) (cs := lns c.cs) (ss := lns c.ss) (by omega) (by rw [lns_len]; exact h.n1) (by rw [lns_len]; exact h.n2) (lns_pos h.pc) (by rw [lns_len]; exact h.ns) (lns_pos h.ps)
  rw [← e1] at e2
  have d0 : (ser c).drop (hd (lns c.cs) (lns c.ss) c.n.toNat).length = c.ts.flatMap tyb ++ (c.cs.flatten ++ (c.ss.flatten ++ c.d)) := by rw [e1, List.drop_left]
  obtain ⟨t1, d1⟩ := tys_at c.ts _ 0 _ d0 h.ty
  obtain ⟨t2, d2⟩ := cuts_at c.cs _ _ d1
  obtain ⟨t3, d3⟩ := cuts_at c.ss _ _ d2
  have hl := ser_len h
  unfold prs
  rw [e2]
  simp only [Except.bind]
  rw [h.nt] at t1 t2 t3 d3
  rw [lns_len] at hl ⊢
  rw [if_neg (by
    split
    · omega
    · rename_i e
      have := ho (by simpa using e)
      omega), if_neg (by omega), t1]
  simp only
  rw [t2, t3, d3, Int.toNat_of_nonneg (by omega)]
end Go.Proofs.Ytndhabhlajldeaa
/- What Parse takes is a container that may be, and its bytes are those that were read. -/
namespace Go.Proofs.Ytndhabhlajldeaa
theorem bind_ok {α β : Type} {x : Except Er α} {f : α → Except Er β} {y : β} (h : x.bind f = .ok y) : ∃ a, x = .ok a ∧ f a = .ok y := by
  cases x with
  | error e => cases h
  | ok a => exact ⟨a, rfl, h⟩
theorem byt_drop {b : List Nat} (h : Byt b) (k : Nat) : Byt (b.drop k) := fun x hx => h x (List.mem_of_mem_drop hx)
theorem byt_take {b : List Nat} (h : Byt b) (k : Nat) : Byt (b.take k) := fun x hx => h x (List.mem_of_mem_take hx)
theorem fld_was {b : List Nat} {k w n why : Nat} {p : Nat → Bool} (hb : Byt b) (h : fld b k w why p = .ok n) : b.drop k = dig w n ++ b.drop (k + w) ∧ n < 256 ^ w ∧ p n = true ∧ k + w ≤ b.length := by
  unfold fld at h
  split at h
  · cases h
  rename_i h1
  split at h
  · rename_i h2
    injection h with h
    have hl : ((b.drop k).take w).length = w := by rw [List.length_take, List.length_drop]; omega
    have hy : Byt ((b.drop k).take w) := byt_take (byt_drop hb k) w
    have h3 := num_lt _ hy
    rw [hl] at h3
    have h4 := dig_num w _ hl hy
    unfold rd at h h2
    rw [h] at h2 h3 h4
    refine ⟨?_, h3, h2, by omega⟩
    rw [h4, ← List.drop_drop, List.take_append_drop]
  · cases h
theorem lens_ok {b : List Nat} {w : Nat} (hb : Byt b) : ∀ (m k : Nat) (l : List Nat), lens b w k m = .ok l → l.length = m ∧ b.drop k = l.flatMap (dig w) ++ b.drop (k + w * m) ∧ ∀ x ∈ l, 0 < x ∧ x < 256 ^ w
  | 0, k, l, h => by
    injection h with h
    subst h
    exact ⟨rfl, by simp, fun x hx => by cases hx⟩
  | m + 1, k, l, h => by
    rw [lens] at h
    obtain ⟨n, h1, h⟩ := bind_ok h
    obtain ⟨r, h2, h⟩ := bind_ok h
    injection h with h
    subst h
    obtain ⟨a1, a2, a3, _⟩ := fld_was hb h1
    obtain ⟨b1, b2, b3⟩ := lens_ok hb m (k + w) r h2
    refine ⟨by rw [List.length_cons, b1], ?_, ?_⟩
    · rw [a1, b2, List.flatMap_cons, List.append_assoc, Nat.mul_succ, show k + (w * m + w) = k + w + w * m by omega]
    · intro x hx
      rcases List.mem_cons.1 hx with rfl | hx
      · exact ⟨by simpa using a3, a2⟩
      · exact b3 x hx
/-- what a header that is taken says -/
structure HdIs (b : List Nat) (h : Hd) : Prop where
  eq : b = hd h.cs h.ss h.d ++ b.drop h.e
  e : h.e = (hd h.cs h.ss h.d).length
  c0 : 0 < h.cs.length
  c1 : h.cs.length ≤ 1024
  hc : ∀ x ∈ h.cs, 0 < x ∧ x < 256 ^ 2
  s1 : h.ss.length ≤ 256
  hs : ∀ x ∈ h.ss, 0 < x ∧ x < 256 ^ 4
  hd : h.d < 65536
theorem hdEnd_ok {b : List Nat} (hb : Byt b) {k : Nat} {cs ss : List Nat} {h : Hd} (g : hdEnd b k cs ss = .ok h) : h.cs = cs ∧ h.ss = ss ∧ h.e = k + 3 ∧ h.d < 65536 ∧ b.drop k = dig 2 h.d ++ (dig 1 0 ++ b.drop (k + 3)) := by
  unfold hdEnd at g
  obtain ⟨d, h1, g⟩ := bind_ok g
  obtain ⟨z, h2, g⟩ := bind_ok g
  injection g with g
  subst g
  obtain ⟨a1, a2, _, _⟩ := fld_was hb h1
  obtain ⟨b1, _, b3, _⟩ := fld_was hb h2
  have hz : z = 0 := by simpa using b3
  subst hz
  exact ⟨rfl, rfl, rfl, a2, by rw [a1, b1]⟩
theorem hdSubs_ok {b : List Nat} (hb : Byt b) {k : Nat} {cs : List Nat} {h : Hd} (g : hdSubs b k cs = .ok h) : h.cs = cs ∧ 0 < h.ss.length ∧ h.ss.length ≤ 256 ∧ (∀ x ∈ h.ss, 0 < x ∧ x < 256 ^ 4) ∧ h.e = k + 2 + 4 * h.ss.length + 1 + 3 ∧ h.d < 65536 ∧ b.drop k = dig 2 h.ss.length ++ (h.ss.flatMap (dig 4) ++ (dig 1 255 ++ (dig 2 h.d ++ (dig 1 0 ++ b.drop h.e)))) := by
  unfold hdSubs at g
  obtain ⟨s, h1, g⟩ := bind_ok g
  obtain ⟨ss, h2, g⟩ := bind_ok g
  obtain ⟨z, h3, g⟩ := bind_ok g
  obtain ⟨e1, e2, e3, e4, e5⟩ := hdEnd_ok hb g
  obtain ⟨a1, _, a3, _⟩ := fld_was hb h1
  obtain ⟨b1, b2, b3⟩ := lens_ok hb _ _ _ h2
  obtain ⟨c1, _, c3, _⟩ := fld_was hb h3
  have hz : z = 255 := by simpa using c3
  subst hz
  subst b1
  subst e2
  unfold pS at a3
  simp at a3
  refine ⟨e1, by omega, by omega, b3, e3, e4, ?_⟩
  rw [e3, a1, b2, c1, e5]
theorem hdr_ok {b : List Nat} (hb : Byt b) {h : Hd} (g : hdr b = .ok h) : HdIs b h := by
  unfold hdr at g
  obtain ⟨x0, h0, g⟩ := bind_ok g
  obtain ⟨x1, h1, g⟩ := bind_ok g
  obtain ⟨x2, h2, g⟩ := bind_ok g
  obtain ⟨x3, h3, g⟩ := bind_ok g
  obtain ⟨t, h4, g⟩ := bind_ok g
  obtain ⟨x5, h5, g⟩ := bind_ok g
  obtain ⟨m, h6, g⟩ := bind_ok g
  obtain ⟨cs, h7, g⟩ := bind_ok g
  obtain ⟨a0, _, p0, _⟩ := fld_was hb h0
  obtain ⟨a1, _, p1, _⟩ := fld_was hb h1
  obtain ⟨a2, _, p2, _⟩ := fld_was hb h2
  obtain ⟨a3, _, p3, _⟩ := fld_was hb h3
  obtain ⟨a4, _, p4, _⟩ := fld_was hb h4
  obtain ⟨a5, _, p5, _⟩ := fld_was hb h5
  obtain ⟨a6, _, p6, _⟩ := fld_was hb h6
  obtain ⟨l7, a7, p7⟩ := lens_ok hb _ _ _ h7
  have q0 : x0 = 239 := by simpa using p0
  have q1 : x1 = 0 := by simpa using p1
  have q2 : x2 = 1 := by simpa using p2
  have q3 : x3 = 1 := by simpa using p3
  have q5 : x5 = 2 := by simpa using p5
  have q6 : m = t / 4 := by simpa using p6
  unfold pT at p4
  simp at p4
  have q4 : t = 4 * cs.length := by omega
  have l8 : cs.length = m := l7
  subst q0 q1 q2 q3 q5
  have hall : b = [239, 0, 1] ++ ([1] ++ dig 2 (4 * cs.length)) ++ ([2] ++ dig 2 cs.length ++ cs.flatMap (dig 2)) ++ b.drop (9 + 2 * cs.length) := by
    have e : b = b.drop 0 := rfl
    have a1' : b.drop (0 + 1) = _ := a1
    have a2' : b.drop (0 + 1 + 1) = _ := a2
    have a3' : b.drop (0 + 1 + 1 + 1) = _ := a3
    rw [q4] at a4
    rw [← l8] at a6 a7
    have z : b = dig 1 239 ++ (dig 1 0 ++ (dig 1 1 ++ (dig 1 1 ++ (dig 2 (4 * cs.length) ++ (dig 1 2 ++ (dig 2 cs.length ++ (cs.flatMap (dig 2) ++ b.drop (9 + 2 * cs.length)))))))) := by
      rw [← a7, ← show b.drop 7 = _ from a6, ← show b.drop 6 = _ from a5, ← show b.drop 4 = _ from a4, ← show b.drop 3 = _ from a3, ← show b.drop 2 = _ from a2, ← show b.drop 1 = _ from a1, ← show b.drop 0 = _ from a0]
      rfl
    refine z.trans ?_
    simp [dig]
  unfold hdKind at g
  obtain ⟨q, h8, g⟩ := bind_ok g
  obtain ⟨a8, _, p8, _⟩ := fld_was hb h8
  rw [← l8] at g a8
  split at g
  · rename_i e
    subst e
    obtain ⟨e1, e2, e3, e4, e5, e6, e7⟩ := hdSubs_ok hb g
    subst e1
    have w : b = hd h.cs h.ss h.d ++ b.drop h.e := by
      refine hall.trans ?_
      rw [a8, e7]
      unfold hd
      rw [if_neg (by omega)]
      simp [dig]
    refine ⟨w, ?_, by omega, by omega, p7, e3, e4, e6⟩
    rw [e5, hd_len, if_neg (by omega)]
    omega
  · rename_i e
    have q8 : q = 255 := by
      unfold pK at p8
      simp at p8
      omega
    subst q8
    obtain ⟨e1, e2, e3, e4, e5⟩ := hdEnd_ok hb g
    subst e1
    have w : b = hd h.cs h.ss h.d ++ b.drop h.e := by
      refine hall.trans ?_
      rw [a8, e5, e3]
      unfold hd
      rw [e2, if_pos (show ([] : List Nat).length = 0 from rfl)]
      simp [dig]
    refine ⟨w, ?_, by omega, by omega, p7, by rw [e2]; simp, by rw [e2]; simp, e4⟩
    rw [e3, hd_len, e2, if_pos (show ([] : List Nat).length = 0 from rfl)]
    omega
end Go.Proofs.Ytndhabhlajldeaa
/- The document's containers: Size, what is told of what is refused. -/
namespace Go.Proofs.Ytndhabhlajldeaa
open Go.RowKit
end Go.Proofs.Ytndhabhlajldeaa
/- Package container: the reader's measure and pieces. -/
namespace Go.Proofs.Ytndhabhlajldeaa
open Go.RowKit
def msr (b : List Nat) (k n d : Nat) (opn : Bool) : Except Er Unit := if b.length < (if opn then k + n else k + n + d) then .error (50, b.length) else if k + n + d < b.length then .error (58, k + n + d) else .ok ()
theorem msr_cut {b : List Nat} {k n d : Nat} {opn : Bool} (h : b.length < (if opn then k + n else k + n + d)) : msr b k n d opn = .error (50, b.length) := by unfold msr; rw [if_pos h]
theorem msr_tail {b : List Nat} {k n d : Nat} {opn : Bool} (h : ¬ b.length < (if opn then k + n else k + n + d)) (h2 : k + n + d < b.length) : msr b k n d opn = .error (58, k + n + d) := by unfold msr; rw [if_neg h, if_pos h2]
theorem msr_ok {b : List Nat} {k n d : Nat} {opn : Bool} (h : ¬ b.length < (if opn then k + n else k + n + d)) (h2 : ¬ k + n + d < b.length) : msr b k n d opn = .ok () := by unfold msr; rw [if_neg h, if_neg h2]
set_option maxHeartbeats 4000000 in
set_option maxRecDepth 100000 in
theorem measure_is (w : World) (rb : Nat) (bs : Value) (b : List Nat) (k d : Nat) (cv sv : Value) (cs ss : List Nat) (opn : Bool) (h : Rdr w rb bs b k) (hc : UL w cv cs) (hs : UL w sv ss) (hb : k + (4 * cs.length + sumL cs + sumL ss) + d < 4611686018427387904) (hsl : ss.length ≤ 16777216) :
    Calls Try.prog 66 #[.pointer (some ⟨rb, 0, none⟩), .agg #[cv, sv, .int .u64 (d : Int)], .bool opn] w fun e w' => Out rb w (msr b k (4 * cs.length + sumL cs + sumL ss) d opn) (fun _ e w' => e = .returned (.tuple #[]) ∧ Below w.heap.size w w') e w' := by
  obtain ⟨ba, bc, rfl, _⟩ := h.by'.len
  obtain ⟨ca, rfl⟩ := hc.len
  obtain ⟨sa, rfl⟩ := hs.len
  have nl := h.len
  obtain ⟨MM, hM⟩ : ∃ MM, MM = msr b k (4 * cs.length + sumL cs + sumL ss) d opn := ⟨_, rfl⟩
  rw [← hM]
  have BH : Hid (∀ W, Below w.heap.size w W → Calls Try.prog 81 #[.agg #[.slice ca cs.length cs.length, .slice sa ss.length ss.length, .int .u64 (d : Int)]] W fun e w' => e = .returned (.int .u64 ((4 * cs.length + sumL cs + sumL ss : Nat) : Int)) ∧ Below W.heap.size W w') := fun W hW => behind_is W _ _ cs ss d (hc.past hW) (hs.past hW) (by omega) ⟨by omega, by omega⟩
  generalize hm : 4 * cs.length + sumL cs + sumL ss = m at *
  obtain ⟨s1, hs1⟩ : ∃ s1 : Nat, s1 = k + m := ⟨_, rfl⟩
  obtain ⟨s2, hs2⟩ : ∃ s2 : Nat, s2 = s1 + d := ⟨_, rfl⟩
  have r1 : (k : Int) + (m : Int) = (s1 : Int) := by omega
  have r2 : (s1 : Int) + (d : Int) = (s2 : Int) := by omega
  have w1 : IntKind.u64.wrap (s1 : Int) = (s1 : Int) := by rw [IntKind.wrap_u64]; omega
  have w2 : IntKind.u64.wrap (s2 : Int) = (s2 : Int) := by rw [IntKind.wrap_u64]; omega
  have w3 : IntKind.u64.wrap (k : Int) = (k : Int) := by rw [IntKind.wrap_u64]; omega
  have w4 : IntKind.i64.wrap (s2 : Int) = (s2 : Int) := by rw [IntKind.wrap_i64]; omega
  have w5 : IntKind.u64.wrap (b.length : Int) = (b.length : Int) := by rw [IntKind.wrap_u64]; omega
  have M1 : Hid (b.length < (if opn then s1 else s2) → MM = .error (50, b.length)) := fun q => by rw [hM]; exact msr_cut (by cases opn <;> simp only [if_true, if_false, Bool.false_eq_true] at q ⊢ <;> omega)
  have M2 : Hid (¬ b.length < (if opn then s1 else s2) → s2 < b.length → MM = .error (58, s2)) := fun q q2 => by rw [hM, msr_tail (by cases opn <;> simp only [if_true, if_false, Bool.false_eq_true] at q ⊢ <;> omega) (by omega), hs2, hs1]
  have M3 : Hid (¬ b.length < (if opn then s1 else s2) → ¬ s2 < b.length → MM = .ok ()) := fun q q2 => by rw [hM]; exact msr_ok (by cases opn <;> simp only [if_true, if_false, Bool.false_eq_true] at q ⊢ <;> omega) (by omega)
  have B0 : Hid (Below w.heap.size w (w.alloc (.cells #[.slice ca cs.length cs.length, .slice sa ss.length ss.length, .int .u64 (d : Int)] 84)) ∧ CBox (w.alloc (.cells #[.slice ca cs.length cs.length, .slice sa ss.length ss.length, .int .u64 (d : Int)] 84)) rb 81 [.slice ba b.length bc, .int .i64 (k : Int)] ∧ CBox (w.alloc (.cells #[.slice ca cs.length cs.length, .slice sa ss.length ss.length, .int .u64 (d : Int)] 84)) w.heap.size 84 [.slice ca cs.length cs.length, .slice sa ss.length ss.length, .int .u64 (d : Int)]) := ⟨below_alloc _ _, h.box.past (below_alloc _ _), CBox.new _ _ [_, _, _]⟩
  have nI : (b.length : Int) ≤ 16777216 := by omega
  clear h hc hs hM hs1 hs2 hm hb nl hsl
  generalize b.length = n at *
  generalize cs.length = nc at *
  generalize ss.length = ns at *
  generalize hbx : w.heap.size = bx at *
  have GB : Hid (w.heap.size = bx) := hbx
  have GE : Hid (bx ≤ w.heap.size) := by unfold Hid; omega
  clear hbx
  go_enter Try.func66, Try.ntmps66
  go_upto_region 1 with fail
  rw [GB.out]
  generalize w.alloc _ = W0 at B0 ⊢
  refine wp_region_held_drew (S := fun V' => CBox V' rb 81 [.slice ba n bc, .int .i64 (k : Int)] ∧ CBox V' bx 84 [.slice ca nc nc, .slice sa ns ns, .int .u64 (d : Int)]) (by kernel_rfl) ⟨B0.out.2.1.past below_drew, B0.out.2.2.past below_drew⟩ (fun hHeld => ?_)
  have B0 : Hid (Below bx w W0.drew ∧ True) := ⟨B0.out.1.trans (below_drew.mono (Nat.le_trans GE.out B0.out.1.size)), trivial⟩
  generalize W0.drew = z0 at hHeld B0 ⊢
  refine wpAnyH_take (i := 0) (v := .pointer (some ⟨rb, 0, none⟩)) ov0 (by kernel_rfl) (by kernel_rfl) (by kernel_rfl) (fun _ _ _ h => h) (Or.inl ⟨by rfl, fun V' hS => ?_⟩) hHeld ?_
  · go_simp
  simp only [Act.put, List.setIfInBounds_toArray, List.set_cons_zero, List.set_cons_succ]
  refine wpAnyH_take (i := 1) (v := .pointer (some ⟨rb, 0, none⟩)) ov1 (by kernel_rfl) (by kernel_rfl) (by kernel_rfl) (fun _ _ _ h => h) (Or.inl ⟨by rfl, fun V' hS => ?_⟩) hHeld ?_
  · go_simp
  simp only [Act.put, List.setIfInBounds_toArray, List.set_cons_zero, List.set_cons_succ]
  refine wpAnyH_take (i := 2) (v := .pointer (some ⟨rb, 1, none⟩)) ov2 (by kernel_rfl) (by kernel_rfl) (by kernel_rfl) (fun _ _ _ h => h) (Or.inl ⟨by rfl, fun V' hS => ?_⟩) hHeld ?_
  · go_simp
  simp only [Act.put, List.setIfInBounds_toArray, List.set_cons_zero, List.set_cons_succ]
  refine wpAnyH_take (i := 3) (v := .int .i64 (k : Int)) ov3 (by kernel_rfl) (by kernel_rfl) (by kernel_rfl) (fun _ _ _ h => h) (Or.inl ⟨by rfl, fun V' hS => ?_⟩) hHeld ?_
  · have c0 : V'.cell? ⟨rb, 1, none⟩ = some (.int .i64 (k : Int)) := hS.1.cell 1
    go_simp
  simp only [Act.put, List.setIfInBounds_toArray, List.set_cons_zero, List.set_cons_succ]
  refine wpAnyH_take (i := 4) (v := .int .u64 (k : Int)) ov4 (by kernel_rfl) (by kernel_rfl) (by kernel_rfl) (fun _ _ _ h => h) (Or.inl ⟨by rfl, fun V' hS => ?_⟩) hHeld ?_
  · go_simp
  simp only [Act.put, List.setIfInBounds_toArray, List.set_cons_zero, List.set_cons_succ]
  refine wpAnyH_take (i := 5) (v := .agg #[.slice ca nc nc, .slice sa ns ns, .int .u64 (d : Int)]) ov5 (by kernel_rfl) (by kernel_rfl) (by kernel_rfl) (fun _ _ _ h => h) (Or.inl ⟨by rfl, fun V' hS => ?_⟩) hHeld ?_
  · have c0 : V'.cell? ⟨bx, 0, none⟩ = some (.slice ca nc nc) := hS.2.cell 0; have c1 : V'.cell? ⟨bx, 1, none⟩ = some (.slice sa ns ns) := hS.2.cell 1; have c2 : V'.cell? ⟨bx, 2, none⟩ = some (.int .u64 (d : Int)) := hS.2.cell 2
    go_simp
  simp only [Act.put, List.setIfInBounds_toArray, List.set_cons_zero, List.set_cons_succ]
  refine wpAnyH_ready (rs := [6]) (by kernel_rfl) (by simp) ?_
  refine AllReadyH.cons ov6 (fun K hK => ?_) AllReadyH.nil
  rw [if_pos (by rfl)]
  go_simp
  refine (BH.out _ B0.out.1).mono ?_
  rintro e z1 ⟨rfl, hB1⟩
  have H1 := (⟨hHeld.1.past hB1, hHeld.2.past hB1⟩ : _ ∧ _)
  have B1 : Hid (Below bx w z1) := B0.out.1.trans (hB1.mono (Nat.le_trans GE.out B0.out.1.size))
  (try go_wp2_with fail)
  refine hK.out _ _ H1 (fun _ => ?_)
  clear hK K
  (try simp only [Act.put, List.setIfInBounds_toArray, List.set_cons_zero, List.set_cons_succ])
  refine wpAnyH_take (i := 7) (v := .int .u64 (s1 : Int)) ov7 (by kernel_rfl) (by kernel_rfl) (by kernel_rfl) (fun _ _ _ h => h) (Or.inl ⟨by rfl, fun V' hS => ?_⟩) H1 ?_
  · go_simp
  simp only [Act.put, List.setIfInBounds_toArray, List.set_cons_zero, List.set_cons_succ]
  refine wpAnyH_take (i := 8) (v := .int .u64 (s1 : Int)) ov8 (by kernel_rfl) (by kernel_rfl) (by kernel_rfl) (fun _ _ _ h => h) (Or.inl ⟨by rfl, fun V' hS => ?_⟩) H1 ?_
  · go_simp
  simp only [Act.put, List.setIfInBounds_toArray, List.set_cons_zero, List.set_cons_succ]
  refine wpAnyH_done (by kernel_rfl) ?_ _
  have k2 : z1.cell? ⟨bx, 2, none⟩ = some (.int .u64 (d : Int)) := H1.2.cell 2
  have k0 : z1.cell? ⟨rb, 0, none⟩ = some (.slice ba n bc) := H1.1.cell 0
  clear hHeld B0 H1
  cases opn with
  | true =>
    simp only [if_true] at M1 M2 M3
    by_cases e1 : n < s1
    · have E0 : Hid (MM = .error (50, n)) := M1.out e1
      have q1 : (n : Int) < (s1 : Int) := by omega
      clear M1 M2 M3
      go_wp2_with (go_at_call 98; refine (giveUp_is _ 50 (n : Int)).mono ?_; rintro e w' ⟨rfl, hw⟩; (have hw2 := hw.symm); clear hw; subst hw2; unfold thrown rejV)
      refine ⟨rfl, ?_⟩
      rw [E0.out]
      exact ⟨rfl, below_but (GB.out ▸ B1.out)⟩
    have q1 : ¬ (n : Int) < (s1 : Int) := by omega
    by_cases e2 : s2 < n
    · have E0 : Hid (MM = .error (58, s2)) := M2.out e1 e2
      have q2 : (s2 : Int) < (n : Int) := by omega
      clear M1 M2 M3
      go_wp2_with (go_at_call 98; refine (giveUp_is _ 58 (s2 : Int)).mono ?_; rintro e w' ⟨rfl, hw⟩; (have hw2 := hw.symm); clear hw; subst hw2; unfold thrown rejV)
      refine ⟨rfl, ?_⟩
      rw [E0.out]
      exact ⟨rfl, below_but (GB.out ▸ B1.out)⟩
    · have E0 : Hid (MM = .ok ()) := M3.out e1 e2
      have q2 : ¬ (s2 : Int) < (n : Int) := by omega
      clear M1 M2 M3
      go_wp2
      go_end0
      rw [E0.out]
      exact ⟨rfl, B1.out⟩
  | false =>
    simp only [if_false, Bool.false_eq_true] at M1 M2 M3
    by_cases e1 : n < s2
    · have E0 : Hid (MM = .error (50, n)) := M1.out e1
      have q1 : (n : Int) < (s2 : Int) := by omega
      clear M1 M2 M3
      go_wp2_with (go_at_call 98; refine (giveUp_is _ 50 (n : Int)).mono ?_; rintro e w' ⟨rfl, hw⟩; (have hw2 := hw.symm); clear hw; subst hw2; unfold thrown rejV)
      refine ⟨rfl, ?_⟩
      rw [E0.out]
      exact ⟨rfl, below_but (GB.out ▸ B1.out)⟩
    have q1 : ¬ (n : Int) < (s2 : Int) := by omega
    by_cases e2 : s2 < n
    · have E0 : Hid (MM = .error (58, s2)) := M2.out e1 e2
      have q2 : (s2 : Int) < (n : Int) := by omega
      clear M1 M2 M3
      go_wp2_with (go_at_call 98; refine (giveUp_is _ 58 (s2 : Int)).mono ?_; rintro e w' ⟨rfl, hw⟩; (have hw2 := hw.symm); clear hw; subst hw2; unfold thrown rejV)
      refine ⟨rfl, ?_⟩
      rw [E0.out]
      exact ⟨rfl, below_but (GB.out ▸ B1.out)⟩
    · have E0 : Hid (MM = .ok ()) := M3.out e1 e2
      have q2 : ¬ (s2 : Int) < (n : Int) := by omega
      clear M1 M2 M3
      go_wp2
      go_end0
      rw [E0.out]
      exact ⟨rfl, B1.out⟩
theorem cuts_len : ∀ (b : List Nat) (ls : List Nat) (k : Nat), (cuts b k ls).length = ls.length
  | _, [], _ => rfl
  | b, n :: r, k => by rw [cuts, List.length_cons, cuts_len b r, List.length_cons]
theorem cuts_get : ∀ (b : List Nat) (ls : List Nat) (k i n : Nat), ls[i]? = some n → (cuts b k ls)[i]? = some ((b.drop (k + sumL (ls.take i))).take n)
  | b, [], k, i, n, h => by cases h
  | b, x :: r, k, 0, n, h => by simp at h; subst h; simp [cuts, sumL]
  | b, x :: r, k, i + 1, n, h => by
    rw [cuts, List.getElem?_cons_succ, cuts_get b r (k + x) i n (by simpa using h), List.take_succ_cons, sumL_cons, Nat.add_assoc]
/-- pieces in blocks of their own, at B or above: the values that stand in the list, and what each is -/
def Own1 (B : Nat) (W : World) (us : List Value) (ll : List (List Nat)) : Prop := ∀ (i : Nat) u l, us[i]? = some u → ll[i]? = some l → W.ownsRow B 5 1 u l.length (bV l)
theorem Own1.but {B : Nat} {S : Nat → Prop} {W W' : World} {us : List Value} {ll : List (List Nat)} (h : Own1 B W us ll) (k : But S W W') (hs : ∀ g, B ≤ g → ¬ S g) : Own1 B W' us ll := fun i u l h1 h2 => owns_row_blockB (h i u l h1 h2) fun g hg => k.block g ((h i u l h1 h2).lt g hg).2 (hs g ((h i u l h1 h2).lt g hg).1)
theorem Own1.butT {B b : Nat} {t : TypeId} {cs : List Value} {W W' : World} {us : List Value} {ll : List (List Nat)} (h : Own1 B W us ll) (k : But (fun g => g = b) W W') (hb : CBox W b t cs) (ht : t ≠ 5) : Own1 B W' us ll := fun i u l h1 h2 => owns_row_blockB (h i u l h1 h2) fun g hg => k.block g ((h i u l h1 h2).lt g hg).2 fun e => by
  subst e
  rcases (h i u l h1 h2).2 with ⟨rfl, _⟩ | ⟨g', c, cur, rfl, _, hh, _⟩
  · cases hg
  · injection hg with hg
    subst hg
    rw [show W.heap[g']? = _ from hb] at hh
    cases hh
    exact ht rfl
theorem Own1.snoc {B : Nat} {W : World} {us : List Value} {ll : List (List Nat)} {u : Value} {l : List Nat} (h : Own1 B W us ll) (hi : ll[us.length]? = some l) (hu : W.ownsRow B 5 1 u l.length (bV l)) : Own1 B W (us ++ [u]) ll := fun i u' l' h1 h2 => by
  by_cases e : i < us.length
  · rw [List.getElem?_append_left e] at h1
    exact h i u' l' h1 h2
  · rw [List.getElem?_append_right (by omega)] at h1
    have e0 : i - us.length = 0 := by
      have := (List.getElem?_eq_some_iff.1 h1).1
      simpa using this
    rw [e0] at h1
    simp at h1
    have ei : i = us.length := by omega
    subst ei h1
    rw [hi] at h2
    cases h2
    exact hu
def nilV : Value := .slice none 0 0
theorem vs_set (us : List Value) (r : Nat) (z u : Value) : (us ++ List.replicate (r + 1) z).set us.length u = (us ++ [u]) ++ List.replicate r z := by
  rw [List.set_append_right _ _ (by simp), Nat.sub_self, List.replicate_succ, List.set_cons_zero]
  simp
/-- pieces that were read -/
structure PcQ (rb : Nat) (w w' : World) (bs : Value) (b : List Nat) (k : Nat) (v : Value) (ll : List (List Nat)) : Prop where
  ex : ∃ g us, v = .slice (some ⟨g, 0, none⟩) ll.length ll.length ∧ CBox w' g 22 us ∧ us.length = ll.length ∧ w.heap.size ≤ g ∧ Own1 w.heap.size w' us ll
  rd : Rdr w' rb bs b k
  but : RB rb w w'
set_option maxHeartbeats 4000000 in
set_option maxRecDepth 100000 in
theorem pieces_is (w : World) (rb : Nat) (bs : Value) (b : List Nat) (k : Nat) (lv : Value) (ls : List Nat) (h : Rdr w rb bs b k) (hu : UL w lv ls) (hk : k + sumL ls ≤ b.length) (hn : ls.length ≤ 16777216) :
    Calls Try.prog 100 #[.pointer (some ⟨rb, 0, none⟩), lv] w fun e w' => ∃ v, e = .returned v ∧ PcQ rb w w' bs b (k + sumL ls) v (cuts b k ls) := by
  obtain ⟨ba, bc, rfl, hbc, _⟩ := h.by'.len
  obtain ⟨la, rfl⟩ := hu.len
  obtain ⟨W1, hmk, hcb, hB1, hsz⟩ := make_n 26 22 (.slice none 0 0) (.slice none 0 0) 1 24 Try.underlying26 Try.infoB (one_cell rfl) (by simp [Value.cells]) .i64 w ls.length (by omega) (by omega)
  have NE : Hid (w.heap.size ≠ rb) := by unfold Hid; have := h.box.lt; omega
  have HGR : Hid (rb < w.heap.size) := h.box.lt
  have HBX : Hid (CBox w rb 81 [.slice ba b.length bc, .int .i64 (k : Int)]) := h.box
  have nbl := h.len
  obtain ⟨CU, hCU⟩ : ∃ CU, CU = cuts b k ls := ⟨_, rfl⟩
  have HCL : Hid (CU.length = ls.length ∧ ∀ i x, ls[i]? = some x → CU[i]? = some ((b.drop (k + sumL (ls.take i))).take x)) := ⟨by rw [hCU, cuts_len], fun i x q => by rw [hCU]; exact cuts_get b ls k i x q⟩
  rw [← hCU]
  have C0 : Hid (CBox W1 w.heap.size 22 (([] : List Value) ++ List.replicate (ls.length - 0) nilV) ∧ Rdr W1 rb (.slice ba b.length bc) b (k + sumL (ls.take 0)) ∧ RB rb w W1 ∧ Own1 w.heap.size W1 [] CU) := ⟨by rw [Nat.mul_one] at hcb; simpa [nilV] using hcb, by simpa [sumL] using h.past hB1, below_but hB1, fun i u l q => by cases q⟩
  have HUL : Hid (UL w (.slice la ls.length ls.length) ls) := hu
  have HKL : Hid (k + sumL ls ≤ b.length ∧ b.length ≤ bc ∧ b.length ≤ 16777216) := ⟨hk, hbc, nbl⟩
  have nI : (ls.length : Int) ≤ 16777216 := by omega
  generalize hN : ls.length = n at *
  have HN : Hid (ls.length = n) := hN
  generalize hNB : b.length = nb at *
  have HNB : Hid (b.length = nb) := hNB
  clear h hu hcb hB1 hsz hk hn hCU hN hNB nbl hbc
  generalize hbw : w.heap.size = bw at *
  have GB : Hid (w.heap.size = bw) := hbw
  have GE : Hid (bw ≤ w.heap.size) := by unfold Hid; omega
  go_enter Try.func100, Try.ntmps100
  go_upto_region 2 with fail
  clear hmk hbw
  generalize hg : bw = g at C0 NE ⊢
  have HGB : Hid (bw = g) := hg
  have HGW : Hid (w.heap.size ≤ g) := by unfold Hid; have := GB.out; omega
  have HGR : Hid (rb < g) := by unfold Hid; have := HGR.out; omega
  clear hg
  go_wp2
  go_loopw [14] (fun s14 wr => ∃ (i : Nat) (us : List Value), s14 = .int .i64 (i : Int) ∧ i ≤ n ∧ us.length = i ∧ CBox wr g 22 (us ++ List.replicate (n - i) nilV) ∧ Rdr wr rb (.slice ba nb bc) b (k + sumL (ls.take i)) ∧ RB rb w wr ∧ Own1 bw wr us CU) (fun s14 _ => n - (intOf s14).toNat)
  case atStart => exact ⟨0, [], rfl, by omega, rfl, C0.out.1, C0.out.2.1, C0.out.2.2.1, by rw [HGB.out]; exact C0.out.2.2.2⟩
  case round =>
    obtain ⟨i, us, rfl, hi, hU, hC, hR, hB, hO⟩ := hrel
    have HU : Hid (us.length = i) := hU
    have HC0 : Hid (CBox wr g 22 (us ++ List.replicate (n - i) nilV) ∧ Rdr wr rb (.slice ba nb bc) b (k + sumL (ls.take i)) ∧ RB rb w wr ∧ Own1 bw wr us CU) := ⟨hC, hR, hB, hO⟩
    clear hC hR hB hO C0 hU
    by_cases e : i = n
    · subst e
      have E1 : Hid (CBox wr g 22 us) := by have := HC0.out.1; rwa [Nat.sub_self, List.replicate_zero, List.append_nil] at this
      have E2 : Hid (Rdr wr rb (.slice ba nb bc) b (k + sumL ls)) := by have := HC0.out.2.1; rwa [List.take_of_length_le (by have := HN.out; omega)] at this
      go_wp2
      go_ret
      refine ⟨_, rfl, ⟨g, us, by rw [HCL.out.1]; rfl, E1.out, by rw [HU.out, HCL.out.1], HGW.out, by rw [GB.out]; exact HC0.out.2.2.2⟩, E2.out, HC0.out.2.2.1⟩
    · have iI : (i : Int) < (n : Int) := by omega
      obtain ⟨q, hq⟩ : ∃ q, ls[i]? = some q := ⟨ls[i]'(by have := HN.out; omega), List.getElem?_eq_getElem _⟩
      obtain ⟨r, hr⟩ : ∃ r, n - i = r + 1 := ⟨n - i - 1, by omega⟩
      have HR1 : Hid (n - i = r + 1) := hr
      have hst := sumL_take hq
      have hsl2 := sumL_le ls (i + 1)
      have ul : UL wr (.slice la n n) ls := HUL.out.but2 HC0.out.2.2.1 HBX.out (by decide)
      obtain ⟨g3, rfl, hcell⟩ := ul.get hq
      have HCU0 := HCL.out.2 i q hq
      obtain ⟨kk, hkk⟩ : ∃ kk, kk = k + sumL (ls.take i) := ⟨_, rfl⟩
      rw [← hkk] at HCU0 HC0
      obtain ⟨t, ht⟩ : ∃ t, t = kk + q := ⟨_, rfl⟩
      have tl : t ≤ nb := by have := HKL.out; omega
      have HTT : Hid (t = k + sumL (ls.take (i + 1))) := by unfold Hid; omega
      have hsl := slice_ij ba nb bc kk t (by omega) (by have := HKL.out; omega)
      have CL0 : ∀ W, BL (fun g => g < rb) W (.slice ba nb bc) b → Calls Try.prog 88 #[.slice (if bc = kk then ba else ba.map (·.add kk)) (t - kk) (bc - kk)] W fun e w' => ∃ v', e = .returned v' ∧ w'.ownsRow W.heap.size 5 1 v' ((b.drop kk).take (t - kk)).length (bV ((b.drop kk).take (t - kk))) ∧ Below W.heap.size W w' := fun W hW => clone_is W _ _ (by have h9 := hW; rw [← HNB.out] at h9; exact BL.mid h9 kk t (by omega) (by rw [HNB.out]; exact tl)) (by have := HKL.out; simp; omega)
      rw [show t - kk = q by omega] at CL0 hsl
      have HSQ : Hid (((b.drop kk).take q).length = q) := by unfold Hid; rw [List.length_take, List.length_drop, HNB.out]; omega
      rw [HSQ.out] at CL0
      have CL : Hid (∀ W, BL (fun g => g < rb) W (.slice ba nb bc) b → Calls Try.prog 88 #[.slice (if bc = kk then ba else ba.map (·.add kk)) q (bc - kk)] W fun e w' => ∃ v', e = .returned v' ∧ w'.ownsRow W.heap.size 5 1 v' q (bV ((b.drop kk).take q)) ∧ Below W.heap.size W w') := CL0
      have HCU : Hid (CU[i]? = some ((b.drop kk).take q)) := HCU0
      generalize (if bc = kk then ba else ba.map (·.add kk)) = ad2 at CL hsl
      generalize bc - kk = cap2 at CL hsl
      generalize (b.drop kk).take q = seg at *
      have r1 : (kk : Int) + (q : Int) = (t : Int) := by omega
      have w1 : IntKind.i64.wrap (t : Int) = (t : Int) := by rw [IntKind.wrap_i64]; have := HKL.out; omega
      have w2 : IntKind.i64.wrap (q : Int) = (q : Int) := by rw [IntKind.wrap_i64]; have := HKL.out; omega
      have HC : Hid (CBox wr g 22 (us ++ List.replicate (n - i) nilV) ∧ Rdr wr rb (.slice ba nb bc) b kk ∧ RB rb w wr ∧ Own1 bw wr us CU) := HC0.out
      have c1 : wr.cell? ⟨rb, 1, none⟩ = some (.int .i64 (kk : Int)) := HC.out.2.1.box.cell 1
      clear HCU0 CL0 hq hst hsl2 hkk ht tl hr ul HC0 e
      go_upto_region 6 with fail
      clear c1 hcell
      refine wp_region_held_drew (S := fun V' => CBox V' rb 81 [.slice ba nb bc, .int .i64 (kk : Int)]) (by kernel_rfl) (HC.out.2.1.box.past below_drew) (fun hHeld => ?_)
      have B0 : Hid (CBox wr.drew g 22 (us ++ List.replicate (n - i) nilV) ∧ Rdr wr.drew rb (.slice ba nb bc) b kk ∧ RB rb w wr.drew ∧ Own1 bw wr.drew us CU) := ⟨HC.out.1.past below_drew, HC.out.2.1.past below_drew, HC.out.2.2.1.trans (below_but below_drew), HC.out.2.2.2.but (below_but (S := fun _ => False) below_drew) (fun _ _ => id)⟩
      clear HC
      generalize wr.drew = z0 at hHeld B0 ⊢
      refine wpAnyH_take (i := 0) (v := .slice (some ⟨g, 0, none⟩) n n) ov0 (by kernel_rfl) (by kernel_rfl) (by kernel_rfl) (fun _ _ _ h => h) (Or.inl ⟨by rfl, fun V' hS => ?_⟩) hHeld ?_
      · go_simp
      simp only [Act.put, List.setIfInBounds_toArray, List.set_cons_zero, List.set_cons_succ]
      refine wpAnyH_take (i := 1) (v := .int .i64 (i : Int)) ov1 (by kernel_rfl) (by kernel_rfl) (by kernel_rfl) (fun _ _ _ h => h) (Or.inl ⟨by rfl, fun V' hS => ?_⟩) hHeld ?_
      · go_simp
      simp only [Act.put, List.setIfInBounds_toArray, List.set_cons_zero, List.set_cons_succ]
      refine wpAnyH_take (i := 2) (v := .pointer (some ⟨rb, 0, none⟩)) ov2 (by kernel_rfl) (by kernel_rfl) (by kernel_rfl) (fun _ _ _ h => h) (Or.inl ⟨by rfl, fun V' hS => ?_⟩) hHeld ?_
      · go_simp
      simp only [Act.put, List.setIfInBounds_toArray, List.set_cons_zero, List.set_cons_succ]
      refine wpAnyH_take (i := 3) (v := .pointer (some ⟨rb, 0, none⟩)) ov3 (by kernel_rfl) (by kernel_rfl) (by kernel_rfl) (fun _ _ _ h => h) (Or.inl ⟨by rfl, fun V' hS => ?_⟩) hHeld ?_
      · go_simp
      simp only [Act.put, List.setIfInBounds_toArray, List.set_cons_zero, List.set_cons_succ]
      refine wpAnyH_take (i := 4) (v := .pointer (some ⟨rb, 0, none⟩)) ov4 (by kernel_rfl) (by kernel_rfl) (by kernel_rfl) (fun _ _ _ h => h) (Or.inl ⟨by rfl, fun V' hS => ?_⟩) hHeld ?_
      · go_simp
      simp only [Act.put, List.setIfInBounds_toArray, List.set_cons_zero, List.set_cons_succ]
      refine wpAnyH_take (i := 5) (v := .slice ba nb bc) ov5 (by kernel_rfl) (by kernel_rfl) (by kernel_rfl) (fun _ _ _ h => h) (Or.inl ⟨by rfl, fun V' hS => ?_⟩) hHeld ?_
      · have c0 : V'.cell? ⟨rb, 0, none⟩ = some (.slice ba nb bc) := hS.cell 0
        go_simp
      simp only [Act.put, List.setIfInBounds_toArray, List.set_cons_zero, List.set_cons_succ]
      refine wpAnyH_take (i := 6) (v := .pointer (some ⟨rb, 0, none⟩)) ov6 (by kernel_rfl) (by kernel_rfl) (by kernel_rfl) (fun _ _ _ h => h) (Or.inl ⟨by rfl, fun V' hS => ?_⟩) hHeld ?_
      · go_simp
      simp only [Act.put, List.setIfInBounds_toArray, List.set_cons_zero, List.set_cons_succ]
      refine wpAnyH_take (i := 7) (v := .pointer (some ⟨rb, 0, none⟩)) ov7 (by kernel_rfl) (by kernel_rfl) (by kernel_rfl) (fun _ _ _ h => h) (Or.inl ⟨by rfl, fun V' hS => ?_⟩) hHeld ?_
      · go_simp
      simp only [Act.put, List.setIfInBounds_toArray, List.set_cons_zero, List.set_cons_succ]
      refine wpAnyH_take (i := 8) (v := .pointer (some ⟨rb, 1, none⟩)) ov8 (by kernel_rfl) (by kernel_rfl) (by kernel_rfl) (fun _ _ _ h => h) (Or.inl ⟨by rfl, fun V' hS => ?_⟩) hHeld ?_
      · go_simp
      simp only [Act.put, List.setIfInBounds_toArray, List.set_cons_zero, List.set_cons_succ]
      refine wpAnyH_take (i := 9) (v := .int .i64 (kk : Int)) ov9 (by kernel_rfl) (by kernel_rfl) (by kernel_rfl) (fun _ _ _ h => h) (Or.inl ⟨by rfl, fun V' hS => ?_⟩) hHeld ?_
      · have c0 : V'.cell? ⟨rb, 1, none⟩ = some (.int .i64 (kk : Int)) := hS.cell 1
        go_simp
      simp only [Act.put, List.setIfInBounds_toArray, List.set_cons_zero, List.set_cons_succ]
      refine wpAnyH_take (i := 10) (v := .int .i64 (t : Int)) ov10 (by kernel_rfl) (by kernel_rfl) (by kernel_rfl) (fun _ _ _ h => h) (Or.inl ⟨by rfl, fun V' hS => ?_⟩) hHeld ?_
      · go_simp
      simp only [Act.put, List.setIfInBounds_toArray, List.set_cons_zero, List.set_cons_succ]
      refine wpAnyH_take (i := 11) (v := .slice ad2 q cap2) ov11 (by kernel_rfl) (by kernel_rfl) (by kernel_rfl) (fun _ _ _ h => h) (Or.inl ⟨by rfl, fun V' hS => ?_⟩) hHeld ?_
      · go_simp
      simp only [Act.put, List.setIfInBounds_toArray, List.set_cons_zero, List.set_cons_succ]
      refine wpAnyH_ready (rs := [12]) (by kernel_rfl) (by simp) ?_
      refine AllReadyH.cons ov12 (fun K hK => ?_) AllReadyH.nil
      rw [if_pos (by rfl)]
      go_simp
      refine (CL.out _ (B0.out.2.1.by')).mono ?_
      rintro e z1 ⟨v3, rfl, hO, hB1⟩
      obtain ⟨a3, c3, e3⟩ := owns_sl hO
      subst e3
      have H1 := hHeld.past hB1
      have B1 : Hid (CBox z1 g 22 (us ++ List.replicate (n - i) nilV) ∧ Rdr z1 rb (.slice ba nb bc) b kk ∧ RB rb w z1 ∧ Own1 bw z1 us CU ∧ z1.ownsRow bw 5 1 (.slice a3 q c3) q (bV seg)) := ⟨B0.out.1.past hB1, B0.out.2.1.past hB1, B0.out.2.2.1.trans (below_but hB1), B0.out.2.2.2.but (below_but (S := fun _ => False) hB1) (fun _ _ => id), owns_base hO (Nat.le_trans GE.out B0.out.2.2.1.size)⟩
      clear hO hB1
      (try go_wp2_with fail)
      refine hK.out _ _ H1 (fun _ => ?_)
      clear hK K
      (try simp only [Act.put, List.setIfInBounds_toArray, List.set_cons_zero, List.set_cons_succ])
      refine wpAnyH_take (i := 13) (v := .pointer (some ⟨g, i, none⟩)) ov13 (by kernel_rfl) (by kernel_rfl) (by kernel_rfl) (fun _ _ _ h => h) (Or.inl ⟨by rfl, fun V' hS => ?_⟩) H1 ?_
      · go_simp
      simp only [Act.put, List.setIfInBounds_toArray, List.set_cons_zero, List.set_cons_succ]
      refine wpAnyH_ready (rs := [14]) (by kernel_rfl) (by simp) ?_
      refine AllReadyH.cons ov14 (fun K hK => ?_) AllReadyH.nil
      rw [if_pos (by rfl)]
      have k0 : z1.cell? ⟨g, i, none⟩ = some nilV := by rw [B1.out.1.cell, HR1.out, List.getElem?_append_right (by rw [HU.out]; exact Nat.le_refl _), HU.out, Nat.sub_self]; rfl
      unfold nilV at k0
      have f0 := B1.out.1.frozen i
      go_simp
      have HS : But (fun y => y = g) z1 (z1.setCell ⟨g, i, none⟩ (.slice a3 q c3)) := (But.refl (fun y => y = g) z1).setCell ⟨g, i, none⟩ _ (Or.inl rfl)
      have B2 : Hid (CBox (z1.setCell ⟨g, i, none⟩ (.slice a3 q c3)) g 22 ((us ++ [.slice a3 q c3]) ++ List.replicate (n - (i + 1)) nilV) ∧ Rdr (z1.setCell ⟨g, i, none⟩ (.slice a3 q c3)) rb (.slice ba nb bc) b kk ∧ RB rb w (z1.setCell ⟨g, i, none⟩ (.slice a3 q c3)) ∧ Own1 bw (z1.setCell ⟨g, i, none⟩ (.slice a3 q c3)) (us ++ [.slice a3 q c3]) CU) := ⟨by (have h9 := B1.out.1.set i (.slice a3 q c3); rw [HR1.out, ← HU.out, vs_set] at h9; rw [show n - (i + 1) = r by have := HR1.out; omega]; rw [HU.out] at h9; exact h9), B1.out.2.1.keep HS (fun y hy e => by have := HGR.out; omega), B1.out.2.2.1.setCell ⟨g, i, none⟩ _ (Or.inr HGW.out), ((B1.out.2.2.2.1.snoc (by rw [HU.out]; exact HCU.out) (by rw [HSQ.out]; exact B1.out.2.2.2.2)).butT HS B1.out.1 (by decide))⟩
      refine hK.out _ (z1.setCell ⟨g, i, none⟩ (.slice a3 q c3)) (H1.but HS (Ne.symm NE.out)) (fun _ => ?_)
      clear hK K
      (try simp only [Act.put, List.setIfInBounds_toArray, List.set_cons_zero, List.set_cons_succ])
      clear k0 f0 HS B1
      generalize (z1.setCell ⟨g, i, none⟩ (.slice a3 q c3)) = z2 at B2 ⊢
      refine wpAnyH_done (by kernel_rfl) ?_ _
      clear hHeld B0
      have k1 : z2.cell? ⟨rb, 1, none⟩ = some (.int .i64 (kk : Int)) := B2.out.2.1.box.cell 1
      have f1 := B2.out.2.1.box.frozen 1
      have B3 : Hid (CBox (z2.setCell ⟨rb, 1, none⟩ (.int .i64 (t : Int))) g 22 ((us ++ [.slice a3 q c3]) ++ List.replicate (n - (i + 1)) nilV) ∧ Rdr (z2.setCell ⟨rb, 1, none⟩ (.int .i64 (t : Int))) rb (.slice ba nb bc) b (k + sumL (ls.take (i + 1))) ∧ RB rb w (z2.setCell ⟨rb, 1, none⟩ (.int .i64 (t : Int))) ∧ Own1 bw (z2.setCell ⟨rb, 1, none⟩ (.int .i64 (t : Int))) (us ++ [.slice a3 q c3]) CU) := by
        have hg := B2.out.2.1.go t
        refine ⟨B2.out.1.but hg.2 NE.out, by rw [← HTT.out]; exact hg.1, B2.out.2.2.1.trans hg.2, B2.out.2.2.2.butT hg.2 B2.out.2.1.box (by decide)⟩
      clear B2
      go_wp2
      go_roundw
      case rel => exact ⟨i + 1, us ++ [.slice a3 q c3], by first | rfl | go_num, by omega, by rw [List.length_append, HU.out]; rfl, B3.out⟩
      case measure => simp [intOf]; omega
end Go.Proofs.Ytndhabhlajldeaa
/- Pieces of one's own, each in a block of its own; append of one; the document's copied. -/
namespace Go.Proofs.Ytndhabhlajldeaa
open Go.RowKit
theorem owns_apart {B B' s s' n n' : Nat} {t t' : TypeId} {W : World} {v v' : Value} {cs cs' : List Value} (h : W.ownsRow B t s v n cs) (h' : W.ownsRow B' t' s' v' n' cs') (ht : t ≠ t') {k : Nat} (hk : OwnV v k) : ¬ OwnV v' k := fun hk' => by
  rcases h.2 with ⟨rfl, _⟩ | ⟨g, c, cur, rfl, _, hh, _⟩
  · cases hk
  · injection hk with hk
    subst hk
    rcases h'.2 with ⟨rfl, _⟩ | ⟨g', c', cur', rfl, _, hh', _⟩
    · cases hk'
    · injection hk' with hk'
      subst hk'
      rw [hh] at hh'
      cases hh'
      exact ht rfl
/-- a list of pieces of one's own -/
def PO (B : Nat) (W : World) (v : Value) (ll : List (List Nat)) : Prop := ∃ us : List Value, us.length = ll.length ∧ W.ownsRow B 22 1 v ll.length us ∧ Own1 B W us ll
theorem PO.nil (B : Nat) (W : World) : PO B W (.slice none 0 0) [] := ⟨[], rfl, World.ownsRow_nil _ _ _ _, fun i u l h => by cases h⟩
theorem PO.past {B : Nat} {W W' : World} {v : Value} {ll : List (List Nat)} (h : PO B W v ll) (k : Below W.heap.size W W') : PO B W' v ll := by
  obtain ⟨us, h1, h2, h3⟩ := h
  exact ⟨us, h1, owns_past h2 k, fun i u l a b => owns_past (h3 i u l a b) k⟩
theorem PO.sl {B : Nat} {W : World} {v : Value} {ll : List (List Nat)} (h : PO B W v ll) : ∃ ad cap, v = .slice ad ll.length cap := by
  obtain ⟨us, _, h2, _⟩ := h
  exact owns_sl h2
theorem PO.one {B : Nat} {W : World} {us : List Value} {ll : List (List Nat)} (h : us.length = ll.length) (h3 : Own1 B W us ll) : ∀ u ∈ us, u.oneCell' = true := fun u hu => by
  obtain ⟨i, hi⟩ := List.getElem?_of_mem hu
  have hl : i < ll.length := by rw [← h]; exact (List.getElem?_eq_some_iff.1 hi).1
  obtain ⟨ad, cap, rfl⟩ := owns_sl (h3 i u _ hi (List.getElem?_eq_getElem hl))
  rfl
/-- append of one piece -/
theorem wpList_appP {w : World} {ops : Array Oper} {rest : List Oper} {o : Oper} {a : Act} {Q : Exit → Act → World → Prop} (hgd : o.guard = none) (s x : Operand)
    (ho : o.op = .call { callee := .builtin .append, args := #[s, x], argTypes := #[26, 26] }) (B : Nat) (hB : B ≤ w.heap.size) (v : Value) (ll : List (List Nat)) (hs : a.eval s = v) (hown : PO B w v ll)
    (u : Value) (l : List Nat) (hu : w.ownsRow B 5 1 u l.length (bV l)) (hx : a.eval x = .slice (some ⟨w.heap.size, 0, none⟩) 1 1) (hn : ll.length + 1 ≤ 2199023255552)
    (h : ∀ v' w', PO B w' v' (ll ++ [l]) → Below B w w' → wpList Try.prog ops Q rest (a.put o.dst v') w') : wpList Try.prog ops Q (o :: rest) a (w.alloc (.cells #[u] 22)) :=
  wpList_plain hgd fun _ hK => by
    obtain ⟨us, hl, hr, h1⟩ := hown
    obtain ⟨ad, cap, rfl⟩ := owns_sl hr
    obtain ⟨ua, uc, rfl⟩ := owns_sl hu
    refine wp_apps s x 26 22 ho (.slice none 0 0) 1 24 Try.underlying26 Try.infoB rfl (by omega) (by omega) B (Nat.le_trans hB (below_alloc _ _).size) ad ll.length cap us hs (owns_past hr (below_alloc _ _)) ⟨w.heap.size, 0, none⟩ 1 1 [.slice ua l.length uc] hx rfl (fun j c hj => ?_) (fun y hy => by rw [List.mem_singleton.1 hy]; rfl) hn (fun ad' cap' w' q1 q2 q3 => ?_)
    · have hj0 : j = 0 := by have := (List.getElem?_eq_some_iff.1 hj).1; simpa using this
      subst hj0
      rw [Addr.add_mid]
      have := (CBox.new w 22 [.slice ua l.length uc]).cell 0
      rw [Nat.zero_add]
      exact this.trans hj
    · have b1 : But (OwnV (.slice ad ll.length cap)) w (w.alloc (.cells #[.slice ua l.length uc] 22)) := below_but (below_alloc _ _)
      have b2 : But (OwnV (.slice ad ll.length cap)) w w' := b1.trans (q2.mono fun k hk => own_iff.1 hk)
      have keep : ∀ {y : Value} {m : List Nat}, w.ownsRow B 5 1 y m.length (bV m) → w'.ownsRow B 5 1 y m.length (bV m) := fun hy => owns_row_blockB hy fun g hg => b2.block g (hy.lt g hg).2 fun e => owns_apart hr hy (by decide) e hg
      refine hK _ _ (h _ _ ⟨us ++ [.slice ua l.length uc], by simp [hl], by rw [List.length_append]; exact q1, ?_⟩ (b2.below (fun k e => (hr.lt k e).1) hB))
      have h2 : Own1 B w' us (ll ++ [l]) := fun i y m hi hm => by
        have hlt : i < ll.length := by rw [← hl]; exact (List.getElem?_eq_some_iff.1 hi).1
        rw [List.getElem?_append_left hlt] at hm
        exact keep (h1 i y m hi hm)
      exact h2.snoc (by rw [hl]; simp) (keep hu)
end Go.Proofs.Ytndhabhlajldeaa
/- The document's containers: the header, whole. -/
namespace Go.Proofs.Ytndhabhlajldeaa
open Go.RowKit
/-- the document's lists in the midst of a header -/
structure RH (bw : Nat) (w W : World) (cv sv tv : Value) (cs ss : List Nat) (td : List (Nat × Nat)) : Prop where
  c : InO bw W cv cs
  s : InO bw W sv ss
  t : FO bw W tv td
  bel : Below bw w W
  ge : bw ≤ w.heap.size
  ap : ∀ g, OwnV cv g → ¬ OwnV sv g
section
variable {bw : Nat} {w W W' : World} {cv sv tv v' : Value} {cs ss : List Nat} {td : List (Nat × Nat)}
theorem RH.le (h : RH bw w W cv sv tv cs ss td) : bw ≤ W.heap.size := Nat.le_trans h.ge h.bel.size
theorem RH.past (h : RH bw w W cv sv tv cs ss td) (q : Below W.heap.size W W') : RH bw w W' cv sv tv cs ss td := ⟨h.c.past q, h.s.past q, h.t.past q, h.bel.trans (q.mono h.le), h.ge, h.ap⟩
end
theorem FO.get {B : Nat} {W : World} {ad : Option Addr} {n c : Nat} {l : List (Nat × Nat)} (h : FO B W (.slice ad n c) l) {i : Nat} {p : Nat × Nat} (hi : l[i]? = some p) : ∃ g, ad = some ⟨g, 0, none⟩ ∧ W.cell? ⟨g, i * 2, none⟩ = some (.int .i64 (p.1 : Int)) ∧ W.cell? ⟨g, i * 2 + 1, none⟩ = some (.int .i64 (p.2 : Int)) := by
  have hl : i < l.length := (List.getElem?_eq_some_iff.1 hi).1
  rcases id h.2 with ⟨e, e2⟩ | ⟨g, c', cur, e, hb, hh, hq, _, hz, ht⟩
  · omega
  · injection e with e1 _ _
    subst e1
    obtain ⟨k0, k1⟩ := fV_get l i p hi
    have c0 := World.ownsRow.cells h (g := g) rfl (i * 2) _ k0
    have c1 := World.ownsRow.cells h (g := g) rfl (i * 2 + 1) _ k1
    exact ⟨g, rfl, by simpa [Addr.add_mid] using c0, by simpa [Addr.add_mid] using c1⟩
end Go.Proofs.Ytndhabhlajldeaa
/- The document's cut: pieces out of bytes. -/
namespace Go.Proofs.Ytndhabhlajldeaa
open Go.RowKit
end Go.Proofs.Ytndhabhlajldeaa
