/- Package container: Serialize. -/
import Derived.Test.YtndhabhlajldeaaBkm
namespace Go.Proofs.Ytndhabhlajldeaa
open Go.RowKit
theorem owns_base {W : World} {B B' : Nat} {t : TypeId} {s n : Nat} {v : Value} {cs : List Value} (h : W.ownsRow B t s v n cs) (hB : B' ≤ B) : W.ownsRow B' t s v n cs := by
  obtain ⟨hl, h | ⟨g, c, cur, rfl, h1, h2⟩⟩ := h
  · exact ⟨hl, Or.inl h⟩
  · exact ⟨hl, Or.inr ⟨g, c, cur, rfl, Nat.le_trans hB h1, h2⟩⟩
theorem make0g (bw : Nat) (W : World) (hb : bw ≤ W.heap.size) (M : Nat) (hM : M ≤ 140737488355328) : ∃ W1 g0, Sem.run Try.prog (Instr.makeSlice 22 (.int .i64 0) (.int .i64 (M : Int))) W = .ok (.slice (some ⟨g0, 0, none⟩) 0 M) W1 ∧ W1.ownsRow bw 5 1 (.slice (some ⟨g0, 0, none⟩) 0 M) 0 (bV []) ∧ Below W.heap.size W W1 := by
  obtain ⟨W1, h1, h2, h3⟩ := make0 W M hM
  exact ⟨W1, _, h1, owns_base h2 hb, h3⟩
def serR (c : Con) : List Nat := if chk c = 0 then ser c else []
/-- a container's box, and a row that is written -/
structure HY (bw : Nat) (w V : World) (l1 : List Value) (v : Value) (l : List Nat) : Prop where
  bel : Below bw w V
  c1 : CBox V bw 28 l1
  row : V.ownsRow bw 5 1 v l.length (bV l)
  ge : bw ≤ w.heap.size
theorem HY.le {bw : Nat} {w V : World} {l1 : List Value} {v : Value} {l : List Nat} (h : HY bw w V l1 v l) : bw ≤ V.heap.size := Nat.le_trans h.ge h.bel.size
theorem HY.step {bw : Nat} {w V V' : World} {l1 : List Value} {v v' : Value} {l l' : List Nat} (h : HY bw w V l1 v l) (k : App bw 5 1 V V' v v' l'.length (bV l')) : HY bw w V' l1 v' l' := ⟨h.bel.trans (k.below h.row h.le), h.c1.app k h.row (by decide), k.row, h.ge⟩
theorem HY.not {bw : Nat} {w V : World} {l1 : List Value} {v : Value} {l : List Nat} (h : HY bw w V l1 v l) : ∀ g, g < bw → ¬ OwnV v g := fun g hg e => by have := (h.row.lt g e).1; omega
set_option maxHeartbeats 4000000 in
set_option maxRecDepth 100000 in
theorem serialize_is {P : Nat → Prop} (w : World) (v : Value) (c : Con) (h : CW P w v c) (hsm : Small c) : Calls Try.prog 35 #[v] w fun e w' => ∃ v', e = .returned (.tuple #[v', .int .i64 (chk c)]) ∧ w'.ownsRow w.heap.size 5 1 v' (serR c).length (bV (serR c)) ∧ Below w.heap.size w w' := by
  have h : CW (fun g => g < w.heap.size) w v c := h.mono (fun _ _ hg => hg)
  obtain ⟨tv, cv, sv, dv, rfl, hT, hC, hS, hD⟩ := id h
  obtain ⟨ta, tc, rfl, _⟩ := hT.len
  obtain ⟨ca, cc, rfl, _⟩ := hC.len
  obtain ⟨sa, sc, rfl, _⟩ := hS.len
  obtain ⟨da, dc, rfl, _, hd1⟩ := hD.len
  have CK : Hid (∀ W, Below w.heap.size w W → Calls Try.prog 38 #[.agg #[.slice ta c.ts.length tc, .slice ca c.cs.length cc, .slice sa c.ss.length sc, .slice da c.d.length dc, .int .i64 c.n]] W fun e w' => e = .returned (.tuple #[.int .i64 ((if chk c = 0 then (ser c).length else 0 : Nat) : Int), .int .i64 (chk c)]) ∧ Below W.heap.size W w') := fun W hW => size_is W _ c (h.past hW) hsm
  have B0 : Hid (Below w.heap.size w (w.alloc (.cells #[.slice ta c.ts.length tc, .slice ca c.cs.length cc, .slice sa c.ss.length sc, .slice da c.d.length dc, .int .i64 c.n] 28)) ∧ CBox (w.alloc (.cells #[.slice ta c.ts.length tc, .slice ca c.cs.length cc, .slice sa c.ss.length sc, .slice da c.d.length dc, .int .i64 c.n] 28)) w.heap.size 28 [.slice ta c.ts.length tc, .slice ca c.cs.length cc, .slice sa c.ss.length sc, .slice da c.d.length dc, .int .i64 c.n]) := ⟨below_alloc _ _, CBox.new _ _ [_, _, _, _, _]⟩
  by_cases ok : chk c = 0
  rotate_left
  · have E0 : Hid (serR c = []) := by unfold Hid serR; rw [if_neg ok]
    rw [E0.out]
    rw [if_neg ok] at CK
    have q2 : (chk c == 0) = false := by simpa using ok
    have q3 : (chk c != 0) = true := by simpa using ok
    clear hT hC hS hD hd1 E0 h hsm ok
    generalize chk c = r at *
    generalize c.ts.length = nt at *
    generalize c.cs.length = nc at *
    generalize c.ss.length = ns at *
    generalize c.d.length = nd at *
    generalize c.n = z at *
    generalize hbx : w.heap.size = bx at *
    have GE : Hid (bx ≤ w.heap.size) := by unfold Hid; omega
    go_enter Try.func35, Try.ntmps35
    go_upto_region 1 with fail
    generalize w.alloc _ = W0 at B0 ⊢
    have c0 : W0.cell? ⟨bx, 0, none⟩ = some (.slice ta nt tc) := B0.out.2.cell 0
    have c1 : W0.cell? ⟨bx, 1, none⟩ = some (.slice ca nc cc) := B0.out.2.cell 1
    have c2 : W0.cell? ⟨bx, 2, none⟩ = some (.slice sa ns sc) := B0.out.2.cell 2
    have c3 : W0.cell? ⟨bx, 3, none⟩ = some (.slice da nd dc) := B0.out.2.cell 3
    have c4 : W0.cell? ⟨bx, 4, none⟩ = some (.int .i64 z) := B0.out.2.cell 4
    clear hbx
    go_wp2_with (go_at_call 38; refine (CK.out _ B0.out.1).mono ?_; rintro e w1 ⟨rfl, hB⟩)
    go_ret2
    exact ⟨_, rfl, World.ownsRow_nil _ _ _ _, B0.out.1.trans (hB.mono (Nat.le_trans GE.out B0.out.1.size))⟩
  have my := chk_may ok
  obtain ⟨q, hq⟩ : ∃ q : Nat, c.n = (q : Int) := ⟨c.n.toNat, by have := my.z2; omega⟩
  have eq : c.n.toNat = q := by omega
  have qI : q ≤ 65535 := by have := my.z1; omega
  have n1e := lns_len c.cs
  have n2e := lns_len c.ss
  have SLn := ser_len my
  have SS := ser_small my hsm
  have HX := lns_lt hsm
  have l1 : (lns c.cs).length ≤ 16777216 ∧ (lns c.ss).length ≤ 16777216 := by have := my.n2; have := my.ns; omega
  rw [eq] at SLn
  have HOc : Hid (∀ W, Below w.heap.size w W → Calls Try.prog 74 #[.agg #[.slice ta c.ts.length tc, .slice ca c.cs.length cc, .slice sa c.ss.length sc, .slice da c.d.length dc, .int .i64 c.n]] W fun e w' => ∃ a1 a2, e = .returned (.agg #[.slice a1 (lns c.cs).length (lns c.cs).length, .slice a2 (lns c.ss).length (lns c.ss).length, .int .u64 (q : Int)]) ∧ UL w' (.slice a1 (lns c.cs).length (lns c.cs).length) (lns c.cs) ∧ UL w' (.slice a2 (lns c.ss).length (lns c.ss).length) (lns c.ss) ∧ Below W.heap.size W w') := fun W hW => (headerOf_is W _ c (h.past hW) (by have := my.z1; omega) (by have := my.n2; omega) (by have := my.ns; omega)).mono fun e w' ⟨u1, u2, h1, h2, h3, h4⟩ => by
    obtain ⟨a1, rfl⟩ := h2.len
    obtain ⟨a2, rfl⟩ := h3.len
    rw [eq] at h1
    exact ⟨a1, a2, h1, h2, h3, h4⟩
  have EF : Hid ((((hd (lns c.cs) (lns c.ss) q ++ c.ts.flatMap tyb) ++ c.cs.flatten) ++ c.ss.flatten) ++ c.d = serR c) := by unfold Hid serR; rw [if_pos ok, ser, eq]
  have LB : Hid ((((hd (lns c.cs) (lns c.ss) q ++ c.ts.flatMap tyb) ++ c.cs.flatten) ++ c.ss.flatten).length + c.d.length ≤ 2199023255552) := by
    unfold Hid
    have h9 := congrArg List.length EF.out
    rw [List.length_append, serR, if_pos ok] at h9
    omega
  have lbs : (hd (lns c.cs) (lns c.ss) q).length + (c.ts.flatMap tyb).length + c.cs.flatten.length + c.ss.flatten.length ≤ 67108864 := by
    have h9 := congrArg List.length EF.out
    simp only [List.length_append, serR, if_pos ok] at h9
    omega
  have WR : Hid (∀ W a1 a2, w.heap.size ≤ W.heap.size → UL W (.slice a1 (lns c.cs).length (lns c.cs).length) (lns c.cs) → UL W (.slice a2 (lns c.ss).length (lns c.ss).length) (lns c.ss) → ∀ g0, W.ownsRow w.heap.size 5 1 (.slice (some ⟨g0, 0, none⟩) 0 (ser c).length) 0 (bV []) → Calls Try.prog 75 #[.agg #[.slice a1 (lns c.cs).length (lns c.cs).length, .slice a2 (lns c.ss).length (lns c.ss).length, .int .u64 (q : Int)], .slice (some ⟨g0, 0, none⟩) 0 (ser c).length] W fun e w' => ∃ v', e = .returned v' ∧ App w.heap.size 5 1 W w' (.slice (some ⟨g0, 0, none⟩) 0 (ser c).length) v' (hd (lns c.cs) (lns c.ss) q).length (bV (hd (lns c.cs) (lns c.ss) q))) := fun W a1 a2 hW h1 h2 g0 hr => (write_is W w.heap.size hW _ [] hr _ _ _ _ q h1 h2 HX.1 HX.2 l1.1 l1.2 (by omega) (by simp)).mono fun e w' ⟨v', h3, h4⟩ => by
    rw [List.nil_append] at h4
    exact ⟨v', h3, h4⟩
  have TY : Hid (∀ W v1, HY w.heap.size w W (conV ta c.ts.length tc ca c.cs.length cc sa c.ss.length sc da c.d.length dc (q : Int)) v1 (hd (lns c.cs) (lns c.ss) q) → Calls Try.prog 76 #[v1, .slice ta c.ts.length tc] W fun e w' => ∃ v', e = .returned v' ∧ App w.heap.size 5 1 W w' v1 v' (hd (lns c.cs) (lns c.ss) q ++ c.ts.flatMap tyb).length (bV (hd (lns c.cs) (lns c.ss) q ++ c.ts.flatMap tyb))) := fun W v1 hY => writeTypes_is W w.heap.size hY.le v1 _ hY.row _ c.ts (hT.past hY.bel) hY.not (chkT_ok c.ts 0 my.ty) (by have := my.n2; have := my.nt; omega) (by omega)
  have CP : Hid (∀ W v1, HY w.heap.size w W (conV ta c.ts.length tc ca c.cs.length cc sa c.ss.length sc da c.d.length dc (q : Int)) v1 (hd (lns c.cs) (lns c.ss) q ++ c.ts.flatMap tyb) → Calls Try.prog 77 #[v1, .slice ca c.cs.length cc] W fun e w' => ∃ v', e = .returned v' ∧ App w.heap.size 5 1 W w' v1 v' ((hd (lns c.cs) (lns c.ss) q ++ c.ts.flatMap tyb) ++ c.cs.flatten).length (bV ((hd (lns c.cs) (lns c.ss) q ++ c.ts.flatMap tyb) ++ c.cs.flatten))) := fun W v1 hY => writePieces_is W w.heap.size hY.le v1 _ hY.row _ c.cs (hC.past hY.bel) hY.not (by rw [List.length_append]; omega)
  have SPp : Hid (∀ W v1, HY w.heap.size w W (conV ta c.ts.length tc ca c.cs.length cc sa c.ss.length sc da c.d.length dc (q : Int)) v1 ((hd (lns c.cs) (lns c.ss) q ++ c.ts.flatMap tyb) ++ c.cs.flatten) → Calls Try.prog 77 #[v1, .slice sa c.ss.length sc] W fun e w' => ∃ v', e = .returned v' ∧ App w.heap.size 5 1 W w' v1 v' (((hd (lns c.cs) (lns c.ss) q ++ c.ts.flatMap tyb) ++ c.cs.flatten) ++ c.ss.flatten).length (bV (((hd (lns c.cs) (lns c.ss) q ++ c.ts.flatMap tyb) ++ c.cs.flatten) ++ c.ss.flatten))) := fun W v1 hY => writePieces_is W w.heap.size hY.le v1 _ hY.row _ c.ss (hS.past hY.bel) hY.not (by rw [List.length_append, List.length_append]; omega)
  have DT : Hid (∀ W, Below w.heap.size w W → BL (fun g => g < w.heap.size) W (.slice da c.d.length dc) c.d) := fun W hW => hD.past hW
  have RM : Hid ((ser c).length ≤ 140737488355328) := by unfold Hid; omega
  rw [if_pos ok] at CK
  rw [ok, hq] at CK
  rw [ok, hq]
  rw [hq] at B0 HOc
  clear h my HX l1 hT hC hS hD n1e n2e hq eq ok hd1 hsm SLn SS lbs qI
  generalize hd (lns c.cs) (lns c.ss) q = HDR at *
  generalize (ser c).length = rr at *
  generalize (lns c.cs).length = n1 at *
  generalize (lns c.ss).length = n2 at *
  generalize lns c.cs = L1 at *
  generalize lns c.ss = L2 at *
  generalize c.ts.flatMap tyb = TYS at *
  generalize c.cs.flatten = CF at *
  generalize c.ss.flatten = SF at *
  generalize c.ts.length = nt at *
  generalize c.cs.length = nc at *
  generalize c.ss.length = ns at *
  generalize hnd : c.d.length = nd at *
  generalize c.d = DD at *
  subst hnd
  generalize hnd : DD.length = nd at *
  have LB2 : Hid ((((HDR ++ TYS) ++ CF) ++ SF).length + DD.length ≤ 2199023255552) := by unfold Hid; rw [hnd]; exact LB.out
  clear LB
  generalize hbw : w.heap.size = bw at *
  have GE : Hid (bw ≤ w.heap.size) := by unfold Hid; omega
  go_enter Try.func35, Try.ntmps35
  go_upto_region 1 with fail
  generalize w.alloc _ = W0 at B0 ⊢
  have c0 : W0.cell? ⟨bw, 0, none⟩ = some (.slice ta nt tc) := B0.out.2.cell 0
  have c1 : W0.cell? ⟨bw, 1, none⟩ = some (.slice ca nc cc) := B0.out.2.cell 1
  have c2 : W0.cell? ⟨bw, 2, none⟩ = some (.slice sa ns sc) := B0.out.2.cell 2
  have c3 : W0.cell? ⟨bw, 3, none⟩ = some (.slice da nd dc) := B0.out.2.cell 3
  have c4 : W0.cell? ⟨bw, 4, none⟩ = some (.int .i64 (q : Int)) := B0.out.2.cell 4
  clear hbw hnd
  go_upto_region 4 with (go_at_call 38; refine (CK.out _ B0.out.1).mono ?_; rintro e w1 ⟨rfl, hB⟩)
  have B1 : Hid (Below bw w w1 ∧ CBox w1 bw 28 (conV ta nt tc ca nc cc sa ns sc da nd dc (q : Int))) := ⟨B0.out.1.trans (hB.mono (Nat.le_trans GE.out B0.out.1.size)), B0.out.2.past hB⟩
  clear c0 c1 c2 c3 c4 hB B0
  refine wp_region_held_drew (S := fun V' => Below bw w V' ∧ CBox V' bw 28 (conV ta nt tc ca nc cc sa ns sc da nd dc (q : Int)) ∧ bw ≤ w.heap.size) (by kernel_rfl) (by exact ⟨B1.out.1.trans ((below_drew).mono (Nat.le_trans GE.out B1.out.1.size)), B1.out.2.past below_drew, GE.out⟩) (fun hHeld => ?_)
  generalize w1.drew = zz at hHeld ⊢
  refine wpAnyH_take (i := 0) (v := (.agg #[.slice ta nt tc, .slice ca nc cc, .slice sa ns sc, .slice da nd dc, .int .i64 (q : Int)])) ov0 (by kernel_rfl) (by kernel_rfl) (by kernel_rfl) (fun _ _ _ h => h) (Or.inl ⟨by rfl, fun V' hS => ?_⟩) hHeld ?_
  · have k0 : V'.cell? ⟨bw, 0, none⟩ = some (.slice ta nt tc) := hS.2.1.cell 0; have k1 : V'.cell? ⟨bw, 1, none⟩ = some (.slice ca nc cc) := hS.2.1.cell 1; have k2 : V'.cell? ⟨bw, 2, none⟩ = some (.slice sa ns sc) := hS.2.1.cell 2; have k3 : V'.cell? ⟨bw, 3, none⟩ = some (.slice da nd dc) := hS.2.1.cell 3; have k4 : V'.cell? ⟨bw, 4, none⟩ = some (.int .i64 (q : Int)) := hS.2.1.cell 4
    go_simp
  simp only [Act.put, List.setIfInBounds_toArray, List.set_cons_zero, List.set_cons_succ]
  refine wpAnyH_take (i := 2) (v := .int .i64 (rr : Int)) ov2 (by kernel_rfl) (by kernel_rfl) (by kernel_rfl) (fun _ _ _ h => h) (Or.inl ⟨by rfl, fun V' hS => ?_⟩) hHeld ?_
  · go_simp
  simp only [Act.put, List.setIfInBounds_toArray, List.set_cons_zero, List.set_cons_succ]
  refine wpAnyH_ready (rs := [1, 3]) (by kernel_rfl) (by simp) ?_
  refine AllReadyH.cons ov1 (fun K hK => ?_) (AllReadyH.cons ov3 (fun K hK => ?_) AllReadyH.nil)
  · rw [if_pos (by rfl)]
    go_simp
    refine (HOc.out _ hHeld.1).mono ?_
    rintro e zz ⟨a1, a2, rfl, hU1, hU2, hB⟩
    have hHeld : Below bw w zz ∧ CBox zz bw 28 (conV ta nt tc ca nc cc sa ns sc da nd dc (q : Int)) ∧ bw ≤ w.heap.size := ⟨hHeld.1.trans (hB.mono (Nat.le_trans hHeld.2.2 hHeld.1.size)), hHeld.2.1.past hB, hHeld.2.2⟩
    have HU : Hid (UL zz (.slice a1 n1 n1) L1 ∧ UL zz (.slice a2 n2 n2) L2) := ⟨hU1, hU2⟩
    (try have HR : Hid (zz.ownsRow bw 5 1 (.slice (some ⟨g0, 0, none⟩) 0 rr) 0 (bV [])) := owns_past HR.out hB)
    clear hU1 hU2 hB
    (try go_wp2_with fail)
    refine hK.out _ _ hHeld (fun _ => ?_)
    clear hK K
    (try simp only [Act.put, List.setIfInBounds_toArray, List.set_cons_zero, List.set_cons_succ])
    refine wpAnyH_ready (rs := [3]) (by kernel_rfl) (by simp) ?_
    refine AllReadyH.cons ov3 (fun K hK => ?_) AllReadyH.nil
    rw [if_pos (by rfl)]
    obtain ⟨zm, g0, hmk, hrow, hBm⟩ := make0g bw zz (Nat.le_trans hHeld.2.2 hHeld.1.size) rr RM.out
    go_simp
    (try have HU : Hid (UL zm (.slice a1 n1 n1) L1 ∧ UL zm (.slice a2 n2 n2) L2) := ⟨HU.out.1.past hBm, HU.out.2.past hBm⟩)
    have HR : Hid (zm.ownsRow bw 5 1 (.slice (some ⟨g0, 0, none⟩) 0 rr) 0 (bV [])) := hrow
    have hHeld : Below bw w zm ∧ CBox zm bw 28 (conV ta nt tc ca nc cc sa ns sc da nd dc (q : Int)) ∧ bw ≤ w.heap.size := ⟨hHeld.1.trans (hBm.mono (Nat.le_trans hHeld.2.2 hHeld.1.size)), hHeld.2.1.past hBm, hHeld.2.2⟩
    refine hK.out _ zm hHeld (fun _ => ?_)
    clear hK K
    (try simp only [Act.put, List.setIfInBounds_toArray, List.set_cons_zero, List.set_cons_succ])
    clear hmk hrow hBm
    refine wpAnyH_ready (rs := [4]) (by kernel_rfl) (by simp) ?_
    refine AllReadyH.cons ov4 (fun K hK => ?_) AllReadyH.nil
    rw [if_pos (by rfl)]
    go_simp
    refine (WR.out _ a1 a2 (Nat.le_trans hHeld.2.2 hHeld.1.size) HU.out.1 HU.out.2 g0 HR.out).mono ?_
    rintro e zz ⟨v1, rfl, hA⟩
    have Y1 : Hid (HY bw w zz (conV ta nt tc ca nc cc sa ns sc da nd dc (q : Int)) v1 HDR) := HY.step ⟨hHeld.1, hHeld.2.1, HR.out, hHeld.2.2⟩ hA
    have hHeld : Below bw w zz ∧ CBox zz bw 28 (conV ta nt tc ca nc cc sa ns sc da nd dc (q : Int)) ∧ bw ≤ w.heap.size := ⟨Y1.out.bel, Y1.out.c1, Y1.out.ge⟩
    clear hA
    (try go_wp2_with fail)
    refine hK.out _ _ hHeld (fun _ => ?_)
    clear hK K
    (try simp only [Act.put, List.setIfInBounds_toArray, List.set_cons_zero, List.set_cons_succ])
    refine wpAnyH_take (i := 5) (v := v1) ov5 (by kernel_rfl) (by kernel_rfl) (by kernel_rfl) (fun _ _ _ h => h) (Or.inl ⟨by rfl, fun V' hS => ?_⟩) hHeld ?_
    · go_simp
    simp only [Act.put, List.setIfInBounds_toArray, List.set_cons_zero, List.set_cons_succ]
    refine wpAnyH_done (by kernel_rfl) ?_ _
    clear hHeld
    go_upto_region 5 with fail
    have TYP := TY.out zz v1 Y1.out
    have k0 : zz.cell? ⟨bw, 0, none⟩ = some (.slice ta nt tc) := Y1.out.c1.cell 0
    go_upto_region 6 with (go_at_call 76; refine TYP.mono ?_; rintro e y2 ⟨v2, rfl, hA⟩)
    have Y2 : Hid (HY bw w y2 (conV ta nt tc ca nc cc sa ns sc da nd dc (q : Int)) v2 (HDR ++ TYS)) := Y1.out.step hA
    clear hA k0 Y1 TYP
    have k1 : y2.cell? ⟨bw, 1, none⟩ = some (.slice ca nc cc) := Y2.out.c1.cell 1
    have CPc := CP.out y2 v2 Y2.out
    go_upto_region 7 with (go_at_call 77; refine CPc.mono ?_; rintro e y3 ⟨v3, rfl, hA⟩)
    have Y3 : Hid (HY bw w y3 (conV ta nt tc ca nc cc sa ns sc da nd dc (q : Int)) v3 ((HDR ++ TYS) ++ CF)) := Y2.out.step hA
    clear hA k1 Y2 CPc
    have k2 : y3.cell? ⟨bw, 2, none⟩ = some (.slice sa ns sc) := Y3.out.c1.cell 2
    have SPc := SPp.out y3 v3 Y3.out
    go_upto_region 8 with (go_at_call 77; refine SPc.mono ?_; rintro e y4 ⟨v4, rfl, hA⟩)
    have Y4 : Hid (HY bw w y4 (conV ta nt tc ca nc cc sa ns sc da nd dc (q : Int)) v4 (((HDR ++ TYS) ++ CF) ++ SF)) := Y3.out.step hA
    clear hA k2 Y3 SPc
    have k3 : y4.cell? ⟨bw, 3, none⟩ = some (.slice da nd dc) := Y4.out.c1.cell 3
    go_wp2_with (at_builtin; refine wpList_appB (P := fun g => g < bw) rfl _ _ rfl bw Y4.out.le v4 (((HDR ++ TYS) ++ CF) ++ SF) rfl Y4.out.row (.slice da nd dc) DD rfl (DT.out y4 Y4.out.bel) LB2.out ?_; intro v5 y5 hA)
    have Y5 := Y4.out.step hA
    go_ret2
    exact ⟨v5, rfl, by rw [← EF.out]; exact Y5.row, Y5.bel⟩
  · rw [if_pos (by rfl)]
    obtain ⟨zm, g0, hmk, hrow, hBm⟩ := make0g bw zz (Nat.le_trans hHeld.2.2 hHeld.1.size) rr RM.out
    go_simp
    (try have HU : Hid (UL zm (.slice a1 n1 n1) L1 ∧ UL zm (.slice a2 n2 n2) L2) := ⟨HU.out.1.past hBm, HU.out.2.past hBm⟩)
    have HR : Hid (zm.ownsRow bw 5 1 (.slice (some ⟨g0, 0, none⟩) 0 rr) 0 (bV [])) := hrow
    have hHeld : Below bw w zm ∧ CBox zm bw 28 (conV ta nt tc ca nc cc sa ns sc da nd dc (q : Int)) ∧ bw ≤ w.heap.size := ⟨hHeld.1.trans (hBm.mono (Nat.le_trans hHeld.2.2 hHeld.1.size)), hHeld.2.1.past hBm, hHeld.2.2⟩
    refine hK.out _ zm hHeld (fun _ => ?_)
    clear hK K
    (try simp only [Act.put, List.setIfInBounds_toArray, List.set_cons_zero, List.set_cons_succ])
    clear hmk hrow hBm
    refine wpAnyH_ready (rs := [1]) (by kernel_rfl) (by simp) ?_
    refine AllReadyH.cons ov1 (fun K hK => ?_) AllReadyH.nil
    rw [if_pos (by rfl)]
    go_simp
    refine (HOc.out _ hHeld.1).mono ?_
    rintro e zz ⟨a1, a2, rfl, hU1, hU2, hB⟩
    have hHeld : Below bw w zz ∧ CBox zz bw 28 (conV ta nt tc ca nc cc sa ns sc da nd dc (q : Int)) ∧ bw ≤ w.heap.size := ⟨hHeld.1.trans (hB.mono (Nat.le_trans hHeld.2.2 hHeld.1.size)), hHeld.2.1.past hB, hHeld.2.2⟩
    have HU : Hid (UL zz (.slice a1 n1 n1) L1 ∧ UL zz (.slice a2 n2 n2) L2) := ⟨hU1, hU2⟩
    (try have HR : Hid (zz.ownsRow bw 5 1 (.slice (some ⟨g0, 0, none⟩) 0 rr) 0 (bV [])) := owns_past HR.out hB)
    clear hU1 hU2 hB
    (try go_wp2_with fail)
    refine hK.out _ _ hHeld (fun _ => ?_)
    clear hK K
    (try simp only [Act.put, List.setIfInBounds_toArray, List.set_cons_zero, List.set_cons_succ])
    refine wpAnyH_ready (rs := [4]) (by kernel_rfl) (by simp) ?_
    refine AllReadyH.cons ov4 (fun K hK => ?_) AllReadyH.nil
    rw [if_pos (by rfl)]
    go_simp
    refine (WR.out _ a1 a2 (Nat.le_trans hHeld.2.2 hHeld.1.size) HU.out.1 HU.out.2 g0 HR.out).mono ?_
    rintro e zz ⟨v1, rfl, hA⟩
    have Y1 : Hid (HY bw w zz (conV ta nt tc ca nc cc sa ns sc da nd dc (q : Int)) v1 HDR) := HY.step ⟨hHeld.1, hHeld.2.1, HR.out, hHeld.2.2⟩ hA
    have hHeld : Below bw w zz ∧ CBox zz bw 28 (conV ta nt tc ca nc cc sa ns sc da nd dc (q : Int)) ∧ bw ≤ w.heap.size := ⟨Y1.out.bel, Y1.out.c1, Y1.out.ge⟩
    clear hA
    (try go_wp2_with fail)
    refine hK.out _ _ hHeld (fun _ => ?_)
    clear hK K
    (try simp only [Act.put, List.setIfInBounds_toArray, List.set_cons_zero, List.set_cons_succ])
    refine wpAnyH_take (i := 5) (v := v1) ov5 (by kernel_rfl) (by kernel_rfl) (by kernel_rfl) (fun _ _ _ h => h) (Or.inl ⟨by rfl, fun V' hS => ?_⟩) hHeld ?_
    · go_simp
    simp only [Act.put, List.setIfInBounds_toArray, List.set_cons_zero, List.set_cons_succ]
    refine wpAnyH_done (by kernel_rfl) ?_ _
    clear hHeld
    go_upto_region 5 with fail
    have TYP := TY.out zz v1 Y1.out
    have k0 : zz.cell? ⟨bw, 0, none⟩ = some (.slice ta nt tc) := Y1.out.c1.cell 0
    go_upto_region 6 with (go_at_call 76; refine TYP.mono ?_; rintro e y2 ⟨v2, rfl, hA⟩)
    have Y2 : Hid (HY bw w y2 (conV ta nt tc ca nc cc sa ns sc da nd dc (q : Int)) v2 (HDR ++ TYS)) := Y1.out.step hA
    clear hA k0 Y1 TYP
    have k1 : y2.cell? ⟨bw, 1, none⟩ = some (.slice ca nc cc) := Y2.out.c1.cell 1
    have CPc := CP.out y2 v2 Y2.out
    go_upto_region 7 with (go_at_call 77; refine CPc.mono ?_; rintro e y3 ⟨v3, rfl, hA⟩)
    have Y3 : Hid (HY bw w y3 (conV ta nt tc ca nc cc sa ns sc da nd dc (q : Int)) v3 ((HDR ++ TYS) ++ CF)) := Y2.out.step hA
    clear hA k1 Y2 CPc
    have k2 : y3.cell? ⟨bw, 2, none⟩ = some (.slice sa ns sc) := Y3.out.c1.cell 2
    have SPc := SPp.out y3 v3 Y3.out
    go_upto_region 8 with (go_at_call 77; refine SPc.mono ?_; rintro e y4 ⟨v4, rfl, hA⟩)
    have Y4 : Hid (HY bw w y4 (conV ta nt tc ca nc cc sa ns sc da nd dc (q : Int)) v4 (((HDR ++ TYS) ++ CF) ++ SF)) := Y3.out.step hA
    clear hA k2 Y3 SPc
    have k3 : y4.cell? ⟨bw, 3, none⟩ = some (.slice da nd dc) := Y4.out.c1.cell 3
    go_wp2_with (at_builtin; refine wpList_appB (P := fun g => g < bw) rfl _ _ rfl bw Y4.out.le v4 (((HDR ++ TYS) ++ CF) ++ SF) rfl Y4.out.row (.slice da nd dc) DD rfl (DT.out y4 Y4.out.bel) LB2.out ?_; intro v5 y5 hA)
    have Y5 := Y4.out.step hA
    go_ret2
    exact ⟨v5, rfl, by rw [← EF.out]; exact Y5.row, Y5.bel⟩
end Go.Proofs.Ytndhabhlajldeaa
