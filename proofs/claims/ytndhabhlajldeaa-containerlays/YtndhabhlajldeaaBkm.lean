/- Package container: Size, Serialize. -/
import Derived.Test.YtndhabhlajldeaaBkl
namespace Go.Proofs.Ytndhabhlajldeaa
open Go.RowKit
def conV (ta : Option Addr) (nt tc : Nat) (ca : Option Addr) (nc cc : Nat) (sa : Option Addr) (ns sc : Nat) (da : Option Addr) (nd dc : Nat) (z : Int) : List Value := [.slice ta nt tc, .slice ca nc cc, .slice sa ns sc, .slice da nd dc, .int .i64 z]
/-- the boxes of Size: the container's, the header's -/
structure HZ (bw : Nat) (w V : World) (b1 b5 : Nat) (l1 l5 : List Value) : Prop where
  bel : Below bw w V
  c1 : CBox V b1 28 l1
  c5 : CBox V b5 84 l5
  ge : bw ≤ w.heap.size
theorem HZ.past {bw : Nat} {w V V' : World} {b1 b5 : Nat} {l1 l5 : List Value} (h : HZ bw w V b1 b5 l1 l5) (k : Below V.heap.size V V') : HZ bw w V' b1 b5 l1 l5 := ⟨h.bel.trans (k.mono (Nat.le_trans h.ge h.bel.size)), h.c1.past k, h.c5.past k, h.ge⟩
set_option maxHeartbeats 4000000 in
set_option maxRecDepth 100000 in
theorem size_is {P : Nat → Prop} (w : World) (v : Value) (c : Con) (h : CW P w v c) (hsm : Small c) : Calls Try.prog 38 #[v] w fun e w' => e = .returned (.tuple #[.int .i64 ((if chk c = 0 then (ser c).length else 0 : Nat) : Int), .int .i64 (chk c)]) ∧ Below w.heap.size w w' := by
  obtain ⟨tv, cv, sv, dv, rfl, hT, hC, hS, hD⟩ := id h
  obtain ⟨ta, tc, rfl, _⟩ := hT.len
  obtain ⟨ca, cc, rfl, _⟩ := hC.len
  obtain ⟨sa, sc, rfl, _⟩ := hS.len
  obtain ⟨da, dc, rfl, _, hd1⟩ := hD.len
  have CK : Hid (∀ W, Below w.heap.size w W → Calls Try.prog 20 #[.agg #[.slice ta c.ts.length tc, .slice ca c.cs.length cc, .slice sa c.ss.length sc, .slice da c.d.length dc, .int .i64 c.n]] W fun e w' => e = .returned (.int .i64 (chk c)) ∧ Below W.heap.size W w') := fun W hW => check_is W _ c (h.past hW)
  have B0 : Hid (Below w.heap.size w (w.alloc (.cells #[.slice ta c.ts.length tc, .slice ca c.cs.length cc, .slice sa c.ss.length sc, .slice da c.d.length dc, .int .i64 c.n] 28)) ∧ CBox (w.alloc (.cells #[.slice ta c.ts.length tc, .slice ca c.cs.length cc, .slice sa c.ss.length sc, .slice da c.d.length dc, .int .i64 c.n] 28)) w.heap.size 28 [.slice ta c.ts.length tc, .slice ca c.cs.length cc, .slice sa c.ss.length sc, .slice da c.d.length dc, .int .i64 c.n]) := ⟨below_alloc _ _, CBox.new _ _ [_, _, _, _, _]⟩
  by_cases ok : chk c = 0
  rotate_left
  · have E0 : Hid ((if chk c = 0 then (ser c).length else 0) = 0) := by unfold Hid; rw [if_neg ok]
    rw [E0.out]
    have q2 : (chk c == 0) = false := by simpa using ok
    have q3 : (chk c != 0) = true := by simpa using ok
    clear hT hC hS hD hd1 E0 h hsm ok
    generalize chk c = r at *
    generalize c.ts.length = nt at *
    generalize c.cs.length = nc at *
    generalize c.ss.length = ns at *
    generalize c.d.length = nd at *
    generalize c.n = z at *
    go_enter Try.func38, Try.ntmps38
    go_upto_region 1 with fail
    generalize w.alloc _ = W0 at B0 ⊢
    generalize hbx : w.heap.size = bx at *
    have GB : Hid (w.heap.size = bx) := hbx
    have c0 : W0.cell? ⟨bx, 0, none⟩ = some (.slice ta nt tc) := B0.out.2.cell 0
    have c1 : W0.cell? ⟨bx, 1, none⟩ = some (.slice ca nc cc) := B0.out.2.cell 1
    have c2 : W0.cell? ⟨bx, 2, none⟩ = some (.slice sa ns sc) := B0.out.2.cell 2
    have c3 : W0.cell? ⟨bx, 3, none⟩ = some (.slice da nd dc) := B0.out.2.cell 3
    have c4 : W0.cell? ⟨bx, 4, none⟩ = some (.int .i64 z) := B0.out.2.cell 4
    clear hbx
    go_wp2_with (go_at_call 20; refine (CK.out _ B0.out.1).mono ?_; rintro e w1 ⟨rfl, hB⟩)
    go_ret2
    exact ⟨rfl, by have := B0.out.1.trans (hB.mono (by have := B0.out.1.size; rw [← GB.out]; have h9 := B0.out.1.size; exact h9)); rw [GB.out]; exact this⟩
  have my := chk_may ok
  obtain ⟨q, hq⟩ : ∃ q : Nat, c.n = (q : Int) := ⟨c.n.toNat, by have := my.z2; omega⟩
  have eq : c.n.toNat = q := by omega
  have qI : q ≤ 65535 := by have := my.z1; omega
  have n1e := lns_len c.cs
  have n2e := lns_len c.ss
  have SLn := ser_len my
  have SS := ser_small my hsm
  have HX := lns_lt hsm
  have l1 : (lns c.cs).length ≤ 16777216 ∧ (lns c.ss).length ≤ 16777216 := by have := my.n2; have := my.ns; omega
  rw [eq] at SLn
  have HOc : Hid (∀ W, Below w.heap.size w W → Calls Try.prog 74 #[.agg #[.slice ta c.ts.length tc, .slice ca c.cs.length cc, .slice sa c.ss.length sc, .slice da c.d.length dc, .int .i64 c.n]] W fun e w' => ∃ a1 a2, e = .returned (.agg #[.slice a1 (lns c.cs).length (lns c.cs).length, .slice a2 (lns c.ss).length (lns c.ss).length, .int .u64 (q : Int)]) ∧ UL w' (.slice a1 (lns c.cs).length (lns c.cs).length) (lns c.cs) ∧ UL w' (.slice a2 (lns c.ss).length (lns c.ss).length) (lns c.ss) ∧ Below W.heap.size W w') := fun W hW => (headerOf_is W _ c (h.past hW) (by have := my.z1; omega) (by have := my.n2; omega) (by have := my.ns; omega)).mono fun e w' ⟨u1, u2, h1, h2, h3, h4⟩ => by
    obtain ⟨a1, rfl⟩ := h2.len
    obtain ⟨a2, rfl⟩ := h3.len
    rw [eq] at h1
    exact ⟨a1, a2, h1, h2, h3, h4⟩
  have WR : Hid (∀ W a1 a2, UL W (.slice a1 (lns c.cs).length (lns c.cs).length) (lns c.cs) → UL W (.slice a2 (lns c.ss).length (lns c.ss).length) (lns c.ss) → Calls Try.prog 75 #[.agg #[.slice a1 (lns c.cs).length (lns c.cs).length, .slice a2 (lns c.ss).length (lns c.ss).length, .int .u64 (q : Int)], .slice none 0 0] W fun e w' => ∃ a3 c3, e = .returned (.slice a3 (hd (lns c.cs) (lns c.ss) q).length c3) ∧ Below W.heap.size W w') := fun W a1 a2 h1 h2 => (write_is W W.heap.size (Nat.le_refl _) (.slice none 0 0) [] (World.ownsRow_nil _ _ _ _) _ _ _ _ q h1 h2 HX.1 HX.2 l1.1 l1.2 (by omega) (by simp)).mono fun e w' ⟨v', h3, h4⟩ => by
    obtain ⟨a3, c3, rfl⟩ := owns_sl h4.row
    rw [List.nil_append] at h3
    exact ⟨a3, c3, h3, h4.nil_below⟩
  have BH : Hid (∀ W a1 a2, UL W (.slice a1 (lns c.cs).length (lns c.cs).length) (lns c.cs) → UL W (.slice a2 (lns c.ss).length (lns c.ss).length) (lns c.ss) → Calls Try.prog 81 #[.agg #[.slice a1 (lns c.cs).length (lns c.cs).length, .slice a2 (lns c.ss).length (lns c.ss).length, .int .u64 (q : Int)]] W fun e w' => e = .returned (.int .u64 ((4 * (lns c.cs).length + sumL (lns c.cs) + sumL (lns c.ss) : Nat) : Int)) ∧ Below W.heap.size W w') := fun W a1 a2 h1 h2 => behind_is W _ _ _ _ q h1 h2 (by omega) (by omega)
  rw [if_pos ok, ok, hq]
  rw [ok, hq] at CK
  rw [hq] at B0 HOc
  clear h my HX l1 hT hC hS hD n1e n2e hq eq ok hd1 hsm
  generalize hm2 : 4 * (lns c.cs).length + sumL (lns c.cs) + sumL (lns c.ss) = m2 at *
  generalize hm1 : (hd (lns c.cs) (lns c.ss) q).length = m1 at *
  generalize hrr : (ser c).length = rr at *
  clear hm2 hm1 hrr
  generalize (lns c.cs).length = n1 at *
  generalize (lns c.ss).length = n2 at *
  generalize lns c.cs = L1 at *
  generalize lns c.ss = L2 at *
  generalize c.ts.length = nt at *
  generalize c.cs.length = nc at *
  generalize c.ss.length = ns at *
  generalize c.d.length = nd at *
  obtain ⟨s1, hs1⟩ : ∃ s1 : Nat, s1 = m1 + m2 := ⟨_, rfl⟩
  have r1 : (m1 : Int) + (m2 : Int) = (s1 : Int) := by omega
  have r2 : (s1 : Int) + (nd : Int) = (rr : Int) := by omega
  have w1 : IntKind.i64.wrap (s1 : Int) = (s1 : Int) := by rw [IntKind.wrap_i64]; omega
  have w2 : IntKind.i64.wrap (rr : Int) = (rr : Int) := by rw [IntKind.wrap_i64]; omega
  have w3 : IntKind.i64.wrap (m2 : Int) = (m2 : Int) := by rw [IntKind.wrap_i64]; omega
  generalize hbw : w.heap.size = bw at *
  have GB : Hid (w.heap.size = bw) := hbw
  have GE : Hid (bw ≤ w.heap.size) := by unfold Hid; omega
  clear SLn SS hs1 qI
  go_enter Try.func38, Try.ntmps38
  go_upto_region 1 with fail
  generalize w.alloc _ = W0 at B0 ⊢
  have c0 : W0.cell? ⟨bw, 0, none⟩ = some (.slice ta nt tc) := B0.out.2.cell 0
  have c1 : W0.cell? ⟨bw, 1, none⟩ = some (.slice ca nc cc) := B0.out.2.cell 1
  have c2 : W0.cell? ⟨bw, 2, none⟩ = some (.slice sa ns sc) := B0.out.2.cell 2
  have c3 : W0.cell? ⟨bw, 3, none⟩ = some (.slice da nd dc) := B0.out.2.cell 3
  have c4 : W0.cell? ⟨bw, 4, none⟩ = some (.int .i64 (q : Int)) := B0.out.2.cell 4
  clear hbw
  go_upto_region 4 with (go_at_call 20; refine (CK.out _ B0.out.1).mono ?_; rintro e w1 ⟨rfl, hB⟩)
  have B1 : Hid (Below bw w w1 ∧ CBox w1 bw 28 [.slice ta nt tc, .slice ca nc cc, .slice sa ns sc, .slice da nd dc, .int .i64 (q : Int)]) := ⟨B0.out.1.trans (hB.mono (Nat.le_trans GE.out B0.out.1.size)), B0.out.2.past hB⟩
  clear c0 c1 c2 c3 c4 hB B0
  have c0 : w1.cell? ⟨bw, 0, none⟩ = some (.slice ta nt tc) := B1.out.2.cell 0
  have c1 : w1.cell? ⟨bw, 1, none⟩ = some (.slice ca nc cc) := B1.out.2.cell 1
  have c2 : w1.cell? ⟨bw, 2, none⟩ = some (.slice sa ns sc) := B1.out.2.cell 2
  have c3 : w1.cell? ⟨bw, 3, none⟩ = some (.slice da nd dc) := B1.out.2.cell 3
  have c4 : w1.cell? ⟨bw, 4, none⟩ = some (.int .i64 (q : Int)) := B1.out.2.cell 4
  go_upto_region 5 with (go_at_call 74; refine (HOc.out _ B1.out.1).mono ?_; rintro e w2 ⟨a1, a2, rfl, hU1, hU2, hB⟩)
  have H0 : Hid (HZ bw w (w2.alloc (.cells #[.slice a1 n1 n1, .slice a2 n2 n2, .int .u64 (q : Int)] 84)) bw w2.heap.size (conV ta nt tc ca nc cc sa ns sc da nd dc (q : Int)) [.slice a1 n1 n1, .slice a2 n2 n2, .int .u64 (q : Int)] ∧ UL (w2.alloc (.cells #[.slice a1 n1 n1, .slice a2 n2 n2, .int .u64 (q : Int)] 84)) (.slice a1 n1 n1) L1 ∧ UL (w2.alloc (.cells #[.slice a1 n1 n1, .slice a2 n2 n2, .int .u64 (q : Int)] 84)) (.slice a2 n2 n2) L2) := by
    have b2 := B1.out.1.trans (hB.mono (Nat.le_trans GE.out B1.out.1.size))
    exact ⟨⟨b2.trans ((below_alloc _ _).mono (Nat.le_trans GE.out b2.size)), (B1.out.2.past hB).past (below_alloc _ _), CBox.new _ _ [_, _, _], GE.out⟩, hU1.past (below_alloc _ _), hU2.past (below_alloc _ _)⟩
  clear c0 c1 c2 c3 c4 hU1 hU2 hB B1 CK HOc
  generalize w2.alloc _ = V5 at H0 ⊢
  generalize w2.heap.size = b5 at H0 ⊢
  refine wp_region_held_drew (S := fun V' => HZ bw w V' bw b5 (conV ta nt tc ca nc cc sa ns sc da nd dc (q : Int)) [.slice a1 n1 n1, .slice a2 n2 n2, .int .u64 (q : Int)]) (by kernel_rfl) (H0.out.1.past below_drew) (fun hHeld => ?_)
  have U0 : Hid (UL V5.drew (.slice a1 n1 n1) L1 ∧ UL V5.drew (.slice a2 n2 n2) L2) := ⟨H0.out.2.1.past below_drew, H0.out.2.2.past below_drew⟩
  clear H0
  generalize V5.drew = z0 at hHeld U0 ⊢
  refine wpAnyH_take (i := 0) (v := .agg #[.slice a1 n1 n1, .slice a2 n2 n2, .int .u64 (q : Int)]) ov0 (by kernel_rfl) (by kernel_rfl) (by kernel_rfl) (fun _ _ _ h => h) (Or.inl ⟨by rfl, fun V' hS => ?_⟩) hHeld ?_
  · have c0 : V'.cell? ⟨b5, 0, none⟩ = some (.slice a1 n1 n1) := hS.c5.cell 0; have c1 : V'.cell? ⟨b5, 1, none⟩ = some (.slice a2 n2 n2) := hS.c5.cell 1; have c2 : V'.cell? ⟨b5, 2, none⟩ = some (.int .u64 (q : Int)) := hS.c5.cell 2
    go_simp
  simp only [Act.put, List.setIfInBounds_toArray, List.set_cons_zero, List.set_cons_succ]
  refine wpAnyH_take (i := 3) (v := .agg #[.slice a1 n1 n1, .slice a2 n2 n2, .int .u64 (q : Int)]) ov3 (by kernel_rfl) (by kernel_rfl) (by kernel_rfl) (fun _ _ _ h => h) (Or.inl ⟨by rfl, fun V' hS => ?_⟩) hHeld ?_
  · have c0 : V'.cell? ⟨b5, 0, none⟩ = some (.slice a1 n1 n1) := hS.c5.cell 0; have c1 : V'.cell? ⟨b5, 1, none⟩ = some (.slice a2 n2 n2) := hS.c5.cell 1; have c2 : V'.cell? ⟨b5, 2, none⟩ = some (.int .u64 (q : Int)) := hS.c5.cell 2
    go_simp
  simp only [Act.put, List.setIfInBounds_toArray, List.set_cons_zero, List.set_cons_succ]
  refine wpAnyH_take (i := 7) (v := .pointer (some ⟨bw, 3, none⟩)) ov7 (by kernel_rfl) (by kernel_rfl) (by kernel_rfl) (fun _ _ _ h => h) (Or.inl ⟨by rfl, fun V' hS => ?_⟩) hHeld ?_
  · go_simp
  simp only [Act.put, List.setIfInBounds_toArray, List.set_cons_zero, List.set_cons_succ]
  refine wpAnyH_take (i := 8) (v := .slice da nd dc) ov8 (by kernel_rfl) (by kernel_rfl) (by kernel_rfl) (fun _ _ _ h => h) (Or.inl ⟨by rfl, fun V' hS => ?_⟩) hHeld ?_
  · have c0 : V'.cell? ⟨bw, 3, none⟩ = some (.slice da nd dc) := hS.c1.cell 3
    go_simp
  simp only [Act.put, List.setIfInBounds_toArray, List.set_cons_zero, List.set_cons_succ]
  refine wpAnyH_take (i := 9) (v := .int .i64 (nd : Int)) ov9 (by kernel_rfl) (by kernel_rfl) (by kernel_rfl) (fun _ _ _ h => h) (Or.inl ⟨by rfl, fun V' hS => ?_⟩) hHeld ?_
  · go_simp
  simp only [Act.put, List.setIfInBounds_toArray, List.set_cons_zero, List.set_cons_succ]
  refine wpAnyH_ready (rs := [1]) (by kernel_rfl) (by simp) ?_
  refine AllReadyH.cons ov1 (fun K hK => ?_) AllReadyH.nil
  rw [if_pos (by rfl)]
  go_simp
  refine (WR.out _ a1 a2 U0.out.1 U0.out.2).mono ?_
  rintro e z1 ⟨a3, c3, rfl, hB1⟩
  have H1 := hHeld.past hB1
  have U1 : Hid (UL z1 (.slice a1 n1 n1) L1 ∧ UL z1 (.slice a2 n2 n2) L2) := ⟨U0.out.1.past hB1, U0.out.2.past hB1⟩
  (try go_wp2_with fail)
  refine hK.out _ _ H1 (fun _ => ?_)
  clear hK K
  (try simp only [Act.put, List.setIfInBounds_toArray, List.set_cons_zero, List.set_cons_succ])
  refine wpAnyH_take (i := 2) (v := .int .i64 (m1 : Int)) ov2 (by kernel_rfl) (by kernel_rfl) (by kernel_rfl) (fun _ _ _ h => h) (Or.inl ⟨by rfl, fun V' hS => ?_⟩) H1 ?_
  · go_simp
  simp only [Act.put, List.setIfInBounds_toArray, List.set_cons_zero, List.set_cons_succ]
  refine wpAnyH_ready (rs := [4]) (by kernel_rfl) (by simp) ?_
  refine AllReadyH.cons ov4 (fun K hK => ?_) AllReadyH.nil
  rw [if_pos (by rfl)]
  go_simp
  refine (BH.out _ a1 a2 U1.out.1 U1.out.2).mono ?_
  rintro e z2 ⟨rfl, hB2⟩
  have H2 := H1.past hB2
  (try go_wp2_with fail)
  refine hK.out _ _ H2 (fun _ => ?_)
  clear hK K
  (try simp only [Act.put, List.setIfInBounds_toArray, List.set_cons_zero, List.set_cons_succ])
  refine wpAnyH_take (i := 5) (v := .int .i64 (m2 : Int)) ov5 (by kernel_rfl) (by kernel_rfl) (by kernel_rfl) (fun _ _ _ h => h) (Or.inl ⟨by rfl, fun V' hS => ?_⟩) H2 ?_
  · go_simp
  simp only [Act.put, List.setIfInBounds_toArray, List.set_cons_zero, List.set_cons_succ]
  refine wpAnyH_take (i := 6) (v := .int .i64 (s1 : Int)) ov6 (by kernel_rfl) (by kernel_rfl) (by kernel_rfl) (fun _ _ _ h => h) (Or.inl ⟨by rfl, fun V' hS => ?_⟩) H2 ?_
  · go_simp
  simp only [Act.put, List.setIfInBounds_toArray, List.set_cons_zero, List.set_cons_succ]
  refine wpAnyH_take (i := 10) (v := .int .i64 (rr : Int)) ov10 (by kernel_rfl) (by kernel_rfl) (by kernel_rfl) (fun _ _ _ h => h) (Or.inl ⟨by rfl, fun V' hS => ?_⟩) H2 ?_
  · go_simp
  simp only [Act.put, List.setIfInBounds_toArray, List.set_cons_zero, List.set_cons_succ]
  refine wpAnyH_take (i := 11) (v := .int .i64 (rr : Int)) ov11 (by kernel_rfl) (by kernel_rfl) (by kernel_rfl) (fun _ _ _ h => h) (Or.inl ⟨by rfl, fun V' hS => ?_⟩) H2 ?_
  · go_simp
  simp only [Act.put, List.setIfInBounds_toArray, List.set_cons_zero, List.set_cons_succ]
  refine wpAnyH_take (i := 12) (v := .int .i64 0) ov12 (by kernel_rfl) (by kernel_rfl) (by kernel_rfl) (fun _ _ _ h => h) (Or.inl ⟨by rfl, fun V' hS => ?_⟩) H2 ?_
  · go_simp
  simp only [Act.put, List.setIfInBounds_toArray, List.set_cons_zero, List.set_cons_succ]
  refine wpAnyH_done (by kernel_rfl) ?_ _
  go_wp2
  go_ret2
  exact ⟨rfl, H2.bel⟩
end Go.Proofs.Ytndhabhlajldeaa
