/- Package container: Size, Serialize. -/
import Derived.Test.YtndhabhlajldeaaMg2
import Derived.Test.YtndhabhlajldeaaMg3
namespace Go.Proofs.Ytndhabhlajldeaa
open Go.RowKit
def conV (ta : Option Addr) (nt tc : Nat) (ca : Option Addr) (nc cc : Nat) (sa : Option Addr) (ns sc : Nat) (da : Option Addr) (nd dc : Nat) (z : Int) : List Value := [.slice ta nt tc, .slice ca nc cc, .slice sa ns sc, .slice da nd dc, .int .i64 z]
/-- the boxes of Size: the container's, the header's -/
structure HZ (bw : Nat) (w V : World) (b1 b5 : Nat) (l1 l5 : List Value) : Prop where
  bel : Below bw w V
  c1 : CBox V b1 28 l1
  c5 : CBox V b5 84 l5
  ge : bw ≤ w.heap.size
theorem HZ.past {bw : Nat} {w V V' : World} {b1 b5 : Nat} {l1 l5 : List Value} (h : HZ bw w V b1 b5 l1 l5) (k : Below V.heap.size V V') : HZ bw w V' b1 b5 l1 l5 := ⟨h.bel.trans (k.mono (Nat.le_trans h.ge h.bel.size)), h.c1.past k, h.c5.past k, h.ge⟩
set_option maxHeartbeats 4000000 in
set_option maxRecDepth 100000 in
theorem size_is {P : Nat → Prop} (w : World) (v : Value) (c : Con) (h : CW P w v c) (hsm : Small c) : Calls Try.prog 38 #[v] w fun e w' => e = .returned (.tuple #[.int .i64 ((if chk c = 0 then (ser c).length else 0 : Nat) : Int), .int .i64 (chk c)]) ∧ Below w.heap.size w w' := by
  obtain ⟨tv, cv, sv, dv, rfl, hT, hC, hS, hD⟩ := id h
  obtain ⟨ta, tc, rfl, _⟩ := hT.len
  obtain ⟨ca, cc, rfl, _⟩ := hC.len
  obtain ⟨sa, sc, rfl, _⟩ := hS.len
  obtain ⟨da, dc, rfl, _, hd1⟩ := hD.len
  have CK : Hid (∀ W, Below w.heap.size w W → Calls Try.prog 20 #[.agg #[.slice ta c.ts.length tc, .slice ca c.cs.length cc, .slice sa c.ss.length sc, .slice da c.d.length dc, .int .i64 c.n]] W fun e w' => e = .returned (.int .i64 (chk c)) ∧ Below W.heap.size W w') := fun W hW => check_is W _ c (h.past hW)
  have B0 : Hid (Below w.heap.size w (w.alloc (.cells #[.slice ta c.ts.length tc, .slice ca c.cs.length cc, .slice sa c.ss.length sc, .slice da c.d.length dc, .int .i64 c.n] 28)) ∧ CBox (w.alloc (.cells #[.slice ta c.ts.length tc, .slice ca c.cs.length cc, .slice sa c.ss.length sc, .slice da c.d.length dc, .int .i64 c.n] 28)) w.heap.size 28 [.slice ta c.ts.length tc, .slice ca c.cs.length cc, .slice sa c.ss.length sc, .slice da c.d.length dc, .int .i64 c.n]) := ⟨below_alloc _ _, CBox.new _ _ [_, _, _, _, _]⟩
  by_cases ok : chk c = 0
  rotate_left
  · have E0 : Hid ((if chk c = 0 then (ser c).length else 0) = 0) := by unfold Hid; rw [if_neg ok]
    rw [E0.out]
    have q2 : (chk c == 0) = false := by simpa using ok
    have q3 : (chk c != 0) = true := by simpa using ok
    clear hT hC hS hD hd1 E0 h hsm ok
    generalize chk c = r at *
    generalize c.ts.length = nt at *
    generalize c.cs.length = nc at *
    generalize c.ss.length = ns at *
    generalize c.d.length = nd at *
    generalize c.n = z at *
    go_enter Try.func38, Try.ntmps38
    go_upto_region 1 with fail
    generalize w.alloc _ = W0 at B0 ⊢
    generalize hbx : w.heap.size = bx at *
    have GB : Hid (w.heap.size = bx) := hbx
    have c0 : W0.cell? ⟨bx, 0, none⟩ = some (.slice ta nt tc) := B0.out.2.cell 0
    have c1 : W0.cell? ⟨bx, 1, none⟩ = some (.slice ca nc cc) := B0.out.2.cell 1
    have c2 : W0.cell? ⟨bx, 2, none⟩ = some (.slice sa ns sc) := B0.out.2.cell 2
    have c3 : W0.cell? ⟨bx, 3, none⟩ = some (.slice da nd dc) := B0.out.2.cell 3
    have c4 : W0.cell? ⟨bx, 4, none⟩ = some (.int .i64 z) := B0.out.2.cell 4
    clear hbx
    go_wp2_with (go_at_call 20; refine (CK.out _ B0.out.1).mono ?_; rintro e w1 ⟨rfl, hB⟩)
    go_ret2
    exact ⟨rfl, by have := B0.out.1.trans (hB.mono (by have := B0.out.1.size; rw [← GB.out]; have h9 := B0.out.1.size; exact h9)); rw [GB.out]; exact this⟩
  have my := chk_may ok
  obtain ⟨q, hq⟩ : ∃ q : Nat, c.n = (q : Int) := ⟨c.n.toNat, by have := my.z2; omega⟩
  have eq : c.n.toNat = q := by omega
  have qI : q ≤ 65535 := by have := my.z1; omega
  have n1e := lns_len c.cs
  have n2e := lns_len c.ss
  have SLn := ser_len my
  have SS := ser_small my hsm
  have HX := lns_lt hsm
  have l1 : (lns c.cs).length ≤ 16777216 ∧ (lns c.ss).length ≤ 16777216 := by have := my.n2; have := my.ns; omega
  rw [eq] at SLn
  have HOc : Hid (∀ W, Below w.heap.size w W → Calls Try.prog 74 #[.agg #[.slice ta c.ts.length tc, .slice ca c.cs.length cc, .slice sa c.ss.length sc, .slice da c.d.length dc, .int .i64 c.n]] W fun e w' => ∃ a1 a2, e = .returned (.agg #[.slice a1 (lns c.cs).length (lns c.cs).length, .slice a2 (lns c.ss).length (lns c.ss).length, .int .u64 (q : Int)]) ∧ UL w' (.slice a1 (lns c.cs).length (lns c.cs).length) (lns c.cs) ∧ UL w' (.slice a2 (lns c.ss).length (lns c.ss).length) (lns c.ss) ∧ Below W.heap.size W w') := fun W hW => (headerOf_is W _ c (h.past hW) (by have := my.z1; omega) (by have := my.n2; omega) (by have := my.ns; omega)).mono fun e w' ⟨u1, u2, h1, h2, h3, h4⟩ => by
    obtain ⟨a1, rfl⟩ := h2.len
    obtain ⟨a2, rfl⟩ := h3.len
    rw [eq] at h1
    exact ⟨a1, a2, h1, h2, h3, h4⟩
  have WR : Hid (∀ W a1 a2, UL W (.slice a1 (lns c.cs).length (lns c.cs).length) (lns c.cs) → UL W (.slice a2 (lns c.ss).length (lns c.ss).length) (lns c.ss) → Calls Try.prog 75 #[.agg #[.slice a1 (lns c.cs).length (lns c.cs).length, .slice a2 (lns c.ss).length (lns c.ss).length, .int .u64 (q : Int)], .slice none 0 0] W fun e w' => ∃ a3 c3, e = .returned (.slice a3 (hd (lns c.cs) (lns c.ss) q).length c3) ∧ Below W.heap.size W w') := fun W a1 a2 h1 h2 => (write_is W W.heap.size (Nat.le_refl _) (.slice none 0 0) [] (World.ownsRow_nil _ _ _ _) _ _ _ _ q h1 h2 HX.1 HX.2 l1.1 l1.2 (by omega) (by simp)).mono fun e w' ⟨v', h3, h4⟩ => by
    obtain ⟨a3, c3, rfl⟩ := owns_sl h4.row
    rw [List.nil_append] at h3
    exact ⟨a3, c3, h3, h4.nil_below⟩
  have BH : Hid (∀ W a1 a2, UL W (.slice a1 (lns c.cs).length (lns c.cs).length) (lns c.cs) → UL W (.slice a2 (lns c.ss).length (lns c.ss).length) (lns c.ss) → Calls Try.prog 81 #[.agg #[.slice a1 (lns c.cs).length (lns c.cs).length, .slice a2 (lns c.ss).length (lns c.ss).length, .int .u64 (q : Int)]] W fun e w' => e = .returned (.int .u64 ((4 * (lns c.cs).length + sumL (lns c.cs) + sumL (lns c.ss) : Nat) : Int)) ∧ Below W.heap.size W w') := fun W a1 a2 h1 h2 => behind_is W _ _ _ _ q h1 h2 (by omega) (by omega)
  rw [if_pos ok, ok, hq]
  rw [ok, hq] at CK
  rw [hq] at B0 HOc
  clear h my HX l1 hT hC hS hD n1e n2e hq eq ok hd1 hsm
  generalize hm2 : 4 * (lns c.cs).length + sumL (lns c.cs) + sumL (lns c.ss) = m2 at *
  generalize hm1 : (hd (lns c.cs) (lns c.ss) q).length = m1 at *
  generalize hrr : (ser c).length = rr at *
  clear hm2 hm1 hrr
  generalize (lns c.cs).length = n1 at *
  generalize (lns c.ss).length = n2 at *
  generalize lns c.cs = L1 at *
  generalize lns c.ss = L2 at *
  generalize c.ts.length = nt at *
  generalize c.cs.length = nc at *
  generalize c.ss.length = ns at *
  generalize c.d.length = nd at *
  obtain ⟨s1, hs1⟩ : ∃ s1 : Nat, s1 = m1 + m2 := ⟨_, rfl⟩
  have r1 : (m1 : Int) + (m2 : Int) = (s1 : Int) := by omega
  have r2 : (s1 : Int) + (nd : Int) = (rr : Int) := by omega
  have w1 : IntKind.i64.wrap (s1 : Int) = (s1 : Int) := by rw [IntKind.wrap_i64]; omega
  have w2 : IntKind.i64.wrap (rr : Int) = (rr : Int) := by rw [IntKind.wrap_i64]; omega
  have w3 : IntKind.i64.wrap (m2 : Int) = (m2 : Int) := by rw [IntKind.wrap_i64]; omega
  generalize hbw : w.heap.size = bw at *
  have GB : Hid (w.heap.size = bw) := hbw
  have GE : Hid (bw ≤ w.heap.size) := by unfold Hid; omega
  clear SLn SS hs1 qI
  go_enter Try.func38, Try.ntmps38
  go_upto_region 1 with fail
  generalize w.alloc _ = W0 at B0 ⊢
  have c0 : W0.cell? ⟨bw, 0, none⟩ = some (.slice ta nt tc) := B0.out.2.cell 0
  have c1 : W0.cell? ⟨bw, 1, none⟩ = some (.slice ca nc cc) := B0.out.2.cell 1
  have c2 : W0.cell? ⟨bw, 2, none⟩ = some (.slice sa ns sc) := B0.out.2.cell 2
  have c3 : W0.cell? ⟨bw, 3, none⟩ = some (.slice da nd dc) := B0.out.2.cell 3
  have c4 : W0.cell? ⟨bw, 4, none⟩ = some (.int .i64 (q : Int)) := B0.out.2.cell 4
  clear hbw
  go_upto_region 4 with (go_at_call 20; refine (CK.out _ B0.out.1).mono ?_; rintro e w1 ⟨rfl, hB⟩)
  have B1 : Hid (Below bw w w1 ∧ CBox w1 bw 28 [.slice ta nt tc, .slice ca nc cc, .slice sa ns sc, .slice da nd dc, .int .i64 (q : Int)]) := ⟨B0.out.1.trans (hB.mono (Nat.le_trans GE.out B0.out.1.size)), B0.out.2.past hB⟩
  clear c0 c1 c2 c3 c4 hB B0
  have c0 : w1.cell? ⟨bw, 0, none⟩ = some (.slice ta nt tc) := B1.out.2.cell 0
  have c1 : w1.cell? ⟨bw, 1, none⟩ = some (.slice ca nc cc) := B1.out.2.cell 1
  have c2 : w1.cell? ⟨bw, 2, none⟩ = some (.slice sa ns sc) := B1.out.2.cell 2
  have c3 : w1.cell? ⟨bw, 3, none⟩ = some (.slice da nd dc) := B1.out.2.cell 3
  have c4 : w1.cell? ⟨bw, 4, none⟩ = some (.int .i64 (q : Int)) := B1.out.2.cell 4
  go_upto_region 5 with (go_at_call 74; refine (HOc.out _ B1.out.1).mono ?_; rintro e w2 ⟨a1, a2, rfl, hU1, hU2, hB⟩)
  have H0 : Hid (HZ bw w (w2.alloc (.cells #[.slice a1 n1 n1, .slice a2 n2 n2, .int .u64 (q : Int)] 84)) bw w2.heap.size (conV ta nt tc ca nc cc sa ns sc da nd dc (q : Int)) [.slice a1 n1 n1, .slice a2 n2 n2, .int .u64 (q : Int)] ∧ UL (w2.alloc (.cells #[.slice a1 n1 n1, .slice a2 n2 n2, .int .u64 (q : Int)] 84)) (.slice a1 n1 n1) L1 ∧ UL (w2.alloc (.cells #[.slice a1 n1 n1, .slice a2 n2 n2, .int .u64 (q : Int)] 84)) (.slice a2 n2 n2) L2) := by
    have b2 := B1.out.1.trans (hB.mono (Nat.le_trans GE.out B1.out.1.size))
    exact ⟨⟨b2.trans ((below_alloc _ _).mono (Nat.le_trans GE.out b2.size)), (B1.out.2.past hB).past (below_alloc _ _), CBox.new _ _ [_, _, _], GE.out⟩, hU1.past (below_alloc _ _), hU2.past (below_alloc _ _)⟩
  clear c0 c1 c2 c3 c4 hU1 hU2 hB B1 CK HOc
  generalize w2.alloc _ = V5 at H0 ⊢
  generalize w2.heap.size = b5 at H0 ⊢
  refine wp_region_held_drew (S := fun V' => HZ bw w V' bw b5 (conV ta nt tc ca nc cc sa ns sc da nd dc (q : Int)) [.slice a1 n1 n1, .slice a2 n2 n2, .int .u64 (q : Int)]) (by kernel_rfl) (H0.out.1.past below_drew) (fun hHeld => ?_)
  have U0 : Hid (UL V5.drew (.slice a1 n1 n1) L1 ∧ UL V5.drew (.slice a2 n2 n2) L2) := ⟨H0.out.2.1.past below_drew, H0.out.2.2.past below_drew⟩
  clear H0
  generalize V5.drew = z0 at hHeld U0 ⊢
  refine wpAnyH_take (i := 0) (v := .agg #[.slice a1 n1 n1, .slice a2 n2 n2, .int .u64 (q : Int)]) ov0 (by kernel_rfl) (by kernel_rfl) (by kernel_rfl) (fun _ _ _ h => h) (Or.inl ⟨by rfl, fun V' hS => ?_⟩) hHeld ?_
  · have c0 : V'.cell? ⟨b5, 0, none⟩ = some (.slice a1 n1 n1) := hS.c5.cell 0; have c1 : V'.cell? ⟨b5, 1, none⟩ = some (.slice a2 n2 n2) := hS.c5.cell 1; have c2 : V'.cell? ⟨b5, 2, none⟩ = some (.int .u64 (q : Int)) := hS.c5.cell 2
    go_simp
  simp only [Act.put, List.setIfInBounds_toArray, List.set_cons_zero, List.set_cons_succ]
  refine wpAnyH_take (i := 3) (v := .agg #[.slice a1 n1 n1, .slice a2 n2 n2, .int .u64 (q : Int)]) ov3 (by kernel_rfl) (by kernel_rfl) (by kernel_rfl) (fun _ _ _ h => h) (Or.inl ⟨by rfl, fun V' hS => ?_⟩) hHeld ?_
  · have c0 : V'.cell? ⟨b5, 0, none⟩ = some (.slice a1 n1 n1) := hS.c5.cell 0; have c1 : V'.cell? ⟨b5, 1, none⟩ = some (.slice a2 n2 n2) := hS.c5.cell 1; have c2 : V'.cell? ⟨b5, 2, none⟩ = some (.int .u64 (q : Int)) := hS.c5.cell 2
    go_simp
  simp only [Act.put, List.setIfInBounds_toArray, List.set_cons_zero, List.set_cons_succ]
  refine wpAnyH_take (i := 7) (v := .pointer (some ⟨bw, 3, none⟩)) ov7 (by kernel_rfl) (by kernel_rfl) (by kernel_rfl) (fun _ _ _ h => h) (Or.inl ⟨by rfl, fun V' hS => ?_⟩) hHeld ?_
  · go_simp
  simp only [Act.put, List.setIfInBounds_toArray, List.set_cons_zero, List.set_cons_succ]
  refine wpAnyH_take (i := 8) (v := .slice da nd dc) ov8 (by kernel_rfl) (by kernel_rfl) (by kernel_rfl) (fun _ _ _ h => h) (Or.inl ⟨by rfl, fun V' hS => ?_⟩) hHeld ?_
  · have c0 : V'.cell? ⟨bw, 3, none⟩ = some (.slice da nd dc) := hS.c1.cell 3
    go_simp
  simp only [Act.put, List.setIfInBounds_toArray, List.set_cons_zero, List.set_cons_succ]
  refine wpAnyH_take (i := 9) (v := .int .i64 (nd : Int)) ov9 (by kernel_rfl) (by kernel_rfl) (by kernel_rfl) (fun _ _ _ h => h) (Or.inl ⟨by rfl, fun V' hS => ?_⟩) hHeld ?_
  · go_simp
  simp only [Act.put, List.setIfInBounds_toArray, List.set_cons_zero, List.set_cons_succ]
  refine wpAnyH_ready (rs := [1]) (by kernel_rfl) (by simp) ?_
  refine AllReadyH.cons ov1 (fun K hK => ?_) AllReadyH.nil
  rw [if_pos (by rfl)]
  go_simp
  refine (WR.out _ a1 a2 U0.out.1 U0.out.2).mono ?_
  rintro e z1 ⟨a3, c3, rfl, hB1⟩
  have H1 := hHeld.past hB1
  have U1 : Hid (UL z1 (.slice a1 n1 n1) L1 ∧ UL z1 (.slice a2 n2 n2) L2) := ⟨U0.out.1.past hB1, U0.out.2.past hB1⟩
  (try go_wp2_with fail)
  refine hK.out _ _ H1 (fun _ => ?_)
  clear hK K
  (try simp only [Act.put, List.setIfInBounds_toArray, List.set_cons_zero, List.set_cons_succ])
  refine wpAnyH_take (i := 2) (v := .int .i64 (m1 : Int)) ov2 (by kernel_rfl) (by kernel_rfl) (by kernel_rfl) (fun _ _ _ h => h) (Or.inl ⟨by rfl, fun V' hS => ?_⟩) H1 ?_
  · go_simp
  simp only [Act.put, List.setIfInBounds_toArray, List.set_cons_zero, List.set_cons_succ]
  refine wpAnyH_ready (rs := [4]) (by kernel_rfl) (by simp) ?_
  refine AllReadyH.cons ov4 (fun K hK => ?_) AllReadyH.nil
  rw [if_pos (by rfl)]
  go_simp
  refine (BH.out _ a1 a2 U1.out.1 U1.out.2).mono ?_
  rintro e z2 ⟨rfl, hB2⟩
  have H2 := H1.past hB2
  (try go_wp2_with fail)
  refine hK.out _ _ H2 (fun _ => ?_)
  clear hK K
  (try simp only [Act.put, List.setIfInBounds_toArray, List.set_cons_zero, List.set_cons_succ])
  refine wpAnyH_take (i := 5) (v := .int .i64 (m2 : Int)) ov5 (by kernel_rfl) (by kernel_rfl) (by kernel_rfl) (fun _ _ _ h => h) (Or.inl ⟨by rfl, fun V' hS => ?_⟩) H2 ?_
  · go_simp
  simp only [Act.put, List.setIfInBounds_toArray, List.set_cons_zero, List.set_cons_succ]
  refine wpAnyH_take (i := 6) (v := .int .i64 (s1 : Int)) ov6 (by kernel_rfl) (by kernel_rfl) (by kernel_rfl) (fun _ _ _ h => h) (Or.inl ⟨by rfl, fun V' hS => ?_⟩) H2 ?_
  · go_simp
  simp only [Act.put, List.setIfInBounds_toArray, List.set_cons_zero, List.set_cons_succ]
  refine wpAnyH_take (i := 10) (v := .int .i64 (rr : Int)) ov10 (by kernel_rfl) (by kernel_rfl) (by kernel_rfl) (fun _ _ _ h => h) (Or.inl ⟨by rfl, fun V' hS => ?_⟩) H2 ?_
  · go_simp
  simp only [Act.put, List.setIfInBounds_toArray, List.set_cons_zero, List.set_cons_succ]
  refine wpAnyH_take (i := 11) (v := .int .i64 (rr : Int)) ov11 (by kernel_rfl) (by kernel_rfl) (by kernel_rfl) (fun _ _ _ h => h) (Or.inl ⟨by rfl, fun V' hS => ?_⟩) H2 ?_
  · go_simp
  simp only [Act.put, List.setIfInBounds_toArray, List.set_cons_zero, List.set_cons_succ]
  refine wpAnyH_take (i := 12) (v := .int .i64 0) ov12 (by kernel_rfl) (by kernel_rfl) (by kernel_rfl) (fun _ _ _ h => h) (Or.inl ⟨by rfl, fun V' hS => ?_⟩) H2 ?_
  · go_simp
  simp only [Act.put, List.setIfInBounds_toArray, List.set_cons_zero, List.set_cons_succ]
  refine wpAnyH_done (by kernel_rfl) ?_ _
  go_wp2
  go_ret2
  exact ⟨rfl, H2.bel⟩
end Go.Proofs.Ytndhabhlajldeaa
/- Package container: Serialize. -/
namespace Go.Proofs.Ytndhabhlajldeaa
open Go.RowKit
theorem owns_base {W : World} {B B' : Nat} {t : TypeId} {s n : Nat} {v : Value} {cs : List Value} (h : W.ownsRow B t s v n cs) (hB : B' ≤ B) : W.ownsRow B' t s v n cs := by
  obtain ⟨hl, h | ⟨g, c, cur, rfl, h1, h2⟩⟩ := h
  · exact ⟨hl, Or.inl h⟩
  · exact ⟨hl, Or.inr ⟨g, c, cur, rfl, Nat.le_trans hB h1, h2⟩⟩
theorem make0g (bw : Nat) (W : World) (hb : bw ≤ W.heap.size) (M : Nat) (hM : M ≤ 140737488355328) : ∃ W1 g0, Sem.run Try.prog (Instr.makeSlice 22 (.int .i64 0) (.int .i64 (M : Int))) W = .ok (.slice (some ⟨g0, 0, none⟩) 0 M) W1 ∧ W1.ownsRow bw 5 1 (.slice (some ⟨g0, 0, none⟩) 0 M) 0 (bV []) ∧ Below W.heap.size W W1 := by
  obtain ⟨W1, h1, h2, h3⟩ := make0 W M hM
  exact ⟨W1, _, h1, owns_base h2 hb, h3⟩
def serR (c : Con) : List Nat := if chk c = 0 then ser c else []
/-- a container's box, and a row that is written -/
structure HY (bw : Nat) (w V : World) (l1 : List Value) (v : Value) (l : List Nat) : Prop where
  bel : Below bw w V
  c1 : CBox V bw 28 l1
  row : V.ownsRow bw 5 1 v l.length (bV l)
  ge : bw ≤ w.heap.size
theorem HY.le {bw : Nat} {w V : World} {l1 : List Value} {v : Value} {l : List Nat} (h : HY bw w V l1 v l) : bw ≤ V.heap.size := Nat.le_trans h.ge h.bel.size
theorem HY.step {bw : Nat} {w V V' : World} {l1 : List Value} {v v' : Value} {l l' : List Nat} (h : HY bw w V l1 v l) (k : App bw 5 1 V V' v v' l'.length (bV l')) : HY bw w V' l1 v' l' := ⟨h.bel.trans (k.below h.row h.le), h.c1.app k h.row (by decide), k.row, h.ge⟩
theorem HY.not {bw : Nat} {w V : World} {l1 : List Value} {v : Value} {l : List Nat} (h : HY bw w V l1 v l) : ∀ g, g < bw → ¬ OwnV v g := fun g hg e => by have := (h.row.lt g e).1; omega
set_option maxHeartbeats 4000000 in
set_option maxRecDepth 100000 in
theorem serialize_is {P : Nat → Prop} (w : World) (v : Value) (c : Con) (h : CW P w v c) (hsm : Small c) : Calls Try.prog 35 #[v] w fun e w' => ∃ v', e = .returned (.tuple #[v', .int .i64 (chk c)]) ∧ w'.ownsRow w.heap.size 5 1 v' (serR c).length (bV (serR c)) ∧ Below w.heap.size w w' := by
  have h : CW (fun g => g < w.heap.size) w v c := h.mono (fun _ _ hg => hg)
  obtain ⟨tv, cv, sv, dv, rfl, hT, hC, hS, hD⟩ := id h
  obtain ⟨ta, tc, rfl, _⟩ := hT.len
  obtain ⟨ca, cc, rfl, _⟩ := hC.len
  obtain ⟨sa, sc, rfl, _⟩ := hS.len
  obtain ⟨da, dc, rfl, _, hd1⟩ := hD.len
  have CK : Hid (∀ W, Below w.heap.size w W → Calls Try.prog 38 #[.agg #[.slice ta c.ts.length tc, .slice ca c.cs.length cc, .slice sa c.ss.length sc, .slice da c.d.length dc, .int .i64 c.n]] W fun e w' => e = .returned (.tuple #[.int .i64 ((if chk c = 0 then (ser c).length else 0 : Nat) : Int), .int .i64 (chk c)]) ∧ Below W.heap.size W w') := fun W hW => size_is W _ c (h.past hW) hsm
  have B0 : Hid (Below w.heap.size w (w.alloc (.cells #[.slice ta c.ts.length tc, .slice ca c.cs.length cc, .slice sa c.ss.length sc, .slice da c.d.length dc, .int .i64 c.n] 28)) ∧ CBox (w.alloc (.cells #[.slice ta c.ts.length tc, .slice ca c.cs.length cc, .slice sa c.ss.length sc, .slice da c.d.length dc, .int .i64 c.n] 28)) w.heap.size 28 [.slice ta c.ts.length tc, .slice ca c.cs.length cc, .slice sa c.ss.length sc, .slice da c.d.length dc, .int .i64 c.n]) := ⟨below_alloc _ _, CBox.new _ _ [_, _, _, _, _]⟩
  by_cases ok : chk c = 0
  rotate_left
  · have E0 : Hid (serR c = []) := by unfold Hid serR; rw [if_neg ok]
    rw [E0.out]
    rw [if_neg ok] at CK
    have q2 : (chk c == 0) = false := by simpa using ok
    have q3 : (chk c != 0) = true := by simpa using ok
    clear hT hC hS hD hd1 E0 h hsm ok
    generalize chk c = r at *
    generalize c.ts.length = nt at *
    generalize c.cs.length = nc at *
    generalize c.ss.length = ns at *
    generalize c.d.length = nd at *
    generalize c.n = z at *
    generalize hbx : w.heap.size = bx at *
    have GE : Hid (bx ≤ w.heap.size) := by unfold Hid; omega
    go_enter Try.func35, Try.ntmps35
    go_upto_region 1 with fail
    generalize w.alloc _ = W0 at B0 ⊢
    have c0 : W0.cell? ⟨bx, 0, none⟩ = some (.slice ta nt tc) := B0.out.2.cell 0
    have c1 : W0.cell? ⟨bx, 1, none⟩ = some (.slice ca nc cc) := B0.out.2.cell 1
    have c2 : W0.cell? ⟨bx, 2, none⟩ = some (.slice sa ns sc) := B0.out.2.cell 2
    have c3 : W0.cell? ⟨bx, 3, none⟩ = some (.slice da nd dc) := B0.out.2.cell 3
    have c4 : W0.cell? ⟨bx, 4, none⟩ = some (.int .i64 z) := B0.out.2.cell 4
    clear hbx
    go_wp2_with (go_at_call 38; refine (CK.out _ B0.out.1).mono ?_; rintro e w1 ⟨rfl, hB⟩)
    go_ret2
    exact ⟨_, rfl, World.ownsRow_nil _ _ _ _, B0.out.1.trans (hB.mono (Nat.le_trans GE.out B0.out.1.size))⟩
  have my := chk_may ok
  obtain ⟨q, hq⟩ : ∃ q : Nat, c.n = (q : Int) := ⟨c.n.toNat, by have := my.z2; omega⟩
  have eq : c.n.toNat = q := by omega
  have qI : q ≤ 65535 := by have := my.z1; omega
  have n1e := lns_len c.cs
  have n2e := lns_len c.ss
  have SLn := ser_len my
  have SS := ser_small my hsm
  have HX := lns_lt hsm
  have l1 : (lns c.cs).length ≤ 16777216 ∧ (lns c.ss).length ≤ 16777216 := by have := my.n2; have := my.ns; omega
  rw [eq] at SLn
  have HOc : Hid (∀ W, Below w.heap.size w W → Calls Try.prog 74 #[.agg #[.slice ta c.ts.length tc, .slice ca c.cs.length cc, .slice sa c.ss.length sc, .slice da c.d.length dc, .int .i64 c.n]] W fun e w' => ∃ a1 a2, e = .returned (.agg #[.slice a1 (lns c.cs).length (lns c.cs).length, .slice a2 (lns c.ss).length (lns c.ss).length, .int .u64 (q : Int)]) ∧ UL w' (.slice a1 (lns c.cs).length (lns c.cs).length) (lns c.cs) ∧ UL w' (.slice a2 (lns c.ss).length (lns c.ss).length) (lns c.ss) ∧ Below W.heap.size W w') := fun W hW => (headerOf_is W _ c (h.past hW) (by have := my.z1; omega) (by have := my.n2; omega) (by have := my.ns; omega)).mono fun e w' ⟨u1, u2, h1, h2, h3, h4⟩ => by
    obtain ⟨a1, rfl⟩ := h2.len
    obtain ⟨a2, rfl⟩ := h3.len
    rw [eq] at h1
    exact ⟨a1, a2, h1, h2, h3, h4⟩
  have EF : Hid ((((hd (lns c.cs) (lns c.ss) q ++ c.ts.flatMap tyb) ++ c.cs.flatten) ++ c.ss.flatten) ++ c.d = serR c) := by unfold Hid serR; rw [if_pos ok, ser, eq]
  have LB : Hid ((((hd (lns c.cs) (lns c.ss) q ++ c.ts.flatMap tyb) ++ c.cs.flatten) ++ c.ss.flatten).length + c.d.length ≤ 2199023255552) := by
    unfold Hid
    have h9 := congrArg List.length EF.out
    rw [List.length_append, serR, if_pos ok] at h9
    omega
  have lbs : (hd (lns c.cs) (lns c.ss) q).length + (c.ts.flatMap tyb).length + c.cs.flatten.length + c.ss.flatten.length ≤ 67108864 := by
    have h9 := congrArg List.length EF.out
    simp only [List.length_append, serR, if_pos ok] at h9
    omega
  have WR : Hid (∀ W a1 a2, w.heap.size ≤ W.heap.size → UL W (.slice a1 (lns c.cs).length (lns c.cs).length) (lns c.cs) → UL W (.slice a2 (lns c.ss).length (lns c.ss).length) (lns c.ss) → ∀ g0, W.ownsRow w.heap.size 5 1 (.slice (some ⟨g0, 0, none⟩) 0 (ser c).length) 0 (bV []) → Calls Try.prog 75 #[.agg #[.slice a1 (lns c.cs).length (lns c.cs).length, .slice a2 (lns c.ss).length (lns c.ss).length, .int .u64 (q : Int)], .slice (some ⟨g0, 0, none⟩) 0 (ser c).length] W fun e w' => ∃ v', e = .returned v' ∧ App w.heap.size 5 1 W w' (.slice (some ⟨g0, 0, none⟩) 0 (ser c).length) v' (hd (lns c.cs) (lns c.ss) q).length (bV (hd (lns c.cs) (lns c.ss) q))) := fun W a1 a2 hW h1 h2 g0 hr => (write_is W w.heap.size hW _ [] hr _ _ _ _ q h1 h2 HX.1 HX.2 l1.1 l1.2 (by omega) (by simp)).mono fun e w' ⟨v', h3, h4⟩ => by
    rw [List.nil_append] at h4
    exact ⟨v', h3, h4⟩
  have TY : Hid (∀ W v1, HY w.heap.size w W (conV ta c.ts.length tc ca c.cs.length cc sa c.ss.length sc da c.d.length dc (q : Int)) v1 (hd (lns c.cs) (lns c.ss) q) → Calls Try.prog 76 #[v1, .slice ta c.ts.length tc] W fun e w' => ∃ v', e = .returned v' ∧ App w.heap.size 5 1 W w' v1 v' (hd (lns c.cs) (lns c.ss) q ++ c.ts.flatMap tyb).length (bV (hd (lns c.cs) (lns c.ss) q ++ c.ts.flatMap tyb))) := fun W v1 hY => writeTypes_is W w.heap.size hY.le v1 _ hY.row _ c.ts (hT.past hY.bel) hY.not (chkT_ok c.ts 0 my.ty) (by have := my.n2; have := my.nt; omega) (by omega)
  have CP : Hid (∀ W v1, HY w.heap.size w W (conV ta c.ts.length tc ca c.cs.length cc sa c.ss.length sc da c.d.length dc (q : Int)) v1 (hd (lns c.cs) (lns c.ss) q ++ c.ts.flatMap tyb) → Calls Try.prog 77 #[v1, .slice ca c.cs.length cc] W fun e w' => ∃ v', e = .returned v' ∧ App w.heap.size 5 1 W w' v1 v' ((hd (lns c.cs) (lns c.ss) q ++ c.ts.flatMap tyb) ++ c.cs.flatten).length (bV ((hd (lns c.cs) (lns c.ss) q ++ c.ts.flatMap tyb) ++ c.cs.flatten))) := fun W v1 hY => writePieces_is W w.heap.size hY.le v1 _ hY.row _ c.cs (hC.past hY.bel) hY.not (by rw [List.length_append]; omega)
  have SPp : Hid (∀ W v1, HY w.heap.size w W (conV ta c.ts.length tc ca c.cs.length cc sa c.ss.length sc da c.d.length dc (q : Int)) v1 ((hd (lns c.cs) (lns c.ss) q ++ c.ts.flatMap tyb) ++ c.cs.flatten) → Calls Try.prog 77 #[v1, .slice sa c.ss.length sc] W fun e w' => ∃ v', e = .returned v' ∧ App w.heap.size 5 1 W w' v1 v' (((hd (lns c.cs) (lns c.ss) q ++ c.ts.flatMap tyb) ++ c.cs.flatten) ++ c.ss.flatten).length (bV (((hd (lns c.cs) (lns c.ss) q ++ c.ts.flatMap tyb) ++ c.cs.flatten) ++ c.ss.flatten))) := fun W v1 hY => writePieces_is W w.heap.size hY.le v1 _ hY.row _ c.ss (hS.past hY.bel) hY.not (by rw [List.length_append, List.length_append]; omega)
  have DT : Hid (∀ W, Below w.heap.size w W → BL (fun g => g < w.heap.size) W (.slice da c.d.length dc) c.d) := fun W hW => hD.past hW
  have RM : Hid ((ser c).length ≤ 140737488355328) := by unfold Hid; omega
  rw [if_pos ok] at CK
  rw [ok, hq] at CK
  rw [ok, hq]
  rw [hq] at B0 HOc
  clear h my HX l1 hT hC hS hD n1e n2e hq eq ok hd1 hsm SLn SS lbs qI
  generalize hd (lns c.cs) (lns c.ss) q = HDR at *
  generalize (ser c).length = rr at *
  generalize (lns c.cs).length = n1 at *
  generalize (lns c.ss).length = n2 at *
  generalize lns c.cs = L1 at *
  generalize lns c.ss = L2 at *
  generalize c.ts.flatMap tyb = TYS at *
  generalize c.cs.flatten = CF at *
  generalize c.ss.flatten = SF at *
  generalize c.ts.length = nt at *
  generalize c.cs.length = nc at *
  generalize c.ss.length = ns at *
  generalize hnd : c.d.length = nd at *
  generalize c.d = DD at *
  subst hnd
  generalize hnd : DD.length = nd at *
  have LB2 : Hid ((((HDR ++ TYS) ++ CF) ++ SF).length + DD.length ≤ 2199023255552) := by unfold Hid; rw [hnd]; exact LB.out
  clear LB
  generalize hbw : w.heap.size = bw at *
  have GE : Hid (bw ≤ w.heap.size) := by unfold Hid; omega
  go_enter Try.func35, Try.ntmps35
  go_upto_region 1 with fail
  generalize w.alloc _ = W0 at B0 ⊢
  have c0 : W0.cell? ⟨bw, 0, none⟩ = some (.slice ta nt tc) := B0.out.2.cell 0
  have c1 : W0.cell? ⟨bw, 1, none⟩ = some (.slice ca nc cc) := B0.out.2.cell 1
  have c2 : W0.cell? ⟨bw, 2, none⟩ = some (.slice sa ns sc) := B0.out.2.cell 2
  have c3 : W0.cell? ⟨bw, 3, none⟩ = some (.slice da nd dc) := B0.out.2.cell 3
  have c4 : W0.cell? ⟨bw, 4, none⟩ = some (.int .i64 (q : Int)) := B0.out.2.cell 4
  clear hbw hnd
  go_upto_region 4 with (go_at_call 38; refine (CK.out _ B0.out.1).mono ?_; rintro e w1 ⟨rfl, hB⟩)
  have B1 : Hid (Below bw w w1 ∧ CBox w1 bw 28 (conV ta nt tc ca nc cc sa ns sc da nd dc (q : Int))) := ⟨B0.out.1.trans (hB.mono (Nat.le_trans GE.out B0.out.1.size)), B0.out.2.past hB⟩
  clear c0 c1 c2 c3 c4 hB B0
  refine wp_region_held_drew (S := fun V' => Below bw w V' ∧ CBox V' bw 28 (conV ta nt tc ca nc cc sa ns sc da nd dc (q : Int)) ∧ bw ≤ w.heap.size) (by kernel_rfl) (by exact ⟨B1.out.1.trans ((below_drew).mono (Nat.le_trans GE.out B1.out.1.size)), B1.out.2.past below_drew, GE.out⟩) (fun hHeld => ?_)
  generalize w1.drew = zz at hHeld ⊢
  refine wpAnyH_take (i := 0) (v := (.agg #[.slice ta nt tc, .slice ca nc cc, .slice sa ns sc, .slice da nd dc, .int .i64 (q : Int)])) ov0 (by kernel_rfl) (by kernel_rfl) (by kernel_rfl) (fun _ _ _ h => h) (Or.inl ⟨by rfl, fun V' hS => ?_⟩) hHeld ?_
  · have k0 : V'.cell? ⟨bw, 0, none⟩ = some (.slice ta nt tc) := hS.2.1.cell 0; have k1 : V'.cell? ⟨bw, 1, none⟩ = some (.slice ca nc cc) := hS.2.1.cell 1; have k2 : V'.cell? ⟨bw, 2, none⟩ = some (.slice sa ns sc) := hS.2.1.cell 2; have k3 : V'.cell? ⟨bw, 3, none⟩ = some (.slice da nd dc) := hS.2.1.cell 3; have k4 : V'.cell? ⟨bw, 4, none⟩ = some (.int .i64 (q : Int)) := hS.2.1.cell 4
    go_simp
  simp only [Act.put, List.setIfInBounds_toArray, List.set_cons_zero, List.set_cons_succ]
  refine wpAnyH_take (i := 2) (v := .int .i64 (rr : Int)) ov2 (by kernel_rfl) (by kernel_rfl) (by kernel_rfl) (fun _ _ _ h => h) (Or.inl ⟨by rfl, fun V' hS => ?_⟩) hHeld ?_
  · go_simp
  simp only [Act.put, List.setIfInBounds_toArray, List.set_cons_zero, List.set_cons_succ]
  refine wpAnyH_ready (rs := [1, 3]) (by kernel_rfl) (by simp) ?_
  refine AllReadyH.cons ov1 (fun K hK => ?_) (AllReadyH.cons ov3 (fun K hK => ?_) AllReadyH.nil)
  · rw [if_pos (by rfl)]
    go_simp
    refine (HOc.out _ hHeld.1).mono ?_
    rintro e zz ⟨a1, a2, rfl, hU1, hU2, hB⟩
    have hHeld : Below bw w zz ∧ CBox zz bw 28 (conV ta nt tc ca nc cc sa ns sc da nd dc (q : Int)) ∧ bw ≤ w.heap.size := ⟨hHeld.1.trans (hB.mono (Nat.le_trans hHeld.2.2 hHeld.1.size)), hHeld.2.1.past hB, hHeld.2.2⟩
    have HU : Hid (UL zz (.slice a1 n1 n1) L1 ∧ UL zz (.slice a2 n2 n2) L2) := ⟨hU1, hU2⟩
    (try have HR : Hid (zz.ownsRow bw 5 1 (.slice (some ⟨g0, 0, none⟩) 0 rr) 0 (bV [])) := owns_past HR.out hB)
    clear hU1 hU2 hB
    (try go_wp2_with fail)
    refine hK.out _ _ hHeld (fun _ => ?_)
    clear hK K
    (try simp only [Act.put, List.setIfInBounds_toArray, List.set_cons_zero, List.set_cons_succ])
    refine wpAnyH_ready (rs := [3]) (by kernel_rfl) (by simp) ?_
    refine AllReadyH.cons ov3 (fun K hK => ?_) AllReadyH.nil
    rw [if_pos (by rfl)]
    obtain ⟨zm, g0, hmk, hrow, hBm⟩ := make0g bw zz (Nat.le_trans hHeld.2.2 hHeld.1.size) rr RM.out
    go_simp
    (try have HU : Hid (UL zm (.slice a1 n1 n1) L1 ∧ UL zm (.slice a2 n2 n2) L2) := ⟨HU.out.1.past hBm, HU.out.2.past hBm⟩)
    have HR : Hid (zm.ownsRow bw 5 1 (.slice (some ⟨g0, 0, none⟩) 0 rr) 0 (bV [])) := hrow
    have hHeld : Below bw w zm ∧ CBox zm bw 28 (conV ta nt tc ca nc cc sa ns sc da nd dc (q : Int)) ∧ bw ≤ w.heap.size := ⟨hHeld.1.trans (hBm.mono (Nat.le_trans hHeld.2.2 hHeld.1.size)), hHeld.2.1.past hBm, hHeld.2.2⟩
    refine hK.out _ zm hHeld (fun _ => ?_)
    clear hK K
    (try simp only [Act.put, List.setIfInBounds_toArray, List.set_cons_zero, List.set_cons_succ])
    clear hmk hrow hBm
    refine wpAnyH_ready (rs := [4]) (by kernel_rfl) (by simp) ?_
    refine AllReadyH.cons ov4 (fun K hK => ?_) AllReadyH.nil
    rw [if_pos (by rfl)]
    go_simp
    refine (WR.out _ a1 a2 (Nat.le_trans hHeld.2.2 hHeld.1.size) HU.out.1 HU.out.2 g0 HR.out).mono ?_
    rintro e zz ⟨v1, rfl, hA⟩
    have Y1 : Hid (HY bw w zz (conV ta nt tc ca nc cc sa ns sc da nd dc (q : Int)) v1 HDR) := HY.step ⟨hHeld.1, hHeld.2.1, HR.out, hHeld.2.2⟩ hA
    have hHeld : Below bw w zz ∧ CBox zz bw 28 (conV ta nt tc ca nc cc sa ns sc da nd dc (q : Int)) ∧ bw ≤ w.heap.size := ⟨Y1.out.bel, Y1.out.c1, Y1.out.ge⟩
    clear hA
    (try go_wp2_with fail)
    refine hK.out _ _ hHeld (fun _ => ?_)
    clear hK K
    (try simp only [Act.put, List.setIfInBounds_toArray, List.set_cons_zero, List.set_cons_succ])
    refine wpAnyH_take (i := 5) (v := v1) ov5 (by kernel_rfl) (by kernel_rfl) (by kernel_rfl) (fun _ _ _ h => h) (Or.inl ⟨by rfl, fun V' hS => ?_⟩) hHeld ?_
    · go_simp
    simp only [Act.put, List.setIfInBounds_toArray, List.set_cons_zero, List.set_cons_succ]
    refine wpAnyH_done (by kernel_rfl) ?_ _
    clear hHeld
    go_upto_region 5 with fail
    have TYP := TY.out zz v1 Y1.out
    have k0 : zz.cell? ⟨bw, 0, none⟩ = some (.slice ta nt tc) := Y1.out.c1.cell 0
    go_upto_region 6 with (go_at_call 76; refine TYP.mono ?_; rintro e y2 ⟨v2, rfl, hA⟩)
    have Y2 : Hid (HY bw w y2 (conV ta nt tc ca nc cc sa ns sc da nd dc (q : Int)) v2 (HDR ++ TYS)) := Y1.out.step hA
    clear hA k0 Y1 TYP
    have k1 : y2.cell? ⟨bw, 1, none⟩ = some (.slice ca nc cc) := Y2.out.c1.cell 1
    have CPc := CP.out y2 v2 Y2.out
    go_upto_region 7 with (go_at_call 77; refine CPc.mono ?_; rintro e y3 ⟨v3, rfl, hA⟩)
    have Y3 : Hid (HY bw w y3 (conV ta nt tc ca nc cc sa ns sc da nd dc (q : Int)) v3 ((HDR ++ TYS) ++ CF)) := Y2.out.step hA
    clear hA k1 Y2 CPc
    have k2 : y3.cell? ⟨bw, 2, none⟩ = some (.slice sa ns sc) := Y3.out.c1.cell 2
    have SPc := SPp.out y3 v3 Y3.out
    go_upto_region 8 with (go_at_call 77; refine SPc.mono ?_; rintro e y4 ⟨v4, rfl, hA⟩)
    have Y4 : Hid (HY bw w y4 (conV ta nt tc ca nc cc sa ns sc da nd dc (q : Int)) v4 (((HDR ++ TYS) ++ CF) ++ SF)) := Y3.out.step hA
    clear hA k2 Y3 SPc
    have k3 : y4.cell? ⟨bw, 3, none⟩ = some (.slice da nd dc) := Y4.out.c1.cell 3
    go_wp2_with (at_builtin; refine wpList_appB (P := fun g => g < bw) rfl _ _ rfl bw Y4.out.le v4 (((HDR ++ TYS) ++ CF) ++ SF) rfl Y4.out.row (.slice da nd dc) DD rfl (DT.out y4 Y4.out.bel) LB2.out ?_; intro v5 y5 hA)
    have Y5 := Y4.out.step hA
    go_ret2
    exact ⟨v5, rfl, by rw [← EF.out]; exact Y5.row, Y5.bel⟩
  · rw [if_pos (by rfl)]
    obtain ⟨zm, g0, hmk, hrow, hBm⟩ := make0g bw zz (Nat.le_trans hHeld.2.2 hHeld.1.size) rr RM.out
    go_simp
    (try have HU : Hid (UL zm (.slice a1 n1 n1) L1 ∧ UL zm (.slice a2 n2 n2) L2) := ⟨HU.out.1.past hBm, HU.out.2.past hBm⟩)
    have HR : Hid (zm.ownsRow bw 5 1 (.slice (some ⟨g0, 0, none⟩) 0 rr) 0 (bV [])) := hrow
    have hHeld : Below bw w zm ∧ CBox zm bw 28 (conV ta nt tc ca nc cc sa ns sc da nd dc (q : Int)) ∧ bw ≤ w.heap.size := ⟨hHeld.1.trans (hBm.mono (Nat.le_trans hHeld.2.2 hHeld.1.size)), hHeld.2.1.past hBm, hHeld.2.2⟩
    refine hK.out _ zm hHeld (fun _ => ?_)
    clear hK K
    (try simp only [Act.put, List.setIfInBounds_toArray, List.set_cons_zero, List.set_cons_succ])
    clear hmk hrow hBm
    refine wpAnyH_ready (rs := [1]) (by kernel_rfl) (by simp) ?_
    refine AllReadyH.cons ov1 (fun K hK => ?_) AllReadyH.nil
    rw [if_pos (by rfl)]
    go_simp
    refine (HOc.out _ hHeld.1).mono ?_
    rintro e zz ⟨a1, a2, rfl, hU1, hU2, hB⟩
    have hHeld : Below bw w zz ∧ CBox zz bw 28 (conV ta nt tc ca nc cc sa ns sc da nd dc (q : Int)) ∧ bw ≤ w.heap.size := ⟨hHeld.1.trans (hB.mono (Nat.le_trans hHeld.2.2 hHeld.1.size)), hHeld.2.1.past hB, hHeld.2.2⟩
    have HU : Hid (UL zz (.slice a1 n1 n1) L1 ∧ UL zz (.slice a2 n2 n2) L2) := ⟨hU1, hU2⟩
    (try have HR : Hid (zz.ownsRow bw 5 1 (.slice (some ⟨g0, 0, none⟩) 0 rr) 0 (bV [])) := owns_past HR.out hB)
    clear hU1 hU2 hB
    (try go_wp2_with fail)
    refine hK.out _ _ hHeld (fun _ => ?_)
    clear hK K
    (try simp only [Act.put, List.setIfInBounds_toArray, List.set_cons_zero, List.set_cons_succ])
    refine wpAnyH_ready (rs := [4]) (by kernel_rfl) (by simp) ?_
    refine AllReadyH.cons ov4 (fun K hK => ?_) AllReadyH.nil
    rw [if_pos (by rfl)]
    go_simp
    refine (WR.out _ a1 a2 (Nat.le_trans hHeld.2.2 hHeld.1.size) HU.out.1 HU.out.2 g0 HR.out).mono ?_
    rintro e zz ⟨v1, rfl, hA⟩
    have Y1 : Hid (HY bw w zz (conV ta nt tc ca nc cc sa ns sc da nd dc (q : Int)) v1 HDR) := HY.step ⟨hHeld.1, hHeld.2.1, HR.out, hHeld.2.2⟩ hA
    have hHeld : Below bw w zz ∧ CBox zz bw 28 (conV ta nt tc ca nc cc sa ns sc da nd dc (q : Int)) ∧ bw ≤ w.heap.size := ⟨Y1.out.bel, Y1.out.c1, Y1.out.ge⟩
    clear hA
    (try go_wp2_with fail)
    refine hK.out _ _ hHeld (fun _ => ?_)
    clear hK K
    (try simp only [Act.put, List.setIfInBounds_toArray, List.set_cons_zero, List.set_cons_succ])
    refine wpAnyH_take (i := 5) (v := v1) ov5 (by kernel_rfl) (by kernel_rfl) (by kernel_rfl) (fun _ _ _ h => h) (Or.inl ⟨by rfl, fun V' hS => ?_⟩) hHeld ?_
    · go_simp
    simp only [Act.put, List.setIfInBounds_toArray, List.set_cons_zero, List.set_cons_succ]
    refine wpAnyH_done (by kernel_rfl) ?_ _
    clear hHeld
    go_upto_region 5 with fail
    have TYP := TY.out zz v1 Y1.out
    have k0 : zz.cell? ⟨bw, 0, none⟩ = some (.slice ta nt tc) := Y1.out.c1.cell 0
    go_upto_region 6 with (go_at_call 76; refine TYP.mono ?_; rintro e y2 ⟨v2, rfl, hA⟩)
    have Y2 : Hid (HY bw w y2 (conV ta nt tc ca nc cc sa ns sc da nd dc (q : Int)) v2 (HDR ++ TYS)) := Y1.out.step hA
    clear hA k0 Y1 TYP
    have k1 : y2.cell? ⟨bw, 1, none⟩ = some (.slice ca nc cc) := Y2.out.c1.cell 1
    have CPc := CP.out y2 v2 Y2.out
    go_upto_region 7 with (go_at_call 77; refine CPc.mono ?_; rintro e y3 ⟨v3, rfl, hA⟩)
    have Y3 : Hid (HY bw w y3 (conV ta nt tc ca nc cc sa ns sc da nd dc (q : Int)) v3 ((HDR ++ TYS) ++ CF)) := Y2.out.step hA
    clear hA k1 Y2 CPc
    have k2 : y3.cell? ⟨bw, 2, none⟩ = some (.slice sa ns sc) := Y3.out.c1.cell 2
    have SPc := SPp.out y3 v3 Y3.out
    go_upto_region 8 with (go_at_call 77; refine SPc.mono ?_; rintro e y4 ⟨v4, rfl, hA⟩)
    have Y4 : Hid (HY bw w y4 (conV ta nt tc ca nc cc sa ns sc da nd dc (q : Int)) v4 (((HDR ++ TYS) ++ CF) ++ SF)) := Y3.out.step hA
    clear hA k2 Y3 SPc
    have k3 : y4.cell? ⟨bw, 3, none⟩ = some (.slice da nd dc) := Y4.out.c1.cell 3
    go_wp2_with (at_builtin; refine wpList_appB (P := fun g => g < bw) rfl _ _ rfl bw Y4.out.le v4 (((HDR ++ TYS) ++ CF) ++ SF) rfl Y4.out.row (.slice da nd dc) DD rfl (DT.out y4 Y4.out.bel) LB2.out ?_; intro v5 y5 hA)
    have Y5 := Y4.out.step hA
    go_ret2
    exact ⟨v5, rfl, by rw [← EF.out]; exact Y5.row, Y5.bel⟩
end Go.Proofs.Ytndhabhlajldeaa
/- The document's containers: Serialize, Size. -/
namespace Go.Proofs.Ytndhabhlajldeaa
open Go.RowKit
end Go.Proofs.Ytndhabhlajldeaa
/- The document's containers: Size, what is told of what is refused. -/
namespace Go.Proofs.Ytndhabhlajldeaa
open Go.RowKit
end Go.Proofs.Ytndhabhlajldeaa
/- The document's way through a header: a list of fields that grows; it comes to what hdr says. -/
namespace Go.Proofs.Ytndhabhlajldeaa
/-- where the document stands -/
structure HS where
  types : Nat
  k : Nat
  codes : List Nat
  subs : List Nat
  size : Nat
end Go.Proofs.Ytndhabhlajldeaa
/- The document's containers: unless, wrong. -/
namespace Go.Proofs.Ytndhabhlajldeaa
open Go.RowKit
end Go.Proofs.Ytndhabhlajldeaa
/- The document's containers: more: a list of fields that grows. -/
namespace Go.Proofs.Ytndhabhlajldeaa
open Go.RowKit
/-- fields as cells -/
def fV (l : List (Nat × Nat)) : List Value := l.flatMap fun p => [.int .i64 (p.1 : Int), .int .i64 (p.2 : Int)]
theorem fV_get : ∀ (l : List (Nat × Nat)) (i : Nat) (p : Nat × Nat), l[i]? = some p → (fV l)[i * 2]? = some (.int .i64 (p.1 : Int)) ∧ (fV l)[i * 2 + 1]? = some (.int .i64 (p.2 : Int))
  | [], i, p, h => by simp at h
  | q :: l, 0, p, h => by
    simp at h
    subst h
    exact ⟨rfl, rfl⟩
  | q :: l, i + 1, p, h => by
    obtain ⟨h1, h2⟩ := fV_get l i p (by simpa using h)
    show ([Value.int .i64 (q.1 : Int), .int .i64 (q.2 : Int)] ++ fV l)[(i + 1) * 2]? = _ ∧ ([Value.int .i64 (q.1 : Int), .int .i64 (q.2 : Int)] ++ fV l)[(i + 1) * 2 + 1]? = _
    rw [List.getElem?_append_right (by simp; omega), List.getElem?_append_right (by simp; omega)]
    exact ⟨by rw [show (i + 1) * 2 - [Value.int .i64 (q.1 : Int), .int .i64 (q.2 : Int)].length = i * 2 by simp; omega]; exact h1, by rw [show (i + 1) * 2 + 1 - [Value.int .i64 (q.1 : Int), .int .i64 (q.2 : Int)].length = i * 2 + 1 by simp; omega]; exact h2⟩
/-- a list of fields of one's own -/
def FO (B : Nat) (W : World) (v : Value) (l : List (Nat × Nat)) : Prop := W.ownsRow B 123 2 v l.length (fV l)
theorem FO.past {B : Nat} {W W' : World} {v : Value} {l : List (Nat × Nat)} (h : FO B W v l) (k : Below W.heap.size W W') : FO B W' v l := owns_past h k
end Go.Proofs.Ytndhabhlajldeaa
/- Package container: the reader's measure and pieces. -/
namespace Go.Proofs.Ytndhabhlajldeaa
open Go.RowKit
def msr (b : List Nat) (k n d : Nat) (opn : Bool) : Except Er Unit := if b.length < (if opn then k + n else k + n + d) then .error (50, b.length) else if k + n + d < b.length then .error (58, k + n + d) else .ok ()
theorem msr_cut {b : List Nat} {k n d : Nat} {opn : Bool} (h : b.length < (if opn then k + n else k + n + d)) : msr b k n d opn = .error (50, b.length) := by unfold msr; rw [if_pos h]
theorem msr_tail {b : List Nat} {k n d : Nat} {opn : Bool} (h : ¬ b.length < (if opn then k + n else k + n + d)) (h2 : k + n + d < b.length) : msr b k n d opn = .error (58, k + n + d) := by unfold msr; rw [if_neg h, if_pos h2]
theorem msr_ok {b : List Nat} {k n d : Nat} {opn : Bool} (h : ¬ b.length < (if opn then k + n else k + n + d)) (h2 : ¬ k + n + d < b.length) : msr b k n d opn = .ok () := by unfold msr; rw [if_neg h, if_neg h2]
set_option maxHeartbeats 4000000 in
set_option maxRecDepth 100000 in
theorem measure_is (w : World) (rb : Nat) (bs : Value) (b : List Nat) (k d : Nat) (cv sv : Value) (cs ss : List Nat) (opn : Bool) (h : Rdr w rb bs b k) (hc : UL w cv cs) (hs : UL w sv ss) (hb : k + (4 * cs.length + sumL cs + sumL ss) + d < 4611686018427387904) (hsl : ss.length ≤ 16777216) :
    Calls Try.prog 66 #[.pointer (some ⟨rb, 0, none⟩), .agg #[cv, sv, .int .u64 (d : Int)], .bool opn] w fun e w' => Out rb w (msr b k (4 * cs.length + sumL cs + sumL ss) d opn) (fun _ e w' => e = .returned (.tuple #[]) ∧ Below w.heap.size w w') e w' := by
  obtain ⟨ba, bc, rfl, _⟩ := h.by'.len
  obtain ⟨ca, rfl⟩ := hc.len
  obtain ⟨sa, rfl⟩ := hs.len
  have nl := h.len
  obtain ⟨MM, hM⟩ : ∃ MM, MM = msr b k (4 * cs.length + sumL cs + sumL ss) d opn := ⟨_, rfl⟩
  rw [← hM]
  have BH : Hid (∀ W, Below w.heap.size w W → Calls Try.prog 81 #[.agg #[.slice ca cs.length cs.length, .slice sa ss.length ss.length, .int .u64 (d : Int)]] W fun e w' => e = .returned (.int .u64 ((4 * cs.length + sumL cs + sumL ss : Nat) : Int)) ∧ Below W.heap.size W w') := fun W hW => behind_is W _ _ cs ss d (hc.past hW) (hs.past hW) (by omega) ⟨by omega, by omega⟩
  generalize hm : 4 * cs.length + sumL cs + sumL ss = m at *
  obtain ⟨s1, hs1⟩ : ∃ s1 : Nat, s1 = k + m := ⟨_, rfl⟩
  obtain ⟨s2, hs2⟩ : ∃ s2 : Nat, s2 = s1 + d := ⟨_, rfl⟩
  have r1 : (k : Int) + (m : Int) = (s1 : Int) := by omega
  have r2 : (s1 : Int) + (d : Int) = (s2 : Int) := by omega
  have w1 : IntKind.u64.wrap (s1 : Int) = (s1 : Int) := by rw [IntKind.wrap_u64]; omega
  have w2 : IntKind.u64.wrap (s2 : Int) = (s2 : Int) := by rw [IntKind.wrap_u64]; omega
  have w3 : IntKind.u64.wrap (k : Int) = (k : Int) := by rw [IntKind.wrap_u64]; omega
  have w4 : IntKind.i64.wrap (s2 : Int) = (s2 : Int) := by rw [IntKind.wrap_i64]; omega
  have w5 : IntKind.u64.wrap (b.length : Int) = (b.length : Int) := by rw [IntKind.wrap_u64]; omega
  have M1 : Hid (b.length < (if opn then s1 else s2) → MM = .error (50, b.length)) := fun q => by rw [hM]; exact msr_cut (by cases opn <;> simp only [if_true, if_false, Bool.false_eq_true] at q ⊢ <;> omega)
  have M2 : Hid (¬ b.length < (if opn then s1 else s2) → s2 < b.length → MM = .error (58, s2)) := fun q q2 => by rw [hM, msr_tail (by cases opn <;> simp only [if_true, if_false, Bool.false_eq_true] at q ⊢ <;> omega) (by omega), hs2, hs1]
  have M3 : Hid (¬ b.length < (if opn then s1 else s2) → ¬ s2 < b.length → MM = .ok ()) := fun q q2 => by rw [hM]; exact msr_ok (by cases opn <;> simp only [if_true, if_false, Bool.false_eq_true] at q ⊢ <;> omega) (by omega)
  have B0 : Hid (Below w.heap.size w (w.alloc (.cells #[.slice ca cs.length cs.length, .slice sa ss.length ss.length, .int .u64 (d : Int)] 84)) ∧ CBox (w.alloc (.cells #[.slice ca cs.length cs.length, .slice sa ss.length ss.length, .int .u64 (d : Int)] 84)) rb 81 [.slice ba b.length bc, .int .i64 (k : Int)] ∧ CBox (w.alloc (.cells #[.slice ca cs.length cs.length, .slice sa ss.length ss.length, .int .u64 (d : Int)] 84)) w.heap.size 84 [.slice ca cs.length cs.length, .slice sa ss.length ss.length, .int .u64 (d : Int)]) := ⟨below_alloc _ _, h.box.past (below_alloc _ _), CBox.new _ _ [_, _, _]⟩
  have nI : (b.length : Int) ≤ 16777216 := by omega
  clear h hc hs hM hs1 hs2 hm hb nl hsl
  generalize b.length = n at *
  generalize cs.length = nc at *
  generalize ss.length = ns at *
  generalize hbx : w.heap.size = bx at *
  have GB : Hid (w.heap.size = bx) := hbx
  have GE : Hid (bx ≤ w.heap.size) := by unfold Hid; omega
  clear hbx
  go_enter Try.func66, Try.ntmps66
  go_upto_region 1 with fail
  rw [GB.out]
  generalize w.alloc _ = W0 at B0 ⊢
  refine wp_region_held_drew (S := fun V' => CBox V' rb 81 [.slice ba n bc, .int .i64 (k : Int)] ∧ CBox V' bx 84 [.slice ca nc nc, .slice sa ns ns, .int .u64 (d : Int)]) (by kernel_rfl) ⟨B0.out.2.1.past below_drew, B0.out.2.2.past below_drew⟩ (fun hHeld => ?_)
  have B0 : Hid (Below bx w W0.drew ∧ True) := ⟨B0.out.1.trans (below_drew.mono (Nat.le_trans GE.out B0.out.1.size)), trivial⟩
  generalize W0.drew = z0 at hHeld B0 ⊢
  refine wpAnyH_take (i := 0) (v := .pointer (some ⟨rb, 0, none⟩)) ov0 (by kernel_rfl) (by kernel_rfl) (by kernel_rfl) (fun _ _ _ h => h) (Or.inl ⟨by rfl, fun V' hS => ?_⟩) hHeld ?_
  · go_simp
  simp only [Act.put, List.setIfInBounds_toArray, List.set_cons_zero, List.set_cons_succ]
  refine wpAnyH_take (i := 1) (v := .pointer (some ⟨rb, 0, none⟩)) ov1 (by kernel_rfl) (by kernel_rfl) (by kernel_rfl) (fun _ _ _ h => h) (Or.inl ⟨by rfl, fun V' hS => ?_⟩) hHeld ?_
  · go_simp
  simp only [Act.put, List.setIfInBounds_toArray, List.set_cons_zero, List.set_cons_succ]
  refine wpAnyH_take (i := 2) (v := .pointer (some ⟨rb, 1, none⟩)) ov2 (by kernel_rfl) (by kernel_rfl) (by kernel_rfl) (fun _ _ _ h => h) (Or.inl ⟨by rfl, fun V' hS => ?_⟩) hHeld ?_
  · go_simp
  simp only [Act.put, List.setIfInBounds_toArray, List.set_cons_zero, List.set_cons_succ]
  refine wpAnyH_take (i := 3) (v := .int .i64 (k : Int)) ov3 (by kernel_rfl) (by kernel_rfl) (by kernel_rfl) (fun _ _ _ h => h) (Or.inl ⟨by rfl, fun V' hS => ?_⟩) hHeld ?_
  · have c0 : V'.cell? ⟨rb, 1, none⟩ = some (.int .i64 (k : Int)) := hS.1.cell 1
    go_simp
  simp only [Act.put, List.setIfInBounds_toArray, List.set_cons_zero, List.set_cons_succ]
  refine wpAnyH_take (i := 4) (v := .int .u64 (k : Int)) ov4 (by kernel_rfl) (by kernel_rfl) (by kernel_rfl) (fun _ _ _ h => h) (Or.inl ⟨by rfl, fun V' hS => ?_⟩) hHeld ?_
  · go_simp
  simp only [Act.put, List.setIfInBounds_toArray, List.set_cons_zero, List.set_cons_succ]
  refine wpAnyH_take (i := 5) (v := .agg #[.slice ca nc nc, .slice sa ns ns, .int .u64 (d : Int)]) ov5 (by kernel_rfl) (by kernel_rfl) (by kernel_rfl) (fun _ _ _ h => h) (Or.inl ⟨by rfl, fun V' hS => ?_⟩) hHeld ?_
  · have c0 : V'.cell? ⟨bx, 0, none⟩ = some (.slice ca nc nc) := hS.2.cell 0; have c1 : V'.cell? ⟨bx, 1, none⟩ = some (.slice sa ns ns) := hS.2.cell 1; have c2 : V'.cell? ⟨bx, 2, none⟩ = some (.int .u64 (d : Int)) := hS.2.cell 2
    go_simp
  simp only [Act.put, List.setIfInBounds_toArray, List.set_cons_zero, List.set_cons_succ]
  refine wpAnyH_ready (rs := [6]) (by kernel_rfl) (by simp) ?_
  refine AllReadyH.cons ov6 (fun K hK => ?_) AllReadyH.nil
  rw [if_pos (by rfl)]
  go_simp
  refine (BH.out _ B0.out.1).mono ?_
  rintro e z1 ⟨rfl, hB1⟩
  have H1 := (⟨hHeld.1.past hB1, hHeld.2.past hB1⟩ : _ ∧ _)
  have B1 : Hid (Below bx w z1) := B0.out.1.trans (hB1.mono (Nat.le_trans GE.out B0.out.1.size))
  (try go_wp2_with fail)
  refine hK.out _ _ H1 (fun _ => ?_)
  clear hK K
  (try simp only [Act.put, List.setIfInBounds_toArray, List.set_cons_zero, List.set_cons_succ])
  refine wpAnyH_take (i := 7) (v := .int .u64 (s1 : Int)) ov7 (by kernel_rfl) (by kernel_rfl) (by kernel_rfl) (fun _ _ _ h => h) (Or.inl ⟨by rfl, fun V' hS => ?_⟩) H1 ?_
  · go_simp
  simp only [Act.put, List.setIfInBounds_toArray, List.set_cons_zero, List.set_cons_succ]
  refine wpAnyH_take (i := 8) (v := .int .u64 (s1 : Int)) ov8 (by kernel_rfl) (by kernel_rfl) (by kernel_rfl) (fun _ _ _ h => h) (Or.inl ⟨by rfl, fun V' hS => ?_⟩) H1 ?_
  · go_simp
  simp only [Act.put, List.setIfInBounds_toArray, List.set_cons_zero, List.set_cons_succ]
  refine wpAnyH_done (by kernel_rfl) ?_ _
  have k2 : z1.cell? ⟨bx, 2, none⟩ = some (.int .u64 (d : Int)) := H1.2.cell 2
  have k0 : z1.cell? ⟨rb, 0, none⟩ = some (.slice ba n bc) := H1.1.cell 0
  clear hHeld B0 H1
  cases opn with
  | true =>
    simp only [if_true] at M1 M2 M3
    by_cases e1 : n < s1
    · have E0 : Hid (MM = .error (50, n)) := M1.out e1
      have q1 : (n : Int) < (s1 : Int) := by omega
      clear M1 M2 M3
      go_wp2_with (go_at_call 98; refine (giveUp_is _ 50 (n : Int)).mono ?_; rintro e w' ⟨rfl, hw⟩; (have hw2 := hw.symm); clear hw; subst hw2; unfold thrown rejV)
      refine ⟨rfl, ?_⟩
      rw [E0.out]
      exact ⟨rfl, below_but (GB.out ▸ B1.out)⟩
    have q1 : ¬ (n : Int) < (s1 : Int) := by omega
    by_cases e2 : s2 < n
    · have E0 : Hid (MM = .error (58, s2)) := M2.out e1 e2
      have q2 : (s2 : Int) < (n : Int) := by omega
      clear M1 M2 M3
      go_wp2_with (go_at_call 98; refine (giveUp_is _ 58 (s2 : Int)).mono ?_; rintro e w' ⟨rfl, hw⟩; (have hw2 := hw.symm); clear hw; subst hw2; unfold thrown rejV)
      refine ⟨rfl, ?_⟩
      rw [E0.out]
      exact ⟨rfl, below_but (GB.out ▸ B1.out)⟩
    · have E0 : Hid (MM = .ok ()) := M3.out e1 e2
      have q2 : ¬ (s2 : Int) < (n : Int) := by omega
      clear M1 M2 M3
      go_wp2
      go_end0
      rw [E0.out]
      exact ⟨rfl, B1.out⟩
  | false =>
    simp only [if_false, Bool.false_eq_true] at M1 M2 M3
    by_cases e1 : n < s2
    · have E0 : Hid (MM = .error (50, n)) := M1.out e1
      have q1 : (n : Int) < (s2 : Int) := by omega
      clear M1 M2 M3
      go_wp2_with (go_at_call 98; refine (giveUp_is _ 50 (n : Int)).mono ?_; rintro e w' ⟨rfl, hw⟩; (have hw2 := hw.symm); clear hw; subst hw2; unfold thrown rejV)
      refine ⟨rfl, ?_⟩
      rw [E0.out]
      exact ⟨rfl, below_but (GB.out ▸ B1.out)⟩
    have q1 : ¬ (n : Int) < (s2 : Int) := by omega
    by_cases e2 : s2 < n
    · have E0 : Hid (MM = .error (58, s2)) := M2.out e1 e2
      have q2 : (s2 : Int) < (n : Int) := by omega
      clear M1 M2 M3
      go_wp2_with (go_at_call 98; refine (giveUp_is _ 58 (s2 : Int)).mono ?_; rintro e w' ⟨rfl, hw⟩; (have hw2 := hw.symm); clear hw; subst hw2; unfold thrown rejV)
      refine ⟨rfl, ?_⟩
      rw [E0.out]
      exact ⟨rfl, below_but (GB.out ▸ B1.out)⟩
    · have E0 : Hid (MM = .ok ()) := M3.out e1 e2
      have q2 : ¬ (s2 : Int) < (n : Int) := by omega
      clear M1 M2 M3
      go_wp2
      go_end0
      rw [E0.out]
      exact ⟨rfl, B1.out⟩
theorem cuts_len : ∀ (b : List Nat) (ls : List Nat) (k : Nat), (cuts b k ls).length = ls.length
  | _, [], _ => rfl
  | b, n :: r, k => by rw [cuts, List.length_cons, cuts_len b r, List.length_cons]
theorem cuts_get : ∀ (b : List Nat) (ls : List Nat) (k i n : Nat), ls[i]? = some n → (cuts b k ls)[i]? = some ((b.drop (k + sumL (ls.take i))).take n)
  | b, [], k, i, n, h => by cases h
  | b, x :: r, k, 0, n, h => by simp at h; subst h; simp [cuts, sumL]
  | b, x :: r, k, i + 1, n, h => by
    rw [cuts, List.getElem?_cons_succ, cuts_get b r (k + x) i n (by simpa using h), List.take_succ_cons, sumL_cons, Nat.add_assoc]
/-- pieces in blocks of their own, at B or above: the values that stand in the list, and what each is -/
def Own1 (B : Nat) (W : World) (us : List Value) (ll : List (List Nat)) : Prop := ∀ (i : Nat) u l, us[i]? = some u → ll[i]? = some l → W.ownsRow B 5 1 u l.length (bV l)
theorem Own1.but {B : Nat} {S : Nat → Prop} {W W' : World} {us : List Value} {ll : List (List Nat)} (h : Own1 B W us ll) (k : But S W W') (hs : ∀ g, B ≤ g → ¬ S g) : Own1 B W' us ll := fun i u l h1 h2 => owns_row_blockB (h i u l h1 h2) fun g hg => k.block g ((h i u l h1 h2).lt g hg).2 (hs g ((h i u l h1 h2).lt g hg).1)
theorem Own1.butT {B b : Nat} {t : TypeId} {cs : List Value} {W W' : World} {us : List Value} {ll : List (List Nat)} (h : Own1 B W us ll) (k : But (fun g => g = b) W W') (hb : CBox W b t cs) (ht : t ≠ 5) : Own1 B W' us ll := fun i u l h1 h2 => owns_row_blockB (h i u l h1 h2) fun g hg => k.block g ((h i u l h1 h2).lt g hg).2 fun e => by
  subst e
  rcases (h i u l h1 h2).2 with ⟨rfl, _⟩ | ⟨g', c, cur, rfl, _, hh, _⟩
  · cases hg
  · injection hg with hg
    subst hg
    rw [show W.heap[g']? = _ from hb] at hh
    cases hh
    exact ht rfl
theorem Own1.snoc {B : Nat} {W : World} {us : List Value} {ll : List (List Nat)} {u : Value} {l : List Nat} (h : Own1 B W us ll) (hi : ll[us.length]? = some l) (hu : W.ownsRow B 5 1 u l.length (bV l)) : Own1 B W (us ++ [u]) ll := fun i u' l' h1 h2 => by
  by_cases e : i < us.length
  · rw [List.getElem?_append_left e] at h1
    exact h i u' l' h1 h2
  · rw [List.getElem?_append_right (by omega)] at h1
    have e0 : i - us.length = 0 := by
      have := (List.getElem?_eq_some_iff.1 h1).1
      simpa using this
    rw [e0] at h1
    simp at h1
    have ei : i = us.length := by omega
    subst ei h1
    rw [hi] at h2
    cases h2
    exact hu
def nilV : Value := .slice none 0 0
theorem vs_set (us : List Value) (r : Nat) (z u : Value) : (us ++ List.replicate (r + 1) z).set us.length u = (us ++ [u]) ++ List.replicate r z := by
  rw [List.set_append_right _ _ (by simp), Nat.sub_self, List.replicate_succ, List.set_cons_zero]
  simp
/-- pieces that were read -/
structure PcQ (rb : Nat) (w w' : World) (bs : Value) (b : List Nat) (k : Nat) (v : Value) (ll : List (List Nat)) : Prop where
  ex : ∃ g us, v = .slice (some ⟨g, 0, none⟩) ll.length ll.length ∧ CBox w' g 22 us ∧ us.length = ll.length ∧ w.heap.size ≤ g ∧ Own1 w.heap.size w' us ll
  rd : Rdr w' rb bs b k
  but : RB rb w w'
set_option maxHeartbeats 4000000 in
set_option maxRecDepth 100000 in
theorem pieces_is (w : World) (rb : Nat) (bs : Value) (b : List Nat) (k : Nat) (lv : Value) (ls : List Nat) (h : Rdr w rb bs b k) (hu : UL w lv ls) (hk : k + sumL ls ≤ b.length) (hn : ls.length ≤ 16777216) :
    Calls Try.prog 100 #[.pointer (some ⟨rb, 0, none⟩), lv] w fun e w' => ∃ v, e = .returned v ∧ PcQ rb w w' bs b (k + sumL ls) v (cuts b k ls) := by
  obtain ⟨ba, bc, rfl, hbc, _⟩ := h.by'.len
  obtain ⟨la, rfl⟩ := hu.len
  obtain ⟨W1, hmk, hcb, hB1, hsz⟩ := make_n 26 22 (.slice none 0 0) (.slice none 0 0) 1 24 Try.underlying26 Try.infoB (one_cell rfl) (by simp [Value.cells]) .i64 w ls.length (by omega) (by omega)
  have NE : Hid (w.heap.size ≠ rb) := by unfold Hid; have := h.box.lt; omega
  have HGR : Hid (rb < w.heap.size) := h.box.lt
  have HBX : Hid (CBox w rb 81 [.slice ba b.length bc, .int .i64 (k : Int)]) := h.box
  have nbl := h.len
  obtain ⟨CU, hCU⟩ : ∃ CU, CU = cuts b k ls := ⟨_, rfl⟩
  have HCL : Hid (CU.length = ls.length ∧ ∀ i x, ls[i]? = some x → CU[i]? = some ((b.drop (k + sumL (ls.take i))).take x)) := ⟨by rw [hCU, cuts_len], fun i x q => by rw [hCU]; exact cuts_get b ls k i x q⟩
  rw [← hCU]
  have C0 : Hid (CBox W1 w.heap.size 22 (([] : List Value) ++ List.replicate (ls.length - 0) nilV) ∧ Rdr W1 rb (.slice ba b.length bc) b (k + sumL (ls.take 0)) ∧ RB rb w W1 ∧ Own1 w.heap.size W1 [] CU) := ⟨by rw [Nat.mul_one] at hcb; simpa [nilV] using hcb, by simpa [sumL] using h.past hB1, below_but hB1, fun i u l q => by cases q⟩
  have HUL : Hid (UL w (.slice la ls.length ls.length) ls) := hu
  have HKL : Hid (k + sumL ls ≤ b.length ∧ b.length ≤ bc ∧ b.length ≤ 16777216) := ⟨hk, hbc, nbl⟩
  have nI : (ls.length : Int) ≤ 16777216 := by omega
  generalize hN : ls.length = n at *
  have HN : Hid (ls.length = n) := hN
  generalize hNB : b.length = nb at *
  have HNB : Hid (b.length = nb) := hNB
  clear h hu hcb hB1 hsz hk hn hCU hN hNB nbl hbc
  generalize hbw : w.heap.size = bw at *
  have GB : Hid (w.heap.size = bw) := hbw
  have GE : Hid (bw ≤ w.heap.size) := by unfold Hid; omega
  go_enter Try.func100, Try.ntmps100
  go_upto_region 2 with fail
  clear hmk hbw
  generalize hg : bw = g at C0 NE ⊢
  have HGB : Hid (bw = g) := hg
  have HGW : Hid (w.heap.size ≤ g) := by unfold Hid; have := GB.out; omega
  have HGR : Hid (rb < g) := by unfold Hid; have := HGR.out; omega
  clear hg
  go_wp2
  go_loopw [14] (fun s14 wr => ∃ (i : Nat) (us : List Value), s14 = .int .i64 (i : Int) ∧ i ≤ n ∧ us.length = i ∧ CBox wr g 22 (us ++ List.replicate (n - i) nilV) ∧ Rdr wr rb (.slice ba nb bc) b (k + sumL (ls.take i)) ∧ RB rb w wr ∧ Own1 bw wr us CU) (fun s14 _ => n - (intOf s14).toNat)
  case atStart => exact ⟨0, [], rfl, by omega, rfl, C0.out.1, C0.out.2.1, C0.out.2.2.1, by rw [HGB.out]; exact C0.out.2.2.2⟩
  case round =>
    obtain ⟨i, us, rfl, hi, hU, hC, hR, hB, hO⟩ := hrel
    have HU : Hid (us.length = i) := hU
    have HC0 : Hid (CBox wr g 22 (us ++ List.replicate (n - i) nilV) ∧ Rdr wr rb (.slice ba nb bc) b (k + sumL (ls.take i)) ∧ RB rb w wr ∧ Own1 bw wr us CU) := ⟨hC, hR, hB, hO⟩
    clear hC hR hB hO C0 hU
    by_cases e : i = n
    · subst e
      have E1 : Hid (CBox wr g 22 us) := by have := HC0.out.1; rwa [Nat.sub_self, List.replicate_zero, List.append_nil] at this
      have E2 : Hid (Rdr wr rb (.slice ba nb bc) b (k + sumL ls)) := by have := HC0.out.2.1; rwa [List.take_of_length_le (by have := HN.out; omega)] at this
      go_wp2
      go_ret
      refine ⟨_, rfl, ⟨g, us, by rw [HCL.out.1]; rfl, E1.out, by rw [HU.out, HCL.out.1], HGW.out, by rw [GB.out]; exact HC0.out.2.2.2⟩, E2.out, HC0.out.2.2.1⟩
    · have iI : (i : Int) < (n : Int) := by omega
      obtain ⟨q, hq⟩ : ∃ q, ls[i]? = some q := ⟨ls[i]'(by have := HN.out; omega), List.getElem?_eq_getElem _⟩
      obtain ⟨r, hr⟩ : ∃ r, n - i = r + 1 := ⟨n - i - 1, by omega⟩
      have HR1 : Hid (n - i = r + 1) := hr
      have hst := sumL_take hq
      have hsl2 := sumL_le ls (i + 1)
      have ul : UL wr (.slice la n n) ls := HUL.out.but2 HC0.out.2.2.1 HBX.out (by decide)
      obtain ⟨g3, rfl, hcell⟩ := ul.get hq
      have HCU0 := HCL.out.2 i q hq
      obtain ⟨kk, hkk⟩ : ∃ kk, kk = k + sumL (ls.take i) := ⟨_, rfl⟩
      rw [← hkk] at HCU0 HC0
      obtain ⟨t, ht⟩ : ∃ t, t = kk + q := ⟨_, rfl⟩
      have tl : t ≤ nb := by have := HKL.out; omega
      have HTT : Hid (t = k + sumL (ls.take (i + 1))) := by unfold Hid; omega
      have hsl := slice_ij ba nb bc kk t (by omega) (by have := HKL.out; omega)
      have CL0 : ∀ W, BL (fun g => g < rb) W (.slice ba nb bc) b → Calls Try.prog 88 #[.slice (if bc = kk then ba else ba.map (·.add kk)) (t - kk) (bc - kk)] W fun e w' => ∃ v', e = .returned v' ∧ w'.ownsRow W.heap.size 5 1 v' ((b.drop kk).take (t - kk)).length (bV ((b.drop kk).take (t - kk))) ∧ Below W.heap.size W w' := fun W hW => clone_is W _ _ (by have h9 := hW; rw [← HNB.out] at h9; exact BL.mid h9 kk t (by omega) (by rw [HNB.out]; exact tl)) (by have := HKL.out; simp; omega)
      rw [show t - kk = q by omega] at CL0 hsl
      have HSQ : Hid (((b.drop kk).take q).length = q) := by unfold Hid; rw [List.length_take, List.length_drop, HNB.out]; omega
      rw [HSQ.out] at CL0
      have CL : Hid (∀ W, BL (fun g => g < rb) W (.slice ba nb bc) b → Calls Try.prog 88 #[.slice (if bc = kk then ba else ba.map (·.add kk)) q (bc - kk)] W fun e w' => ∃ v', e = .returned v' ∧ w'.ownsRow W.heap.size 5 1 v' q (bV ((b.drop kk).take q)) ∧ Below W.heap.size W w') := CL0
      have HCU : Hid (CU[i]? = some ((b.drop kk).take q)) := HCU0
      generalize (if bc = kk then ba else ba.map (·.add kk)) = ad2 at CL hsl
      generalize bc - kk = cap2 at CL hsl
      generalize (b.drop kk).take q = seg at *
      have r1 : (kk : Int) + (q : Int) = (t : Int) := by omega
      have w1 : IntKind.i64.wrap (t : Int) = (t : Int) := by rw [IntKind.wrap_i64]; have := HKL.out; omega
      have w2 : IntKind.i64.wrap (q : Int) = (q : Int) := by rw [IntKind.wrap_i64]; have := HKL.out; omega
      have HC : Hid (CBox wr g 22 (us ++ List.replicate (n - i) nilV) ∧ Rdr wr rb (.slice ba nb bc) b kk ∧ RB rb w wr ∧ Own1 bw wr us CU) := HC0.out
      have c1 : wr.cell? ⟨rb, 1, none⟩ = some (.int .i64 (kk : Int)) := HC.out.2.1.box.cell 1
      clear HCU0 CL0 hq hst hsl2 hkk ht tl hr ul HC0 e
      go_upto_region 6 with fail
      clear c1 hcell
      refine wp_region_held_drew (S := fun V' => CBox V' rb 81 [.slice ba nb bc, .int .i64 (kk : Int)]) (by kernel_rfl) (HC.out.2.1.box.past below_drew) (fun hHeld => ?_)
      have B0 : Hid (CBox wr.drew g 22 (us ++ List.replicate (n - i) nilV) ∧ Rdr wr.drew rb (.slice ba nb bc) b kk ∧ RB rb w wr.drew ∧ Own1 bw wr.drew us CU) := ⟨HC.out.1.past below_drew, HC.out.2.1.past below_drew, HC.out.2.2.1.trans (below_but below_drew), HC.out.2.2.2.but (below_but (S := fun _ => False) below_drew) (fun _ _ => id)⟩
      clear HC
      generalize wr.drew = z0 at hHeld B0 ⊢
      refine wpAnyH_take (i := 0) (v := .slice (some ⟨g, 0, none⟩) n n) ov0 (by kernel_rfl) (by kernel_rfl) (by kernel_rfl) (fun _ _ _ h => h) (Or.inl ⟨by rfl, fun V' hS => ?_⟩) hHeld ?_
      · go_simp
      simp only [Act.put, List.setIfInBounds_toArray, List.set_cons_zero, List.set_cons_succ]
      refine wpAnyH_take (i := 1) (v := .int .i64 (i : Int)) ov1 (by kernel_rfl) (by kernel_rfl) (by kernel_rfl) (fun _ _ _ h => h) (Or.inl ⟨by rfl, fun V' hS => ?_⟩) hHeld ?_
      · go_simp
      simp only [Act.put, List.setIfInBounds_toArray, List.set_cons_zero, List.set_cons_succ]
      refine wpAnyH_take (i := 2) (v := .pointer (some ⟨rb, 0, none⟩)) ov2 (by kernel_rfl) (by kernel_rfl) (by kernel_rfl) (fun _ _ _ h => h) (Or.inl ⟨by rfl, fun V' hS => ?_⟩) hHeld ?_
      · go_simp
      simp only [Act.put, List.setIfInBounds_toArray, List.set_cons_zero, List.set_cons_succ]
      refine wpAnyH_take (i := 3) (v := .pointer (some ⟨rb, 0, none⟩)) ov3 (by kernel_rfl) (by kernel_rfl) (by kernel_rfl) (fun _ _ _ h => h) (Or.inl ⟨by rfl, fun V' hS => ?_⟩) hHeld ?_
      · go_simp
      simp only [Act.put, List.setIfInBounds_toArray, List.set_cons_zero, List.set_cons_succ]
      refine wpAnyH_take (i := 4) (v := .pointer (some ⟨rb, 0, none⟩)) ov4 (by kernel_rfl) (by kernel_rfl) (by kernel_rfl) (fun _ _ _ h => h) (Or.inl ⟨by rfl, fun V' hS => ?_⟩) hHeld ?_
      · go_simp
      simp only [Act.put, List.setIfInBounds_toArray, List.set_cons_zero, List.set_cons_succ]
      refine wpAnyH_take (i := 5) (v := .slice ba nb bc) ov5 (by kernel_rfl) (by kernel_rfl) (by kernel_rfl) (fun _ _ _ h => h) (Or.inl ⟨by rfl, fun V' hS => ?_⟩) hHeld ?_
      · have c0 : V'.cell? ⟨rb, 0, none⟩ = some (.slice ba nb bc) := hS.cell 0
        go_simp
      simp only [Act.put, List.setIfInBounds_toArray, List.set_cons_zero, List.set_cons_succ]
      refine wpAnyH_take (i := 6) (v := .pointer (some ⟨rb, 0, none⟩)) ov6 (by kernel_rfl) (by kernel_rfl) (by kernel_rfl) (fun _ _ _ h => h) (Or.inl ⟨by rfl, fun V' hS => ?_⟩) hHeld ?_
      · go_simp
      simp only [Act.put, List.setIfInBounds_toArray, List.set_cons_zero, List.set_cons_succ]
      refine wpAnyH_take (i := 7) (v := .pointer (some ⟨rb, 0, none⟩)) ov7 (by kernel_rfl) (by kernel_rfl) (by kernel_rfl) (fun _ _ _ h => h) (Or.inl ⟨by rfl, fun V' hS => ?_⟩) hHeld ?_
      · go_simp
      simp only [Act.put, List.setIfInBounds_toArray, List.set_cons_zero, List.set_cons_succ]
      refine wpAnyH_take (i := 8) (v := .pointer (some ⟨rb, 1, none⟩)) ov8 (by kernel_rfl) (by kernel_rfl) (by kernel_rfl) (fun _ _ _ h => h) (Or.inl ⟨by rfl, fun V' hS => ?_⟩) hHeld ?_
      · go_simp
      simp only [Act.put, List.setIfInBounds_toArray, List.set_cons_zero, List.set_cons_succ]
      refine wpAnyH_take (i := 9) (v := .int .i64 (kk : Int)) ov9 (by kernel_rfl) (by kernel_rfl) (by kernel_rfl) (fun _ _ _ h => h) (Or.inl ⟨by rfl, fun V' hS => ?_⟩) hHeld ?_
      · have c0 : V'.cell? ⟨rb, 1, none⟩ = some (.int .i64 (kk : Int)) := hS.cell 1
        go_simp
      simp only [Act.put, List.setIfInBounds_toArray, List.set_cons_zero, List.set_cons_succ]
      refine wpAnyH_take (i := 10) (v := .int .i64 (t : Int)) ov10 (by kernel_rfl) (by kernel_rfl) (by kernel_rfl) (fun _ _ _ h => h) (Or.inl ⟨by rfl, fun V' hS => ?_⟩) hHeld ?_
      · go_simp
      simp only [Act.put, List.setIfInBounds_toArray, List.set_cons_zero, List.set_cons_succ]
      refine wpAnyH_take (i := 11) (v := .slice ad2 q cap2) ov11 (by kernel_rfl) (by kernel_rfl) (by kernel_rfl) (fun _ _ _ h => h) (Or.inl ⟨by rfl, fun V' hS => ?_⟩) hHeld ?_
      · go_simp
      simp only [Act.put, List.setIfInBounds_toArray, List.set_cons_zero, List.set_cons_succ]
      refine wpAnyH_ready (rs := [12]) (by kernel_rfl) (by simp) ?_
      refine AllReadyH.cons ov12 (fun K hK => ?_) AllReadyH.nil
      rw [if_pos (by rfl)]
      go_simp
      refine (CL.out _ (B0.out.2.1.by')).mono ?_
      rintro e z1 ⟨v3, rfl, hO, hB1⟩
      obtain ⟨a3, c3, e3⟩ := owns_sl hO
      subst e3
      have H1 := hHeld.past hB1
      have B1 : Hid (CBox z1 g 22 (us ++ List.replicate (n - i) nilV) ∧ Rdr z1 rb (.slice ba nb bc) b kk ∧ RB rb w z1 ∧ Own1 bw z1 us CU ∧ z1.ownsRow bw 5 1 (.slice a3 q c3) q (bV seg)) := ⟨B0.out.1.past hB1, B0.out.2.1.past hB1, B0.out.2.2.1.trans (below_but hB1), B0.out.2.2.2.but (below_but (S := fun _ => False) hB1) (fun _ _ => id), owns_base hO (Nat.le_trans GE.out B0.out.2.2.1.size)⟩
      clear hO hB1
      (try go_wp2_with fail)
      refine hK.out _ _ H1 (fun _ => ?_)
      clear hK K
      (try simp only [Act.put, List.setIfInBounds_toArray, List.set_cons_zero, List.set_cons_succ])
      refine wpAnyH_take (i := 13) (v := .pointer (some ⟨g, i, none⟩)) ov13 (by kernel_rfl) (by kernel_rfl) (by kernel_rfl) (fun _ _ _ h => h) (Or.inl ⟨by rfl, fun V' hS => ?_⟩) H1 ?_
      · go_simp
      simp only [Act.put, List.setIfInBounds_toArray, List.set_cons_zero, List.set_cons_succ]
      refine wpAnyH_ready (rs := [14]) (by kernel_rfl) (by simp) ?_
      refine AllReadyH.cons ov14 (fun K hK => ?_) AllReadyH.nil
      rw [if_pos (by rfl)]
      have k0 : z1.cell? ⟨g, i, none⟩ = some nilV := by rw [B1.out.1.cell, HR1.out, List.getElem?_append_right (by rw [HU.out]; exact Nat.le_refl _), HU.out, Nat.sub_self]; rfl
      unfold nilV at k0
      have f0 := B1.out.1.frozen i
      go_simp
      have HS : But (fun y => y = g) z1 (z1.setCell ⟨g, i, none⟩ (.slice a3 q c3)) := (But.refl (fun y => y = g) z1).setCell ⟨g, i, none⟩ _ (Or.inl rfl)
      have B2 : Hid (CBox (z1.setCell ⟨g, i, none⟩ (.slice a3 q c3)) g 22 ((us ++ [.slice a3 q c3]) ++ List.replicate (n - (i + 1)) nilV) ∧ Rdr (z1.setCell ⟨g, i, none⟩ (.slice a3 q c3)) rb (.slice ba nb bc) b kk ∧ RB rb w (z1.setCell ⟨g, i, none⟩ (.slice a3 q c3)) ∧ Own1 bw (z1.setCell ⟨g, i, none⟩ (.slice a3 q c3)) (us ++ [.slice a3 q c3]) CU) := ⟨by (have h9 := B1.out.1.set i (.slice a3 q c3); rw [HR1.out, ← HU.out, vs_set] at h9; rw [show n - (i + 1) = r by have := HR1.out; omega]; rw [HU.out] at h9; exact h9), B1.out.2.1.keep HS (fun y hy e => by have := HGR.out; omega), B1.out.2.2.1.setCell ⟨g, i, none⟩ _ (Or.inr HGW.out), ((B1.out.2.2.2.1.snoc (by rw [HU.out]; exact HCU.out) (by rw [HSQ.out]; exact B1.out.2.2.2.2)).butT HS B1.out.1 (by decide))⟩
      refine hK.out _ (z1.setCell ⟨g, i, none⟩ (.slice a3 q c3)) (H1.but HS (Ne.symm NE.out)) (fun _ => ?_)
      clear hK K
      (try simp only [Act.put, List.setIfInBounds_toArray, List.set_cons_zero, List.set_cons_succ])
      clear k0 f0 HS B1
      generalize (z1.setCell ⟨g, i, none⟩ (.slice a3 q c3)) = z2 at B2 ⊢
      refine wpAnyH_done (by kernel_rfl) ?_ _
      clear hHeld B0
      have k1 : z2.cell? ⟨rb, 1, none⟩ = some (.int .i64 (kk : Int)) := B2.out.2.1.box.cell 1
      have f1 := B2.out.2.1.box.frozen 1
      have B3 : Hid (CBox (z2.setCell ⟨rb, 1, none⟩ (.int .i64 (t : Int))) g 22 ((us ++ [.slice a3 q c3]) ++ List.replicate (n - (i + 1)) nilV) ∧ Rdr (z2.setCell ⟨rb, 1, none⟩ (.int .i64 (t : Int))) rb (.slice ba nb bc) b (k + sumL (ls.take (i + 1))) ∧ RB rb w (z2.setCell ⟨rb, 1, none⟩ (.int .i64 (t : Int))) ∧ Own1 bw (z2.setCell ⟨rb, 1, none⟩ (.int .i64 (t : Int))) (us ++ [.slice a3 q c3]) CU) := by
        have hg := B2.out.2.1.go t
        refine ⟨B2.out.1.but hg.2 NE.out, by rw [← HTT.out]; exact hg.1, B2.out.2.2.1.trans hg.2, B2.out.2.2.2.butT hg.2 B2.out.2.1.box (by decide)⟩
      clear B2
      go_wp2
      go_roundw
      case rel => exact ⟨i + 1, us ++ [.slice a3 q c3], by first | rfl | go_num, by omega, by rw [List.length_append, HU.out]; rfl, B3.out⟩
      case measure => simp [intOf]; omega
end Go.Proofs.Ytndhabhlajldeaa
/- Pieces of one's own, each in a block of its own; append of one; the document's copied. -/
namespace Go.Proofs.Ytndhabhlajldeaa
open Go.RowKit
/-- a list of pieces of one's own -/
def PO (B : Nat) (W : World) (v : Value) (ll : List (List Nat)) : Prop := ∃ us : List Value, us.length = ll.length ∧ W.ownsRow B 22 1 v ll.length us ∧ Own1 B W us ll
theorem PO.nil (B : Nat) (W : World) : PO B W (.slice none 0 0) [] := ⟨[], rfl, World.ownsRow_nil _ _ _ _, fun i u l h => by cases h⟩
theorem PO.past {B : Nat} {W W' : World} {v : Value} {ll : List (List Nat)} (h : PO B W v ll) (k : Below W.heap.size W W') : PO B W' v ll := by
  obtain ⟨us, h1, h2, h3⟩ := h
  exact ⟨us, h1, owns_past h2 k, fun i u l a b => owns_past (h3 i u l a b) k⟩
theorem PO.sl {B : Nat} {W : World} {v : Value} {ll : List (List Nat)} (h : PO B W v ll) : ∃ ad cap, v = .slice ad ll.length cap := by
  obtain ⟨us, _, h2, _⟩ := h
  exact owns_sl h2
theorem PO.one {B : Nat} {W : World} {us : List Value} {ll : List (List Nat)} (h : us.length = ll.length) (h3 : Own1 B W us ll) : ∀ u ∈ us, u.oneCell' = true := fun u hu => by
  obtain ⟨i, hi⟩ := List.getElem?_of_mem hu
  have hl : i < ll.length := by rw [← h]; exact (List.getElem?_eq_some_iff.1 hi).1
  obtain ⟨ad, cap, rfl⟩ := owns_sl (h3 i u _ hi (List.getElem?_eq_getElem hl))
  rfl
end Go.Proofs.Ytndhabhlajldeaa
/- The document's cut: pieces out of bytes. -/
namespace Go.Proofs.Ytndhabhlajldeaa
open Go.RowKit
end Go.Proofs.Ytndhabhlajldeaa
/- The laws' helpers: own, ownParts. -/
namespace Go.Proofs.Ytndhabhlajldeaa
open Go.RowKit
end Go.Proofs.Ytndhabhlajldeaa
/- The laws' helpers: sameBytes. -/
namespace Go.Proofs.Ytndhabhlajldeaa
open Go.RowKit
theorem below_dn {B : Nat} {a w : World} (h : Below B a w) (n : Nat) : Below B a (w.drewN n) := h.trans ⟨rfl, rfl, rfl, Nat.le_refl _, fun _ _ => rfl⟩
end Go.Proofs.Ytndhabhlajldeaa
/- vouchtop's two, four: numbers of bytes. -/
namespace Go.Proofs.Ytndhabhlajldeaa
open Go.RowKit
theorem drop_head9 {b : List Nat} {k x : Nat} (h : b[k]? = some x) : b.drop k = x :: b.drop (k + 1) := by
  obtain ⟨hk, e⟩ := List.getElem?_eq_some_iff.1 h
  rw [List.drop_eq_getElem_cons hk, e]
theorem rd1 {b : List Nat} {k x : Nat} (h : b[k]? = some x) : rd b k 1 = x := by
  unfold rd
  rw [drop_head9 h]
  simp [num]
theorem rd2 {b : List Nat} {k x y : Nat} (h : b[k]? = some x) (g : b[k + 1]? = some y) : rd b k 2 = x * 256 + y := by
  unfold rd
  rw [drop_head9 h, drop_head9 g]
  simp [num]
  omega
theorem rd4 {b : List Nat} {k x y z t : Nat} (h : b[k]? = some x) (g : b[k + 1]? = some y) (i : b[k + 2]? = some z) (j : b[k + 3]? = some t) : rd b k 4 = (x * 256 + y) * 65536 + (z * 256 + t) := by
  unfold rd
  rw [drop_head9 h, drop_head9 g, drop_head9 i, drop_head9 j]
  simp [num]
  omega
theorem rd_lt2 {b : List Nat} (hb : Byt b) (k : Nat) : rd b k 2 < 65536 ∧ rd b k 1 < 256 := by
  have h : ∀ l : List Nat, Byt l → num (l.take 1) < 256 ∧ num (l.take 2) < 65536 := fun l hl => by
    match l, hl with
    | [], _ => exact ⟨by simp [num], by simp [num]⟩
    | [x], hl => have h1 := hl x (by simp); exact ⟨by simp [num]; omega, by simp [num]; omega⟩
    | x :: y :: r, hl => have h1 := hl x (by simp); have h2 := hl y (by simp); exact ⟨by simp [num]; omega, by simp [num]; omega⟩
  exact ⟨(h _ (byt_drop hb k)).2, (h _ (byt_drop hb k)).1⟩
set_option maxHeartbeats 4000000 in
set_option maxRecDepth 100000 in
theorem two_rd {P : Nat → Prop} (w : World) (v : Value) (b : List Nat) (k : Nat) (h : BL P w v b) (hb : Byt b) (hk : k + 2 ≤ b.length) : Calls Try.prog 84 #[v, .int .i64 (k : Int)] w fun e w' => e = .returned (.int .i64 (rd b k 2 : Int)) ∧ Below w.heap.size w w' := by
  obtain ⟨ad, cap, rfl, _, hl⟩ := h.len
  obtain ⟨x, hx⟩ : ∃ x, b[k]? = some x := ⟨b[k]'(by omega), List.getElem?_eq_getElem _⟩
  obtain ⟨y, hy⟩ : ∃ y, b[k + 1]? = some y := ⟨b[k + 1]'(by omega), List.getElem?_eq_getElem _⟩
  have x8 : x < 256 := hb x (List.mem_of_getElem? hx)
  have y8 : y < 256 := hb y (List.mem_of_getElem? hy)
  obtain ⟨g, a, e1, c1⟩ := h.get hx
  obtain ⟨g2, a2, e2, c2⟩ := h.get hy
  subst e1
  injection e2 with e2
  injection e2 with e2 e3
  subst e2 e3
  have HE : Hid (rd b k 2 = x * 256 + y) := rd2 hx hy
  obtain ⟨z, hz⟩ : ∃ z, z = x * 256 + y := ⟨_, rfl⟩
  have HZ : Hid (rd b k 2 = z) := by unfold Hid; rw [HE.out, hz]
  obtain ⟨x1, hx1⟩ : ∃ x1, x1 = x * 256 := ⟨_, rfl⟩
  have r1 : (x : Int) * 256 = (x1 : Int) := by omega
  have w1 : IntKind.i64.wrap (x1 : Int) = (x1 : Int) := by rw [IntKind.wrap_i64]; omega
  have r2 : (x1 : Int) + (y : Int) = (z : Int) := by omega
  have w2 : IntKind.i64.wrap (z : Int) = (z : Int) := by rw [IntKind.wrap_i64]; omega
  obtain ⟨k1, hk1⟩ : ∃ k1, k1 = k + 1 := ⟨_, rfl⟩
  have r3 : (k : Int) + 1 = (k1 : Int) := by omega
  have w3 : IntKind.i64.wrap (k1 : Int) = (k1 : Int) := by rw [IntKind.wrap_i64]; omega
  have wx : IntKind.i64.wrap (x : Int) = (x : Int) := by rw [IntKind.wrap_i64]; omega
  have wy : IntKind.i64.wrap (y : Int) = (y : Int) := by rw [IntKind.wrap_i64]; omega
  have q1 : (k : Int) < (b.length : Int) := by omega
  have q2 : (k1 : Int) < (b.length : Int) := by omega
  have kB : (k : Int) < 1152921504606846976 := by omega
  have kB2 : (k1 : Int) < 1152921504606846976 := by omega
  rw [← hk1] at c2
  clear h hb hk hx hy hz hx1 hk1 HE x8 y8
  go_enter Try.func84, Try.ntmps84
  go_upto_region 1 with fail
  go_quiet (fail)
  go_wp2
  go_ret
  exact ⟨by rw [HZ.out] <;> rfl, below_dn (Below.refl _ _) _⟩
theorem rd_four {b : List Nat} {k : Nat} (h : k + 4 ≤ b.length) : rd b k 4 = rd b k 2 * 65536 + rd b (k + 2) 2 := by
  have h0 := List.getElem?_eq_getElem (l := b) (i := k) (by omega)
  have h1 := List.getElem?_eq_getElem (l := b) (i := k + 1) (by omega)
  have h2 := List.getElem?_eq_getElem (l := b) (i := k + 2) (by omega)
  have h3 := List.getElem?_eq_getElem (l := b) (i := k + 3) (by omega)
  rw [rd4 h0 h1 h2 h3, rd2 h0 h1, rd2 h2 h3]
set_option maxHeartbeats 4000000 in
set_option maxRecDepth 100000 in
theorem four_rd {P : Nat → Prop} (w : World) (v : Value) (b : List Nat) (k : Nat) (h : BL P w v b) (hb : Byt b) (hk : k + 4 ≤ b.length) : Calls Try.prog 85 #[v, .int .i64 (k : Int)] w fun e w' => e = .returned (.int .i64 (rd b k 4 : Int)) ∧ Below w.heap.size w w' := by
  obtain ⟨ad, cap, rfl, _, hl⟩ := h.len
  obtain ⟨x, hx⟩ : ∃ x, rd b k 2 = x := ⟨_, rfl⟩
  obtain ⟨k2, hk2⟩ : ∃ k2, k2 = k + 2 := ⟨_, rfl⟩
  obtain ⟨y, hy⟩ : ∃ y, rd b k2 2 = y := ⟨_, rfl⟩
  obtain ⟨z, hz⟩ : ∃ z, z = x * 65536 + y := ⟨_, rfl⟩
  have HZ : Hid (rd b k 4 = z) := by unfold Hid; rw [rd_four hk, hz, hx, ← hk2, hy]
  have x8 : x < 65536 := by rw [← hx]; exact (rd_lt2 hb k).1
  have y8 : y < 65536 := by rw [← hy]; exact (rd_lt2 hb k2).1
  have TX : Hid (∀ W, Below w.heap.size w W → Calls Try.prog 84 #[.slice ad b.length cap, .int .i64 (k : Int)] W fun e w' => e = .returned (.int .i64 (x : Int)) ∧ Below W.heap.size W w') := fun W hW => by rw [← hx]; exact two_rd W _ b k (h.past hW) hb (by omega)
  have TY : Hid (∀ W, Below w.heap.size w W → Calls Try.prog 84 #[.slice ad b.length cap, .int .i64 (k2 : Int)] W fun e w' => e = .returned (.int .i64 (y : Int)) ∧ Below W.heap.size W w') := fun W hW => by rw [← hy]; exact two_rd W _ b k2 (h.past hW) hb (by omega)
  obtain ⟨x1, hx1⟩ : ∃ x1, x1 = x * 65536 := ⟨_, rfl⟩
  have r1 : (x : Int) * 65536 = (x1 : Int) := by omega
  have w1 : IntKind.i64.wrap (x1 : Int) = (x1 : Int) := by rw [IntKind.wrap_i64]; omega
  have r2 : (x1 : Int) + (y : Int) = (z : Int) := by omega
  have w2 : IntKind.i64.wrap (z : Int) = (z : Int) := by rw [IntKind.wrap_i64]; omega
  have r3 : (k : Int) + 2 = (k2 : Int) := by omega
  have w3 : IntKind.i64.wrap (k2 : Int) = (k2 : Int) := by rw [IntKind.wrap_i64]; omega
  clear h hb hk hx hy hz hx1 hk2 x8 y8
  go_enter Try.func85, Try.ntmps85
  go_wp2_with (first | (go_at_call 84; refine (TX.out _ (Below.refl _ _)).mono ?_; rintro e w1 ⟨rfl, hB⟩; (have M1 : Hid (Below w.heap.size w w1) := hB); (clear hB TX)) | (go_at_call 84; refine (TY.out _ M1.out).mono ?_; rintro e w2 ⟨rfl, hB⟩; (have M2 : Hid (Below w.heap.size w w2) := M1.out.trans (hB.mono M1.out.size)); (clear hB)))
  go_ret
  exact ⟨by rw [HZ.out] <;> rfl, M2.out⟩
end Go.Proofs.Ytndhabhlajldeaa
/- where a container's pieces begin, by the grammar's own lengths. -/
namespace Go.Proofs.Ytndhabhlajldeaa
open Go.RowKit
/-- the lengths one behind the other, and where each piece begins -/
def gL (b : List Nat) (i : Nat) : Nat := if i < gN b then rd b (9 + 2 * i) 2 else rd b (gA b + 3 + 4 * (i - gN b)) 4
def gPl (b : List Nat) : Nat → Nat
  | 0 => gE b + 4 + 4 * gN b
  | i + 1 => gPl b i + gL b i
theorem gl_pos {b : List Nat} (G : GrH b) {i : Nat} (hi : i < gN b + gM b) : 0 < gL b i := by
  unfold gL
  by_cases h : i < gN b
  · rw [if_pos h]; exact G.c i h
  · rw [if_neg h]; exact G.s (i - gN b) (by omega)
theorem gpl_snoc (b : List Nat) (i : Nat) {p : Nat} (h : gPl b i = p) : (List.range i).map (gPl b) ++ [p] = (List.range (i + 1)).map (gPl b) := by
  rw [List.range_succ, List.map_append, ← h]
  rfl
theorem rd4_lt {b : List Nat} (hb : Byt b) {k : Nat} (h : k + 4 ≤ b.length) : rd b k 4 < 4294967296 := by
  rw [rd_four h]
  have h1 := (rd_lt2 hb k).1
  have h2 := (rd_lt2 hb (k + 2)).1
  omega
theorem gcs_get {b : List Nat} {i : Nat} (h : i < gN b) : (gCs b)[i]? = some (rd b (9 + 2 * i) 2) := by
  unfold gCs
  rw [List.getElem?_map, List.getElem?_range h]
  rfl
theorem gss_get {b : List Nat} {i : Nat} (h : i < gM b) : (gSs b)[i]? = some (rd b (gA b + 3 + 4 * i) 4) := by
  unfold gSs
  rw [List.getElem?_map, List.getElem?_range h]
  rfl
theorem gcs_len (b : List Nat) : (gCs b).length = gN b := by simp [gCs]
theorem gss_len (b : List Nat) : (gSs b).length = gM b := by simp [gSs]
theorem gpl_code {b : List Nat} : ∀ i, i ≤ gN b → gPl b i = gE b + 4 + 4 * gN b + sumL ((gCs b).take i)
  | 0, _ => by simp [gPl, sumL]
  | i + 1, h => by
    have e := gpl_code (b := b) i (by omega)
    have g := gcs_get (b := b) (i := i) (by omega)
    rw [sumL_take g]
    show gPl b i + gL b i = _
    rw [e]
    unfold gL
    rw [if_pos (by omega)]
    omega
theorem gpl_sub {b : List Nat} : ∀ u, u ≤ gM b → gPl b (gN b + u) = gE b + 4 + 4 * gN b + sumL (gCs b) + sumL ((gSs b).take u)
  | 0, _ => by
    have e := gpl_code (b := b) (gN b) (by omega)
    rw [List.take_of_length_le (by rw [gcs_len]; omega)] at e
    rw [Nat.add_zero, e]
    simp [sumL]
  | u + 1, h => by
    have e := gpl_sub (b := b) u (by omega)
    have g := gss_get (b := b) (i := u) (by omega)
    rw [sumL_take g]
    show gPl b (gN b + u) + gL b (gN b + u) = _
    rw [e]
    unfold gL
    rw [if_neg (by omega), show gN b + u - gN b = u by omega]
    omega
theorem gpl_all (b : List Nat) : gPl b (gN b + gM b) = gP b := by
  have e := gpl_sub (b := b) (gM b) (by omega)
  rw [List.take_of_length_le (by rw [gss_len]; omega)] at e
  exact e
theorem gpl_le {b : List Nat} : ∀ {i j : Nat}, i ≤ j → gPl b i ≤ gPl b j
  | i, 0, h => by have : i = 0 := by omega
                  rw [this]; exact Nat.le_refl _
  | i, j + 1, h => by
    by_cases e : i = j + 1
    · rw [e]; exact Nat.le_refl _
    · have h1 := gpl_le (b := b) (i := i) (j := j) (by omega)
      have h2 : gPl b (j + 1) = gPl b j + gL b j := rfl
      omega
theorem gc_code {b : List Nat} {i : Nat} (h : i < gN b) : (gC b).cs[i]? = some ((b.drop (gPl b i)).take (gL b i)) := by
  show (cuts b (gE b + 4 + 4 * gN b) (gCs b))[i]? = _
  rw [cuts_get b _ _ _ _ (gcs_get h), ← gpl_code i (by omega)]
  unfold gL
  rw [if_pos h]
theorem gc_sub {b : List Nat} {u : Nat} (h : u < gM b) : (gC b).ss[u]? = some ((b.drop (gPl b (gN b + u))).take (gL b (gN b + u))) := by
  show (cuts b (gE b + 4 + 4 * gN b + sumL (gCs b)) (gSs b))[u]? = _
  rw [cuts_get b _ _ _ _ (gss_get h), ← gpl_sub u (by omega)]
  unfold gL
  rw [if_neg (by omega), show gN b + u - gN b = u by omega]
/-- what the grammar asks of a type whose bytes say x, y, z -/
theorem ty_fine {b : List Nat} {t i x y z : Nat} (hx : rd b t 1 = x) (hy : rd b (t + 1) 1 = y) (hz : rd b (t + 2) 2 = z) : tyFine b t i ↔ ¬ (127 < x ∨ 128 < y ∨ 1023 < z ∨ i = 0 ∧ (x ≠ 0 ∨ y ≠ 128)) := by
  unfold tyFine
  rw [hx, hy, hz]
  unfold okIn okOut okMost
  by_cases e : i = 0
  · subst e
    simp
    omega
  · simp [e]
    omega
end Go.Proofs.Ytndhabhlajldeaa
/- vouchtop's grammar: what its walk bears. -/
namespace Go.Proofs.Ytndhabhlajldeaa
open Go.RowKit
theorem own_boxG {W : World} {B s n q : Nat} {t u : TypeId} {v : Value} {cs l : List Value} (h : W.ownsRow B t s v n cs) (c : CBox W q u l) (ht : t ≠ u) {g : Nat} (hg : OwnV v g) : g ≠ q := by
  rintro rfl
  rcases h.2 with ⟨rfl, _⟩ | ⟨g', c', cur, rfl, _, hh, _⟩
  · cases hg
  · injection hg with hg
    subst hg
    rw [show W.heap[g']? = _ from c] at hh
    cases hh
    exact ht rfl
theorem at_rd1 {b : List Nat} {k x : Nat} (h : rd b k 1 = x) (hk : k < b.length) : b[k]? = some x := by
  have h0 := List.getElem?_eq_getElem hk
  rw [rd1 h0] at h
  rw [h0, h]
/-- what grammar answers: no container has these bytes; or the shape of the one that they are -/
def GrP (b : List Nat) (opn : Bool) (B : Nat) (e : Ending) (w' : World) : Prop := (∃ (z0 z1 z2 z4 z5 : Int) (sa : Option Addr) (sn sc : Nat), e = .returned (.tuple #[.agg #[.int .i64 z0, .int .i64 z1, .int .i64 z2, .slice sa sn sc, .int .i64 z4, .int .i64 z5], .bool false]) ∧ ∀ c, prs b opn ≠ .ok c) ∨ ∃ ga gc, e = .returned (.tuple #[.agg #[.int .i64 ((gE b + 4 : Nat) : Int), .int .i64 (gN b : Int), .int .i64 (gM b : Int), .slice ga (gN b + gM b + 1) gc, .int .i64 (gP b : Int), .int .i64 (gD b : Int)], .bool true]) ∧ prs b opn = .ok (gC b) ∧ InO B w' (.slice ga (gN b + gM b + 1) gc) ((List.range (gN b + gM b + 1)).map (gPl b))
theorem gr_ok {b : List Nat} {opn : Bool} {B n m E4 p D k : Nat} {W : World} {oa : Option Addr} {oc : Nat} (h1 : gE b + 4 = E4) (h2 : gN b = n) (h3 : gM b = m) (h4 : gP b = p) (h5 : gD b = D) (h6 : k = n + m + 1) (hp : prs b opn = .ok (gC b)) (hi : InO B W (.slice oa k oc) ((List.range k).map (gPl b))) : GrP b opn B (.returned (.tuple #[.agg #[.int .i64 (E4 : Int), .int .i64 (n : Int), .int .i64 (m : Int), .slice oa k oc, .int .i64 (p : Int), .int .i64 (D : Int)], .bool true])) W := by
  subst h6 h1 h2 h3 h4 h5
  exact Or.inr ⟨oa, oc, rfl, hp, hi⟩
theorem no_c {b : List Nat} {opn : Bool} (h : ¬ (GrH b ∧ gP b ≤ b.length ∧ b.length ≤ gP b + gD b ∧ (opn = false → b.length = gP b + gD b) ∧ ∀ j, j < gN b → tyFine b (gE b + 4 + 4 * j) j)) : ∀ c, prs b opn ≠ .ok c := fun c e => by
  obtain ⟨h1, h2, h3, h4, h5, _⟩ := prs_gram.1 e
  exact h ⟨h1, h2, h3, h4, h5⟩
theorem len_gram {b : List Nat} (G : GrH b) : 15 ≤ b.length := by
  have hle := G.le
  have hn1 := G.n1
  have hA : gA b ≤ gE b := by unfold gE; split <;> omega
  have hA2 : gA b = 9 + 2 * gN b := rfl
  omega
theorem gr_h {b : List Nat} {n m A A3 E E3 E4 q t4 L : Nat} (hN : gN b = n) (h2 : rd b 0 1 = 239 ∧ rd b 1 1 = 0 ∧ rd b 2 1 = 1 ∧ rd b 3 1 = 1 ∧ rd b 6 1 = 2) (hT : rd b 4 2 = t4) (h6 : ¬ (n < 1 ∨ 1024 < n ∨ t4 ≠ 4 * n ∨ L < A + 1)) (hA : gA b = A ∧ A = 9 + 2 * n) (hE : gE b = E ∧ gM b = m ∧ (rd b A 1 = 3 → 1 ≤ m ∧ m ≤ 256 ∧ E = A3 + 4 * m) ∧ (¬ rd b A 1 = 3 → m = 0 ∧ E = A)) (hE4 : E4 = E + 4 ∧ E3 = E + 3) (h16 : E4 ≤ L ∧ rd b E 1 = 255 ∧ rd b E3 1 = 0) (hL : b.length = L) (hq : q = n + m) (hp : ∀ j, j < q → 0 < gL b j) : GrH b := by
  refine ⟨h2.1, h2.2.1, h2.2.2.1, h2.2.2.2.1, h2.2.2.2.2, by omega, by omega, by omega, fun e => ?_, by rw [hE.1]; exact h16.2.1, by rw [hE.1, ← hE4.2]; exact h16.2.2, by omega, fun i hi => ?_, fun i hi => ?_⟩
  · rw [hA.1] at e
    have := hE.2.2.1 e
    omega
  · have := hp i (by omega)
    unfold gL at this
    rwa [if_pos hi] at this
  · have := hp (gN b + i) (by omega)
    unfold gL at this
    rwa [if_neg (by omega), show gN b + i - gN b = i by omega] at this
/-- v is a Boolean that says whether p -/
def IsB (p : Prop) (v : Value) : Prop := ∃ r : Bool, v = .bool r ∧ (r = true ↔ p)
theorem isB_t {p : Prop} (h : p) : IsB p (.bool true) := ⟨true, rfl, fun _ => h, fun _ => rfl⟩
theorem isB_f {p : Prop} (h : ¬ p) : IsB p (.bool false) := ⟨false, rfl, fun e => (by cases e), fun e => absurd e h⟩
theorem IsB.part {p : Prop} {v : Value} (h : IsB p v) : (v = .bool true ∧ p) ∨ (v = .bool false ∧ ¬ p) := by
  obtain ⟨r, rfl, hr⟩ := h
  cases r
  · exact Or.inr ⟨rfl, fun e => by have := hr.2 e; cases this⟩
  · exact Or.inl ⟨rfl, hr.1 rfl⟩
/-- the two boxes of grammar -/
structure GrM (b4 b6 : Nat) (w W : World) (L6 : List Value) : Prop where
  c4 : CBox W b4 67 [.int .i64 0, .int .i64 0, .int .i64 0, .slice none 0 0, .int .i64 0, .int .i64 0]
  c6 : CBox W b6 67 L6
  ne : b4 ≠ b6
  bel : Below w.heap.size w W
  g4 : w.heap.size ≤ b4 ∧ w.heap.size ≤ b6
theorem GrM.past {b4 b6 : Nat} {w W W' : World} {L6 : List Value} (h : GrM b4 b6 w W L6) (k : Below W.heap.size W W') : GrM b4 b6 w W' L6 := ⟨h.c4.past k, h.c6.past k, h.ne, h.bel.trans (k.mono h.bel.size), h.g4⟩
theorem GrM.put {b4 b6 : Nat} {w W : World} {L6 : List Value} (h : GrM b4 b6 w W L6) (j : Nat) (u : Value) : GrM b4 b6 w (W.setCell ⟨b6, j, none⟩ u) (L6.set j u) := by
  have hs : But (fun y => y = b6) W (W.setCell ⟨b6, j, none⟩ u) := (But.refl (fun y => y = b6) W).setCell ⟨b6, j, none⟩ _ (Or.inl rfl)
  exact ⟨h.c4.but hs (fun e => h.ne e), h.c6.set j u, h.ne, h.bel.trans (hs.below (fun g (e : g = b6) => by have := h.g4; omega) h.bel.size), h.g4⟩
theorem GrM.but {b4 b6 : Nat} {w W W' : World} {L6 : List Value} {T : Nat → Prop} (h : GrM b4 b6 w W L6) (k : But T W W') (h4 : ¬ T b4) (h6 : ¬ T b6) (hb : ∀ g, T g → w.heap.size ≤ g) : GrM b4 b6 w W' L6 := ⟨h.c4.but k h4, h.c6.but k h6, h.ne, h.bel.trans (k.below hb h.bel.size), h.g4⟩
/-- in the loop of lengths: the places so far in a row of its own -/
structure LpM (b4 b6 n m E4 D i : Nat) (w W : World) (b : List Nat) (sa : Option Addr) (sc : Nat) : Prop where
  g : GrM b4 b6 w W [.int .i64 (E4 : Int), .int .i64 (n : Int), .int .i64 (m : Int), .slice sa i sc, .int .i64 0, .int .i64 (D : Int)]
  st : InO w.heap.size W (.slice sa i sc) ((List.range i).map (gPl b))
theorem LpM.past {b4 b6 n m E4 D i : Nat} {w W W' : World} {b : List Nat} {sa : Option Addr} {sc : Nat} (h : LpM b4 b6 n m E4 D i w W b sa sc) (k : Below W.heap.size W W') : LpM b4 b6 n m E4 D i w W' b sa sc := ⟨h.g.past k, h.st.past k⟩
theorem lpm_app {b4 b6 n m E4 D i p : Nat} {w W W9 : World} {b : List Nat} {sa : Option Addr} {sc : Nat} {v9 : Value} (H : LpM b4 b6 n m E4 D i w W b sa sc) (hp : gPl b i = p) (hA : App w.heap.size 3 1 W W9 (.slice sa i sc) v9 ((List.range i).map (gPl b) ++ [p]).length (iV ((List.range i).map (gPl b) ++ [p]))) : ∃ oa oc, v9 = .slice oa (i + 1) oc ∧ GrM b4 b6 w W9 [.int .i64 (E4 : Int), .int .i64 (n : Int), .int .i64 (m : Int), .slice sa i sc, .int .i64 0, .int .i64 (D : Int)] ∧ InO w.heap.size W9 (.slice oa (i + 1) oc) ((List.range (i + 1)).map (gPl b)) := by
  rw [gpl_snoc b i hp] at hA
  have hr : InO w.heap.size W9 v9 ((List.range (i + 1)).map (gPl b)) := hA.row
  obtain ⟨oa, oc, e9⟩ := owns_sl hA.row
  rw [show ((List.range (i + 1)).map (gPl b)).length = i + 1 by simp] at e9
  subst e9
  exact ⟨oa, oc, rfl, H.g.but hA.but (fun hg => own_boxG H.st H.g.c4 (by decide) hg rfl) (fun hg => own_boxG H.st H.g.c6 (by decide) hg rfl) (fun g hg => (World.ownsRow.lt H.st g hg).1), hr⟩
/-- a cell of a box is written: a row of ints stays -/
theorem ino_set {W : World} {B q j : Nat} {t : TypeId} {l : List Value} {v u : Value} {s : List Nat} (h : InO B W v s) (c : CBox W q t l) (ht : 3 ≠ t) : InO B (W.setCell ⟨q, j, none⟩ u) v s := owns_row_blockB h fun g hg => ((But.refl (fun y => y = q) W).setCell ⟨q, j, none⟩ _ (Or.inl rfl)).block g (World.ownsRow.lt h g hg).2 fun e => own_boxG h c ht hg e
theorem lpm_put {b4 b6 n m E4 D i : Nat} {w W : World} {b : List Nat} {sa oa : Option Addr} {sc oc : Nat} (h : GrM b4 b6 w W [.int .i64 (E4 : Int), .int .i64 (n : Int), .int .i64 (m : Int), .slice sa i sc, .int .i64 0, .int .i64 (D : Int)]) (k : InO w.heap.size W (.slice oa (i + 1) oc) ((List.range (i + 1)).map (gPl b))) : LpM b4 b6 n m E4 D (i + 1) w (W.setCell ⟨b6, 3, none⟩ (.slice oa (i + 1) oc)) b oa oc := ⟨h.put 3 _, ino_set k h.c6 (by decide)⟩
/-- behind the loop of lengths -/
structure FnM (b4 b6 n m E4 D p i : Nat) (w W : World) (b : List Nat) (sa : Option Addr) (sc : Nat) : Prop where
  g : GrM b4 b6 w W [.int .i64 (E4 : Int), .int .i64 (n : Int), .int .i64 (m : Int), .slice sa i sc, .int .i64 (p : Int), .int .i64 (D : Int)]
  st : InO w.heap.size W (.slice sa i sc) ((List.range i).map (gPl b))
theorem FnM.past {b4 b6 n m E4 D p i : Nat} {w W W' : World} {b : List Nat} {sa : Option Addr} {sc : Nat} (h : FnM b4 b6 n m E4 D p i w W b sa sc) (k : Below W.heap.size W W') : FnM b4 b6 n m E4 D p i w W' b sa sc := ⟨h.g.past k, h.st.past k⟩
theorem fnm_put {b4 b6 n m E4 D i : Nat} {w W : World} {b : List Nat} {sa : Option Addr} {sc : Nat} (p : Nat) (h : LpM b4 b6 n m E4 D i w W b sa sc) : FnM b4 b6 n m E4 D p i w (W.setCell ⟨b6, 4, none⟩ (.int .i64 (p : Int))) b sa sc := ⟨h.g.put 4 _, ino_set h.st h.g.c6 (by decide)⟩
end Go.Proofs.Ytndhabhlajldeaa
