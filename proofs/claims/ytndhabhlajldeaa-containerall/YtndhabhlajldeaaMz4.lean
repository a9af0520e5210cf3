/- Package container: Size, Serialize. -/
import Derived.Test.YtndhabhlajldeaaMz2
import Derived.Test.YtndhabhlajldeaaMz3
namespace Go.Proofs.Ytndhabhlajldeaa
open Go.RowKit
def conV (ta : Option Addr) (nt tc : Nat) (ca : Option Addr) (nc cc : Nat) (sa : Option Addr) (ns sc : Nat) (da : Option Addr) (nd dc : Nat) (z : Int) : List Value := [.slice ta nt tc, .slice ca nc cc, .slice sa ns sc, .slice da nd dc, .int .i64 z]
/-- the boxes of Size: the container's, the header's -/
structure HZ (bw : Nat) (w V : World) (b1 b5 : Nat) (l1 l5 : List Value) : Prop where
  bel : Below bw w V
  c1 : CBox V b1 28 l1
  c5 : CBox V b5 84 l5
  ge : bw ≤ w.heap.size
theorem HZ.past {bw : Nat} {w V V' : World} {b1 b5 : Nat} {l1 l5 : List Value} (h : HZ bw w V b1 b5 l1 l5) (k : Below V.heap.size V V') : HZ bw w V' b1 b5 l1 l5 := ⟨h.bel.trans (k.mono (Nat.le_trans h.ge h.bel.size)), h.c1.past k, h.c5.past k, h.ge⟩
set_option maxHeartbeats 4000000 in
set_option maxRecDepth 100000 in
theorem size_is {P : Nat → Prop} (w : World) (v : Value) (c : Con) (h : CW P w v c) (hsm : Small c) : Calls Try.prog 38 #[v] w fun e w' => e = .returned (.tuple #[.int .i64 ((if chk c = 0 then (ser c).length else 0 : Nat) : Int), .int .i64 (chk c)]) ∧ Below w.heap.size w w' := by
  obtain ⟨tv, cv, sv, dv, rfl, hT, hC, hS, hD⟩ := id h
  obtain ⟨ta, tc, rfl, _⟩ := hT.len
  obtain ⟨ca, cc, rfl, _⟩ := hC.len
  obtain ⟨sa, sc, rfl, _⟩ := hS.len
  obtain ⟨da, dc, rfl, _, hd1⟩ := hD.len
  have CK : Hid (∀ W, Below w.heap.size w W → Calls Try.prog 20 #[.agg #[.slice ta c.ts.length tc, .slice ca c.cs.length cc, .slice sa c.ss.length sc, .slice da c.d.length dc, .int .i64 c.n]] W fun e w' => e = .returned (.int .i64 (chk c)) ∧ Below W.heap.size W w') := fun W hW => check_is W _ c (h.past hW)
  have B0 : Hid (Below w.heap.size w (w.alloc (.cells #[.slice ta c.ts.length tc, .slice ca c.cs.length cc, .slice sa c.ss.length sc, .slice da c.d.length dc, .int .i64 c.n] 28)) ∧ CBox (w.alloc (.cells #[.slice ta c.ts.length tc, .slice ca c.cs.length cc, .slice sa c.ss.length sc, .slice da c.d.length dc, .int .i64 c.n] 28)) w.heap.size 28 [.slice ta c.ts.length tc, .slice ca c.cs.length cc, .slice sa c.ss.length sc, .slice da c.d.length dc, .int .i64 c.n]) := ⟨below_alloc _ _, CBox.new _ _ [_, _, _, _, _]⟩
  by_cases ok : chk c = 0
  rotate_left
  · have E0 : Hid ((if chk c = 0 then (ser c).length else 0) = 0) := by unfold Hid; rw [if_neg ok]
    rw [E0.out]
    have q2 : (chk c == 0) = false := by simpa using ok
    have q3 : (chk c != 0) = true := by simpa using ok
    clear hT hC hS hD hd1 E0 h hsm ok
    generalize chk c = r at *
    generalize c.ts.length = nt at *
    generalize c.cs.length = nc at *
    generalize c.ss.length = ns at *
    generalize c.d.length = nd at *
    generalize c.n = z at *
    go_enter Try.func38, Try.ntmps38
    go_upto_region 1 with fail
    generalize w.alloc _ = W0 at B0 ⊢
    generalize hbx : w.heap.size = bx at *
    have GB : Hid (w.heap.size = bx) := hbx
    have c0 : W0.cell? ⟨bx, 0, none⟩ = some (.slice ta nt tc) := B0.out.2.cell 0
    have c1 : W0.cell? ⟨bx, 1, none⟩ = some (.slice ca nc cc) := B0.out.2.cell 1
    have c2 : W0.cell? ⟨bx, 2, none⟩ = some (.slice sa ns sc) := B0.out.2.cell 2
    have c3 : W0.cell? ⟨bx, 3, none⟩ = some (.slice da nd dc) := B0.out.2.cell 3
    have c4 : W0.cell? ⟨bx, 4, none⟩ = some (.int .i64 z) := B0.out.2.cell 4
    clear hbx
    go_wp2_with (go_at_call 20; refine (CK.out _ B0.out.1).mono ?_; rintro e w1 ⟨rfl, hB⟩)
    go_ret2
    exact ⟨rfl, by have := B0.out.1.trans (hB.mono (by have := B0.out.1.size; rw [← GB.out]; have h9 := B0.out.1.size; exact h9)); rw [GB.out]; exact this⟩
  have my := chk_may ok
  obtain ⟨q, hq⟩ : ∃ q : Nat, c.n = (q : Int) := ⟨c.n.toNat, by have := my.z2; omega⟩
  have eq : c.n.toNat = q := by omega
  have qI : q ≤ 65535 := by have := my.z1; omega
  have n1e := lns_len c.cs
  have n2e := lns_len c.ss
  have SLn := ser_len my
  have SS := ser_small my hsm
  have HX := lns_lt hsm
  have l1 : (lns c.cs).length ≤ 16777216 ∧ (lns c.ss).length ≤ 16777216 := by have := my.n2; have := my.ns; omega
  rw [eq] at SLn
  have HOc : Hid (∀ W, Below w.heap.size w W → Calls Try.prog 74 #[.agg #[.slice ta c.ts.length tc, .slice ca c.cs.length cc, .slice sa c.ss.length sc, .slice da c.d.length dc, .int .i64 c.n]] W fun e w' => ∃ a1 a2, e = .returned (.agg #[.slice a1 (lns c.cs).length (lns c.cs).length, .slice a2 (lns c.ss).length (lns c.ss).length, .int .u64 (q : Int)]) ∧ UL w' (.slice a1 (lns c.cs).length (lns c.cs).length) (lns c.cs) ∧ UL w' (.slice a2 (lns c.ss).length (lns c.ss).length) (lns c.ss) ∧ Below W.heap.size W w') := fun W hW => (headerOf_is W _ c (h.past hW) (by have := my.z1; omega) (by have := my.n2; omega) (by have := my.ns; omega)).mono fun e w' ⟨u1, u2, h1, h2, h3, h4⟩ => by
    obtain ⟨a1, rfl⟩ := h2.len
    obtain ⟨a2, rfl⟩ := h3.len
    rw [eq] at h1
    exact ⟨a1, a2, h1, h2, h3, h4⟩
  have WR : Hid (∀ W a1 a2, UL W (.slice a1 (lns c.cs).length (lns c.cs).length) (lns c.cs) → UL W (.slice a2 (lns c.ss).length (lns c.ss).length) (lns c.ss) → Calls Try.prog 75 #[.agg #[.slice a1 (lns c.cs).length (lns c.cs).length, .slice a2 (lns c.ss).length (lns c.ss).length, .int .u64 (q : Int)], .slice none 0 0] W fun e w' => ∃ a3 c3, e = .returned (.slice a3 (hd (lns c.cs) (lns c.ss) q).length c3) ∧ Below W.heap.size W w') := fun W a1 a2 h1 h2 => (write_is W W.heap.size (Nat.le_refl _) (.slice none 0 0) [] (World.ownsRow_nil _ _ _ _) _ _ _ _ q h1 h2 HX.1 HX.2 l1.1 l1.2 (by omega) (by simp)).mono fun e w' ⟨v', h3, h4⟩ => by
    obtain ⟨a3, c3, rfl⟩ := owns_sl h4.row
    rw [List.nil_append] at h3
    exact ⟨a3, c3, h3, h4.nil_below⟩
  have BH : Hid (∀ W a1 a2, UL W (.slice a1 (lns c.cs).length (lns c.cs).length) (lns c.cs) → UL W (.slice a2 (lns c.ss).length (lns c.ss).length) (lns c.ss) → Calls Try.prog 81 #[.agg #[.slice a1 (lns c.cs).length (lns c.cs).length, .slice a2 (lns c.ss).length (lns c.ss).length, .int .u64 (q : Int)]] W fun e w' => e = .returned (.int .u64 ((4 * (lns c.cs).length + sumL (lns c.cs) + sumL (lns c.ss) : Nat) : Int)) ∧ Below W.heap.size W w') := fun W a1 a2 h1 h2 => behind_is W _ _ _ _ q h1 h2 (by omega) (by omega)
  rw [if_pos ok, ok, hq]
  rw [ok, hq] at CK
  rw [hq] at B0 HOc
  clear h my HX l1 hT hC hS hD n1e n2e hq eq ok hd1 hsm
  generalize hm2 : 4 * (lns c.cs).length + sumL (lns c.cs) + sumL (lns c.ss) = m2 at *
  generalize hm1 : (hd (lns c.cs) (lns c.ss) q).length = m1 at *
  generalize hrr : (ser c).length = rr at *
  clear hm2 hm1 hrr
  generalize (lns c.cs).length = n1 at *
  generalize (lns c.ss).length = n2 at *
  generalize lns c.cs = L1 at *
  generalize lns c.ss = L2 at *
  generalize c.ts.length = nt at *
  generalize c.cs.length = nc at *
  generalize c.ss.length = ns at *
  generalize c.d.length = nd at *
  obtain ⟨s1, hs1⟩ : ∃ s1 : Nat, s1 = m1 + m2 := ⟨_, rfl⟩
  have r1 : (m1 : Int) + (m2 : Int) = (s1 : Int) := by omega
  have r2 : (s1 : Int) + (nd : Int) = (rr : Int) := by omega
  have w1 : IntKind.i64.wrap (s1 : Int) = (s1 : Int) := by rw [IntKind.wrap_i64]; omega
  have w2 : IntKind.i64.wrap (rr : Int) = (rr : Int) := by rw [IntKind.wrap_i64]; omega
  have w3 : IntKind.i64.wrap (m2 : Int) = (m2 : Int) := by rw [IntKind.wrap_i64]; omega
  generalize hbw : w.heap.size = bw at *
  have GB : Hid (w.heap.size = bw) := hbw
  have GE : Hid (bw ≤ w.heap.size) := by unfold Hid; omega
  clear SLn SS hs1 qI
  go_enter Try.func38, Try.ntmps38
  go_upto_region 1 with fail
  generalize w.alloc _ = W0 at B0 ⊢
  have c0 : W0.cell? ⟨bw, 0, none⟩ = some (.slice ta nt tc) := B0.out.2.cell 0
  have c1 : W0.cell? ⟨bw, 1, none⟩ = some (.slice ca nc cc) := B0.out.2.cell 1
  have c2 : W0.cell? ⟨bw, 2, none⟩ = some (.slice sa ns sc) := B0.out.2.cell 2
  have c3 : W0.cell? ⟨bw, 3, none⟩ = some (.slice da nd dc) := B0.out.2.cell 3
  have c4 : W0.cell? ⟨bw, 4, none⟩ = some (.int .i64 (q : Int)) := B0.out.2.cell 4
  clear hbw
  go_upto_region 4 with (go_at_call 20; refine (CK.out _ B0.out.1).mono ?_; rintro e w1 ⟨rfl, hB⟩)
  have B1 : Hid (Below bw w w1 ∧ CBox w1 bw 28 [.slice ta nt tc, .slice ca nc cc, .slice sa ns sc, .slice da nd dc, .int .i64 (q : Int)]) := ⟨B0.out.1.trans (hB.mono (Nat.le_trans GE.out B0.out.1.size)), B0.out.2.past hB⟩
  clear c0 c1 c2 c3 c4 hB B0
  have c0 : w1.cell? ⟨bw, 0, none⟩ = some (.slice ta nt tc) := B1.out.2.cell 0
  have c1 : w1.cell? ⟨bw, 1, none⟩ = some (.slice ca nc cc) := B1.out.2.cell 1
  have c2 : w1.cell? ⟨bw, 2, none⟩ = some (.slice sa ns sc) := B1.out.2.cell 2
  have c3 : w1.cell? ⟨bw, 3, none⟩ = some (.slice da nd dc) := B1.out.2.cell 3
  have c4 : w1.cell? ⟨bw, 4, none⟩ = some (.int .i64 (q : Int)) := B1.out.2.cell 4
  go_upto_region 5 with (go_at_call 74; refine (HOc.out _ B1.out.1).mono ?_; rintro e w2 ⟨a1, a2, rfl, hU1, hU2, hB⟩)
  have H0 : Hid (HZ bw w (w2.alloc (.cells #[.slice a1 n1 n1, .slice a2 n2 n2, .int .u64 (q : Int)] 84)) bw w2.heap.size (conV ta nt tc ca nc cc sa ns sc da nd dc (q : Int)) [.slice a1 n1 n1, .slice a2 n2 n2, .int .u64 (q : Int)] ∧ UL (w2.alloc (.cells #[.slice a1 n1 n1, .slice a2 n2 n2, .int .u64 (q : Int)] 84)) (.slice a1 n1 n1) L1 ∧ UL (w2.alloc (.cells #[.slice a1 n1 n1, .slice a2 n2 n2, .int .u64 (q : Int)] 84)) (.slice a2 n2 n2) L2) := by
    have b2 := B1.out.1.trans (hB.mono (Nat.le_trans GE.out B1.out.1.size))
    exact ⟨⟨b2.trans ((below_alloc _ _).mono (Nat.le_trans GE.out b2.size)), (B1.out.2.past hB).past (below_alloc _ _), CBox.new _ _ [_, _, _], GE.out⟩, hU1.past (below_alloc _ _), hU2.past (below_alloc _ _)⟩
  clear c0 c1 c2 c3 c4 hU1 hU2 hB B1 CK HOc
  generalize w2.alloc _ = V5 at H0 ⊢
  generalize w2.heap.size = b5 at H0 ⊢
  refine wp_region_held_drew (S := fun V' => HZ bw w V' bw b5 (conV ta nt tc ca nc cc sa ns sc da nd dc (q : Int)) [.slice a1 n1 n1, .slice a2 n2 n2, .int .u64 (q : Int)]) (by kernel_rfl) (H0.out.1.past below_drew) (fun hHeld => ?_)
  have U0 : Hid (UL V5.drew (.slice a1 n1 n1) L1 ∧ UL V5.drew (.slice a2 n2 n2) L2) := ⟨H0.out.2.1.past below_drew, H0.out.2.2.past below_drew⟩
  clear H0
  generalize V5.drew = z0 at hHeld U0 ⊢
  refine wpAnyH_take (i := 0) (v := .agg #[.slice a1 n1 n1, .slice a2 n2 n2, .int .u64 (q : Int)]) ov0 (by kernel_rfl) (by kernel_rfl) (by kernel_rfl) (fun _ _ _ h => h) (Or.inl ⟨by rfl, fun V' hS => ?_⟩) hHeld ?_
  · have c0 : V'.cell? ⟨b5, 0, none⟩ = some (.slice a1 n1 n1) := hS.c5.cell 0; have c1 : V'.cell? ⟨b5, 1, none⟩ = some (.slice a2 n2 n2) := hS.c5.cell 1; have c2 : V'.cell? ⟨b5, 2, none⟩ = some (.int .u64 (q : Int)) := hS.c5.cell 2
    go_simp
  simp only [Act.put, List.setIfInBounds_toArray, List.set_cons_zero, List.set_cons_succ]
  refine wpAnyH_take (i := 3) (v := .agg #[.slice a1 n1 n1, .slice a2 n2 n2, .int .u64 (q : Int)]) ov3 (by kernel_rfl) (by kernel_rfl) (by kernel_rfl) (fun _ _ _ h => h) (Or.inl ⟨by rfl, fun V' hS => ?_⟩) hHeld ?_
  · have c0 : V'.cell? ⟨b5, 0, none⟩ = some (.slice a1 n1 n1) := hS.c5.cell 0; have c1 : V'.cell? ⟨b5, 1, none⟩ = some (.slice a2 n2 n2) := hS.c5.cell 1; have c2 : V'.cell? ⟨b5, 2, none⟩ = some (.int .u64 (q : Int)) := hS.c5.cell 2
    go_simp
  simp only [Act.put, List.setIfInBounds_toArray, List.set_cons_zero, List.set_cons_succ]
  refine wpAnyH_take (i := 7) (v := .pointer (some ⟨bw, 3, none⟩)) ov7 (by kernel_rfl) (by kernel_rfl) (by kernel_rfl) (fun _ _ _ h => h) (Or.inl ⟨by rfl, fun V' hS => ?_⟩) hHeld ?_
  · go_simp
  simp only [Act.put, List.setIfInBounds_toArray, List.set_cons_zero, List.set_cons_succ]
  refine wpAnyH_take (i := 8) (v := .slice da nd dc) ov8 (by kernel_rfl) (by kernel_rfl) (by kernel_rfl) (fun _ _ _ h => h) (Or.inl ⟨by rfl, fun V' hS => ?_⟩) hHeld ?_
  · have c0 : V'.cell? ⟨bw, 3, none⟩ = some (.slice da nd dc) := hS.c1.cell 3
    go_simp
  simp only [Act.put, List.setIfInBounds_toArray, List.set_cons_zero, List.set_cons_succ]
  refine wpAnyH_take (i := 9) (v := .int .i64 (nd : Int)) ov9 (by kernel_rfl) (by kernel_rfl) (by kernel_rfl) (fun _ _ _ h => h) (Or.inl ⟨by rfl, fun V' hS => ?_⟩) hHeld ?_
  · go_simp
  simp only [Act.put, List.setIfInBounds_toArray, List.set_cons_zero, List.set_cons_succ]
  refine wpAnyH_ready (rs := [1]) (by kernel_rfl) (by simp) ?_
  refine AllReadyH.cons ov1 (fun K hK => ?_) AllReadyH.nil
  rw [if_pos (by rfl)]
  go_simp
  refine (WR.out _ a1 a2 U0.out.1 U0.out.2).mono ?_
  rintro e z1 ⟨a3, c3, rfl, hB1⟩
  have H1 := hHeld.past hB1
  have U1 : Hid (UL z1 (.slice a1 n1 n1) L1 ∧ UL z1 (.slice a2 n2 n2) L2) := ⟨U0.out.1.past hB1, U0.out.2.past hB1⟩
  (try go_wp2_with fail)
  refine hK.out _ _ H1 (fun _ => ?_)
  clear hK K
  (try simp only [Act.put, List.setIfInBounds_toArray, List.set_cons_zero, List.set_cons_succ])
  refine wpAnyH_take (i := 2) (v := .int .i64 (m1 : Int)) ov2 (by kernel_rfl) (by kernel_rfl) (by kernel_rfl) (fun _ _ _ h => h) (Or.inl ⟨by rfl, fun V' hS => ?_⟩) H1 ?_
  · go_simp
  simp only [Act.put, List.setIfInBounds_toArray, List.set_cons_zero, List.set_cons_succ]
  refine wpAnyH_ready (rs := [4]) (by kernel_rfl) (by simp) ?_
  refine AllReadyH.cons ov4 (fun K hK => ?_) AllReadyH.nil
  rw [if_pos (by rfl)]
  go_simp
  refine (BH.out _ a1 a2 U1.out.1 U1.out.2).mono ?_
  rintro e z2 ⟨rfl, hB2⟩
  have H2 := H1.past hB2
  (try go_wp2_with fail)
  refine hK.out _ _ H2 (fun _ => ?_)
  clear hK K
  (try simp only [Act.put, List.setIfInBounds_toArray, List.set_cons_zero, List.set_cons_succ])
  refine wpAnyH_take (i := 5) (v := .int .i64 (m2 : Int)) ov5 (by kernel_rfl) (by kernel_rfl) (by kernel_rfl) (fun _ _ _ h => h) (Or.inl ⟨by rfl, fun V' hS => ?_⟩) H2 ?_
  · go_simp
  simp only [Act.put, List.setIfInBounds_toArray, List.set_cons_zero, List.set_cons_succ]
  refine wpAnyH_take (i := 6) (v := .int .i64 (s1 : Int)) ov6 (by kernel_rfl) (by kernel_rfl) (by kernel_rfl) (fun _ _ _ h => h) (Or.inl ⟨by rfl, fun V' hS => ?_⟩) H2 ?_
  · go_simp
  simp only [Act.put, List.setIfInBounds_toArray, List.set_cons_zero, List.set_cons_succ]
  refine wpAnyH_take (i := 10) (v := .int .i64 (rr : Int)) ov10 (by kernel_rfl) (by kernel_rfl) (by kernel_rfl) (fun _ _ _ h => h) (Or.inl ⟨by rfl, fun V' hS => ?_⟩) H2 ?_
  · go_simp
  simp only [Act.put, List.setIfInBounds_toArray, List.set_cons_zero, List.set_cons_succ]
  refine wpAnyH_take (i := 11) (v := .int .i64 (rr : Int)) ov11 (by kernel_rfl) (by kernel_rfl) (by kernel_rfl) (fun _ _ _ h => h) (Or.inl ⟨by rfl, fun V' hS => ?_⟩) H2 ?_
  · go_simp
  simp only [Act.put, List.setIfInBounds_toArray, List.set_cons_zero, List.set_cons_succ]
  refine wpAnyH_take (i := 12) (v := .int .i64 0) ov12 (by kernel_rfl) (by kernel_rfl) (by kernel_rfl) (fun _ _ _ h => h) (Or.inl ⟨by rfl, fun V' hS => ?_⟩) H2 ?_
  · go_simp
  simp only [Act.put, List.setIfInBounds_toArray, List.set_cons_zero, List.set_cons_succ]
  refine wpAnyH_done (by kernel_rfl) ?_ _
  go_wp2
  go_ret2
  exact ⟨rfl, H2.bel⟩
end Go.Proofs.Ytndhabhlajldeaa
/- Package container: Serialize. -/
namespace Go.Proofs.Ytndhabhlajldeaa
open Go.RowKit
theorem owns_base {W : World} {B B' : Nat} {t : TypeId} {s n : Nat} {v : Value} {cs : List Value} (h : W.ownsRow B t s v n cs) (hB : B' ≤ B) : W.ownsRow B' t s v n cs := by
  obtain ⟨hl, h | ⟨g, c, cur, rfl, h1, h2⟩⟩ := h
  · exact ⟨hl, Or.inl h⟩
  · exact ⟨hl, Or.inr ⟨g, c, cur, rfl, Nat.le_trans hB h1, h2⟩⟩
theorem make0g (bw : Nat) (W : World) (hb : bw ≤ W.heap.size) (M : Nat) (hM : M ≤ 140737488355328) : ∃ W1 g0, Sem.run Try.prog (Instr.makeSlice 22 (.int .i64 0) (.int .i64 (M : Int))) W = .ok (.slice (some ⟨g0, 0, none⟩) 0 M) W1 ∧ W1.ownsRow bw 5 1 (.slice (some ⟨g0, 0, none⟩) 0 M) 0 (bV []) ∧ Below W.heap.size W W1 := by
  obtain ⟨W1, h1, h2, h3⟩ := make0 W M hM
  exact ⟨W1, _, h1, owns_base h2 hb, h3⟩
def serR (c : Con) : List Nat := if chk c = 0 then ser c else []
/-- a container's box, and a row that is written -/
structure HY (bw : Nat) (w V : World) (l1 : List Value) (v : Value) (l : List Nat) : Prop where
  bel : Below bw w V
  c1 : CBox V bw 28 l1
  row : V.ownsRow bw 5 1 v l.length (bV l)
  ge : bw ≤ w.heap.size
theorem HY.le {bw : Nat} {w V : World} {l1 : List Value} {v : Value} {l : List Nat} (h : HY bw w V l1 v l) : bw ≤ V.heap.size := Nat.le_trans h.ge h.bel.size
theorem HY.step {bw : Nat} {w V V' : World} {l1 : List Value} {v v' : Value} {l l' : List Nat} (h : HY bw w V l1 v l) (k : App bw 5 1 V V' v v' l'.length (bV l')) : HY bw w V' l1 v' l' := ⟨h.bel.trans (k.below h.row h.le), h.c1.app k h.row (by decide), k.row, h.ge⟩
theorem HY.not {bw : Nat} {w V : World} {l1 : List Value} {v : Value} {l : List Nat} (h : HY bw w V l1 v l) : ∀ g, g < bw → ¬ OwnV v g := fun g hg e => by have := (h.row.lt g e).1; omega
set_option maxHeartbeats 4000000 in
set_option maxRecDepth 100000 in
theorem serialize_is {P : Nat → Prop} (w : World) (v : Value) (c : Con) (h : CW P w v c) (hsm : Small c) : Calls Try.prog 35 #[v] w fun e w' => ∃ v', e = .returned (.tuple #[v', .int .i64 (chk c)]) ∧ w'.ownsRow w.heap.size 5 1 v' (serR c).length (bV (serR c)) ∧ Below w.heap.size w w' := by
  have h : CW (fun g => g < w.heap.size) w v c := h.mono (fun _ _ hg => hg)
  obtain ⟨tv, cv, sv, dv, rfl, hT, hC, hS, hD⟩ := id h
  obtain ⟨ta, tc, rfl, _⟩ := hT.len
  obtain ⟨ca, cc, rfl, _⟩ := hC.len
  obtain ⟨sa, sc, rfl, _⟩ := hS.len
  obtain ⟨da, dc, rfl, _, hd1⟩ := hD.len
  have CK : Hid (∀ W, Below w.heap.size w W → Calls Try.prog 38 #[.agg #[.slice ta c.ts.length tc, .slice ca c.cs.length cc, .slice sa c.ss.length sc, .slice da c.d.length dc, .int .i64 c.n]] W fun e w' => e = .returned (.tuple #[.int .i64 ((if chk c = 0 then (ser c).length else 0 : Nat) : Int), .int .i64 (chk c)]) ∧ Below W.heap.size W w') := fun W hW => size_is W _ c (h.past hW) hsm
  have B0 : Hid (Below w.heap.size w (w.alloc (.cells #[.slice ta c.ts.length tc, .slice ca c.cs.length cc, .slice sa c.ss.length sc, .slice da c.d.length dc, .int .i64 c.n] 28)) ∧ CBox (w.alloc (.cells #[.slice ta c.ts.length tc, .slice ca c.cs.length cc, .slice sa c.ss.length sc, .slice da c.d.length dc, .int .i64 c.n] 28)) w.heap.size 28 [.slice ta c.ts.length tc, .slice ca c.cs.length cc, .slice sa c.ss.length sc, .slice da c.d.length dc, .int .i64 c.n]) := ⟨below_alloc _ _, CBox.new _ _ [_, _, _, _, _]⟩
  by_cases ok : chk c = 0
  rotate_left
  · have E0 : Hid (serR c = []) := by unfold Hid serR; rw [if_neg ok]
    rw [E0.out]
    rw [if_neg ok] at CK
    have q2 : (chk c == 0) = false := by simpa using ok
    have q3 : (chk c != 0) = true := by simpa using ok
    clear hT hC hS hD hd1 E0 h hsm ok
    generalize chk c = r at *
    generalize c.ts.length = nt at *
    generalize c.cs.length = nc at *
    generalize c.ss.length = ns at *
    generalize c.d.length = nd at *
    generalize c.n = z at *
    generalize hbx : w.heap.size = bx at *
    have GE : Hid (bx ≤ w.heap.size) := by unfold Hid; omega
    go_enter Try.func35, Try.ntmps35
    go_upto_region 1 with fail
    generalize w.alloc _ = W0 at B0 ⊢
    have c0 : W0.cell? ⟨bx, 0, none⟩ = some (.slice ta nt tc) := B0.out.2.cell 0
    have c1 : W0.cell? ⟨bx, 1, none⟩ = some (.slice ca nc cc) := B0.out.2.cell 1
    have c2 : W0.cell? ⟨bx, 2, none⟩ = some (.slice sa ns sc) := B0.out.2.cell 2
    have c3 : W0.cell? ⟨bx, 3, none⟩ = some (.slice da nd dc) := B0.out.2.cell 3
    have c4 : W0.cell? ⟨bx, 4, none⟩ = some (.int .i64 z) := B0.out.2.cell 4
    clear hbx
    go_wp2_with (go_at_call 38; refine (CK.out _ B0.out.1).mono ?_; rintro e w1 ⟨rfl, hB⟩)
    go_ret2
    exact ⟨_, rfl, World.ownsRow_nil _ _ _ _, B0.out.1.trans (hB.mono (Nat.le_trans GE.out B0.out.1.size))⟩
  have my := chk_may ok
  obtain ⟨q, hq⟩ : ∃ q : Nat, c.n = (q : Int) := ⟨c.n.toNat, by have := my.z2; omega⟩
  have eq : c.n.toNat = q := by omega
  have qI : q ≤ 65535 := by have := my.z1; omega
  have n1e := lns_len c.cs
  have n2e := lns_len c.ss
  have SLn := ser_len my
  have SS := ser_small my hsm
  have HX := lns_lt hsm
  have l1 : (lns c.cs).length ≤ 16777216 ∧ (lns c.ss).length ≤ 16777216 := by have := my.n2; have := my.ns; omega
  rw [eq] at SLn
  have HOc : Hid (∀ W, Below w.heap.size w W → Calls Try.prog 74 #[.agg #[.slice ta c.ts.length tc, .slice ca c.cs.length cc, .slice sa c.ss.length sc, .slice da c.d.length dc, .int .i64 c.n]] W fun e w' => ∃ a1 a2, e = .returned (.agg #[.slice a1 (lns c.cs).length (lns c.cs).length, .slice a2 (lns c.ss).length (lns c.ss).length, .int .u64 (q : Int)]) ∧ UL w' (.slice a1 (lns c.cs).length (lns c.cs).length) (lns c.cs) ∧ UL w' (.slice a2 (lns c.ss).length (lns c.ss).length) (lns c.ss) ∧ Below W.heap.size W w') := fun W hW => (headerOf_is W _ c (h.past hW) (by have := my.z1; omega) (by have := my.n2; omega) (by have := my.ns; omega)).mono fun e w' ⟨u1, u2, h1, h2, h3, h4⟩ => by
    obtain ⟨a1, rfl⟩ := h2.len
    obtain ⟨a2, rfl⟩ := h3.len
    rw [eq] at h1
    exact ⟨a1, a2, h1, h2, h3, h4⟩
  have EF : Hid ((((hd (lns c.cs) (lns c.ss) q ++ c.ts.flatMap tyb) ++ c.cs.flatten) ++ c.ss.flatten) ++ c.d = serR c) := by unfold Hid serR; rw [if_pos ok, ser, eq]
  have LB : Hid ((((hd (lns c.cs) (lns c.ss) q ++ c.ts.flatMap tyb) ++ c.cs.flatten) ++ c.ss.flatten).length + c.d.length ≤ 2199023255552) := by
    unfold Hid
    have h9 := congrArg List.length EF.out
    rw [List.length_append, serR, if_pos ok] at h9
    omega
  have lbs : (hd (lns c.cs) (lns c.ss) q).length + (c.ts.flatMap tyb).length + c.cs.flatten.length + c.ss.flatten.length ≤ 67108864 := by
    have h9 := congrArg List.length EF.out
    simp only [List.length_append, serR, if_pos ok] at h9
    omega
  have WR : Hid (∀ W a1 a2, w.heap.size ≤ W.heap.size → UL W (.slice a1 (lns c.cs).length (lns c.cs).length) (lns c.cs) → UL W (.slice a2 (lns c.ss).length (lns c.ss).length) (lns c.ss) → ∀ g0, W.ownsRow w.heap.size 5 1 (.slice (some ⟨g0, 0, none⟩) 0 (ser c).length) 0 (bV []) → Calls Try.prog 75 #[.agg #[.slice a1 (lns c.cs).length (lns c.cs).length, .slice a2 (lns c.ss).length (lns c.ss).length, .int .u64 (q : Int)], .slice (some ⟨g0, 0, none⟩) 0 (ser c).length] W fun e w' => ∃ v', e = .returned v' ∧ App w.heap.size 5 1 W w' (.slice (some ⟨g0, 0, none⟩) 0 (ser c).length) v' (hd (lns c.cs) (lns c.ss) q).length (bV (hd (lns c.cs) (lns c.ss) q))) := fun W a1 a2 hW h1 h2 g0 hr => (write_is W w.heap.size hW _ [] hr _ _ _ _ q h1 h2 HX.1 HX.2 l1.1 l1.2 (by omega) (by simp)).mono fun e w' ⟨v', h3, h4⟩ => by
    rw [List.nil_append] at h4
    exact ⟨v', h3, h4⟩
  have TY : Hid (∀ W v1, HY w.heap.size w W (conV ta c.ts.length tc ca c.cs.length cc sa c.ss.length sc da c.d.length dc (q : Int)) v1 (hd (lns c.cs) (lns c.ss) q) → Calls Try.prog 76 #[v1, .slice ta c.ts.length tc] W fun e w' => ∃ v', e = .returned v' ∧ App w.heap.size 5 1 W w' v1 v' (hd (lns c.cs) (lns c.ss) q ++ c.ts.flatMap tyb).length (bV (hd (lns c.cs) (lns c.ss) q ++ c.ts.flatMap tyb))) := fun W v1 hY => writeTypes_is W w.heap.size hY.le v1 _ hY.row _ c.ts (hT.past hY.bel) hY.not (chkT_ok c.ts 0 my.ty) (by have := my.n2; have := my.nt; omega) (by omega)
  have CP : Hid (∀ W v1, HY w.heap.size w W (conV ta c.ts.length tc ca c.cs.length cc sa c.ss.length sc da c.d.length dc (q : Int)) v1 (hd (lns c.cs) (lns c.ss) q ++ c.ts.flatMap tyb) → Calls Try.prog 77 #[v1, .slice ca c.cs.length cc] W fun e w' => ∃ v', e = .returned v' ∧ App w.heap.size 5 1 W w' v1 v' ((hd (lns c.cs) (lns c.ss) q ++ c.ts.flatMap tyb) ++ c.cs.flatten).length (bV ((hd (lns c.cs) (lns c.ss) q ++ c.ts.flatMap tyb) ++ c.cs.flatten))) := fun W v1 hY => writePieces_is W w.heap.size hY.le v1 _ hY.row _ c.cs (hC.past hY.bel) hY.not (by rw [List.length_append]; omega)
  have SPp : Hid (∀ W v1, HY w.heap.size w W (conV ta c.ts.length tc ca c.cs.length cc sa c.ss.length sc da c.d.length dc (q : Int)) v1 ((hd (lns c.cs) (lns c.ss) q ++ c.ts.flatMap tyb) ++ c.cs.flatten) → Calls Try.prog 77 #[v1, .slice sa c.ss.length sc] W fun e w' => ∃ v', e = .returned v' ∧ App w.heap.size 5 1 W w' v1 v' (((hd (lns c.cs) (lns c.ss) q ++ c.ts.flatMap tyb) ++ c.cs.flatten) ++ c.ss.flatten).length (bV (((hd (lns c.cs) (lns c.ss) q ++ c.ts.flatMap tyb) ++ c.cs.flatten) ++ c.ss.flatten))) := fun W v1 hY => writePieces_is W w.heap.size hY.le v1 _ hY.row _ c.ss (hS.past hY.bel) hY.not (by rw [List.length_append, List.length_append]; omega)
  have DT : Hid (∀ W, Below w.heap.size w W → BL (fun g => g < w.heap.size) W (.slice da c.d.length dc) c.d) := fun W hW => hD.past hW
  have RM : Hid ((ser c).length ≤ 140737488355328) := by unfold Hid; omega
  rw [if_pos ok] at CK
  rw [ok, hq] at CK
  rw [ok, hq]
  rw [hq] at B0 HOc
  clear h my HX l1 hT hC hS hD n1e n2e hq eq ok hd1 hsm SLn SS lbs qI
  generalize hd (lns c.cs) (lns c.ss) q = HDR at *
  generalize (ser c).length = rr at *
  generalize (lns c.cs).length = n1 at *
  generalize (lns c.ss).length = n2 at *
  generalize lns c.cs = L1 at *
  generalize lns c.ss = L2 at *
  generalize c.ts.flatMap tyb = TYS at *
  generalize c.cs.flatten = CF at *
  generalize c.ss.flatten = SF at *
  generalize c.ts.length = nt at *
  generalize c.cs.length = nc at *
  generalize c.ss.length = ns at *
  generalize hnd : c.d.length = nd at *
  generalize c.d = DD at *
  subst hnd
  generalize hnd : DD.length = nd at *
  have LB2 : Hid ((((HDR ++ TYS) ++ CF) ++ SF).length + DD.length ≤ 2199023255552) := by unfold Hid; rw [hnd]; exact LB.out
  clear LB
  generalize hbw : w.heap.size = bw at *
  have GE : Hid (bw ≤ w.heap.size) := by unfold Hid; omega
  go_enter Try.func35, Try.ntmps35
  go_upto_region 1 with fail
  generalize w.alloc _ = W0 at B0 ⊢
  have c0 : W0.cell? ⟨bw, 0, none⟩ = some (.slice ta nt tc) := B0.out.2.cell 0
  have c1 : W0.cell? ⟨bw, 1, none⟩ = some (.slice ca nc cc) := B0.out.2.cell 1
  have c2 : W0.cell? ⟨bw, 2, none⟩ = some (.slice sa ns sc) := B0.out.2.cell 2
  have c3 : W0.cell? ⟨bw, 3, none⟩ = some (.slice da nd dc) := B0.out.2.cell 3
  have c4 : W0.cell? ⟨bw, 4, none⟩ = some (.int .i64 (q : Int)) := B0.out.2.cell 4
  clear hbw hnd
  go_upto_region 4 with (go_at_call 38; refine (CK.out _ B0.out.1).mono ?_; rintro e w1 ⟨rfl, hB⟩)
  have B1 : Hid (Below bw w w1 ∧ CBox w1 bw 28 (conV ta nt tc ca nc cc sa ns sc da nd dc (q : Int))) := ⟨B0.out.1.trans (hB.mono (Nat.le_trans GE.out B0.out.1.size)), B0.out.2.past hB⟩
  clear c0 c1 c2 c3 c4 hB B0
  refine wp_region_held_drew (S := fun V' => Below bw w V' ∧ CBox V' bw 28 (conV ta nt tc ca nc cc sa ns sc da nd dc (q : Int)) ∧ bw ≤ w.heap.size) (by kernel_rfl) (by exact ⟨B1.out.1.trans ((below_drew).mono (Nat.le_trans GE.out B1.out.1.size)), B1.out.2.past below_drew, GE.out⟩) (fun hHeld => ?_)
  generalize w1.drew = zz at hHeld ⊢
  refine wpAnyH_take (i := 0) (v := (.agg #[.slice ta nt tc, .slice ca nc cc, .slice sa ns sc, .slice da nd dc, .int .i64 (q : Int)])) ov0 (by kernel_rfl) (by kernel_rfl) (by kernel_rfl) (fun _ _ _ h => h) (Or.inl ⟨by rfl, fun V' hS => ?_⟩) hHeld ?_
  · have k0 : V'.cell? ⟨bw, 0, none⟩ = some (.slice ta nt tc) := hS.2.1.cell 0; have k1 : V'.cell? ⟨bw, 1, none⟩ = some (.slice ca nc cc) := hS.2.1.cell 1; have k2 : V'.cell? ⟨bw, 2, none⟩ = some (.slice sa ns sc) := hS.2.1.cell 2; have k3 : V'.cell? ⟨bw, 3, none⟩ = some (.slice da nd dc) := hS.2.1.cell 3; have k4 : V'.cell? ⟨bw, 4, none⟩ = some (.int .i64 (q : Int)) := hS.2.1.cell 4
    go_simp
  simp only [Act.put, List.setIfInBounds_toArray, List.set_cons_zero, List.set_cons_succ]
  refine wpAnyH_take (i := 2) (v := .int .i64 (rr : Int)) ov2 (by kernel_rfl) (by kernel_rfl) (by kernel_rfl) (fun _ _ _ h => h) (Or.inl ⟨by rfl, fun V' hS => ?_⟩) hHeld ?_
  · go_simp
  simp only [Act.put, List.setIfInBounds_toArray, List.set_cons_zero, List.set_cons_succ]
  refine wpAnyH_ready (rs := [1, 3]) (by kernel_rfl) (by simp) ?_
  refine AllReadyH.cons ov1 (fun K hK => ?_) (AllReadyH.cons ov3 (fun K hK => ?_) AllReadyH.nil)
  · rw [if_pos (by rfl)]
    go_simp
    refine (HOc.out _ hHeld.1).mono ?_
    rintro e zz ⟨a1, a2, rfl, hU1, hU2, hB⟩
    have hHeld : Below bw w zz ∧ CBox zz bw 28 (conV ta nt tc ca nc cc sa ns sc da nd dc (q : Int)) ∧ bw ≤ w.heap.size := ⟨hHeld.1.trans (hB.mono (Nat.le_trans hHeld.2.2 hHeld.1.size)), hHeld.2.1.past hB, hHeld.2.2⟩
    have HU : Hid (UL zz (.slice a1 n1 n1) L1 ∧ UL zz (.slice a2 n2 n2) L2) := ⟨hU1, hU2⟩
    (try have HR : Hid (zz.ownsRow bw 5 1 (.slice (some ⟨g0, 0, none⟩) 0 rr) 0 (bV [])) := owns_past HR.out hB)
    clear hU1 hU2 hB
    (try go_wp2_with fail)
    refine hK.out _ _ hHeld (fun _ => ?_)
    clear hK K
    (try simp only [Act.put, List.setIfInBounds_toArray, List.set_cons_zero, List.set_cons_succ])
    refine wpAnyH_ready (rs := [3]) (by kernel_rfl) (by simp) ?_
    refine AllReadyH.cons ov3 (fun K hK => ?_) AllReadyH.nil
    rw [if_pos (by rfl)]
    obtain ⟨zm, g0, hmk, hrow, hBm⟩ := make0g bw zz (Nat.le_trans hHeld.2.2 hHeld.1.size) rr RM.out
    go_simp
    (try have HU : Hid (UL zm (.slice a1 n1 n1) L1 ∧ UL zm (.slice a2 n2 n2) L2) := ⟨HU.out.1.past hBm, HU.out.2.past hBm⟩)
    have HR : Hid (zm.ownsRow bw 5 1 (.slice (some ⟨g0, 0, none⟩) 0 rr) 0 (bV [])) := hrow
    have hHeld : Below bw w zm ∧ CBox zm bw 28 (conV ta nt tc ca nc cc sa ns sc da nd dc (q : Int)) ∧ bw ≤ w.heap.size := ⟨hHeld.1.trans (hBm.mono (Nat.le_trans hHeld.2.2 hHeld.1.size)), hHeld.2.1.past hBm, hHeld.2.2⟩
    refine hK.out _ zm hHeld (fun _ => ?_)
    clear hK K
    (try simp only [Act.put, List.setIfInBounds_toArray, List.set_cons_zero, List.set_cons_succ])
    clear hmk hrow hBm
    refine wpAnyH_ready (rs := [4]) (by kernel_rfl) (by simp) ?_
    refine AllReadyH.cons ov4 (fun K hK => ?_) AllReadyH.nil
    rw [if_pos (by rfl)]
    go_simp
    refine (WR.out _ a1 a2 (Nat.le_trans hHeld.2.2 hHeld.1.size) HU.out.1 HU.out.2 g0 HR.out).mono ?_
    rintro e zz ⟨v1, rfl, hA⟩
    have Y1 : Hid (HY bw w zz (conV ta nt tc ca nc cc sa ns sc da nd dc (q : Int)) v1 HDR) := HY.step ⟨hHeld.1, hHeld.2.1, HR.out, hHeld.2.2⟩ hA
    have hHeld : Below bw w zz ∧ CBox zz bw 28 (conV ta nt tc ca nc cc sa ns sc da nd dc (q : Int)) ∧ bw ≤ w.heap.size := ⟨Y1.out.bel, Y1.out.c1, Y1.out.ge⟩
    clear hA
    (try go_wp2_with fail)
    refine hK.out _ _ hHeld (fun _ => ?_)
    clear hK K
    (try simp only [Act.put, List.setIfInBounds_toArray, List.set_cons_zero, List.set_cons_succ])
    refine wpAnyH_take (i := 5) (v := v1) ov5 (by kernel_rfl) (by kernel_rfl) (by kernel_rfl) (fun _ _ _ h => h) (Or.inl ⟨by rfl, fun V' hS => ?_⟩) hHeld ?_
    · go_simp
    simp only [Act.put, List.setIfInBounds_toArray, List.set_cons_zero, List.set_cons_succ]
    refine wpAnyH_done (by kernel_rfl) ?_ _
    clear hHeld
    go_upto_region 5 with fail
    have TYP := TY.out zz v1 Y1.out
    have k0 : zz.cell? ⟨bw, 0, none⟩ = some (.slice ta nt tc) := Y1.out.c1.cell 0
    go_upto_region 6 with (go_at_call 76; refine TYP.mono ?_; rintro e y2 ⟨v2, rfl, hA⟩)
    have Y2 : Hid (HY bw w y2 (conV ta nt tc ca nc cc sa ns sc da nd dc (q : Int)) v2 (HDR ++ TYS)) := Y1.out.step hA
    clear hA k0 Y1 TYP
    have k1 : y2.cell? ⟨bw, 1, none⟩ = some (.slice ca nc cc) := Y2.out.c1.cell 1
    have CPc := CP.out y2 v2 Y2.out
    go_upto_region 7 with (go_at_call 77; refine CPc.mono ?_; rintro e y3 ⟨v3, rfl, hA⟩)
    have Y3 : Hid (HY bw w y3 (conV ta nt tc ca nc cc sa ns sc da nd dc (q : Int)) v3 ((HDR ++ TYS) ++ CF)) := Y2.out.step hA
    clear hA k1 Y2 CPc
    have k2 : y3.cell? ⟨bw, 2, none⟩ = some (.slice sa ns sc) := Y3.out.c1.cell 2
    have SPc := SPp.out y3 v3 Y3.out
    go_upto_region 8 with (go_at_call 77; refine SPc.mono ?_; rintro e y4 ⟨v4, rfl, hA⟩)
    have Y4 : Hid (HY bw w y4 (conV ta nt tc ca nc cc sa ns sc da nd dc (q : Int)) v4 (((HDR ++ TYS) ++ CF) ++ SF)) := Y3.out.step hA
    clear hA k2 Y3 SPc
    have k3 : y4.cell? ⟨bw, 3, none⟩ = some (.slice da nd dc) := Y4.out.c1.cell 3
    go_wp2_with (at_builtin; refine wpList_appB (P := fun g => g < bw) rfl _ _ rfl bw Y4.out.le v4 (((HDR ++ TYS) ++ CF) ++ SF) rfl Y4.out.row (.slice da nd dc) DD rfl (DT.out y4 Y4.out.bel) LB2.out ?_; intro v5 y5 hA)
    have Y5 := Y4.out.step hA
    go_ret2
    exact ⟨v5, rfl, by rw [← EF.out]; exact Y5.row, Y5.bel⟩
  · rw [if_pos (by rfl)]
    obtain ⟨zm, g0, hmk, hrow, hBm⟩ := make0g bw zz (Nat.le_trans hHeld.2.2 hHeld.1.size) rr RM.out
    go_simp
    (try have HU : Hid (UL zm (.slice a1 n1 n1) L1 ∧ UL zm (.slice a2 n2 n2) L2) := ⟨HU.out.1.past hBm, HU.out.2.past hBm⟩)
    have HR : Hid (zm.ownsRow bw 5 1 (.slice (some ⟨g0, 0, none⟩) 0 rr) 0 (bV [])) := hrow
    have hHeld : Below bw w zm ∧ CBox zm bw 28 (conV ta nt tc ca nc cc sa ns sc da nd dc (q : Int)) ∧ bw ≤ w.heap.size := ⟨hHeld.1.trans (hBm.mono (Nat.le_trans hHeld.2.2 hHeld.1.size)), hHeld.2.1.past hBm, hHeld.2.2⟩
    refine hK.out _ zm hHeld (fun _ => ?_)
    clear hK K
    (try simp only [Act.put, List.setIfInBounds_toArray, List.set_cons_zero, List.set_cons_succ])
    clear hmk hrow hBm
    refine wpAnyH_ready (rs := [1]) (by kernel_rfl) (by simp) ?_
    refine AllReadyH.cons ov1 (fun K hK => ?_) AllReadyH.nil
    rw [if_pos (by rfl)]
    go_simp
    refine (HOc.out _ hHeld.1).mono ?_
    rintro e zz ⟨a1, a2, rfl, hU1, hU2, hB⟩
    have hHeld : Below bw w zz ∧ CBox zz bw 28 (conV ta nt tc ca nc cc sa ns sc da nd dc (q : Int)) ∧ bw ≤ w.heap.size := ⟨hHeld.1.trans (hB.mono (Nat.le_trans hHeld.2.2 hHeld.1.size)), hHeld.2.1.past hB, hHeld.2.2⟩
    have HU : Hid (UL zz (.slice a1 n1 n1) L1 ∧ UL zz (.slice a2 n2 n2) L2) := ⟨hU1, hU2⟩
    (try have HR : Hid (zz.ownsRow bw 5 1 (.slice (some ⟨g0, 0, none⟩) 0 rr) 0 (bV [])) := owns_past HR.out hB)
    clear hU1 hU2 hB
    (try go_wp2_with fail)
    refine hK.out _ _ hHeld (fun _ => ?_)
    clear hK K
    (try simp only [Act.put, List.setIfInBounds_toArray, List.set_cons_zero, List.set_cons_succ])
    refine wpAnyH_ready (rs := [4]) (by kernel_rfl) (by simp) ?_
    refine AllReadyH.cons ov4 (fun K hK => ?_) AllReadyH.nil
    rw [if_pos (by rfl)]
    go_simp
    refine (WR.out _ a1 a2 (Nat.le_trans hHeld.2.2 hHeld.1.size) HU.out.1 HU.out.2 g0 HR.out).mono ?_
    rintro e zz ⟨v1, rfl, hA⟩
    have Y1 : Hid (HY bw w zz (conV ta nt tc ca nc cc sa ns sc da nd dc (q : Int)) v1 HDR) := HY.step ⟨hHeld.1, hHeld.2.1, HR.out, hHeld.2.2⟩ hA
    have hHeld : Below bw w zz ∧ CBox zz bw 28 (conV ta nt tc ca nc cc sa ns sc da nd dc (q : Int)) ∧ bw ≤ w.heap.size := ⟨Y1.out.bel, Y1.out.c1, Y1.out.ge⟩
    clear hA
    (try go_wp2_with fail)
    refine hK.out _ _ hHeld (fun _ => ?_)
    clear hK K
    (try simp only [Act.put, List.setIfInBounds_toArray, List.set_cons_zero, List.set_cons_succ])
    refine wpAnyH_take (i := 5) (v := v1) ov5 (by kernel_rfl) (by kernel_rfl) (by kernel_rfl) (fun _ _ _ h => h) (Or.inl ⟨by rfl, fun V' hS => ?_⟩) hHeld ?_
    · go_simp
    simp only [Act.put, List.setIfInBounds_toArray, List.set_cons_zero, List.set_cons_succ]
    refine wpAnyH_done (by kernel_rfl) ?_ _
    clear hHeld
    go_upto_region 5 with fail
    have TYP := TY.out zz v1 Y1.out
    have k0 : zz.cell? ⟨bw, 0, none⟩ = some (.slice ta nt tc) := Y1.out.c1.cell 0
    go_upto_region 6 with (go_at_call 76; refine TYP.mono ?_; rintro e y2 ⟨v2, rfl, hA⟩)
    have Y2 : Hid (HY bw w y2 (conV ta nt tc ca nc cc sa ns sc da nd dc (q : Int)) v2 (HDR ++ TYS)) := Y1.out.step hA
    clear hA k0 Y1 TYP
    have k1 : y2.cell? ⟨bw, 1, none⟩ = some (.slice ca nc cc) := Y2.out.c1.cell 1
    have CPc := CP.out y2 v2 Y2.out
    go_upto_region 7 with (go_at_call 77; refine CPc.mono ?_; rintro e y3 ⟨v3, rfl, hA⟩)
    have Y3 : Hid (HY bw w y3 (conV ta nt tc ca nc cc sa ns sc da nd dc (q : Int)) v3 ((HDR ++ TYS) ++ CF)) := Y2.out.step hA
    clear hA k1 Y2 CPc
    have k2 : y3.cell? ⟨bw, 2, none⟩ = some (.slice sa ns sc) := Y3.out.c1.cell 2
    have SPc := SPp.out y3 v3 Y3.out
    go_upto_region 8 with (go_at_call 77; refine SPc.mono ?_; rintro e y4 ⟨v4, rfl, hA⟩)
    have Y4 : Hid (HY bw w y4 (conV ta nt tc ca nc cc sa ns sc da nd dc (q : Int)) v4 (((HDR ++ TYS) ++ CF) ++ SF)) := Y3.out.step hA
    clear hA k2 Y3 SPc
    have k3 : y4.cell? ⟨bw, 3, none⟩ = some (.slice da nd dc) := Y4.out.c1.cell 3
    go_wp2_with (at_builtin; refine wpList_appB (P := fun g => g < bw) rfl _ _ rfl bw Y4.out.le v4 (((HDR ++ TYS) ++ CF) ++ SF) rfl Y4.out.row (.slice da nd dc) DD rfl (DT.out y4 Y4.out.bel) LB2.out ?_; intro v5 y5 hA)
    have Y5 := Y4.out.step hA
    go_ret2
    exact ⟨v5, rfl, by rw [← EF.out]; exact Y5.row, Y5.bel⟩
end Go.Proofs.Ytndhabhlajldeaa
/- The document's containers: Serialize, Size. -/
namespace Go.Proofs.Ytndhabhlajldeaa
open Go.RowKit
set_option maxHeartbeats 4000000 in
set_option maxRecDepth 100000 in
theorem rserialize_is {P : Nat → Prop} (w : World) (v : Value) (c : Con) (h : CW P w v c) (hsm : Small c) : Calls Try.prog 36 #[v] w fun e w' => ∃ v', e = .returned (.tuple #[v', .int .i64 (chk c)]) ∧ w'.ownsRow w.heap.size 5 1 v' (serR c).length (bV (serR c)) ∧ Below w.heap.size w w' := by
  have h : CW (fun g => g < w.heap.size) w v c := h.mono (fun _ _ hg => hg)
  obtain ⟨tv, cv, sv, dv, rfl, hT, hC, hS, hD⟩ := id h
  obtain ⟨ta, tc, rfl, _⟩ := hT.len
  obtain ⟨ca, cc, rfl, _⟩ := hC.len
  obtain ⟨sa, sc, rfl, _⟩ := hS.len
  obtain ⟨da, dc, rfl, _, hd1⟩ := hD.len
  have CK : Hid (∀ W, Below w.heap.size w W → Calls Try.prog 21 #[.agg #[.slice ta c.ts.length tc, .slice ca c.cs.length cc, .slice sa c.ss.length sc, .slice da c.d.length dc, .int .i64 c.n]] W fun e w' => e = .returned (.int .i64 (chk c)) ∧ Below W.heap.size W w') := fun W hW => rCheck_is W _ c (h.past hW)
  have B0 : Hid (Below w.heap.size w (w.alloc (.cells #[.slice ta c.ts.length tc, .slice ca c.cs.length cc, .slice sa c.ss.length sc, .slice da c.d.length dc, .int .i64 c.n] 28)) ∧ CBox (w.alloc (.cells #[.slice ta c.ts.length tc, .slice ca c.cs.length cc, .slice sa c.ss.length sc, .slice da c.d.length dc, .int .i64 c.n] 28)) w.heap.size 28 [.slice ta c.ts.length tc, .slice ca c.cs.length cc, .slice sa c.ss.length sc, .slice da c.d.length dc, .int .i64 c.n]) := ⟨below_alloc _ _, CBox.new _ _ [_, _, _, _, _]⟩
  by_cases ok : chk c = 0
  rotate_left
  · have E0 : Hid (serR c = []) := by unfold Hid serR; rw [if_neg ok]
    rw [E0.out]
    have q2 : (chk c == 0) = false := by simpa using ok
    have q3 : (chk c != 0) = true := by simpa using ok
    clear hT hC hS hD hd1 E0 h hsm ok
    generalize chk c = r at *
    generalize c.ts.length = nt at *
    generalize c.cs.length = nc at *
    generalize c.ss.length = ns at *
    generalize c.d.length = nd at *
    generalize c.n = z at *
    generalize hbx : w.heap.size = bx at *
    have GE : Hid (bx ≤ w.heap.size) := by unfold Hid; omega
    go_enter Try.func36, Try.ntmps36
    go_upto_region 1 with fail
    generalize w.alloc _ = W0 at B0 ⊢
    have c0 : W0.cell? ⟨bx, 0, none⟩ = some (.slice ta nt tc) := B0.out.2.cell 0
    have c1 : W0.cell? ⟨bx, 1, none⟩ = some (.slice ca nc cc) := B0.out.2.cell 1
    have c2 : W0.cell? ⟨bx, 2, none⟩ = some (.slice sa ns sc) := B0.out.2.cell 2
    have c3 : W0.cell? ⟨bx, 3, none⟩ = some (.slice da nd dc) := B0.out.2.cell 3
    have c4 : W0.cell? ⟨bx, 4, none⟩ = some (.int .i64 z) := B0.out.2.cell 4
    clear hbx
    go_wp2_with (go_at_call 21; refine (CK.out _ B0.out.1).mono ?_; rintro e w1 ⟨rfl, hB⟩)
    go_ret2
    exact ⟨_, rfl, World.ownsRow_nil _ _ _ _, B0.out.1.trans (hB.mono (Nat.le_trans GE.out B0.out.1.size))⟩
  have my := chk_may ok
  obtain ⟨q, hq⟩ : ∃ q : Nat, c.n = (q : Int) := ⟨c.n.toNat, by have := my.z2; omega⟩
  have eq : c.n.toNat = q := by omega
  have qI : q ≤ 65535 := by have := my.z1; omega
  have SS9 := ser_small my hsm
  have EF : Hid ((((hd (lns c.cs) (lns c.ss) q ++ c.ts.flatMap tyb) ++ c.cs.flatten) ++ c.ss.flatten) ++ c.d = serR c) := by unfold Hid serR; rw [if_pos ok, ser, eq]
  have HB9 : Hid ((hd (lns c.cs) (lns c.ss) q).length + (c.ts.flatMap tyb).length + c.cs.flatten.length + c.ss.flatten.length + c.d.length ≤ 67108864 ∧ (c.ts.flatMap tyb).length = 4 * c.ts.length) := by
    have h9 := congrArg List.length EF.out
    simp only [List.length_append, serR, if_pos ok] at h9
    exact ⟨by omega, tys_len _⟩
  have LC : Hid (∀ W, Below w.heap.size w W → Calls Try.prog 79 #[.slice ca c.cs.length cc] W fun e w' => ∃ v', e = .returned v' ∧ InO W.heap.size w' v' (lns c.cs) ∧ Below W.heap.size W w') := fun W hW => rlen_is W _ c.cs (hC.past hW) (by have := my.n2; omega)
  have LS : Hid (∀ W, Below w.heap.size w W → Calls Try.prog 79 #[.slice sa c.ss.length sc] W fun e w' => ∃ v', e = .returned v' ∧ InO W.heap.size w' v' (lns c.ss) ∧ Below W.heap.size W w') := fun W hW => rlen_is W _ c.ss (hS.past hW) (by have := my.ns; omega)
  have key : ∀ (l : List (List Nat)) (x : Nat), x ∈ lns l → x ≤ l.flatten.length := by
    intro l x hx
    obtain ⟨y, hy, rfl⟩ := List.mem_map.1 hx
    exact (List.sublist_flatten_of_mem hy).length_le
  have sm := hsm
  unfold Small at sm
  have HDc : Hid (∀ W v1 v2, InO 0 W v1 (lns c.cs) → InO 0 W v2 (lns c.ss) → Calls Try.prog 78 #[v1, v2, .int .i64 (q : Int)] W fun e w' => ∃ v', e = .returned v' ∧ w'.ownsRow W.heap.size 5 1 v' (hd (lns c.cs) (lns c.ss) q).length (bV (hd (lns c.cs) (lns c.ss) q)) ∧ Below W.heap.size W w') := fun W v1 v2 h1 h2 => headR_is W v1 v2 _ _ q h1 h2 (fun x hx => by have := key _ x hx; omega) (fun x hx => by have := key _ x hx; omega) (by rw [lns_len]; have := my.n2; omega) (by rw [lns_len]; have := my.ns; omega) (by omega)
  have HTy : Hid (∀ t ∈ c.ts, TyOk t) := chkT_ok c.ts 0 my.ty
  have HTL : Hid (∀ W, Below w.heap.size w W → TL (fun g => g < w.heap.size) W (.slice ta c.ts.length tc) c.ts) := fun W hW => hT.past hW
  have HCL : Hid (∀ W, Below w.heap.size w W → PL (fun g => g < w.heap.size) W (.slice ca c.cs.length cc) c.cs) := fun W hW => hC.past hW
  have HSL : Hid (∀ W, Below w.heap.size w W → PL (fun g => g < w.heap.size) W (.slice sa c.ss.length sc) c.ss) := fun W hW => hS.past hW
  have DT : Hid (∀ W, Below w.heap.size w W → BL (fun g => g < w.heap.size) W (.slice da c.d.length dc) c.d) := fun W hW => hD.past hW
  have nn : c.ts.length ≤ 1024 ∧ c.cs.length ≤ 1024 ∧ c.ss.length ≤ 256 := ⟨by have := my.nt; have := my.n2; omega, my.n2, my.ns⟩
  rw [ok, hq] at CK
  rw [ok]
  rw [hq] at B0
  rw [hq]
  clear h my hT hC hS hD hq eq ok hd1 hsm SS9 qI key sm
  generalize hd (lns c.cs) (lns c.ss) q = HDR at *
  generalize lns c.cs = L1 at *
  generalize lns c.ss = L2 at *
  generalize hnt : c.ts.length = nt at *
  generalize hnc : c.cs.length = nc at *
  generalize hns : c.ss.length = ns at *
  generalize hnd : c.d.length = nd at *
  generalize c.ts = TT at *
  generalize c.cs = CC at *
  generalize c.ss = SS at *
  generalize c.d = DD at *
  have HN : Hid (TT.length = nt ∧ CC.length = nc ∧ SS.length = ns ∧ DD.length = nd) := ⟨hnt, hnc, hns, hnd⟩
  have tI : (nt : Int) ≤ 1024 := by omega
  have cI : (nc : Int) ≤ 1024 := by omega
  have sI : (ns : Int) ≤ 256 := by omega
  clear hnt hnc hns hnd nn
  generalize hbw : w.heap.size = bw at *
  have GE : Hid (bw ≤ w.heap.size) := by unfold Hid; omega
  go_enter Try.func36, Try.ntmps36
  go_upto_region 1 with fail
  generalize w.alloc _ = W0 at B0 ⊢
  have c0 : W0.cell? ⟨bw, 0, none⟩ = some (.slice ta nt tc) := B0.out.2.cell 0
  have c1 : W0.cell? ⟨bw, 1, none⟩ = some (.slice ca nc cc) := B0.out.2.cell 1
  have c2 : W0.cell? ⟨bw, 2, none⟩ = some (.slice sa ns sc) := B0.out.2.cell 2
  have c3 : W0.cell? ⟨bw, 3, none⟩ = some (.slice da nd dc) := B0.out.2.cell 3
  have c4 : W0.cell? ⟨bw, 4, none⟩ = some (.int .i64 (q : Int)) := B0.out.2.cell 4
  clear hbw
  go_upto_region 4 with (go_at_call 21; refine (CK.out _ B0.out.1).mono ?_; rintro e w1 ⟨rfl, hB⟩)
  have B1 : Hid (Below bw w w1 ∧ CBox w1 bw 28 (conV ta nt tc ca nc cc sa ns sc da nd dc (q : Int))) := ⟨B0.out.1.trans (hB.mono (Nat.le_trans GE.out B0.out.1.size)), B0.out.2.past hB⟩
  clear c0 c1 c2 c3 c4 hB B0 CK
  refine wp_region_held_drew (S := fun V' => Below bw w V' ∧ CBox V' bw 28 (conV ta nt tc ca nc cc sa ns sc da nd dc (q : Int)) ∧ bw ≤ w.heap.size) (by kernel_rfl) (by exact ⟨B1.out.1.trans ((below_drew).mono (Nat.le_trans GE.out B1.out.1.size)), B1.out.2.past below_drew, GE.out⟩) (fun hHeld => ?_)
  generalize w1.drew = zz at hHeld ⊢
  refine wpAnyH_take (i := 0) (v := .pointer (some ⟨bw, 1, none⟩)) ov0 (by kernel_rfl) (by kernel_rfl) (by kernel_rfl) (fun _ _ _ h => h) (Or.inl ⟨by rfl, fun V' hS => ?_⟩) hHeld ?_
  · go_simp
  simp only [Act.put, List.setIfInBounds_toArray, List.set_cons_zero, List.set_cons_succ]
  refine wpAnyH_take (i := 1) (v := .slice ca nc cc) ov1 (by kernel_rfl) (by kernel_rfl) (by kernel_rfl) (fun _ _ _ h => h) (Or.inl ⟨by rfl, fun V' hS => ?_⟩) hHeld ?_
  · have k1 : V'.cell? ⟨bw, 1, none⟩ = some (.slice ca nc cc) := hS.2.1.cell 1
    go_simp
  simp only [Act.put, List.setIfInBounds_toArray, List.set_cons_zero, List.set_cons_succ]
  refine wpAnyH_take (i := 3) (v := .pointer (some ⟨bw, 2, none⟩)) ov3 (by kernel_rfl) (by kernel_rfl) (by kernel_rfl) (fun _ _ _ h => h) (Or.inl ⟨by rfl, fun V' hS => ?_⟩) hHeld ?_
  · go_simp
  simp only [Act.put, List.setIfInBounds_toArray, List.set_cons_zero, List.set_cons_succ]
  refine wpAnyH_take (i := 4) (v := .slice sa ns sc) ov4 (by kernel_rfl) (by kernel_rfl) (by kernel_rfl) (fun _ _ _ h => h) (Or.inl ⟨by rfl, fun V' hS => ?_⟩) hHeld ?_
  · have k1 : V'.cell? ⟨bw, 2, none⟩ = some (.slice sa ns sc) := hS.2.1.cell 2
    go_simp
  simp only [Act.put, List.setIfInBounds_toArray, List.set_cons_zero, List.set_cons_succ]
  refine wpAnyH_take (i := 6) (v := .pointer (some ⟨bw, 4, none⟩)) ov6 (by kernel_rfl) (by kernel_rfl) (by kernel_rfl) (fun _ _ _ h => h) (Or.inl ⟨by rfl, fun V' hS => ?_⟩) hHeld ?_
  · go_simp
  simp only [Act.put, List.setIfInBounds_toArray, List.set_cons_zero, List.set_cons_succ]
  refine wpAnyH_take (i := 7) (v := .int .i64 (q : Int)) ov7 (by kernel_rfl) (by kernel_rfl) (by kernel_rfl) (fun _ _ _ h => h) (Or.inl ⟨by rfl, fun V' hS => ?_⟩) hHeld ?_
  · have k1 : V'.cell? ⟨bw, 4, none⟩ = some (.int .i64 (q : Int)) := hS.2.1.cell 4
    go_simp
  simp only [Act.put, List.setIfInBounds_toArray, List.set_cons_zero, List.set_cons_succ]
  refine wpAnyH_ready (rs := [2]) (by kernel_rfl) (by simp) ?_
  refine AllReadyH.cons ov2 (fun K hK => ?_) AllReadyH.nil
  rw [if_pos (by rfl)]
  go_simp
  refine (LC.out _ hHeld.1).mono ?_
  rintro e zz ⟨v1, rfl, hI1, hB⟩
  have hHeld : Below bw w zz ∧ CBox zz bw 28 (conV ta nt tc ca nc cc sa ns sc da nd dc (q : Int)) ∧ bw ≤ w.heap.size := ⟨hHeld.1.trans (hB.mono (Nat.le_trans hHeld.2.2 hHeld.1.size)), hHeld.2.1.past hB, hHeld.2.2⟩
  have HI1 : Hid (InO 0 zz v1 L1) := owns_base hI1 (Nat.zero_le _)
  clear hI1 hB
  (try go_wp2_with fail)
  refine hK.out _ _ hHeld (fun _ => ?_)
  clear hK K
  (try simp only [Act.put, List.setIfInBounds_toArray, List.set_cons_zero, List.set_cons_succ])
  refine wpAnyH_ready (rs := [5]) (by kernel_rfl) (by simp) ?_
  refine AllReadyH.cons ov5 (fun K hK => ?_) AllReadyH.nil
  rw [if_pos (by rfl)]
  go_simp
  refine (LS.out _ hHeld.1).mono ?_
  rintro e zz ⟨v2, rfl, hI2, hB⟩
  have hHeld : Below bw w zz ∧ CBox zz bw 28 (conV ta nt tc ca nc cc sa ns sc da nd dc (q : Int)) ∧ bw ≤ w.heap.size := ⟨hHeld.1.trans (hB.mono (Nat.le_trans hHeld.2.2 hHeld.1.size)), hHeld.2.1.past hB, hHeld.2.2⟩
  have HI1 : Hid (InO 0 zz v1 L1) := HI1.out.past hB
  have HI2 : Hid (InO 0 zz v2 L2) := owns_base hI2 (Nat.zero_le _)
  clear hI2 hB
  (try go_wp2_with fail)
  refine hK.out _ _ hHeld (fun _ => ?_)
  clear hK K
  (try simp only [Act.put, List.setIfInBounds_toArray, List.set_cons_zero, List.set_cons_succ])
  refine wpAnyH_ready (rs := [8]) (by kernel_rfl) (by simp) ?_
  refine AllReadyH.cons ov8 (fun K hK => ?_) AllReadyH.nil
  rw [if_pos (by rfl)]
  go_simp
  refine (HDc.out _ v1 v2 HI1.out HI2.out).mono ?_
  rintro e zz ⟨v3, rfl, hO, hB⟩
  have hle := Nat.le_trans hHeld.2.2 hHeld.1.size
  have hHeld : Below bw w zz ∧ CBox zz bw 28 (conV ta nt tc ca nc cc sa ns sc da nd dc (q : Int)) ∧ bw ≤ w.heap.size := ⟨hHeld.1.trans (hB.mono (Nat.le_trans hHeld.2.2 hHeld.1.size)), hHeld.2.1.past hB, hHeld.2.2⟩
  have Y1 : Hid (HY bw w zz (conV ta nt tc ca nc cc sa ns sc da nd dc (q : Int)) v3 HDR) := ⟨hHeld.1, hHeld.2.1, owns_base hO hle, hHeld.2.2⟩
  clear hO hB hle
  (try go_wp2_with fail)
  refine hK.out _ _ hHeld (fun _ => ?_)
  clear hK K
  (try simp only [Act.put, List.setIfInBounds_toArray, List.set_cons_zero, List.set_cons_succ])
  refine wpAnyH_take (i := 9) (v := v3) ov9 (by kernel_rfl) (by kernel_rfl) (by kernel_rfl) (fun _ _ _ h => h) (Or.inl ⟨by rfl, fun V' hS => ?_⟩) hHeld ?_
  · go_simp
  simp only [Act.put, List.setIfInBounds_toArray, List.set_cons_zero, List.set_cons_succ]
  refine wpAnyH_done (by kernel_rfl) ?_ _
  have M : Hid (HY bw w zz (conV ta nt tc ca nc cc sa ns sc da nd dc (q : Int)) v3 HDR) := Y1.out
  clear hHeld Y1 HI1 HI2 B1 LC LS HDc
  go_wp2
  go_loopw [5, 6] (fun s5 s6 wr => ∃ k : Nat, s6 = .int .i64 (k : Int) ∧ k ≤ nt ∧ HY bw w wr (conV ta nt tc ca nc cc sa ns sc da nd dc (q : Int)) s5 (HDR ++ (TT.take k).flatMap tyb)) (fun _ s6 _ => nt - (intOf s6).toNat)
  case atStart => exact ⟨0, rfl, by omega, by simpa using M.out⟩
  case round =>
    obtain ⟨k, rfl, hk, hM⟩ := hrel
    have M : Hid (HY bw w wr (conV ta nt tc ca nc cc sa ns sc da nd dc (q : Int)) u5 (HDR ++ (TT.take k).flatMap tyb)) := hM
    clear hM
    by_cases e : k = nt
    rotate_left
    · have kn : (k : Int) < (nt : Int) := by omega
      obtain ⟨⟨y1, y2, y3⟩, hl⟩ : ∃ t, TT[k]? = some t := ⟨TT[k]'(by have := HN.out; omega), List.getElem?_eq_getElem _⟩
      have ok := HTy.out _ (List.mem_of_getElem? hl)
      unfold TyOk at ok
      obtain ⟨t1, e1⟩ : ∃ t1 : Nat, y1 = (t1 : Int) := ⟨y1.toNat, by have := ok.1; simp only at this; omega⟩
      obtain ⟨t2, e2⟩ : ∃ t2 : Nat, y2 = (t2 : Int) := ⟨y2.toNat, by have := ok.2.1; simp only at this; omega⟩
      obtain ⟨t3, e3⟩ : ∃ t3 : Nat, y3 = (t3 : Int) := ⟨y3.toNat, by have := ok.2.2; simp only at this; omega⟩
      subst e1 e2 e3
      have HT : Hid (t1 ≤ 65535 ∧ t2 ≤ 65535 ∧ t3 ≤ 65535) := by unfold Hid; simp only at ok; omega
      have HLK : Hid (TT[k]? = some ((t1 : Int), (t2 : Int), (t3 : Int))) := hl
      have FL : Hid (((TT.take k).flatMap tyb).length ≤ 4 * nt) := by unfold Hid; rw [tys_len, List.length_take]; omega
      have EL : Hid ((TT.take (k + 1)).flatMap tyb = (TT.take k).flatMap tyb ++ (dig 1 t1 ++ dig 1 t2 ++ dig 2 t3)) := by unfold Hid; rw [flat_snoc hl]; simp [tyb]
      have D1 := dig_len 1 t1
      have D2 := dig_len 1 t2
      have HDD : Hid ((dig 1 t1).length = 1 ∧ (dig 1 t2).length = 1) := ⟨D1, D2⟩
      clear hl ok e D1 D2
      obtain ⟨g, a, eg, f0, _⟩ := (HTL.out wr M.out.bel).get HLK.out
      subst eg
      have NC : Hid (Calls Try.prog 80 #[u5, .int .i64 (t1 : Int), .int .i64 1] wr fun e w' => ∃ v', e = .returned v' ∧ App bw 5 1 wr w' u5 v' ((HDR ++ (TT.take k).flatMap tyb) ++ dig 1 t1).length (bV ((HDR ++ (TT.take k).flatMap tyb) ++ dig 1 t1))) := numberR_is wr bw M.out.le u5 (HDR ++ (TT.take k).flatMap tyb) M.out.row 1 t1 (by omega) (by have := HT.out; omega) (by have h1 := HB9.out; have h2 := FL.out; have h3 := HDD.out; simp only [List.length_append]; omega)
      have c0 : wr.cell? ⟨bw, 0, none⟩ = some (.slice (some ⟨g, a, none⟩) nt tc) := M.out.c1.cell 0
      go_upto_region 9 with (go_at_call 80; refine NC.out.mono ?_; rintro e q0 ⟨p0, rfl, hA⟩)
      have M2 : Hid (HY bw w q0 (conV (some ⟨g, a, none⟩) nt tc ca nc cc sa ns sc da nd dc (q : Int)) p0 ((HDR ++ (TT.take k).flatMap tyb) ++ dig 1 t1)) := M.out.step hA
      clear NC hA M c0 f0
      have M := M2
      clear M2
      have NC : Hid (Calls Try.prog 80 #[p0, .int .i64 (t2 : Int), .int .i64 1] q0 fun e w' => ∃ v', e = .returned v' ∧ App bw 5 1 q0 w' p0 v' (((HDR ++ (TT.take k).flatMap tyb) ++ dig 1 t1) ++ dig 1 t2).length (bV (((HDR ++ (TT.take k).flatMap tyb) ++ dig 1 t1) ++ dig 1 t2))) := numberR_is q0 bw M.out.le p0 ((HDR ++ (TT.take k).flatMap tyb) ++ dig 1 t1) M.out.row 1 t2 (by omega) (by have := HT.out; omega) (by have h1 := HB9.out; have h2 := FL.out; have h3 := HDD.out; simp only [List.length_append]; omega)
      have c0 : q0.cell? ⟨bw, 0, none⟩ = some (.slice (some ⟨g, a, none⟩) nt tc) := M.out.c1.cell 0
      obtain ⟨g', a', eg, f10, f11, f12⟩ := (HTL.out q0 M.out.bel).get HLK.out
      cases eg
      go_upto_region 10 with (go_at_call 80; refine NC.out.mono ?_; rintro e q1 ⟨p1, rfl, hA⟩)
      have M2 : Hid (HY bw w q1 (conV (some ⟨g, a, none⟩) nt tc ca nc cc sa ns sc da nd dc (q : Int)) p1 (((HDR ++ (TT.take k).flatMap tyb) ++ dig 1 t1) ++ dig 1 t2)) := M.out.step hA
      clear NC hA M c0 f10 f11 f12
      have M := M2
      clear M2
      have NC : Hid (Calls Try.prog 80 #[p1, .int .i64 (t3 : Int), .int .i64 2] q1 fun e w' => ∃ v', e = .returned v' ∧ App bw 5 1 q1 w' p1 v' ((((HDR ++ (TT.take k).flatMap tyb) ++ dig 1 t1) ++ dig 1 t2) ++ dig 2 t3).length (bV ((((HDR ++ (TT.take k).flatMap tyb) ++ dig 1 t1) ++ dig 1 t2) ++ dig 2 t3))) := numberR_is q1 bw M.out.le p1 (((HDR ++ (TT.take k).flatMap tyb) ++ dig 1 t1) ++ dig 1 t2) M.out.row 2 t3 (by omega) (by have := HT.out; omega) (by have h1 := HB9.out; have h2 := FL.out; have h3 := HDD.out; simp only [List.length_append]; omega)
      have c0 : q1.cell? ⟨bw, 0, none⟩ = some (.slice (some ⟨g, a, none⟩) nt tc) := M.out.c1.cell 0
      obtain ⟨g', a', eg, f20, f21, f22⟩ := (HTL.out q1 M.out.bel).get HLK.out
      cases eg
      go_wp2_with (go_at_call 80; refine NC.out.mono ?_; rintro e q2 ⟨p2, rfl, hA⟩)
      have M2 : Hid (HY bw w q2 (conV (some ⟨g, a, none⟩) nt tc ca nc cc sa ns sc da nd dc (q : Int)) p2 ((((HDR ++ (TT.take k).flatMap tyb) ++ dig 1 t1) ++ dig 1 t2) ++ dig 2 t3)) := M.out.step hA
      clear NC hA M c0 f20 f21 f22
      have M := M2
      clear M2
      have HR : Hid (HY bw w q2 (conV (some ⟨g, a, none⟩) nt tc ca nc cc sa ns sc da nd dc (q : Int)) p2 (HDR ++ (TT.take (k + 1)).flatMap tyb)) := by
        have h9 := M.out
        rw [show ((HDR ++ (TT.take k).flatMap tyb) ++ dig 1 t1) ++ dig 1 t2 ++ dig 2 t3 = HDR ++ (TT.take (k + 1)).flatMap tyb by rw [EL.out]; simp only [List.append_assoc]] at h9
        exact h9
      clear M
      go_roundw
      case rel => exact ⟨k + 1, by first | rfl | go_num, by omega, HR.out⟩
      case measure => simp [intOf]; omega
    have e9 := e.symm
    clear e
    subst e9
    have M2 : Hid (HY bw w wr (conV ta nt tc ca nc cc sa ns sc da nd dc (q : Int)) u5 (HDR ++ TT.flatMap tyb)) := by have := M.out; rwa [List.take_of_length_le (by have := HN.out; omega)] at this
    clear M
    have M := M2
    clear M2
    have cE0 : wr.cell? ⟨bw, 0, none⟩ = some (.slice ta nt tc) := M.out.c1.cell 0
    go_wp2
    go_loopw [5, 7] (fun s5 s6 wr => ∃ k : Nat, s6 = .int .i64 (k : Int) ∧ k ≤ nc ∧ HY bw w wr (conV ta nt tc ca nc cc sa ns sc da nd dc (q : Int)) s5 ((HDR ++ TT.flatMap tyb) ++ (CC.take k).flatten)) (fun _ s6 _ => nc - (intOf s6).toNat)
    case atStart => exact ⟨0, rfl, by omega, by simpa using M.out⟩
    case round =>
      obtain ⟨k, rfl, hk, hM⟩ := hrel
      have M : Hid (HY bw w wr (conV ta nt tc ca nc cc sa ns sc da nd dc (q : Int)) u5 ((HDR ++ TT.flatMap tyb) ++ (CC.take k).flatten)) := hM
      clear hM
      by_cases e : k = nc
      rotate_left
      · have kn : (k : Int) < (nc : Int) := by omega
        obtain ⟨x, hx⟩ : ∃ x, CC[k]? = some x := ⟨CC[k]'(by have := HN.out; omega), List.getElem?_eq_getElem _⟩
        have c0 : wr.cell? ⟨bw, 1, none⟩ = some (.slice ca nc cc) := M.out.c1.cell 1
        obtain ⟨g, a, u, eg, hcell, hb⟩ := (HCL.out wr M.out.bel).get hx
        subst eg
        have HBx : Hid (BL (fun g => g < bw) wr u x) := hb
        have HXX : Hid (CC[k]? = some x) := hx
        have HLe : Hid (((HDR ++ TT.flatMap tyb) ++ (CC.take k).flatten).length + x.length ≤ 2199023255552) := by
          unfold Hid
          have h1 := HB9.out
          have h2 := flatten_le CC (k + 1)
          rw [flatten_snoc hx, List.length_append] at h2
          simp only [List.length_append]
          omega
        clear hx hb e
        go_wp2_with (at_builtin; refine wpList_appB rfl _ _ rfl bw M.out.le u5 ((HDR ++ TT.flatMap tyb) ++ (CC.take k).flatten) rfl M.out.row u x rfl HBx.out HLe.out ?_; intro v' w' hA)
        have HR : Hid (HY bw w w' (conV ta nt tc (some ⟨g, a, none⟩) nc cc sa ns sc da nd dc (q : Int)) v' ((HDR ++ TT.flatMap tyb) ++ (CC.take (k + 1)).flatten)) := by
          have h9 := M.out.step hA
          rw [List.append_assoc (HDR ++ TT.flatMap tyb), ← flatten_snoc HXX.out] at h9
          exact h9
        clear hA M c0 hcell
        go_roundw
        case rel => exact ⟨k + 1, by first | rfl | go_num, by omega, HR.out⟩
        case measure => simp [intOf]; omega
      have e9 := e.symm
      clear e
      subst e9
      have M2 : Hid (HY bw w wr (conV ta nt tc ca nc cc sa ns sc da nd dc (q : Int)) u5 ((HDR ++ TT.flatMap tyb) ++ CC.flatten)) := by have := M.out; rwa [List.take_of_length_le (by have := HN.out; omega)] at this
      clear M
      have M := M2
      clear M2
      have cE1 : wr.cell? ⟨bw, 1, none⟩ = some (.slice ca nc cc) := M.out.c1.cell 1
      go_wp2
      go_loopw [5, 8] (fun s5 s6 wr => ∃ k : Nat, s6 = .int .i64 (k : Int) ∧ k ≤ ns ∧ HY bw w wr (conV ta nt tc ca nc cc sa ns sc da nd dc (q : Int)) s5 (((HDR ++ TT.flatMap tyb) ++ CC.flatten) ++ (SS.take k).flatten)) (fun _ s6 _ => ns - (intOf s6).toNat)
      case atStart => exact ⟨0, rfl, by omega, by simpa using M.out⟩
      case round =>
        obtain ⟨k, rfl, hk, hM⟩ := hrel
        have M : Hid (HY bw w wr (conV ta nt tc ca nc cc sa ns sc da nd dc (q : Int)) u5 (((HDR ++ TT.flatMap tyb) ++ CC.flatten) ++ (SS.take k).flatten)) := hM
        clear hM
        by_cases e : k = ns
        rotate_left
        · have kn : (k : Int) < (ns : Int) := by omega
          obtain ⟨x, hx⟩ : ∃ x, SS[k]? = some x := ⟨SS[k]'(by have := HN.out; omega), List.getElem?_eq_getElem _⟩
          have c0 : wr.cell? ⟨bw, 2, none⟩ = some (.slice sa ns sc) := M.out.c1.cell 2
          obtain ⟨g, a, u, eg, hcell, hb⟩ := (HSL.out wr M.out.bel).get hx
          subst eg
          have HBx : Hid (BL (fun g => g < bw) wr u x) := hb
          have HXX : Hid (SS[k]? = some x) := hx
          have HLe : Hid ((((HDR ++ TT.flatMap tyb) ++ CC.flatten) ++ (SS.take k).flatten).length + x.length ≤ 2199023255552) := by
            unfold Hid
            have h1 := HB9.out
            have h2 := flatten_le SS (k + 1)
            rw [flatten_snoc hx, List.length_append] at h2
            simp only [List.length_append]
            omega
          clear hx hb e
          go_wp2_with (at_builtin; refine wpList_appB rfl _ _ rfl bw M.out.le u5 (((HDR ++ TT.flatMap tyb) ++ CC.flatten) ++ (SS.take k).flatten) rfl M.out.row u x rfl HBx.out HLe.out ?_; intro v' w' hA)
          have HR : Hid (HY bw w w' (conV ta nt tc ca nc cc (some ⟨g, a, none⟩) ns sc da nd dc (q : Int)) v' (((HDR ++ TT.flatMap tyb) ++ CC.flatten) ++ (SS.take (k + 1)).flatten)) := by
            have h9 := M.out.step hA
            rw [List.append_assoc ((HDR ++ TT.flatMap tyb) ++ CC.flatten), ← flatten_snoc HXX.out] at h9
            exact h9
          clear hA M c0 hcell
          go_roundw
          case rel => exact ⟨k + 1, by first | rfl | go_num, by omega, HR.out⟩
          case measure => simp [intOf]; omega
        have e9 := e.symm
        clear e
        subst e9
        have M2 : Hid (HY bw w wr (conV ta nt tc ca nc cc sa ns sc da nd dc (q : Int)) u5 (((HDR ++ TT.flatMap tyb) ++ CC.flatten) ++ SS.flatten)) := by have := M.out; rwa [List.take_of_length_le (by have := HN.out; omega)] at this
        clear M
        have M := M2
        clear M2
        have cE2 : wr.cell? ⟨bw, 2, none⟩ = some (.slice sa ns sc) := M.out.c1.cell 2
        have c3 : wr.cell? ⟨bw, 3, none⟩ = some (.slice da nd dc) := M.out.c1.cell 3
        have LB : Hid ((((HDR ++ TT.flatMap tyb) ++ CC.flatten) ++ SS.flatten).length + DD.length ≤ 2199023255552) := by unfold Hid; have h1 := HB9.out; have h2 := HN.out; simp only [List.length_append]; omega
        go_wp2_with (at_builtin; refine wpList_appB (P := fun g => g < bw) rfl _ _ rfl bw M.out.le u5 (((HDR ++ TT.flatMap tyb) ++ CC.flatten) ++ SS.flatten) rfl M.out.row (.slice da nd dc) DD rfl (DT.out wr M.out.bel) LB.out ?_; intro v5 y5 hA)
        have Y5 := M.out.step hA
        go_ret2
        exact ⟨v5, rfl, by rw [← EF.out]; exact Y5.row, Y5.bel⟩
end Go.Proofs.Ytndhabhlajldeaa
/- The document's way through a header: a list of fields that grows; it comes to what hdr says. -/
namespace Go.Proofs.Ytndhabhlajldeaa
/-- where the document stands -/
structure HS where
  types : Nat
  k : Nat
  codes : List Nat
  subs : List Nat
  size : Nat
def wF : Nat → Nat
  | 1 => 51
  | 2 => 51
  | 3 => 52
  | 4 => 53
  | 5 => 54
  | 6 => 53
  | 7 => 55
  | 8 => 56
  | 9 => 53
  | 10 => 57
  | 11 => 56
  | 12 => 53
  | 14 => 53
  | _ => 0
def pFd (what types v : Nat) : Bool :=
  match what with
  | 1 => v == 239
  | 2 => v == 0
  | 3 => v == 1
  | 4 => v == 1
  | 5 => pT v
  | 6 => v == 2
  | 7 => 4 * v == types
  | 8 => decide (0 < v)
  | 9 => pK v
  | 10 => pS v
  | 11 => decide (0 < v)
  | 12 => v == 255
  | 14 => v == 0
  | _ => true
def addF (what v : Nat) : List (Nat × Nat) :=
  match what with
  | 7 => List.replicate v (2, 8) ++ [(1, 9)]
  | 9 => if v = 3 then [(2, 10)] else [(2, 13), (1, 14)]
  | 10 => List.replicate v (4, 11) ++ [(1, 12), (2, 13), (1, 14)]
  | _ => []
def setF (what v : Nat) (s : HS) : HS :=
  match what with
  | 5 => { s with types := v }
  | 8 => { s with codes := s.codes ++ [v] }
  | 11 => { s with subs := s.subs ++ [v] }
  | 13 => { s with size := v }
  | _ => s
def pr (b : List Nat) : Nat → List (Nat × Nat) → HS → Except Er Hd
  | 0, _, _ => .error (999, 0)
  | _ + 1, [], s => .ok ⟨s.codes, s.subs, s.size, s.k⟩
  | f + 1, (w, what) :: t, s => (fld b s.k w (wF what) (pFd what s.types)).bind fun v => pr b f (t ++ addF what v) { setF what v s with k := s.k + w }
def base7 : List (Nat × Nat) := [(1, 1), (1, 2), (1, 3), (1, 4), (2, 5), (1, 6), (2, 7)]
theorem pr_codes (b : List Nat) (t : List (Nat × Nat)) (f : Nat) : ∀ (m : Nat) (s : HS), pr b (f + m) (List.replicate m (2, 8) ++ t) s = (lens b 2 s.k m).bind fun cs => pr b f t { s with codes := s.codes ++ cs, k := s.k + 2 * m }
  | 0, s => by simp [lens, Except.bind]
  | m + 1, s => by
    rw [List.replicate_succ, List.cons_append, show f + (m + 1) = (f + m) + 1 by omega, pr, lens]
    show ((fld b s.k 2 56 (fun v => decide (0 < v))).bind fun v => pr b (f + m) ((List.replicate m (2, 8) ++ t) ++ []) { s with codes := s.codes ++ [v], k := s.k + 2 }) = _
    cases fld b s.k 2 56 (fun v => decide (0 < v)) with
    | error er => rfl
    | ok v =>
      simp only [Except.bind, List.append_nil]
      rw [pr_codes b t f m]
      simp only []
      cases lens b 2 (s.k + 2) m with
      | error er => rfl
      | ok cs =>
        simp only [Except.bind, List.append_assoc, List.singleton_append]
        congr 2
        omega
theorem pr_subs (b : List Nat) (t : List (Nat × Nat)) (f : Nat) : ∀ (m : Nat) (s : HS), pr b (f + m) (List.replicate m (4, 11) ++ t) s = (lens b 4 s.k m).bind fun cs => pr b f t { s with subs := s.subs ++ cs, k := s.k + 4 * m }
  | 0, s => by simp [lens, Except.bind]
  | m + 1, s => by
    rw [List.replicate_succ, List.cons_append, show f + (m + 1) = (f + m) + 1 by omega, pr, lens]
    show ((fld b s.k 4 56 (fun v => decide (0 < v))).bind fun v => pr b (f + m) ((List.replicate m (4, 11) ++ t) ++ []) { s with subs := s.subs ++ [v], k := s.k + 4 }) = _
    cases fld b s.k 4 56 (fun v => decide (0 < v)) with
    | error er => rfl
    | ok v =>
      simp only [Except.bind, List.append_nil]
      rw [pr_subs b t f m]
      simp only []
      cases lens b 4 (s.k + 4) m with
      | error er => rfl
      | ok cs =>
        simp only [Except.bind, List.append_assoc, List.singleton_append]
        congr 2
        omega
theorem pr_end (b : List Nat) (f : Nat) (s : HS) : pr b (f + 3) [(2, 13), (1, 14)] s = hdEnd b s.k s.codes s.subs := by
  rw [pr]
  show ((fld b s.k 2 0 (fun _ => true)).bind fun v => pr b (f + 2) ([(1, 14)] ++ []) { s with size := v, k := s.k + 2 }) = _
  unfold hdEnd
  cases fld b s.k 2 0 (fun _ => true) with
  | error er => rfl
  | ok v =>
    show ((fld b (s.k + 2) 1 53 (fun v => v == 0)).bind fun v' => pr b (f + 1) ([] ++ []) { s with size := v, k := s.k + 2 + 1 }) = _
    cases fld b (s.k + 2) 1 53 (fun v => v == 0) with
    | error er => rfl
    | ok v' => rfl
theorem pr_kind (b : List Nat) (f : Nat) (s : HS) : pr b (f + 300) [(1, 9)] s = (fld b s.k 1 53 pK).bind fun q => if q = 3 then (fld b (s.k + 1) 2 57 pS).bind fun m => (lens b 4 (s.k + 1 + 2) m).bind fun ss => (fld b (s.k + 1 + 2 + 4 * m) 1 53 (fun n => n == 255)).bind fun _ => hdEnd b (s.k + 1 + 2 + 4 * m + 1) s.codes (s.subs ++ ss) else hdEnd b (s.k + 1) s.codes s.subs := by
  rw [show f + 300 = (f + 299) + 1 by omega, pr]
  show ((fld b s.k 1 53 pK).bind fun q => pr b (f + 299) ([] ++ (if q = 3 then [(2, 10)] else [(2, 13), (1, 14)])) { s with k := s.k + 1 }) = _
  cases fld b s.k 1 53 pK with
  | error er => rfl
  | ok q =>
    simp only [Except.bind]
    by_cases e : q = 3
    · rw [if_pos e, if_pos e, List.nil_append, show f + 299 = (f + 298) + 1 by omega, pr]
      show ((fld b (s.k + 1) 2 57 pS).bind fun m => pr b (f + 298) ([] ++ (List.replicate m (4, 11) ++ [(1, 12), (2, 13), (1, 14)])) { s with k := s.k + 1 + 2 }) = _
      cases hF : fld b (s.k + 1) 2 57 pS with
      | error er => rfl
      | ok m =>
        have hm : m ≤ 256 := by
          unfold fld at hF
          split at hF
          · cases hF
          · split at hF
            · rename_i hp
              cases hF
              unfold pS at hp
              simp at hp
              omega
            · cases hF
        simp only [Except.bind, List.nil_append]
        rw [show f + 298 = (f + 298 - m) + m by omega, pr_subs]
        cases lens b 4 (s.k + 1 + 2) m with
        | error er => rfl
        | ok ss =>
          simp only [Except.bind]
          rw [show f + 298 - m = (f + 294 - m + 3) + 1 by omega, pr]
          show ((fld b (s.k + 1 + 2 + 4 * m) 1 53 (fun v => v == 255)).bind fun v => pr b (f + 294 - m + 3) ([(2, 13), (1, 14)] ++ []) { s with subs := s.subs ++ ss, k := s.k + 1 + 2 + 4 * m + 1 }) = _
          cases fld b (s.k + 1 + 2 + 4 * m) 1 53 (fun v => v == 255) with
          | error er => rfl
          | ok v =>
            simp only [Except.bind, List.append_nil]
            rw [pr_end]
    · rw [if_neg e, if_neg e, List.nil_append, show f + 299 = (f + 296) + 3 by omega, pr_end]
theorem pr_hdr (b : List Nat) : pr b 2000 base7 ⟨0, 0, [], [], 0⟩ = hdr b := by
  unfold hdr base7
  rw [show (2000 : Nat) = 1999 + 1 from rfl, pr]
  show ((fld b 0 1 51 (fun n => n == 239)).bind fun _ => pr b 1999 [(1, 2), (1, 3), (1, 4), (2, 5), (1, 6), (2, 7)] ⟨0, 1, [], [], 0⟩) = _
  cases fld b 0 1 51 (fun n => n == 239) with
  | error er => rfl
  | ok v1 =>
  simp only [Except.bind]
  rw [show (1999 : Nat) = 1998 + 1 from rfl, pr]
  show ((fld b 1 1 51 (fun n => n == 0)).bind fun _ => pr b 1998 [(1, 3), (1, 4), (2, 5), (1, 6), (2, 7)] ⟨0, 2, [], [], 0⟩) = _
  cases fld b 1 1 51 (fun n => n == 0) with
  | error er => rfl
  | ok v2 =>
  simp only [Except.bind]
  rw [show (1998 : Nat) = 1997 + 1 from rfl, pr]
  show ((fld b 2 1 52 (fun n => n == 1)).bind fun _ => pr b 1997 [(1, 4), (2, 5), (1, 6), (2, 7)] ⟨0, 3, [], [], 0⟩) = _
  cases fld b 2 1 52 (fun n => n == 1) with
  | error er => rfl
  | ok v3 =>
  simp only [Except.bind]
  rw [show (1997 : Nat) = 1996 + 1 from rfl, pr]
  show ((fld b 3 1 53 (fun n => n == 1)).bind fun _ => pr b 1996 [(2, 5), (1, 6), (2, 7)] ⟨0, 4, [], [], 0⟩) = _
  cases fld b 3 1 53 (fun n => n == 1) with
  | error er => rfl
  | ok v4 =>
  simp only [Except.bind]
  rw [show (1996 : Nat) = 1995 + 1 from rfl, pr]
  show ((fld b 4 2 54 pT).bind fun t => pr b 1995 [(1, 6), (2, 7)] ⟨t, 6, [], [], 0⟩) = _
  cases hT : fld b 4 2 54 pT with
  | error er => rfl
  | ok t =>
  have ht : t % 4 = 0 ∧ t ≤ 4096 := by
    unfold fld at hT
    split at hT
    · cases hT
    · split at hT
      · rename_i hp
        cases hT
        unfold pT at hp
        simp at hp
        omega
      · cases hT
  simp only [Except.bind]
  rw [show (1995 : Nat) = 1994 + 1 from rfl, pr]
  show ((fld b 6 1 53 (fun n => n == 2)).bind fun _ => pr b 1994 [(2, 7)] ⟨t, 7, [], [], 0⟩) = _
  cases fld b 6 1 53 (fun n => n == 2) with
  | error er => rfl
  | ok v6 =>
  simp only [Except.bind]
  rw [show (1994 : Nat) = 1993 + 1 from rfl, pr]
  show ((fld b 7 2 55 (fun v => 4 * v == t)).bind fun m => pr b 1993 ([] ++ (List.replicate m (2, 8) ++ [(1, 9)])) ⟨t, 9, [], [], 0⟩) = _
  have ep : (fun v : Nat => 4 * v == t) = (fun n : Nat => n == t / 4) := by
    funext v
    rw [Bool.eq_iff_iff, beq_iff_eq, beq_iff_eq]
    omega
  rw [ep]
  cases hM : fld b 7 2 55 (fun n => n == t / 4) with
  | error er => rfl
  | ok m =>
  have hm : m ≤ 1024 := by
    unfold fld at hM
    split at hM
    · cases hM
    · split at hM
      · rename_i hp
        cases hM
        simp at hp
        omega
      · cases hM
  simp only [Except.bind, List.nil_append]
  rw [show (1993 : Nat) = (1993 - m - 300 + 300) + m by omega, pr_codes]
  cases lens b 2 9 m with
  | error er => rfl
  | ok cs =>
  simp only [Except.bind]
  rw [pr_kind]
  unfold hdKind hdSubs
  simp only [List.nil_append]
/-- no header comes to this -/
theorem hdr_not (b : List Nat) : hdr b ≠ .error (999, 0) := by
  have hf : ∀ k w y p, y < 100 → fld b k w y p ≠ .error (999, 0) := by
    intro k w y p hy h
    unfold fld at h
    split at h
    · cases h
    · split at h
      · cases h
      · injection h with h
        injection h with h _
        omega
  have hl : ∀ w m k, lens b w k m ≠ .error (999, 0) := by
    intro w m
    induction m with
    | zero => intro k h; cases h
    | succ m ih =>
      intro k h
      unfold lens at h
      cases e1 : fld b k w 56 (fun n => decide (0 < n)) with
      | error er => rw [e1] at h; cases h; exact hf _ _ _ _ (by omega) e1
      | ok x =>
        rw [e1] at h
        cases e2 : lens b w (k + w) m with
        | error er => simp only [Except.bind, e2] at h; cases h; exact ih _ e2
        | ok r => simp only [Except.bind, e2] at h; cases h
  have hb : ∀ {α β : Type} (x : Except Er α) (f : α → Except Er β), x ≠ .error (999, 0) → (∀ v, f v ≠ .error (999, 0)) → x.bind f ≠ .error (999, 0) := by
    intro α β x f h1 h2 h
    cases x with
    | error er => exact h1 (by cases h; rfl)
    | ok v => exact h2 v h
  have he : ∀ k cs ss, hdEnd b k cs ss ≠ .error (999, 0) := fun k cs ss => hb _ _ (hf _ _ _ _ (by omega)) fun d => hb _ _ (hf _ _ _ _ (by omega)) fun _ h => by cases h
  unfold hdr
  refine hb _ _ (hf _ _ _ _ (by omega)) fun _ => hb _ _ (hf _ _ _ _ (by omega)) fun _ => hb _ _ (hf _ _ _ _ (by omega)) fun _ => hb _ _ (hf _ _ _ _ (by omega)) fun _ => hb _ _ (hf _ _ _ _ (by omega)) fun t => hb _ _ (hf _ _ _ _ (by omega)) fun _ => hb _ _ (hf _ _ _ _ (by omega)) fun m => hb _ _ (hl _ _ _) fun cs => ?_
  unfold hdKind
  refine hb _ _ (hf _ _ _ _ (by omega)) fun q => ?_
  split
  · unfold hdSubs
    exact hb _ _ (hf _ _ _ _ (by omega)) fun s => hb _ _ (hl _ _ _) fun ss => hb _ _ (hf _ _ _ _ (by omega)) fun _ => he _ _ _
  · exact he _ _ _
end Go.Proofs.Ytndhabhlajldeaa
/- The document's containers: unless, wrong. -/
namespace Go.Proofs.Ytndhabhlajldeaa
open Go.RowKit
theorem unless_is (w : World) (x : Bool) (y : Int) : Calls Try.prog 115 #[.bool x, .int .i64 y] w fun e w' => e = .returned (.int .i64 (if x then 0 else y)) ∧ w' = w := by
  cases x
  · go_enter Try.func115, Try.ntmps115
    go_wp2
    go_ret
    exact ⟨rfl, rfl⟩
  · go_enter Try.func115, Try.ntmps115
    go_wp2
    go_ret
    exact ⟨rfl, rfl⟩
/-- why a field is wrong: 0: it is not -/
def wrF (what v t : Nat) : Nat := if pFd what t v then 0 else wF what
set_option maxHeartbeats 4000000 in
set_option maxRecDepth 100000 in
theorem wrong1 (w : World) (v t : Nat) (hv : v < 4294967296) : Calls Try.prog 101 #[.int .i64 1, .int .i64 (v : Int), .int .i64 (t : Int)] w fun e w' => e = .returned (.int .i64 (wrF 1 v t : Int)) ∧ w' = w := by
  by_cases e0 : v = 239
  · subst e0
    have E0 : Hid (wrF 1 239 t = 0) := rfl
    generalize wrF 1 239 t = r at *
    clear hv
    go_enter Try.func101, Try.ntmps101
    go_wp2_with (go_at_call 115; refine (unless_is _ _ _).mono ?_; rintro e w' ⟨rfl, hw⟩; (have hw2 := hw.symm); clear hw; subst hw2)
    go_ret
    exact ⟨by rw [E0.out]; rfl, rfl⟩
  have q0 : ((v : Int) == 239) = false := by simp; omega
  have E0 : Hid (wrF 1 v t = 51) := by unfold Hid wrF pFd; simp [e0, wF]
  generalize wrF 1 v t = r at *
  clear e0 hv
  go_enter Try.func101, Try.ntmps101
  go_wp2_with (go_at_call 115; refine (unless_is _ _ _).mono ?_; rintro e w' ⟨rfl, hw⟩; (have hw2 := hw.symm); clear hw; subst hw2)
  go_ret
  exact ⟨by rw [E0.out]; rfl, rfl⟩
set_option maxHeartbeats 4000000 in
set_option maxRecDepth 100000 in
theorem wrong2 (w : World) (v t : Nat) (hv : v < 4294967296) : Calls Try.prog 101 #[.int .i64 2, .int .i64 (v : Int), .int .i64 (t : Int)] w fun e w' => e = .returned (.int .i64 (wrF 2 v t : Int)) ∧ w' = w := by
  by_cases e0 : v = 0
  · subst e0
    have E0 : Hid (wrF 2 0 t = 0) := rfl
    generalize wrF 2 0 t = r at *
    clear hv
    go_enter Try.func101, Try.ntmps101
    go_wp2_with (go_at_call 115; refine (unless_is _ _ _).mono ?_; rintro e w' ⟨rfl, hw⟩; (have hw2 := hw.symm); clear hw; subst hw2)
    go_ret
    exact ⟨by rw [E0.out]; rfl, rfl⟩
  have q0 : ((v : Int) == 0) = false := by simp; omega
  have E0 : Hid (wrF 2 v t = 51) := by unfold Hid wrF pFd; simp [e0, wF]
  generalize wrF 2 v t = r at *
  clear e0 hv
  go_enter Try.func101, Try.ntmps101
  go_wp2_with (go_at_call 115; refine (unless_is _ _ _).mono ?_; rintro e w' ⟨rfl, hw⟩; (have hw2 := hw.symm); clear hw; subst hw2)
  go_ret
  exact ⟨by rw [E0.out]; rfl, rfl⟩
set_option maxHeartbeats 4000000 in
set_option maxRecDepth 100000 in
theorem wrong3 (w : World) (v t : Nat) (hv : v < 4294967296) : Calls Try.prog 101 #[.int .i64 3, .int .i64 (v : Int), .int .i64 (t : Int)] w fun e w' => e = .returned (.int .i64 (wrF 3 v t : Int)) ∧ w' = w := by
  by_cases e0 : v = 1
  · subst e0
    have E0 : Hid (wrF 3 1 t = 0) := rfl
    generalize wrF 3 1 t = r at *
    clear hv
    go_enter Try.func101, Try.ntmps101
    go_wp2_with (go_at_call 115; refine (unless_is _ _ _).mono ?_; rintro e w' ⟨rfl, hw⟩; (have hw2 := hw.symm); clear hw; subst hw2)
    go_ret
    exact ⟨by rw [E0.out]; rfl, rfl⟩
  have q0 : ((v : Int) == 1) = false := by simp; omega
  have E0 : Hid (wrF 3 v t = 52) := by unfold Hid wrF pFd; simp [e0, wF]
  generalize wrF 3 v t = r at *
  clear e0 hv
  go_enter Try.func101, Try.ntmps101
  go_wp2_with (go_at_call 115; refine (unless_is _ _ _).mono ?_; rintro e w' ⟨rfl, hw⟩; (have hw2 := hw.symm); clear hw; subst hw2)
  go_ret
  exact ⟨by rw [E0.out]; rfl, rfl⟩
set_option maxHeartbeats 4000000 in
set_option maxRecDepth 100000 in
theorem wrong4 (w : World) (v t : Nat) (hv : v < 4294967296) : Calls Try.prog 101 #[.int .i64 4, .int .i64 (v : Int), .int .i64 (t : Int)] w fun e w' => e = .returned (.int .i64 (wrF 4 v t : Int)) ∧ w' = w := by
  by_cases e0 : v = 1
  · subst e0
    have E0 : Hid (wrF 4 1 t = 0) := rfl
    generalize wrF 4 1 t = r at *
    clear hv
    go_enter Try.func101, Try.ntmps101
    go_wp2_with (go_at_call 115; refine (unless_is _ _ _).mono ?_; rintro e w' ⟨rfl, hw⟩; (have hw2 := hw.symm); clear hw; subst hw2)
    go_ret
    exact ⟨by rw [E0.out]; rfl, rfl⟩
  have q0 : ((v : Int) == 1) = false := by simp; omega
  have E0 : Hid (wrF 4 v t = 53) := by unfold Hid wrF pFd; simp [e0, wF]
  generalize wrF 4 v t = r at *
  clear e0 hv
  go_enter Try.func101, Try.ntmps101
  go_wp2_with (go_at_call 115; refine (unless_is _ _ _).mono ?_; rintro e w' ⟨rfl, hw⟩; (have hw2 := hw.symm); clear hw; subst hw2)
  go_ret
  exact ⟨by rw [E0.out]; rfl, rfl⟩
set_option maxHeartbeats 4000000 in
set_option maxRecDepth 100000 in
theorem wrong5 (w : World) (v t : Nat) (hv : v < 4294967296) : Calls Try.prog 101 #[.int .i64 5, .int .i64 (v : Int), .int .i64 (t : Int)] w fun e w' => e = .returned (.int .i64 (wrF 5 v t : Int)) ∧ w' = w := by
  obtain ⟨q, hq⟩ : ∃ q : Nat, q = v % 4 := ⟨_, rfl⟩
  have t1 : Int.tmod (v : Int) 4 = (q : Int) := by rw [Int.tmod_eq_emod_of_nonneg (by omega)]; omega
  have t2 : (v : Int) % 4 = (q : Int) := by omega
  have wq : IntKind.i64.wrap (q : Int) = (q : Int) := by rw [IntKind.wrap_i64]; omega
  have EP : Hid (wrF 5 v t = if (decide (0 < v) && (q == 0 && decide (v ≤ 4096))) = true then 0 else 54) := by unfold Hid; rw [hq]; rfl
  generalize wrF 5 v t = r at *
  clear hq
  by_cases e0 : 0 < v
  rotate_left
  · have q0 : ¬ (0 : Int) < (v : Int) := by omega
    have E0 : Hid (r = 54) := by unfold Hid; rw [EP.out, if_neg (by simp [e0])]
    clear e0 hv t1 t2 wq
    go_enter Try.func101, Try.ntmps101
    go_wp2_with (go_at_call 115; refine (unless_is _ _ _).mono ?_; rintro e w' ⟨rfl, hw⟩; (have hw2 := hw.symm); clear hw; subst hw2)
    go_ret
    exact ⟨by rw [E0.out]; rfl, rfl⟩
  have q0 : (0 : Int) < (v : Int) := by omega
  by_cases e1 : q = 0
  rotate_left
  · have q1 : ((q : Int) == 0) = false := by simp; omega
    have E0 : Hid (r = 54) := by unfold Hid; rw [EP.out, if_neg (by simp [e1])]
    clear e0 e1 hv
    go_enter Try.func101, Try.ntmps101
    go_wp2_with (go_at_call 115; refine (unless_is _ _ _).mono ?_; rintro e w' ⟨rfl, hw⟩; (have hw2 := hw.symm); clear hw; subst hw2)
    go_ret
    exact ⟨by rw [E0.out]; rfl, rfl⟩
  subst e1
  by_cases e2 : v ≤ 4096
  · have q2 : (v : Int) ≤ 4096 := by omega
    have E0 : Hid (r = 0) := by unfold Hid; rw [EP.out, if_pos (by simp [e0, e2])]
    clear e0 e2 hv
    go_enter Try.func101, Try.ntmps101
    go_wp2_with (go_at_call 115; refine (unless_is _ _ _).mono ?_; rintro e w' ⟨rfl, hw⟩; (have hw2 := hw.symm); clear hw; subst hw2)
    go_ret
    exact ⟨by rw [E0.out]; rfl, rfl⟩
  have q2 : ¬ (v : Int) ≤ 4096 := by omega
  have E0 : Hid (r = 54) := by unfold Hid; rw [EP.out, if_neg (by simp [e2])]
  clear e0 e2 hv
  go_enter Try.func101, Try.ntmps101
  go_wp2_with (go_at_call 115; refine (unless_is _ _ _).mono ?_; rintro e w' ⟨rfl, hw⟩; (have hw2 := hw.symm); clear hw; subst hw2)
  go_ret
  exact ⟨by rw [E0.out]; rfl, rfl⟩
set_option maxHeartbeats 4000000 in
set_option maxRecDepth 100000 in
theorem wrong6 (w : World) (v t : Nat) (hv : v < 4294967296) : Calls Try.prog 101 #[.int .i64 6, .int .i64 (v : Int), .int .i64 (t : Int)] w fun e w' => e = .returned (.int .i64 (wrF 6 v t : Int)) ∧ w' = w := by
  by_cases e0 : v = 2
  · subst e0
    have E0 : Hid (wrF 6 2 t = 0) := rfl
    generalize wrF 6 2 t = r at *
    clear hv
    go_enter Try.func101, Try.ntmps101
    go_wp2_with (go_at_call 115; refine (unless_is _ _ _).mono ?_; rintro e w' ⟨rfl, hw⟩; (have hw2 := hw.symm); clear hw; subst hw2)
    go_ret
    exact ⟨by rw [E0.out]; rfl, rfl⟩
  have q0 : ((v : Int) == 2) = false := by simp; omega
  have E0 : Hid (wrF 6 v t = 53) := by unfold Hid wrF pFd; simp [e0, wF]
  generalize wrF 6 v t = r at *
  clear e0 hv
  go_enter Try.func101, Try.ntmps101
  go_wp2_with (go_at_call 115; refine (unless_is _ _ _).mono ?_; rintro e w' ⟨rfl, hw⟩; (have hw2 := hw.symm); clear hw; subst hw2)
  go_ret
  exact ⟨by rw [E0.out]; rfl, rfl⟩
set_option maxHeartbeats 4000000 in
set_option maxRecDepth 100000 in
theorem wrong7 (w : World) (v t : Nat) (hv : v < 4294967296) : Calls Try.prog 101 #[.int .i64 7, .int .i64 (v : Int), .int .i64 (t : Int)] w fun e w' => e = .returned (.int .i64 (wrF 7 v t : Int)) ∧ w' = w := by
  obtain ⟨q, hq⟩ : ∃ q : Nat, q = 4 * v := ⟨_, rfl⟩
  have r1 : (4 : Int) * (v : Int) = (q : Int) := by omega
  have wq : IntKind.i64.wrap (q : Int) = (q : Int) := by rw [IntKind.wrap_i64]; omega
  by_cases e0 : q = t
  · have E0 : Hid (wrF 7 v t = 0) := by unfold Hid wrF pFd; simp; omega
    subst e0
    generalize wrF 7 v q = r at *
    clear hv hq
    go_enter Try.func101, Try.ntmps101
    go_wp2_with (go_at_call 115; refine (unless_is _ _ _).mono ?_; rintro e w' ⟨rfl, hw⟩; (have hw2 := hw.symm); clear hw; subst hw2)
    go_ret
    exact ⟨by rw [E0.out]; rfl, rfl⟩
  have q0 : ((q : Int) == (t : Int)) = false := by simp; omega
  have E0 : Hid (wrF 7 v t = 55) := by unfold Hid wrF pFd; rw [if_neg (by simp; omega)]; rfl
  generalize wrF 7 v t = r at *
  clear e0 hv hq
  go_enter Try.func101, Try.ntmps101
  go_wp2_with (go_at_call 115; refine (unless_is _ _ _).mono ?_; rintro e w' ⟨rfl, hw⟩; (have hw2 := hw.symm); clear hw; subst hw2)
  go_ret
  exact ⟨by rw [E0.out]; rfl, rfl⟩
set_option maxHeartbeats 4000000 in
set_option maxRecDepth 100000 in
theorem wrong8 (w : World) (v t : Nat) (hv : v < 4294967296) : Calls Try.prog 101 #[.int .i64 8, .int .i64 (v : Int), .int .i64 (t : Int)] w fun e w' => e = .returned (.int .i64 (wrF 8 v t : Int)) ∧ w' = w := by
  by_cases e0 : 0 < v
  · have E0 : Hid (wrF 8 v t = 0) := by unfold Hid wrF pFd; simp [e0]
    have q0 : (0 : Int) < (v : Int) := by omega
    generalize wrF 8 v t = r at *
    clear e0 hv
    go_enter Try.func101, Try.ntmps101
    go_wp2_with (go_at_call 115; refine (unless_is _ _ _).mono ?_; rintro e w' ⟨rfl, hw⟩; (have hw2 := hw.symm); clear hw; subst hw2)
    go_ret
    exact ⟨by rw [E0.out]; rfl, rfl⟩
  have q0 : ¬ (0 : Int) < (v : Int) := by omega
  have E0 : Hid (wrF 8 v t = 56) := by unfold Hid wrF pFd; simp [e0, wF]
  generalize wrF 8 v t = r at *
  clear e0 hv
  go_enter Try.func101, Try.ntmps101
  go_wp2_with (go_at_call 115; refine (unless_is _ _ _).mono ?_; rintro e w' ⟨rfl, hw⟩; (have hw2 := hw.symm); clear hw; subst hw2)
  go_ret
  exact ⟨by rw [E0.out]; rfl, rfl⟩
set_option maxHeartbeats 4000000 in
set_option maxRecDepth 100000 in
theorem wrong9 (w : World) (v t : Nat) (hv : v < 4294967296) : Calls Try.prog 101 #[.int .i64 9, .int .i64 (v : Int), .int .i64 (t : Int)] w fun e w' => e = .returned (.int .i64 (wrF 9 v t : Int)) ∧ w' = w := by
  by_cases e0 : v = 3
  · subst e0
    have E0 : Hid (wrF 9 3 t = 0) := rfl
    generalize wrF 9 3 t = r at *
    clear hv
    go_enter Try.func101, Try.ntmps101
    go_wp2_with (go_at_call 115; refine (unless_is _ _ _).mono ?_; rintro e w' ⟨rfl, hw⟩; (have hw2 := hw.symm); clear hw; subst hw2)
    go_ret
    exact ⟨by rw [E0.out]; rfl, rfl⟩
  have q0 : ((v : Int) == 3) = false := by simp; omega
  by_cases e1 : v = 255
  · subst e1
    have E0 : Hid (wrF 9 255 t = 0) := rfl
    generalize wrF 9 255 t = r at *
    clear hv e0
    go_enter Try.func101, Try.ntmps101
    go_wp2_with (go_at_call 115; refine (unless_is _ _ _).mono ?_; rintro e w' ⟨rfl, hw⟩; (have hw2 := hw.symm); clear hw; subst hw2)
    go_ret
    exact ⟨by rw [E0.out]; rfl, rfl⟩
  have q1 : ((v : Int) == 255) = false := by simp; omega
  have E0 : Hid (wrF 9 v t = 53) := by unfold Hid wrF pFd pK; simp [e0, e1, wF]
  generalize wrF 9 v t = r at *
  clear e0 e1 hv
  go_enter Try.func101, Try.ntmps101
  go_wp2_with (go_at_call 115; refine (unless_is _ _ _).mono ?_; rintro e w' ⟨rfl, hw⟩; (have hw2 := hw.symm); clear hw; subst hw2)
  go_ret
  exact ⟨by rw [E0.out]; rfl, rfl⟩
set_option maxHeartbeats 4000000 in
set_option maxRecDepth 100000 in
theorem wrong10 (w : World) (v t : Nat) (hv : v < 4294967296) : Calls Try.prog 101 #[.int .i64 10, .int .i64 (v : Int), .int .i64 (t : Int)] w fun e w' => e = .returned (.int .i64 (wrF 10 v t : Int)) ∧ w' = w := by
  by_cases e0 : 0 < v
  rotate_left
  · have q0 : ¬ (0 : Int) < (v : Int) := by omega
    have E0 : Hid (wrF 10 v t = 57) := by unfold Hid wrF pFd pS; simp [e0, wF]
    generalize wrF 10 v t = r at *
    clear e0 hv
    go_enter Try.func101, Try.ntmps101
    go_wp2_with (go_at_call 115; refine (unless_is _ _ _).mono ?_; rintro e w' ⟨rfl, hw⟩; (have hw2 := hw.symm); clear hw; subst hw2)
    go_ret
    exact ⟨by rw [E0.out]; rfl, rfl⟩
  have q0 : (0 : Int) < (v : Int) := by omega
  by_cases e1 : v ≤ 256
  · have q1 : (v : Int) ≤ 256 := by omega
    have E0 : Hid (wrF 10 v t = 0) := by unfold Hid wrF pFd pS; simp [e0, e1]
    generalize wrF 10 v t = r at *
    clear e0 e1 hv
    go_enter Try.func101, Try.ntmps101
    go_wp2_with (go_at_call 115; refine (unless_is _ _ _).mono ?_; rintro e w' ⟨rfl, hw⟩; (have hw2 := hw.symm); clear hw; subst hw2)
    go_ret
    exact ⟨by rw [E0.out]; rfl, rfl⟩
  have q1 : ¬ (v : Int) ≤ 256 := by omega
  have E0 : Hid (wrF 10 v t = 57) := by unfold Hid wrF pFd pS; simp [e1, wF]
  generalize wrF 10 v t = r at *
  clear e0 e1 hv
  go_enter Try.func101, Try.ntmps101
  go_wp2_with (go_at_call 115; refine (unless_is _ _ _).mono ?_; rintro e w' ⟨rfl, hw⟩; (have hw2 := hw.symm); clear hw; subst hw2)
  go_ret
  exact ⟨by rw [E0.out]; rfl, rfl⟩
set_option maxHeartbeats 4000000 in
set_option maxRecDepth 100000 in
theorem wrong11 (w : World) (v t : Nat) (hv : v < 4294967296) : Calls Try.prog 101 #[.int .i64 11, .int .i64 (v : Int), .int .i64 (t : Int)] w fun e w' => e = .returned (.int .i64 (wrF 11 v t : Int)) ∧ w' = w := by
  by_cases e0 : 0 < v
  · have E0 : Hid (wrF 11 v t = 0) := by unfold Hid wrF pFd; simp [e0]
    have q0 : (0 : Int) < (v : Int) := by omega
    generalize wrF 11 v t = r at *
    clear e0 hv
    go_enter Try.func101, Try.ntmps101
    go_wp2_with (go_at_call 115; refine (unless_is _ _ _).mono ?_; rintro e w' ⟨rfl, hw⟩; (have hw2 := hw.symm); clear hw; subst hw2)
    go_ret
    exact ⟨by rw [E0.out]; rfl, rfl⟩
  have q0 : ¬ (0 : Int) < (v : Int) := by omega
  have E0 : Hid (wrF 11 v t = 56) := by unfold Hid wrF pFd; simp [e0, wF]
  generalize wrF 11 v t = r at *
  clear e0 hv
  go_enter Try.func101, Try.ntmps101
  go_wp2_with (go_at_call 115; refine (unless_is _ _ _).mono ?_; rintro e w' ⟨rfl, hw⟩; (have hw2 := hw.symm); clear hw; subst hw2)
  go_ret
  exact ⟨by rw [E0.out]; rfl, rfl⟩
set_option maxHeartbeats 4000000 in
set_option maxRecDepth 100000 in
theorem wrong12 (w : World) (v t : Nat) (hv : v < 4294967296) : Calls Try.prog 101 #[.int .i64 12, .int .i64 (v : Int), .int .i64 (t : Int)] w fun e w' => e = .returned (.int .i64 (wrF 12 v t : Int)) ∧ w' = w := by
  by_cases e0 : v = 255
  · subst e0
    have E0 : Hid (wrF 12 255 t = 0) := rfl
    generalize wrF 12 255 t = r at *
    clear hv
    go_enter Try.func101, Try.ntmps101
    go_wp2_with (go_at_call 115; refine (unless_is _ _ _).mono ?_; rintro e w' ⟨rfl, hw⟩; (have hw2 := hw.symm); clear hw; subst hw2)
    go_ret
    exact ⟨by rw [E0.out]; rfl, rfl⟩
  have q0 : ((v : Int) == 255) = false := by simp; omega
  have E0 : Hid (wrF 12 v t = 53) := by unfold Hid wrF pFd; simp [e0, wF]
  generalize wrF 12 v t = r at *
  clear e0 hv
  go_enter Try.func101, Try.ntmps101
  go_wp2_with (go_at_call 115; refine (unless_is _ _ _).mono ?_; rintro e w' ⟨rfl, hw⟩; (have hw2 := hw.symm); clear hw; subst hw2)
  go_ret
  exact ⟨by rw [E0.out]; rfl, rfl⟩
set_option maxHeartbeats 4000000 in
set_option maxRecDepth 100000 in
theorem wrong13 (w : World) (v t : Nat) (_ : v < 4294967296) : Calls Try.prog 101 #[.int .i64 13, .int .i64 (v : Int), .int .i64 (t : Int)] w fun e w' => e = .returned (.int .i64 (wrF 13 v t : Int)) ∧ w' = w := by
  have E0 : Hid (wrF 13 v t = 0) := rfl
  generalize wrF 13 v t = r at *
  go_enter Try.func101, Try.ntmps101
  go_wp2
  go_ret
  exact ⟨by rw [E0.out]; rfl, rfl⟩
set_option maxHeartbeats 4000000 in
set_option maxRecDepth 100000 in
theorem wrong14 (w : World) (v t : Nat) (hv : v < 4294967296) : Calls Try.prog 101 #[.int .i64 14, .int .i64 (v : Int), .int .i64 (t : Int)] w fun e w' => e = .returned (.int .i64 (wrF 14 v t : Int)) ∧ w' = w := by
  by_cases e0 : v = 0
  · subst e0
    have E0 : Hid (wrF 14 0 t = 0) := rfl
    generalize wrF 14 0 t = r at *
    clear hv
    go_enter Try.func101, Try.ntmps101
    go_wp2_with (go_at_call 115; refine (unless_is _ _ _).mono ?_; rintro e w' ⟨rfl, hw⟩; (have hw2 := hw.symm); clear hw; subst hw2)
    go_ret
    exact ⟨by rw [E0.out]; rfl, rfl⟩
  have q0 : ((v : Int) == 0) = false := by simp; omega
  have E0 : Hid (wrF 14 v t = 53) := by unfold Hid wrF pFd; simp [e0, wF]
  generalize wrF 14 v t = r at *
  clear e0 hv
  go_enter Try.func101, Try.ntmps101
  go_wp2_with (go_at_call 115; refine (unless_is _ _ _).mono ?_; rintro e w' ⟨rfl, hw⟩; (have hw2 := hw.symm); clear hw; subst hw2)
  go_ret
  exact ⟨by rw [E0.out]; rfl, rfl⟩
end Go.Proofs.Ytndhabhlajldeaa
/- The document's containers: more: a list of fields that grows. -/
namespace Go.Proofs.Ytndhabhlajldeaa
open Go.RowKit
theorem Try.infoF : (Try.prog.info? 123).map (fun i => (i.zero, i.size, i.bytes)) = some (some (.agg #[.int .i64 0, .int .i64 0]), 2, 16) := by kernel_rfl
/-- fields as cells -/
def fV (l : List (Nat × Nat)) : List Value := l.flatMap fun p => [.int .i64 (p.1 : Int), .int .i64 (p.2 : Int)]
theorem fV_app (l m : List (Nat × Nat)) : fV (l ++ m) = fV l ++ fV m := by simp [fV]
theorem fV_len : ∀ l : List (Nat × Nat), (fV l).length = l.length * 2
  | [] => rfl
  | p :: l => by
    show ([Value.int .i64 (p.1 : Int), .int .i64 (p.2 : Int)] ++ fV l).length = _
    rw [List.length_append, fV_len l, List.length_cons]
    simp
    omega
theorem fV_one (l : List (Nat × Nat)) : ∀ u ∈ fV l, u.oneCell' = true := fun u hu => by
  obtain ⟨p, _, hp⟩ := List.mem_flatMap.1 hu
  simp at hp
  rcases hp with rfl | rfl <;> rfl
theorem fV_get : ∀ (l : List (Nat × Nat)) (i : Nat) (p : Nat × Nat), l[i]? = some p → (fV l)[i * 2]? = some (.int .i64 (p.1 : Int)) ∧ (fV l)[i * 2 + 1]? = some (.int .i64 (p.2 : Int))
  | [], i, p, h => by simp at h
  | q :: l, 0, p, h => by
    simp at h
    subst h
    exact ⟨rfl, rfl⟩
  | q :: l, i + 1, p, h => by
    obtain ⟨h1, h2⟩ := fV_get l i p (by simpa using h)
    show ([Value.int .i64 (q.1 : Int), .int .i64 (q.2 : Int)] ++ fV l)[(i + 1) * 2]? = _ ∧ ([Value.int .i64 (q.1 : Int), .int .i64 (q.2 : Int)] ++ fV l)[(i + 1) * 2 + 1]? = _
    rw [List.getElem?_append_right (by simp; omega), List.getElem?_append_right (by simp; omega)]
    exact ⟨by rw [show (i + 1) * 2 - [Value.int .i64 (q.1 : Int), .int .i64 (q.2 : Int)].length = i * 2 by simp; omega]; exact h1, by rw [show (i + 1) * 2 + 1 - [Value.int .i64 (q.1 : Int), .int .i64 (q.2 : Int)].length = i * 2 + 1 by simp; omega]; exact h2⟩
/-- a list of fields of one's own -/
def FO (B : Nat) (W : World) (v : Value) (l : List (Nat × Nat)) : Prop := W.ownsRow B 123 2 v l.length (fV l)
theorem FO.past {B : Nat} {W W' : World} {v : Value} {l : List (Nat × Nat)} (h : FO B W v l) (k : Below W.heap.size W W') : FO B W' v l := owns_past h k
/-- append of fields that were laid into a new block -/
theorem wpList_appF {w : World} {ops : Array Oper} {rest : List Oper} {o : Oper} {a : Act} {Q : Exit → Act → World → Prop} (hgd : o.guard = none) (s x : Operand)
    (ho : o.op = .call { callee := .builtin .append, args := #[s, x], argTypes := #[124, 124] }) (B : Nat) (hB : B ≤ w.heap.size) (v : Value) (l : List (Nat × Nat)) (hs : a.eval s = v) (hown : FO B w v l)
    (y : List (Nat × Nat)) (m : Nat) (hm : y.length = m) (hx : a.eval x = .slice (some ⟨w.heap.size, 0, none⟩) m m) (hn : l.length + m ≤ 2199023255552)
    (h : ∀ v' w', App B 123 2 w w' v v' (l ++ y).length (fV (l ++ y)) → wpList Try.prog ops Q rest (a.put o.dst v') w') : wpList Try.prog ops Q (o :: rest) a (w.alloc (.cells (fV y).toArray 123)) :=
  wpList_plain hgd fun _ hK => by
    obtain ⟨ad, cap, rfl⟩ := owns_sl hown
    subst hm
    refine wp_apps s x 124 123 ho (.agg #[.int .i64 0, .int .i64 0]) 2 16 Try.underlying124 Try.infoF rfl (by omega) (by omega) B (Nat.le_trans hB (below_alloc _ _).size) ad l.length cap (fV l) hs (owns_past hown (below_alloc _ _)) ⟨w.heap.size, 0, none⟩ y.length y.length (fV y) hx (fV_len y) (fun j c hj => ?_) (fV_one y) hn (fun ad' cap' w' q1 q2 q3 => hK _ _ (h _ _ ⟨?_, ?_, fun k hk => ?_⟩))
    · rw [Addr.add_mid, Nat.zero_add]
      exact ((CBox.new w 123 (fV y)).cell j).trans hj
    · rw [List.length_append, fV_app]; exact q1
    · have b1 : But (OwnV (.slice ad l.length cap)) w (w.alloc (.cells (fV y).toArray 123)) := below_but (below_alloc _ _)
      exact b1.trans (q2.mono fun k hk => own_iff.1 hk)
    · rcases q3.own (own_iff.2 hk) with e | e
      · exact Or.inl (own_iff.1 e)
      · exact Or.inr (Nat.le_trans (below_alloc _ _).size e)
set_option maxHeartbeats 4000000 in
set_option maxRecDepth 100000 in
theorem more_is (w : World) (B : Nat) (hB : B ≤ w.heap.size) (v : Value) (l : List (Nat × Nat)) (hv : FO B w v l) (n y z : Nat) (hn : n ≤ 16777216) (hl : l.length ≤ 1073741824) :
    Calls Try.prog 102 #[v, .int .i64 (n : Int), .agg #[.int .i64 (y : Int), .int .i64 (z : Int)]] w fun e w' => ∃ v', e = .returned v' ∧ App B 123 2 w w' v v' (l ++ List.replicate n (y, z)).length (fV (l ++ List.replicate n (y, z))) := by
  have C0 : Hid (CBox (w.alloc (.cells #[.int .i64 (y : Int), .int .i64 (z : Int)] 123)) w.heap.size 123 [.int .i64 (y : Int), .int .i64 (z : Int)]) := CBox.new w _ [_, _]
  have M0 : Hid (App B 123 2 w (w.alloc (.cells #[.int .i64 (y : Int), .int .i64 (z : Int)] 123)) v v l.length (fV l)) := (App.refl hv).then (below_alloc _ _)
  have NO : Hid (∀ g, OwnV v g → g < w.heap.size) := fun g hg => (World.ownsRow.lt hv g hg).2
  have HL : Hid (l.length ≤ 1073741824 ∧ n ≤ 16777216 ∧ B ≤ w.heap.size) := ⟨hl, hn, hB⟩
  have nI : (n : Int) ≤ 16777216 := by omega
  clear hv hn hl hB
  go_enter Try.func102, Try.ntmps102
  go_upto_region 1 with fail
  generalize w.alloc _ = W0 at C0 M0 ⊢
  generalize hb : w.heap.size = bx at C0 NO ⊢
  have GB : Hid (w.heap.size = bx) := hb
  clear hb
  go_wp2
  go_loopw [0, 7] (fun s0 s7 wr => ∃ k : Nat, s7 = .int .i64 (k : Int) ∧ k ≤ n ∧ App B 123 2 w wr v s0 (l ++ List.replicate k (y, z)).length (fV (l ++ List.replicate k (y, z))) ∧ CBox wr bx 123 [.int .i64 (y : Int), .int .i64 (z : Int)] ∧ ¬ OwnV s0 bx) (fun _ s7 _ => n - (intOf s7).toNat)
  case atStart => exact ⟨0, rfl, by omega, by simpa using M0.out, C0.out, fun e => by have := NO.out _ e; omega⟩
  case round =>
    obtain ⟨k, rfl, hk, hM, hC, hO⟩ := hrel
    have M : Hid (App B 123 2 w wr v u0 (l ++ List.replicate k (y, z)).length (fV (l ++ List.replicate k (y, z))) ∧ CBox wr bx 123 [.int .i64 (y : Int), .int .i64 (z : Int)] ∧ ¬ OwnV u0 bx) := ⟨hM, hC, hO⟩
    clear hM hC hO M0 C0
    by_cases e : k = n
    · subst e
      go_wp2
      go_ret
      exact ⟨_, rfl, M.out.1⟩
    · have kn : (k : Int) < (n : Int) := by omega
      have c0 : wr.cell? ⟨bx, 0, none⟩ = some (.int .i64 (y : Int)) := M.out.2.1.cell 0
      have c1 : wr.cell? ⟨bx, 1, none⟩ = some (.int .i64 (z : Int)) := M.out.2.1.cell 1
      have HLe : Hid ((l ++ List.replicate k (y, z)).length + 1 ≤ 2199023255552) := by unfold Hid; rw [List.length_append, List.length_replicate]; have := HL.out; omega
      clear e
      go_wp2_with (at_builtin; refine wpList_appF rfl _ _ rfl B (Nat.le_trans HL.out.2.2 M.out.1.but.size) u0 (l ++ List.replicate k (y, z)) rfl M.out.1.row [(y, z)] 1 rfl rfl HLe.out ?_; intro v' w' hA)
      have HR : Hid (App B 123 2 w w' v v' (l ++ List.replicate (k + 1) (y, z)).length (fV (l ++ List.replicate (k + 1) (y, z))) ∧ CBox w' bx 123 [.int .i64 (y : Int), .int .i64 (z : Int)] ∧ ¬ OwnV v' bx) := by
        refine ⟨?_, M.out.2.1.but hA.but M.out.2.2, fun e => ?_⟩
        · have h9 := M.out.1.trans hA
          rw [List.append_assoc, show List.replicate k (y, z) ++ [(y, z)] = List.replicate (k + 1) (y, z) from (List.replicate_succ' ..).symm] at h9
          exact h9
        · rcases hA.new _ e with e1 | e1
          · exact M.out.2.2 e1
          · have := M.out.2.1.lt; omega
      clear hA M c0 c1
      go_roundw
      case rel => exact ⟨k + 1, by first | rfl | go_num, by omega, HR.out⟩
      case measure => simp [intOf]; omega
end Go.Proofs.Ytndhabhlajldeaa
/- What is written is read as what it was; what is read is written as it was. -/
namespace Go.Proofs.Ytndhabhlajldeaa
theorem drop_more {b l r : List Nat} {k : Nat} (h : b.drop k = l ++ r) (hl : 0 < l.length) : k + l.length ≤ b.length ∧ b.drop (k + l.length) = r := by
  have e := congrArg List.length h
  rw [List.length_drop, List.length_append] at e
  refine ⟨by omega, ?_⟩
  rw [← List.drop_drop, h, List.drop_left]
theorem fld_at {b r : List Nat} {k w n why : Nat} {p : Nat → Bool} (h : b.drop k = dig w n ++ r) (hw : 0 < w) (hn : n < 256 ^ w) (hp : p n = true) : fld b k w why p = .ok n ∧ b.drop (k + w) = r := by
  obtain ⟨h1, h2⟩ := drop_more h (by rw [dig_len]; exact hw)
  rw [dig_len] at h1 h2
  have e : rd b k w = n := by
    unfold rd
    rw [h, List.take_left' (dig_len w n), num_dig, Nat.mod_eq_of_lt hn]
  refine ⟨?_, h2⟩
  unfold fld
  rw [if_neg (by omega), e, if_pos hp]
theorem lens_at {b : List Nat} {w : Nat} (hw : 0 < w) : ∀ (l : List Nat) (k : Nat) (r : List Nat), b.drop k = l.flatMap (dig w) ++ r → (∀ x ∈ l, 0 < x ∧ x < 256 ^ w) → lens b w k l.length = .ok l ∧ b.drop (k + w * l.length) = r
  | [], k, r, h, _ => ⟨rfl, by simpa using h⟩
  | x :: l, k, r, h, hl => by
    rw [List.flatMap_cons, List.append_assoc] at h
    obtain ⟨h1, h2⟩ := fld_at (why := 56) (p := fun n => decide (0 < n)) h hw (hl x (List.mem_cons_self ..)).2 (by simpa using (hl x (List.mem_cons_self ..)).1)
    obtain ⟨h3, h4⟩ := lens_at hw l (k + w) r h2 (fun y hy => hl y (List.mem_cons_of_mem _ hy))
    refine ⟨?_, ?_⟩
    · rw [List.length_cons, lens, h1]
      show (lens b w (k + w) l.length).bind _ = _
      rw [h3]
      rfl
    · rw [List.length_cons, Nat.mul_succ, show k + (w * l.length + w) = k + w + w * l.length by omega]
      exact h4
theorem cuts_at {b : List Nat} : ∀ (l : List (List Nat)) (k : Nat) (r : List Nat), b.drop k = l.flatten ++ r → cuts b k (lns l) = l ∧ b.drop (k + sumL (lns l)) = r
  | [], k, r, h => ⟨rfl, by simpa [lns, sumL] using h⟩
  | x :: l, k, r, h => by
    rw [List.flatten_cons, List.append_assoc] at h
    have h2 : b.drop (k + x.length) = l.flatten ++ r := by rw [← List.drop_drop, h, List.drop_left]
    obtain ⟨h3, h4⟩ := cuts_at l (k + x.length) r h2
    refine ⟨?_, ?_⟩
    · show (b.drop k).take x.length :: cuts b (k + x.length) (lns l) = _
      rw [h3, h, List.take_left]
    · show b.drop (k + sumL (x.length :: lns l)) = r
      rw [sumL_cons, ← Nat.add_assoc]
      exact h4
theorem ty_parts {i : Nat} {t : Ty} (h : ¬ tyBad i t < 3) : okIn i t.1 = true ∧ okOut i t.2.1 = true ∧ okMost t.2.2 = true := by
  have h0 : okIn i t.1 = true := by
    cases e : okIn i t.1
    · exact absurd (by unfold tyBad; rw [if_pos e]; omega) h
    · rfl
  have h1 : okOut i t.2.1 = true := by
    cases e : okOut i t.2.1
    · exact absurd (by unfold tyBad; rw [if_neg (by rw [h0]; decide), if_pos e]; omega) h
    · rfl
  refine ⟨h0, h1, ?_⟩
  cases e : okMost t.2.2
  · exact absurd (by unfold tyBad; rw [if_neg (by rw [h0]; decide), if_neg (by rw [h1]; decide), if_pos e]; omega) h
  · rfl
theorem parts_ty {i : Nat} {t : Ty} (h0 : okIn i t.1 = true) (h1 : okOut i t.2.1 = true) (h2 : okMost t.2.2 = true) : ¬ tyBad i t < 3 := by
  unfold tyBad
  rw [if_neg (by rw [h0]; decide), if_neg (by rw [h1]; decide), if_neg (by rw [h2]; decide)]
  omega
theorem ok_in {i : Nat} {x : Int} (h : okIn i x = true) : 0 ≤ x ∧ x < 256 := by
  unfold okIn at h
  simp at h
  omega
theorem ok_out {i : Nat} {x : Int} (h : okOut i x = true) : 0 ≤ x ∧ x < 256 := by
  unfold okOut at h
  simp at h
  omega
theorem ok_most {x : Int} (h : okMost x = true) : 0 ≤ x ∧ x < 65536 := by
  unfold okMost at h
  simp at h
  omega
theorem tyAt_at {b r : List Nat} {k i : Nat} {t : Ty} (h : b.drop k = tyb t ++ r) (ht : ¬ tyBad i t < 3) : tyAt b k i = .ok t ∧ b.drop (k + 4) = r := by
  obtain ⟨p0, p1, p2⟩ := ty_parts ht
  obtain ⟨x, y, z⟩ := t
  have q0 := ok_in p0
  have q1 := ok_out p1
  have q2 := ok_most p2
  simp only at p0 p1 p2 q0 q1 q2
  unfold tyb at h
  rw [List.append_assoc, List.append_assoc] at h
  obtain ⟨h1, h2⟩ := fld_at (why := 59) (p := fun n => okIn i n) h (by omega) (by simp only; omega) (by simp only; rw [Int.toNat_of_nonneg q0.1]; exact p0)
  obtain ⟨h3, h4⟩ := fld_at (why := 59) (p := fun n => okOut i n) h2 (by omega) (by simp only; omega) (by simp only; rw [Int.toNat_of_nonneg q1.1]; exact p1)
  obtain ⟨h5, h6⟩ := fld_at (why := 59) (p := fun n => okMost n) h4 (by omega) (by simp only; omega) (by simp only; rw [Int.toNat_of_nonneg q2.1]; exact p2)
  refine ⟨?_, by simpa [Nat.add_assoc] using h6⟩
  unfold tyAt
  rw [h1]
  show (fld b (k + 1) 1 59 _).bind _ = _
  rw [h3]
  show (fld b (k + 2) 2 59 _).bind _ = _
  rw [show k + 2 = k + 1 + 1 by omega, h5]
  show Except.ok _ = _
  simp only
  rw [Int.toNat_of_nonneg q0.1, Int.toNat_of_nonneg q1.1, Int.toNat_of_nonneg q2.1]
theorem tys_at {b : List Nat} : ∀ (l : List Ty) (k i : Nat) (r : List Nat), b.drop k = l.flatMap tyb ++ r → chkT i l = 0 → tys b k i l.length = .ok l ∧ b.drop (k + 4 * l.length) = r
  | [], k, i, r, h, _ => ⟨rfl, by simpa using h⟩
  | t :: l, k, i, r, h, hc => by
    rw [List.flatMap_cons, List.append_assoc] at h
    unfold chkT at hc
    split at hc
    · exact absurd hc (by decide)
    rename_i ht
    obtain ⟨h1, h2⟩ := tyAt_at h ht
    obtain ⟨h3, h4⟩ := tys_at l (k + 4) (i + 1) r h2 hc
    refine ⟨?_, ?_⟩
    · rw [List.length_cons, tys, h1]
      show (tys b (k + 4) (i + 1) l.length).bind _ = _
      rw [h3]
      rfl
    · rw [List.length_cons, Nat.mul_succ, show k + (4 * l.length + 4) = k + 4 + 4 * l.length by omega]
      exact h4
/-- a header that is written is read -/
theorem hdEnd_at {b r cs ss : List Nat} {k n : Nat} (h : b.drop k = dig 2 n ++ (dig 1 0 ++ r)) (hn : n < 65536) : hdEnd b k cs ss = .ok ⟨cs, ss, n, k + 3⟩ ∧ b.drop (k + 3) = r := by
  obtain ⟨h1, h2⟩ := fld_at (why := 0) (p := fun _ => true) h (by omega) (by omega) rfl
  obtain ⟨h3, h4⟩ := fld_at (why := 53) (p := fun n => n == 0) h2 (by omega) (by omega) rfl
  refine ⟨?_, h4⟩
  unfold hdEnd
  rw [h1]
  show (fld b (k + 2) 1 53 _).bind _ = _
  rw [h3]
  rfl
theorem hdSubs_at {b r cs ss : List Nat} {k n : Nat} (h : b.drop k = dig 2 ss.length ++ (ss.flatMap (dig 4) ++ (dig 1 255 ++ (dig 2 n ++ (dig 1 0 ++ r))))) (hn : n < 65536) (h0 : 0 < ss.length) (h1 : ss.length ≤ 256) (hs : ∀ x ∈ ss, 0 < x ∧ x < 256 ^ 4) : hdSubs b k cs = .ok ⟨cs, ss, n, k + 2 + 4 * ss.length + 1 + 3⟩ ∧ b.drop (k + 2 + 4 * ss.length + 1 + 3) = r := by
  obtain ⟨a1, a2⟩ := fld_at (why := 57) (p := pS) h (by omega) (by omega) (by unfold pS; simp; omega)
  obtain ⟨a3, a4⟩ := lens_at (by omega) ss (k + 2) _ a2 hs
  obtain ⟨a5, a6⟩ := fld_at (why := 53) (p := fun n => n == 255) a4 (by omega) (by omega) rfl
  obtain ⟨a7, a8⟩ := hdEnd_at (cs := cs) (ss := ss) a6 hn
  refine ⟨?_, a8⟩
  unfold hdSubs
  rw [a1]
  show (lens b 4 (k + 2) ss.length).bind _ = _
  rw [a3]
  show (fld b _ 1 53 _).bind _ = _
  rw [a5]
  exact a7
theorem hdr_at {r cs ss : List Nat} {n : Nat} (hn : n < 65536) (c0 : 0 < cs.length) (c1 : cs.length ≤ 1024) (hc : ∀ x ∈ cs, 0 < x ∧ x < 256 ^ 2) (s1 : ss.length ≤ 256) (hs : ∀ x ∈ ss, 0 < x ∧ x < 256 ^ 4) : hdr (hd cs ss n ++ r) = .ok ⟨cs, ss, n, (hd cs ss n).length⟩ := by
  generalize hb : hd cs ss n ++ r = b
  have h0 : b.drop 0 = dig 1 239 ++ (dig 1 0 ++ (dig 1 1 ++ (dig 1 1 ++ (dig 2 (4 * cs.length) ++ (dig 1 2 ++ (dig 2 cs.length ++ (cs.flatMap (dig 2) ++ ((if ss.length = 0 then [] else [3] ++ dig 2 ss.length ++ ss.flatMap (dig 4)) ++ (dig 1 255 ++ (dig 2 n ++ (dig 1 0 ++ r))))))))))) := by
    rw [← hb, List.drop_zero]
    simp [hd, dig]
  obtain ⟨a1, b1⟩ := fld_at (why := 51) (p := fun n => n == 239) h0 (by omega) (by omega) rfl
  obtain ⟨a2, b2⟩ := fld_at (why := 51) (p := fun n => n == 0) b1 (by omega) (by omega) rfl
  obtain ⟨a3, b3⟩ := fld_at (why := 52) (p := fun n => n == 1) b2 (by omega) (by omega) rfl
  obtain ⟨a4, b4⟩ := fld_at (why := 53) (p := fun n => n == 1) b3 (by omega) (by omega) rfl
  obtain ⟨a5, b5⟩ := fld_at (why := 54) (p := pT) b4 (by omega) (by omega) (by unfold pT; simp; omega)
  obtain ⟨a6, b6⟩ := fld_at (why := 53) (p := fun n => n == 2) b5 (by omega) (by omega) rfl
  obtain ⟨a7, b7⟩ := fld_at (why := 55) (p := fun m => m == 4 * cs.length / 4) b6 (by omega) (by omega) (by simp)
  obtain ⟨a8, b8⟩ := lens_at (by omega) cs _ _ b7 hc
  have key : hdKind b (9 + 2 * cs.length) cs = .ok ⟨cs, ss, n, (hd cs ss n).length⟩ := by
    rw [hd_len]
    unfold hdKind
    have b8' : b.drop (9 + 2 * cs.length) = _ := b8
    by_cases e : ss.length = 0
    · rw [if_pos e, List.nil_append] at b8'
      have e' : ss = [] := List.eq_nil_of_length_eq_zero e
      obtain ⟨a9, b9⟩ := fld_at (why := 53) (p := pK) b8' (by omega) (by omega) rfl
      obtain ⟨a10, _⟩ := hdEnd_at (cs := cs) (ss := []) b9 hn
      rw [a9]
      show (if (255 : Nat) = 3 then hdSubs b (9 + 2 * cs.length + 1) cs else hdEnd b (9 + 2 * cs.length + 1) cs []) = _
      rw [if_neg (by omega), a10, if_pos e, e']
      simp only [Except.ok.injEq, Hd.mk.injEq, true_and]
      omega
    · rw [if_neg e] at b8'
      rw [List.append_assoc, List.append_assoc] at b8'
      obtain ⟨a9, b9⟩ := fld_at (n := 3) (w := 1) (why := 53) (p := pK) b8' (by omega) (by omega) rfl
      obtain ⟨a10, _⟩ := hdSubs_at (cs := cs) b9 hn (by omega) s1 hs
      rw [a9]
      show (if (3 : Nat) = 3 then hdSubs b (9 + 2 * cs.length + 1) cs else hdEnd b (9 + 2 * cs.length + 1) cs []) = _
      rw [if_pos rfl, a10, if_neg e]
      simp only [Except.ok.injEq, Hd.mk.injEq, true_and]
      omega
  unfold hdr
  rw [a1]
  show (fld b 1 1 51 _).bind _ = _
  have a2' : fld b 1 1 51 (fun n => n == 0) = .ok 0 := a2
  rw [a2']
  show (fld b 2 1 52 _).bind _ = _
  have a3' : fld b 2 1 52 (fun n => n == 1) = .ok 1 := a3
  rw [a3']
  show (fld b 3 1 53 _).bind _ = _
  have a4' : fld b 3 1 53 (fun n => n == 1) = .ok 1 := a4
  rw [a4']
  show (fld b 4 2 54 _).bind _ = _
  have a5' : fld b 4 2 54 pT = .ok (4 * cs.length) := a5
  rw [a5']
  show (fld b 6 1 53 _).bind _ = _
  have a6' : fld b 6 1 53 (fun n => n == 2) = .ok 2 := a6
  rw [a6']
  show (fld b 7 2 55 _).bind _ = _
  have a7' : fld b 7 2 55 (fun m => m == 4 * cs.length / 4) = .ok cs.length := a7
  rw [a7']
  show (lens b 2 9 cs.length).bind _ = _
  have a8' : lens b 2 9 cs.length = .ok cs := a8
  rw [a8']
  exact key
theorem lns_pos {m : Nat} {l : List (List Nat)} (h : chkP m l = 0) : ∀ x ∈ lns l, 0 < x ∧ x < m + 1 := by
  intro x hx
  obtain ⟨y, hy, rfl⟩ := List.mem_map.1 hx
  have := chkP_ok m l h y hy
  omega
/-- 5.5: what is written is read as what it was -/
theorem prs_ser {c : Con} (h : May c) (opn : Bool) (ho : opn = false → (c.d.length : Int) = c.n) : prs (ser c) opn = .ok c := by
  have z1 := h.z1
  have z2 := h.z2
  have e1 : ser c = hd (lns c.cs) (lns c.ss) c.n.toNat ++ (c.ts.flatMap tyb ++ (c.cs.flatten ++ (c.ss.flatten ++ c.d))) := by
    unfold ser
    simp only [List.append_assoc]
  have e2 := hdr_at (r := c.ts.flatMap tyb ++ (c.cs.flatten ++ (c.ss.flatten ++ c.d))) (n := c.n.toNat) (cs := lns c.cs) (ss := lns c.ss) (by omega) (by rw [lns_len]; exact h.n1) (by rw [lns_len]; exact h.n2) (lns_pos h.pc) (by rw [lns_len]; exact h.ns) (lns_pos h.ps)
  rw [← e1] at e2
  have d0 : (ser c).drop (hd (lns c.cs) (lns c.ss) c.n.toNat).length = c.ts.flatMap tyb ++ (c.cs.flatten ++ (c.ss.flatten ++ c.d)) := by rw [e1, List.drop_left]
  obtain ⟨t1, d1⟩ := tys_at c.ts _ 0 _ d0 h.ty
  obtain ⟨t2, d2⟩ := cuts_at c.cs _ _ d1
  obtain ⟨t3, d3⟩ := cuts_at c.ss _ _ d2
  have hl := ser_len h
  unfold prs
  rw [e2]
  simp only [Except.bind]
  rw [h.nt] at t1 t2 t3 d3
  rw [lns_len] at hl ⊢
  rw [if_neg (by
    split
    · omega
    · rename_i e
      have := ho (by simpa using e)
      omega), if_neg (by omega), t1]
  simp only
  rw [t2, t3, d3, Int.toNat_of_nonneg (by omega)]
end Go.Proofs.Ytndhabhlajldeaa
