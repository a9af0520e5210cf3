/- Package container: Lay. -/
import Derived.Test.YtndhabhlajldeaaMz9
namespace Go.Proofs.Ytndhabhlajldeaa
open Go.RowKit
theorem pl_two {P : Nat → Prop} (W : World) (u v : Value) (x y : List Nat) (hu : BL P W u x) (hv : BL P W v y) : PL (fun _ => True) (W.alloc (.cells #[u, v] 22)) (.slice (some ⟨W.heap.size, 0, none⟩) 2 2) [x, y] := by
  have k := below_alloc W (.cells #[u, v] 22)
  refine ⟨[u, v], SL.box (CBox.new W 22 [u, v]) rfl (by simp) trivial, fun i l hi => ?_⟩
  rcases i with _ | _ | i
  · cases hi; exact ⟨u, rfl, (hu.past k).mono fun _ _ _ => trivial⟩
  · cases hi; exact ⟨v, rfl, (hv.past k).mono fun _ _ _ => trivial⟩
  · cases hi
/-- what a Lay answers -/
def LayQ (B : Nat) (c' : Con) (x : Int) (e : Ending) (w' : World) : Prop := ∃ v', e = .returned (.tuple #[v', .int .i64 x]) ∧ DO B w' v' c'
theorem DO.zero (B : Nat) (W : World) : DO B W (.agg #[.slice none 0 0, .slice none 0 0, .slice none 0 0, .slice none 0 0, .int .i64 0]) con0 := ⟨none, 0, none, 0, none, 0, none, 0, rfl, World.ownsRow_nil _ _ _ _, PO.nil _ _, PO.nil _ _, World.ownsRow_nil _ _ _ _, fun _ h => by cases h⟩
/-- in the midst of Lay -/
structure LyM (b1 b2 : Nat) (w W : World) (L Z : List Value) : Prop where
  c1 : CBox W b1 28 L
  c2 : CBox W b2 28 Z
  bel : Below w.heap.size w W
theorem LyM.past {b1 b2 : Nat} {w W W' : World} {L Z : List Value} (h : LyM b1 b2 w W L Z) (k : Below W.heap.size W W') : LyM b1 b2 w W' L Z := ⟨h.c1.past k, h.c2.past k, h.bel.trans (k.mono h.bel.size)⟩
set_option maxHeartbeats 8000000 in
set_option maxRecDepth 100000 in
theorem lay_is {P R : Nat → Prop} (w : World) (v u : Value) (c : Con) (b : List Nat) (h : CW P w v c) (k : BL R w u b) (hs : Small c) (hb : b.length ≤ 16777216) : Calls Try.prog 27 #[v, u] w fun e w' => LayQ w.heap.size (layC c b).2 (layC c b).1 e w' ∧ Below w.heap.size w w' := by
  obtain ⟨tv, cv, sv, dv, rfl, h1, h2, h3, h4⟩ := id h
  obtain ⟨ta, tc, rfl, _⟩ := h1.len
  obtain ⟨ca, cc, rfl, _⟩ := h2.len
  obtain ⟨sa, sc, rfl, _⟩ := h3.len
  obtain ⟨da, dc, rfl, _⟩ := h4.len
  obtain ⟨ua, uc, rfl, _⟩ := k.len
  have HSM : Hid (Small c) := hs
  have hd0 : c.d.length ≤ 16777216 := by unfold Small at hs; omega
  have nD : (c.d.length : Int) ≤ 16777216 := by omega
  have nB : (b.length : Int) ≤ 16777216 := by omega
  have b1 := below_alloc w (.cells #[.slice ta c.ts.length tc, .slice ca c.cs.length cc, .slice sa c.ss.length sc, .slice da c.d.length dc, .int .i64 c.n] 28)
  have b2 := below_alloc (w.alloc (.cells #[.slice ta c.ts.length tc, .slice ca c.cs.length cc, .slice sa c.ss.length sc, .slice da c.d.length dc, .int .i64 c.n] 28)) (.cells #[.slice none 0 0, .slice none 0 0, .slice none 0 0, .slice none 0 0, .int .i64 0] 28)
  have s1 : (w.alloc (.cells #[.slice ta c.ts.length tc, .slice ca c.cs.length cc, .slice sa c.ss.length sc, .slice da c.d.length dc, .int .i64 c.n] 28)).heap.size = w.heap.size + 1 := by simp
  have bb : Below w.heap.size w ((w.alloc (.cells #[.slice ta c.ts.length tc, .slice ca c.cs.length cc, .slice sa c.ss.length sc, .slice da c.d.length dc, .int .i64 c.n] 28)).alloc (.cells #[.slice none 0 0, .slice none 0 0, .slice none 0 0, .slice none 0 0, .int .i64 0] 28)) := b1.trans (b2.mono (by omega))
  have c2 := CBox.new (w.alloc (.cells #[.slice ta c.ts.length tc, .slice ca c.cs.length cc, .slice sa c.ss.length sc, .slice da c.d.length dc, .int .i64 c.n] 28)) 28 [.slice none 0 0, .slice none 0 0, .slice none 0 0, .slice none 0 0, .int .i64 0]
  rw [s1] at c2
  have M0 : Hid (LyM w.heap.size (w.heap.size + 1) w ((w.alloc (.cells #[.slice ta c.ts.length tc, .slice ca c.cs.length cc, .slice sa c.ss.length sc, .slice da c.d.length dc, .int .i64 c.n] 28)).alloc (.cells #[.slice none 0 0, .slice none 0 0, .slice none 0 0, .slice none 0 0, .int .i64 0] 28)) [.slice ta c.ts.length tc, .slice ca c.cs.length cc, .slice sa c.ss.length sc, .slice da c.d.length dc, .int .i64 c.n] [.slice none 0 0, .slice none 0 0, .slice none 0 0, .slice none 0 0, .int .i64 0]) := ⟨(CBox.new w 28 [.slice ta c.ts.length tc, .slice ca c.cs.length cc, .slice sa c.ss.length sc, .slice da c.d.length dc, .int .i64 c.n]).past b2, c2, bb⟩
  have SRC0 : Hid (∀ W, Below w.heap.size w W → SrC P W (.slice ta c.ts.length tc) (.slice ca c.cs.length cc) (.slice sa c.ss.length sc) (.slice da c.d.length dc) c ∧ BL R W (.slice ua b.length uc) b) := fun W hW => ⟨⟨h1.past hW, h2.past hW, h3.past hW, h4.past hW⟩, k.past hW⟩
  have HCW : Hid (∀ W, Below w.heap.size w W → CW P W (.agg #[.slice ta c.ts.length tc, .slice ca c.cs.length cc, .slice sa c.ss.length sc, .slice da c.d.length dc, .int .i64 c.n]) c) := fun W hW => h.past hW
  have GL0 : Hid (w.heap.size < w.heap.size + 1) := by unfold Hid; omega
  have GE0 : Hid (w.heap.size ≤ w.heap.size) := Nat.le_refl _
  obtain ⟨nz, hnz⟩ : ∃ nz, nz = c.d.length + b.length := ⟨_, rfl⟩
  have r1 : (c.d.length : Int) + (b.length : Int) = (nz : Int) := by omega
  have r2 : IntKind.i64.wrap (nz : Int) = (nz : Int) := by rw [IntKind.wrap_i64]; omega
  have HNZ : Hid (nz = c.d.length + b.length) := hnz
  obtain ⟨ec, hec⟩ : ∃ ec, ec = chk c := ⟨_, rfl⟩
  have HEC : Hid (ec = chk c) := hec
  have CC : Hid (∀ (W : World) (R : Nat → Prop) (u : Value), CW R W u c → Calls Try.prog 20 #[u] W fun e w' => e = .returned (.int .i64 ec) ∧ Below W.heap.size W w') := fun W R u q => by rw [hec]; exact check_is W u c q
  obtain ⟨lr, hlr⟩ : ∃ lr, lr = layC c b := ⟨_, rfl⟩
  have HLR : Hid (lr = layC c b) := hlr
  rw [← hlr]
  clear h k hs h1 h2 h3 h4 b1 b2 s1 bb c2 hb hd0 hnz hec hlr
  generalize hbw : w.heap.size = bw at M0 GL0
  have GB : Hid (w.heap.size = bw) := hbw
  have GE : Hid (bw ≤ w.heap.size) := by unfold Hid; omega
  have GL2 : Hid (w.heap.size < bw + 1) := by unfold Hid; omega
  go_enter Try.func27, Try.ntmps27
  go_upto_region 1 with fail
  clear hbw
  generalize hb2 : bw + 1 = b2 at M0 GL0 GL2 ⊢
  clear hb2
  generalize hb1 : bw = b1 at M0 GL0
  have HB1 : Hid (bw = b1) := hb1
  (try rw [hb1])
  clear hb1
  have GL : Hid (w.heap.size < b2 ∧ b1 < b2) := ⟨GL2.out, GL0.out⟩
  clear GL0 GL2
  generalize (w.alloc _).alloc _ = W1 at M0 ⊢
  have a0 : W1.cell? ⟨b1, 0, none⟩ = some (.slice ta c.ts.length tc) := M0.out.c1.cell 0
  have a1 : W1.cell? ⟨b1, 1, none⟩ = some (.slice ca c.cs.length cc) := M0.out.c1.cell 1
  have a2 : W1.cell? ⟨b1, 2, none⟩ = some (.slice sa c.ss.length sc) := M0.out.c1.cell 2
  have a3 : W1.cell? ⟨b1, 3, none⟩ = some (.slice da c.d.length dc) := M0.out.c1.cell 3
  have a4 : W1.cell? ⟨b1, 4, none⟩ = some (.int .i64 c.n) := M0.out.c1.cell 4
  go_upto_region 2 with (go_at_call 20; refine (CC.out _ _ _ (HCW.out _ M0.out.bel)).mono ?_; rintro e W2 ⟨rfl, hB⟩; (have M : Hid (LyM b1 b2 w W2 [.slice ta c.ts.length tc, .slice ca c.cs.length cc, .slice sa c.ss.length sc, .slice da c.d.length dc, .int .i64 c.n] [.slice none 0 0, .slice none 0 0, .slice none 0 0, .slice none 0 0, .int .i64 0]) := M0.out.past hB); (clear hB))
  clear a0 a1 a2 a3 a4 M0 CC HCW
  by_cases e0 : ec = 0
  rotate_left
  · have E : Hid (lr = (ec, con0)) := by unfold Hid; rw [HLR.out]; unfold layC; rw [← HEC.out, if_pos e0]
    have q1 : (ec == 0) = false := by rw [beq_eq_false_iff_ne]; exact e0
    clear e0 r1 r2 HLR HEC
    have k0 : W2.cell? ⟨b2, 0, none⟩ = some (.slice none 0 0) := M.out.c2.cell 0
    have f0 := CBox.frozen M.out.c2 0
    have k1 : W2.cell? ⟨b2, 1, none⟩ = some (.slice none 0 0) := M.out.c2.cell 1
    have f1 := CBox.frozen M.out.c2 1
    have k2 : W2.cell? ⟨b2, 2, none⟩ = some (.slice none 0 0) := M.out.c2.cell 2
    have f2 := CBox.frozen M.out.c2 2
    have k3 : W2.cell? ⟨b2, 3, none⟩ = some (.slice none 0 0) := M.out.c2.cell 3
    have f3 := CBox.frozen M.out.c2 3
    have k4 : W2.cell? ⟨b2, 4, none⟩ = some (.int .i64 0) := M.out.c2.cell 4
    have f4 := CBox.frozen M.out.c2 4
    have HF : Hid (CBox (((((W2.setCell ⟨b2, 0, none⟩ (.slice none 0 0)).setCell ⟨b2, 1, none⟩ (.slice none 0 0)).setCell ⟨b2, 2, none⟩ (.slice none 0 0)).setCell ⟨b2, 3, none⟩ (.slice none 0 0)).setCell ⟨b2, 4, none⟩ (.int .i64 0)) b2 28 [.slice none 0 0, .slice none 0 0, .slice none 0 0, .slice none 0 0, .int .i64 0] ∧ Below w.heap.size w (((((W2.setCell ⟨b2, 0, none⟩ (.slice none 0 0)).setCell ⟨b2, 1, none⟩ (.slice none 0 0)).setCell ⟨b2, 2, none⟩ (.slice none 0 0)).setCell ⟨b2, 3, none⟩ (.slice none 0 0)).setCell ⟨b2, 4, none⟩ (.int .i64 0))) := ⟨(((((M.out.c2.set 0 _).set 1 _).set 2 _).set 3 _).set 4 _), M.out.bel.trans (((((((But.refl (fun y => y = b2) W2).setCell ⟨b2, 0, none⟩ _ (Or.inl rfl)).setCell ⟨b2, 1, none⟩ _ (Or.inl rfl)).setCell ⟨b2, 2, none⟩ _ (Or.inl rfl)).setCell ⟨b2, 3, none⟩ _ (Or.inl rfl)).setCell ⟨b2, 4, none⟩ _ (Or.inl rfl)).below (fun g e => by have := GL.out; omega) M.out.bel.size)⟩
    clear M
    go_wp2
    clear k0 k1 k2 k3 k4 f0 f1 f2 f3 f4
    generalize (((((W2.setCell ⟨b2, 0, none⟩ (.slice none 0 0)).setCell ⟨b2, 1, none⟩ (.slice none 0 0)).setCell ⟨b2, 2, none⟩ (.slice none 0 0)).setCell ⟨b2, 3, none⟩ (.slice none 0 0)).setCell ⟨b2, 4, none⟩ (.int .i64 0)) = Z9 at HF ⊢
    refine bodyPost_ret (v := .tuple #[.agg #[.slice none 0 0, .slice none 0 0, .slice none 0 0, .slice none 0 0, .int .i64 0], .int .i64 ec]) (results_ct (p := 4) (q := 5) (ty := 28) Try.results27 _ _ _ ⟨b2, 0, none⟩ rfl rfl (run_loadVar_mid Z9 b2 0 28 [.slice none 0 0, .slice none 0 0, .slice none 0 0, .slice none 0 0, .int .i64 0] _ HF.out.1.range Try.underlying28 rfl (by kernel_rfl))) rfl ?_
    exact ⟨by rw [E.out]; exact ⟨_, rfl, DO.zero _ _⟩, by first | exact HF.out.2 | (rw [← GB.out]; exact HF.out.2)⟩
  have HE0 : Hid (chk c = 0) := by unfold Hid; rw [← HEC.out]; exact e0
  clear HEC
  subst e0
  have a3 : W2.cell? ⟨b1, 3, none⟩ = some (.slice da c.d.length dc) := M.out.c1.cell 3
  have a4 : W2.cell? ⟨b1, 4, none⟩ = some (.int .i64 c.n) := M.out.c1.cell 4
  go_upto_region 5 with fail
  clear r1 r2
  by_cases e1 : (nz : Int) < c.n
  · have E : Hid (lr = (50, con0)) := by unfold Hid; rw [HLR.out]; unfold layC; rw [if_neg (by simp [HE0.out]), if_pos (by rw [← HNZ.out]; exact e1)]
    clear HLR
    have k0 : W2.cell? ⟨b2, 0, none⟩ = some (.slice none 0 0) := M.out.c2.cell 0
    have f0 := CBox.frozen M.out.c2 0
    have k1 : W2.cell? ⟨b2, 1, none⟩ = some (.slice none 0 0) := M.out.c2.cell 1
    have f1 := CBox.frozen M.out.c2 1
    have k2 : W2.cell? ⟨b2, 2, none⟩ = some (.slice none 0 0) := M.out.c2.cell 2
    have f2 := CBox.frozen M.out.c2 2
    have k3 : W2.cell? ⟨b2, 3, none⟩ = some (.slice none 0 0) := M.out.c2.cell 3
    have f3 := CBox.frozen M.out.c2 3
    have k4 : W2.cell? ⟨b2, 4, none⟩ = some (.int .i64 0) := M.out.c2.cell 4
    have f4 := CBox.frozen M.out.c2 4
    have HF : Hid (CBox (((((W2.setCell ⟨b2, 0, none⟩ (.slice none 0 0)).setCell ⟨b2, 1, none⟩ (.slice none 0 0)).setCell ⟨b2, 2, none⟩ (.slice none 0 0)).setCell ⟨b2, 3, none⟩ (.slice none 0 0)).setCell ⟨b2, 4, none⟩ (.int .i64 0)) b2 28 [.slice none 0 0, .slice none 0 0, .slice none 0 0, .slice none 0 0, .int .i64 0] ∧ Below w.heap.size w (((((W2.setCell ⟨b2, 0, none⟩ (.slice none 0 0)).setCell ⟨b2, 1, none⟩ (.slice none 0 0)).setCell ⟨b2, 2, none⟩ (.slice none 0 0)).setCell ⟨b2, 3, none⟩ (.slice none 0 0)).setCell ⟨b2, 4, none⟩ (.int .i64 0))) := ⟨(((((M.out.c2.set 0 _).set 1 _).set 2 _).set 3 _).set 4 _), M.out.bel.trans (((((((But.refl (fun y => y = b2) W2).setCell ⟨b2, 0, none⟩ _ (Or.inl rfl)).setCell ⟨b2, 1, none⟩ _ (Or.inl rfl)).setCell ⟨b2, 2, none⟩ _ (Or.inl rfl)).setCell ⟨b2, 3, none⟩ _ (Or.inl rfl)).setCell ⟨b2, 4, none⟩ _ (Or.inl rfl)).below (fun g e => by have := GL.out; omega) M.out.bel.size)⟩
    clear M
    go_wp2
    clear k0 k1 k2 k3 k4 f0 f1 f2 f3 f4
    generalize (((((W2.setCell ⟨b2, 0, none⟩ (.slice none 0 0)).setCell ⟨b2, 1, none⟩ (.slice none 0 0)).setCell ⟨b2, 2, none⟩ (.slice none 0 0)).setCell ⟨b2, 3, none⟩ (.slice none 0 0)).setCell ⟨b2, 4, none⟩ (.int .i64 0)) = Z9 at HF ⊢
    refine bodyPost_ret (v := .tuple #[.agg #[.slice none 0 0, .slice none 0 0, .slice none 0 0, .slice none 0 0, .int .i64 0], .int .i64 50]) (results_ct (p := 4) (q := 5) (ty := 28) Try.results27 _ _ _ ⟨b2, 0, none⟩ rfl rfl (run_loadVar_mid Z9 b2 0 28 [.slice none 0 0, .slice none 0 0, .slice none 0 0, .slice none 0 0, .int .i64 0] _ HF.out.1.range Try.underlying28 rfl (by kernel_rfl))) rfl ?_
    exact ⟨by rw [E.out]; exact ⟨_, rfl, DO.zero _ _⟩, by first | exact HF.out.2 | (rw [← GB.out]; exact HF.out.2)⟩
  have q2 := e1
  clear e1
  go_upto_region 7 with fail
  clear a3 a4
  by_cases e2 : 65535 < nz
  · have E : Hid (lr = (2, con0)) := by unfold Hid; rw [HLR.out]; unfold layC; rw [if_neg (by simp [HE0.out]), if_neg (by rw [← HNZ.out]; exact q2), if_pos (by rw [← HNZ.out]; exact e2)]
    have q3 : (65535 : Int) < (nz : Int) := by omega
    clear HLR q2 e2
    have k0 : W2.cell? ⟨b2, 0, none⟩ = some (.slice none 0 0) := M.out.c2.cell 0
    have f0 := CBox.frozen M.out.c2 0
    have k1 : W2.cell? ⟨b2, 1, none⟩ = some (.slice none 0 0) := M.out.c2.cell 1
    have f1 := CBox.frozen M.out.c2 1
    have k2 : W2.cell? ⟨b2, 2, none⟩ = some (.slice none 0 0) := M.out.c2.cell 2
    have f2 := CBox.frozen M.out.c2 2
    have k3 : W2.cell? ⟨b2, 3, none⟩ = some (.slice none 0 0) := M.out.c2.cell 3
    have f3 := CBox.frozen M.out.c2 3
    have k4 : W2.cell? ⟨b2, 4, none⟩ = some (.int .i64 0) := M.out.c2.cell 4
    have f4 := CBox.frozen M.out.c2 4
    have HF : Hid (CBox (((((W2.setCell ⟨b2, 0, none⟩ (.slice none 0 0)).setCell ⟨b2, 1, none⟩ (.slice none 0 0)).setCell ⟨b2, 2, none⟩ (.slice none 0 0)).setCell ⟨b2, 3, none⟩ (.slice none 0 0)).setCell ⟨b2, 4, none⟩ (.int .i64 0)) b2 28 [.slice none 0 0, .slice none 0 0, .slice none 0 0, .slice none 0 0, .int .i64 0] ∧ Below w.heap.size w (((((W2.setCell ⟨b2, 0, none⟩ (.slice none 0 0)).setCell ⟨b2, 1, none⟩ (.slice none 0 0)).setCell ⟨b2, 2, none⟩ (.slice none 0 0)).setCell ⟨b2, 3, none⟩ (.slice none 0 0)).setCell ⟨b2, 4, none⟩ (.int .i64 0))) := ⟨(((((M.out.c2.set 0 _).set 1 _).set 2 _).set 3 _).set 4 _), M.out.bel.trans (((((((But.refl (fun y => y = b2) W2).setCell ⟨b2, 0, none⟩ _ (Or.inl rfl)).setCell ⟨b2, 1, none⟩ _ (Or.inl rfl)).setCell ⟨b2, 2, none⟩ _ (Or.inl rfl)).setCell ⟨b2, 3, none⟩ _ (Or.inl rfl)).setCell ⟨b2, 4, none⟩ _ (Or.inl rfl)).below (fun g e => by have := GL.out; omega) M.out.bel.size)⟩
    clear M
    go_wp2
    clear k0 k1 k2 k3 k4 f0 f1 f2 f3 f4
    generalize (((((W2.setCell ⟨b2, 0, none⟩ (.slice none 0 0)).setCell ⟨b2, 1, none⟩ (.slice none 0 0)).setCell ⟨b2, 2, none⟩ (.slice none 0 0)).setCell ⟨b2, 3, none⟩ (.slice none 0 0)).setCell ⟨b2, 4, none⟩ (.int .i64 0)) = Z9 at HF ⊢
    refine bodyPost_ret (v := .tuple #[.agg #[.slice none 0 0, .slice none 0 0, .slice none 0 0, .slice none 0 0, .int .i64 0], .int .i64 2]) (results_ct (p := 4) (q := 5) (ty := 28) Try.results27 _ _ _ ⟨b2, 0, none⟩ rfl rfl (run_loadVar_mid Z9 b2 0 28 [.slice none 0 0, .slice none 0 0, .slice none 0 0, .slice none 0 0, .int .i64 0] _ HF.out.1.range Try.underlying28 rfl (by kernel_rfl))) rfl ?_
    exact ⟨by rw [E.out]; exact ⟨_, rfl, DO.zero _ _⟩, by first | exact HF.out.2 | (rw [← GB.out]; exact HF.out.2)⟩
  have q3 : ¬ (65535 : Int) < (nz : Int) := by omega
  obtain ⟨dl, hdl⟩ : ∃ dl, dl = c.d ++ b := ⟨_, rfl⟩
  have HDN : Hid (dl.length = nz) := by rw [hdl]; unfold Hid; rw [List.length_append, HNZ.out]
  have E : Hid (lr = (0, ⟨c.ts, c.cs, c.ss, dl, (nz : Int)⟩)) := by unfold Hid; rw [HLR.out]; unfold layC; rw [if_neg (by simp [HE0.out]), if_neg (by rw [← HNZ.out]; exact q2), if_neg (by rw [← HNZ.out]; exact e2), ← HNZ.out, ← hdl]
  have CN : Hid (∀ (W : World) (u : Value), PL (fun _ => True) W u [c.d, b] → Calls Try.prog 62 #[u] W fun e w' => ∃ v', e = .returned v' ∧ w'.ownsRow W.heap.size 5 1 v' dl.length (bV dl) ∧ Below W.heap.size W w') := fun W u q => by
    have ef : [c.d, b].flatten = dl := by rw [hdl]; simp
    have t := concat_is W u [c.d, b] q (by simp) (by rw [ef]; have := HDN.out; omega)
    rw [ef] at t
    exact t
  clear hdl q2 e2 HLR
  go_upto_region 9 with fail
  clear q3
  refine wp_region_held_drew (S := fun V' => CBox V' b1 28 [.slice ta c.ts.length tc, .slice ca c.cs.length cc, .slice sa c.ss.length sc, .slice da c.d.length dc, .int .i64 c.n]) (by kernel_rfl) (M.out.c1.past below_drew) (fun HH => ?_)
  have BX : Hid (CBox W2.drew b2 28 [.slice none 0 0, .slice none 0 0, .slice none 0 0, .slice none 0 0, .int .i64 0]) := M.out.c2.past below_drew
  have B : Hid (Below bw w W2.drew) := by rw [← GB.out]; exact M.out.bel.drew
  have SRC : Hid (SrC P W2.drew (.slice ta c.ts.length tc) (.slice ca c.cs.length cc) (.slice sa c.ss.length sc) (.slice da c.d.length dc) c ∧ BL R W2.drew (.slice ua b.length uc) b) := ⟨(SRC0.out W2 M.out.bel).1.past below_drew, (SRC0.out W2 M.out.bel).2.past below_drew⟩
  clear M SRC0
  generalize W2.drew = z1 at HH BX B SRC ⊢
  refine wpAnyH_take (i := 0) (v := .pointer (some ⟨b1, 0, none⟩)) ov0 (by kernel_rfl) (by kernel_rfl) (by kernel_rfl) (fun _ _ _ h => h) (Or.inl ⟨by rfl, fun V' hS => ?_⟩) HH ?_
  · go_simp
  simp only [Act.put, List.setIfInBounds_toArray, List.set_cons_zero, List.set_cons_succ]
  refine wpAnyH_take (i := 1) (v := .slice ta c.ts.length tc) ov1 (by kernel_rfl) (by kernel_rfl) (by kernel_rfl) (fun _ _ _ h => h) (Or.inl ⟨by rfl, fun V' hS => ?_⟩) HH ?_
  · have c0 := hS.cell 0
    go_simp
  simp only [Act.put, List.setIfInBounds_toArray, List.set_cons_zero, List.set_cons_succ]
  refine wpAnyH_take (i := 3) (v := .pointer (some ⟨b1, 1, none⟩)) ov3 (by kernel_rfl) (by kernel_rfl) (by kernel_rfl) (fun _ _ _ h => h) (Or.inl ⟨by rfl, fun V' hS => ?_⟩) HH ?_
  · go_simp
  simp only [Act.put, List.setIfInBounds_toArray, List.set_cons_zero, List.set_cons_succ]
  refine wpAnyH_take (i := 4) (v := .slice ca c.cs.length cc) ov4 (by kernel_rfl) (by kernel_rfl) (by kernel_rfl) (fun _ _ _ h => h) (Or.inl ⟨by rfl, fun V' hS => ?_⟩) HH ?_
  · have c0 := hS.cell 1
    go_simp
  simp only [Act.put, List.setIfInBounds_toArray, List.set_cons_zero, List.set_cons_succ]
  refine wpAnyH_take (i := 6) (v := .pointer (some ⟨b1, 2, none⟩)) ov6 (by kernel_rfl) (by kernel_rfl) (by kernel_rfl) (fun _ _ _ h => h) (Or.inl ⟨by rfl, fun V' hS => ?_⟩) HH ?_
  · go_simp
  simp only [Act.put, List.setIfInBounds_toArray, List.set_cons_zero, List.set_cons_succ]
  refine wpAnyH_take (i := 7) (v := .slice sa c.ss.length sc) ov7 (by kernel_rfl) (by kernel_rfl) (by kernel_rfl) (fun _ _ _ h => h) (Or.inl ⟨by rfl, fun V' hS => ?_⟩) HH ?_
  · have c0 := hS.cell 2
    go_simp
  simp only [Act.put, List.setIfInBounds_toArray, List.set_cons_zero, List.set_cons_succ]
  refine wpAnyH_take (i := 9) (v := .pointer (some ⟨b1, 3, none⟩)) ov9 (by kernel_rfl) (by kernel_rfl) (by kernel_rfl) (fun _ _ _ h => h) (Or.inl ⟨by rfl, fun V' hS => ?_⟩) HH ?_
  · go_simp
  simp only [Act.put, List.setIfInBounds_toArray, List.set_cons_zero, List.set_cons_succ]
  refine wpAnyH_take (i := 10) (v := .slice da c.d.length dc) ov10 (by kernel_rfl) (by kernel_rfl) (by kernel_rfl) (fun _ _ _ h => h) (Or.inl ⟨by rfl, fun V' hS => ?_⟩) HH ?_
  · have c0 := hS.cell 3
    go_simp
  simp only [Act.put, List.setIfInBounds_toArray, List.set_cons_zero, List.set_cons_succ]
  refine wpAnyH_take (i := 11) (v := .slice ua b.length uc) ov11 (by kernel_rfl) (by kernel_rfl) (by kernel_rfl) (fun _ _ _ h => h) (Or.inl ⟨by rfl, fun V' hS => ?_⟩) HH ?_
  · go_simp
  simp only [Act.put, List.setIfInBounds_toArray, List.set_cons_zero, List.set_cons_succ]
  refine wpAnyH_take (i := 14) (v := .int .i64 (nz : Int)) ov14 (by kernel_rfl) (by kernel_rfl) (by kernel_rfl) (fun _ _ _ h => h) (Or.inl ⟨by rfl, fun V' hS => ?_⟩) HH ?_
  · go_simp
  simp only [Act.put, List.setIfInBounds_toArray, List.set_cons_zero, List.set_cons_succ]
  refine wpAnyH_ready (rs := [2, 12]) (by kernel_rfl) (by simp) ?_
  refine AllReadyH.cons ov2 (fun K hK => ?_) (AllReadyH.cons ov12 (fun K hK => ?_) AllReadyH.nil)
  · rw [if_pos (by rfl)]
    go_simp
    refine (cloneT_is _ _ c.ts SRC.out.1.t (by have := HSM.out; unfold Small at this; omega)).mono ?_
    rintro e z1 ⟨v9, rfl, hP, hB⟩
    obtain ⟨qa, qc, e9⟩ := owns_sl hP
    subst e9
    have F9 := owns_base hP (Nat.le_trans GE.out B.out.size)
    clear hP
    have H9 := HH.past hB
    clear HH
    have HH := H9
    clear H9
    have q9 := B.out.trans (hB.mono (Nat.le_trans GE.out B.out.size))
    clear B
    have B : Hid (Below bw w z1) := q9
    clear q9
    have q9 := BX.out.past hB
    clear BX
    have BX : Hid (CBox z1 b2 28 [.slice none 0 0, .slice none 0 0, .slice none 0 0, .slice none 0 0, .int .i64 0]) := q9
    clear q9
    have q9 := And.intro (SRC.out.1.past hB) (SRC.out.2.past hB)
    clear SRC
    have SRC : Hid (SrC P z1 (.slice ta c.ts.length tc) (.slice ca c.cs.length cc) (.slice sa c.ss.length sc) (.slice da c.d.length dc) c ∧ BL R z1 (.slice ua b.length uc) b) := q9
    clear q9
    (try (have q9 := FC.out; clear FC; have FC : Hid (PO bw z1 (.slice xa c.cs.length xc) c.cs) := PO.past q9 hB; clear q9))
    (try (have q9 := FZ.out; clear FZ; have FZ : Hid (PO bw z1 (.slice ya c.ss.length yc) c.ss) := PO.past q9 hB; clear q9))
    (try (have q9 := FB.out; clear FB; have FB : Hid (PL (fun _ => True) z1 (.slice (some ⟨bb, 0, none⟩) 2 2) [c.d, b]) := PL.past q9 hB; clear q9))
    have FT : Hid (z1.ownsRow bw 77 3 (.slice qa c.ts.length qc) c.ts.length (tV c.ts)) := F9
    clear F9 hB
    (try go_wp2_with fail)
    refine hK.out _ _ HH (fun _ => ?_)
    clear hK K
    (try simp only [Act.put, List.setIfInBounds_toArray, List.set_cons_zero, List.set_cons_succ])
    refine wpAnyH_ready (rs := [5, 12]) (by kernel_rfl) (by simp) ?_
    refine AllReadyH.cons ov5 (fun K hK => ?_) (AllReadyH.cons ov12 (fun K hK => ?_) AllReadyH.nil)
    · rw [if_pos (by rfl)]
      go_simp
      refine (copies_is _ _ c.cs SRC.out.1.p (by have := HSM.out; unfold Small at this; omega) (by have := HSM.out; unfold Small at this; omega)).mono ?_
      rintro e z1 ⟨v9, rfl, hP, hB⟩
      obtain ⟨xa, xc, e9⟩ := PO.sl hP
      subst e9
      have F9 := hP.base (Nat.le_trans GE.out B.out.size)
      clear hP
      have H9 := HH.past hB
      clear HH
      have HH := H9
      clear H9
      have q9 := B.out.trans (hB.mono (Nat.le_trans GE.out B.out.size))
      clear B
      have B : Hid (Below bw w z1) := q9
      clear q9
      have q9 := BX.out.past hB
      clear BX
      have BX : Hid (CBox z1 b2 28 [.slice none 0 0, .slice none 0 0, .slice none 0 0, .slice none 0 0, .int .i64 0]) := q9
      clear q9
      have q9 := And.intro (SRC.out.1.past hB) (SRC.out.2.past hB)
      clear SRC
      have SRC : Hid (SrC P z1 (.slice ta c.ts.length tc) (.slice ca c.cs.length cc) (.slice sa c.ss.length sc) (.slice da c.d.length dc) c ∧ BL R z1 (.slice ua b.length uc) b) := q9
      clear q9
      (try (have q9 := FT.out; clear FT; have FT : Hid (z1.ownsRow bw 77 3 (.slice qa c.ts.length qc) c.ts.length (tV c.ts)) := owns_past q9 hB; clear q9))
      (try (have q9 := FZ.out; clear FZ; have FZ : Hid (PO bw z1 (.slice ya c.ss.length yc) c.ss) := PO.past q9 hB; clear q9))
      (try (have q9 := FB.out; clear FB; have FB : Hid (PL (fun _ => True) z1 (.slice (some ⟨bb, 0, none⟩) 2 2) [c.d, b]) := PL.past q9 hB; clear q9))
      have FC : Hid (PO bw z1 (.slice xa c.cs.length xc) c.cs) := F9
      clear F9 hB
      (try go_wp2_with fail)
      refine hK.out _ _ HH (fun _ => ?_)
      clear hK K
      (try simp only [Act.put, List.setIfInBounds_toArray, List.set_cons_zero, List.set_cons_succ])
      refine wpAnyH_ready (rs := [8, 12]) (by kernel_rfl) (by simp) ?_
      refine AllReadyH.cons ov8 (fun K hK => ?_) (AllReadyH.cons ov12 (fun K hK => ?_) AllReadyH.nil)
      · rw [if_pos (by rfl)]
        go_simp
        refine (copies_is _ _ c.ss SRC.out.1.s (by have := HSM.out; unfold Small at this; omega) (by have := HSM.out; unfold Small at this; omega)).mono ?_
        rintro e z1 ⟨v9, rfl, hP, hB⟩
        obtain ⟨ya, yc, e9⟩ := PO.sl hP
        subst e9
        have FAP : Hid (∀ g, OwnV (.slice ya c.ss.length yc) g → ¬ OwnV (.slice xa c.cs.length xc) g) := fun g h1 h2 => by have q1 := (PO.lt hP g h1).1; have q2 := (PO.lt FC.out g h2).2; omega
        have F9 := hP.base (Nat.le_trans GE.out B.out.size)
        clear hP
        have H9 := HH.past hB
        clear HH
        have HH := H9
        clear H9
        have q9 := B.out.trans (hB.mono (Nat.le_trans GE.out B.out.size))
        clear B
        have B : Hid (Below bw w z1) := q9
        clear q9
        have q9 := BX.out.past hB
        clear BX
        have BX : Hid (CBox z1 b2 28 [.slice none 0 0, .slice none 0 0, .slice none 0 0, .slice none 0 0, .int .i64 0]) := q9
        clear q9
        have q9 := And.intro (SRC.out.1.past hB) (SRC.out.2.past hB)
        clear SRC
        have SRC : Hid (SrC P z1 (.slice ta c.ts.length tc) (.slice ca c.cs.length cc) (.slice sa c.ss.length sc) (.slice da c.d.length dc) c ∧ BL R z1 (.slice ua b.length uc) b) := q9
        clear q9
        (try (have q9 := FT.out; clear FT; have FT : Hid (z1.ownsRow bw 77 3 (.slice qa c.ts.length qc) c.ts.length (tV c.ts)) := owns_past q9 hB; clear q9))
        (try (have q9 := FC.out; clear FC; have FC : Hid (PO bw z1 (.slice xa c.cs.length xc) c.cs) := PO.past q9 hB; clear q9))
        (try (have q9 := FB.out; clear FB; have FB : Hid (PL (fun _ => True) z1 (.slice (some ⟨bb, 0, none⟩) 2 2) [c.d, b]) := PL.past q9 hB; clear q9))
        have FZ : Hid (PO bw z1 (.slice ya c.ss.length yc) c.ss) := F9
        clear F9 hB
        (try go_wp2_with fail)
        refine hK.out _ _ HH (fun _ => ?_)
        clear hK K
        (try simp only [Act.put, List.setIfInBounds_toArray, List.set_cons_zero, List.set_cons_succ])
        refine wpAnyH_ready (rs := [12]) (by kernel_rfl) (by simp) ?_
        refine AllReadyH.cons ov12 (fun K hK => ?_) AllReadyH.nil
        rw [if_pos (by rfl)]
        go_simp
        have hB : Below z1.heap.size z1 (z1.alloc (.cells #[.slice da c.d.length dc, .slice ua b.length uc] 22)) := below_alloc _ _
        have F9 := pl_two z1 _ _ c.d b (SRC.out.1.d.mono fun _ _ _ => trivial : BL (fun _ => True) z1 _ c.d) (SRC.out.2.mono fun _ _ _ => trivial)
        have H9 := HH.past hB
        clear HH
        have HH := H9
        clear H9
        have q9 := B.out.trans (hB.mono (Nat.le_trans GE.out B.out.size))
        clear B
        have B : Hid (Below bw w (z1.alloc (.cells #[.slice da c.d.length dc, .slice ua b.length uc] 22))) := q9
        clear q9
        have q9 := BX.out.past hB
        clear BX
        have BX : Hid (CBox (z1.alloc (.cells #[.slice da c.d.length dc, .slice ua b.length uc] 22)) b2 28 [.slice none 0 0, .slice none 0 0, .slice none 0 0, .slice none 0 0, .int .i64 0]) := q9
        clear q9
        have q9 := And.intro (SRC.out.1.past hB) (SRC.out.2.past hB)
        clear SRC
        have SRC : Hid (SrC P (z1.alloc (.cells #[.slice da c.d.length dc, .slice ua b.length uc] 22)) (.slice ta c.ts.length tc) (.slice ca c.cs.length cc) (.slice sa c.ss.length sc) (.slice da c.d.length dc) c ∧ BL R (z1.alloc (.cells #[.slice da c.d.length dc, .slice ua b.length uc] 22)) (.slice ua b.length uc) b) := q9
        clear q9
        (try (have q9 := FT.out; clear FT; have FT : Hid ((z1.alloc (.cells #[.slice da c.d.length dc, .slice ua b.length uc] 22)).ownsRow bw 77 3 (.slice qa c.ts.length qc) c.ts.length (tV c.ts)) := owns_past q9 hB; clear q9))
        (try (have q9 := FC.out; clear FC; have FC : Hid (PO bw (z1.alloc (.cells #[.slice da c.d.length dc, .slice ua b.length uc] 22)) (.slice xa c.cs.length xc) c.cs) := PO.past q9 hB; clear q9))
        (try (have q9 := FZ.out; clear FZ; have FZ : Hid (PO bw (z1.alloc (.cells #[.slice da c.d.length dc, .slice ua b.length uc] 22)) (.slice ya c.ss.length yc) c.ss) := PO.past q9 hB; clear q9))
        have FB : Hid (PL (fun _ => True) (z1.alloc (.cells #[.slice da c.d.length dc, .slice ua b.length uc] 22)) (.slice (some ⟨z1.heap.size, 0, none⟩) 2 2) [c.d, b]) := F9
        clear F9 hB
        refine hK.out _ (z1.alloc (.cells #[.slice da c.d.length dc, .slice ua b.length uc] 22)) HH (fun _ => ?_)
        clear hK K
        (try simp only [Act.put, List.setIfInBounds_toArray, List.set_cons_zero, List.set_cons_succ])
        generalize z1.heap.size = bb at FB ⊢
        (first | generalize (z1.alloc (.cells #[.slice da c.d.length dc, .slice ua b.length uc] 22)) = z1 at HH B BX SRC FB FT FC FZ ⊢ | generalize (z1.alloc (.cells #[.slice da c.d.length dc, .slice ua b.length uc] 22)) = z1 at HH B BX SRC FB FT FC ⊢ | generalize (z1.alloc (.cells #[.slice da c.d.length dc, .slice ua b.length uc] 22)) = z1 at HH B BX SRC FB FT ⊢ | generalize (z1.alloc (.cells #[.slice da c.d.length dc, .slice ua b.length uc] 22)) = z1 at HH B BX SRC FB ⊢)
        refine wpAnyH_ready (rs := [13]) (by kernel_rfl) (by simp) ?_
        refine AllReadyH.cons ov13 (fun K hK => ?_) AllReadyH.nil
        rw [if_pos (by rfl)]
        go_simp
        refine (CN.out _ _ FB.out).mono ?_
        rintro e z1 ⟨v9, rfl, hP, hB⟩
        obtain ⟨ea, ec, e9⟩ := owns_sl hP
        subst e9
        have F9 := owns_base hP (Nat.le_trans GE.out B.out.size)
        clear hP FB
        have H9 := HH.past hB
        clear HH
        have HH := H9
        clear H9
        have q9 := B.out.trans (hB.mono (Nat.le_trans GE.out B.out.size))
        clear B
        have B : Hid (Below bw w z1) := q9
        clear q9
        have q9 := BX.out.past hB
        clear BX
        have BX : Hid (CBox z1 b2 28 [.slice none 0 0, .slice none 0 0, .slice none 0 0, .slice none 0 0, .int .i64 0]) := q9
        clear q9
        have q9 := And.intro (SRC.out.1.past hB) (SRC.out.2.past hB)
        clear SRC
        have SRC : Hid (SrC P z1 (.slice ta c.ts.length tc) (.slice ca c.cs.length cc) (.slice sa c.ss.length sc) (.slice da c.d.length dc) c ∧ BL R z1 (.slice ua b.length uc) b) := q9
        clear q9
        (try (have q9 := FT.out; clear FT; have FT : Hid (z1.ownsRow bw 77 3 (.slice qa c.ts.length qc) c.ts.length (tV c.ts)) := owns_past q9 hB; clear q9))
        (try (have q9 := FC.out; clear FC; have FC : Hid (PO bw z1 (.slice xa c.cs.length xc) c.cs) := PO.past q9 hB; clear q9))
        (try (have q9 := FZ.out; clear FZ; have FZ : Hid (PO bw z1 (.slice ya c.ss.length yc) c.ss) := PO.past q9 hB; clear q9))
        have FD : Hid (z1.ownsRow bw 5 1 (.slice ea dl.length ec) dl.length (bV dl)) := F9
        clear F9 hB
        (try go_wp2_with fail)
        refine hK.out _ _ HH (fun _ => ?_)
        clear hK K
        (try simp only [Act.put, List.setIfInBounds_toArray, List.set_cons_zero, List.set_cons_succ])
        refine wpAnyH_take (i := 15) (v := .agg #[.slice qa c.ts.length qc, .slice xa c.cs.length xc, .slice ya c.ss.length yc, .slice ea dl.length ec, .int .i64 (nz : Int)]) ov15 (by kernel_rfl) (by kernel_rfl) (by kernel_rfl) (fun _ _ _ h => h) (Or.inl ⟨by rfl, fun V' hS => ?_⟩) HH ?_
        · go_simp
        simp only [Act.put, List.setIfInBounds_toArray, List.set_cons_zero, List.set_cons_succ]
        refine wpAnyH_ready (rs := [16]) (by kernel_rfl) (by simp) ?_
        refine AllReadyH.cons ov16 (fun K hK => ?_) AllReadyH.nil
        rw [if_pos (by rfl)]
        have k0 : z1.cell? ⟨b2, 0, none⟩ = some (.slice none 0 0) := BX.out.cell 0
        have k1 : z1.cell? ⟨b2, 1, none⟩ = some (.slice none 0 0) := BX.out.cell 1
        have k2 : z1.cell? ⟨b2, 2, none⟩ = some (.slice none 0 0) := BX.out.cell 2
        have k3 : z1.cell? ⟨b2, 3, none⟩ = some (.slice none 0 0) := BX.out.cell 3
        have k4 : z1.cell? ⟨b2, 4, none⟩ = some (.int .i64 0) := BX.out.cell 4
        have f0 := CBox.frozen BX.out 0
        have f1 := CBox.frozen BX.out 1
        have f2 := CBox.frozen BX.out 2
        have f3 := CBox.frozen BX.out 3
        have f4 := CBox.frozen BX.out 4
        go_simp
        clear k0 k1 k2 k3 k4 f0 f1 f2 f3 f4
        have hs : But (fun y => y = b2) z1 (((((z1.setCell ⟨b2, 0, none⟩ (.slice qa c.ts.length qc)).setCell ⟨b2, 1, none⟩ (.slice xa c.cs.length xc)).setCell ⟨b2, 2, none⟩ (.slice ya c.ss.length yc)).setCell ⟨b2, 3, none⟩ (.slice ea dl.length ec)).setCell ⟨b2, 4, none⟩ (.int .i64 (nz : Int))) := ((((((But.refl (fun y => y = b2) z1).setCell ⟨b2, 0, none⟩ _ (Or.inl rfl)).setCell ⟨b2, 1, none⟩ _ (Or.inl rfl)).setCell ⟨b2, 2, none⟩ _ (Or.inl rfl)).setCell ⟨b2, 3, none⟩ _ (Or.inl rfl)).setCell ⟨b2, 4, none⟩ _ (Or.inl rfl))
        have ra : Alien z1 b2 := ⟨_, _, BX.out, by decide, by decide, by decide⟩
        have cb : CBox (((((z1.setCell ⟨b2, 0, none⟩ (.slice qa c.ts.length qc)).setCell ⟨b2, 1, none⟩ (.slice xa c.cs.length xc)).setCell ⟨b2, 2, none⟩ (.slice ya c.ss.length yc)).setCell ⟨b2, 3, none⟩ (.slice ea dl.length ec)).setCell ⟨b2, 4, none⟩ (.int .i64 (nz : Int))) b2 28 [.slice qa c.ts.length qc, .slice xa c.cs.length xc, .slice ya c.ss.length yc, .slice ea dl.length ec, .int .i64 (nz : Int)] := (((((BX.out.set 0 _).set 1 _).set 2 _).set 3 _).set 4 _)
        have HF : Hid (CBox (((((z1.setCell ⟨b2, 0, none⟩ (.slice qa c.ts.length qc)).setCell ⟨b2, 1, none⟩ (.slice xa c.cs.length xc)).setCell ⟨b2, 2, none⟩ (.slice ya c.ss.length yc)).setCell ⟨b2, 3, none⟩ (.slice ea dl.length ec)).setCell ⟨b2, 4, none⟩ (.int .i64 (nz : Int))) b2 28 [.slice qa c.ts.length qc, .slice xa c.cs.length xc, .slice ya c.ss.length yc, .slice ea dl.length ec, .int .i64 (nz : Int)] ∧ DO bw (((((z1.setCell ⟨b2, 0, none⟩ (.slice qa c.ts.length qc)).setCell ⟨b2, 1, none⟩ (.slice xa c.cs.length xc)).setCell ⟨b2, 2, none⟩ (.slice ya c.ss.length yc)).setCell ⟨b2, 3, none⟩ (.slice ea dl.length ec)).setCell ⟨b2, 4, none⟩ (.int .i64 (nz : Int))) (.agg #[.slice qa c.ts.length qc, .slice xa c.cs.length xc, .slice ya c.ss.length yc, .slice ea dl.length ec, .int .i64 (nz : Int)]) ⟨c.ts, c.cs, c.ss, dl, (nz : Int)⟩ ∧ Below bw w (((((z1.setCell ⟨b2, 0, none⟩ (.slice qa c.ts.length qc)).setCell ⟨b2, 1, none⟩ (.slice xa c.cs.length xc)).setCell ⟨b2, 2, none⟩ (.slice ya c.ss.length yc)).setCell ⟨b2, 3, none⟩ (.slice ea dl.length ec)).setCell ⟨b2, 4, none⟩ (.int .i64 (nz : Int)))) := ⟨cb, ⟨_, _, _, _, _, _, _, _, rfl, row_alienT FT.out hs ra, PO.alien FC.out hs ra, PO.alien FZ.out hs ra, row_alien FD.out hs ra, FAP.out⟩, B.out.trans (hs.below (fun g e => by have := GL.out; have := GB.out; omega) (Nat.le_trans GE.out B.out.size))⟩
        have HHN := HH.but hs (by have := GL.out; omega)
        clear hs ra cb HH
        refine hK.out _ (((((z1.setCell ⟨b2, 0, none⟩ (.slice qa c.ts.length qc)).setCell ⟨b2, 1, none⟩ (.slice xa c.cs.length xc)).setCell ⟨b2, 2, none⟩ (.slice ya c.ss.length yc)).setCell ⟨b2, 3, none⟩ (.slice ea dl.length ec)).setCell ⟨b2, 4, none⟩ (.int .i64 (nz : Int))) HHN (fun _ => ?_)
        clear hK K
        (try simp only [Act.put, List.setIfInBounds_toArray, List.set_cons_zero, List.set_cons_succ])
        generalize (((((z1.setCell ⟨b2, 0, none⟩ (.slice qa c.ts.length qc)).setCell ⟨b2, 1, none⟩ (.slice xa c.cs.length xc)).setCell ⟨b2, 2, none⟩ (.slice ya c.ss.length yc)).setCell ⟨b2, 3, none⟩ (.slice ea dl.length ec)).setCell ⟨b2, 4, none⟩ (.int .i64 (nz : Int))) = Z9 at HF HHN ⊢
        clear B BX SRC FT FC FZ FD FAP
        refine wpAnyH_take (i := 17) (v := .int .i64 0) ov17 (by kernel_rfl) (by kernel_rfl) (by kernel_rfl) (fun _ _ _ h => h) (Or.inl ⟨by rfl, fun V' hS => ?_⟩) HHN ?_
        · go_simp
        simp only [Act.put, List.setIfInBounds_toArray, List.set_cons_zero, List.set_cons_succ]
        refine wpAnyH_done (by kernel_rfl) ?_ _
        clear HHN
        go_wp2
        refine bodyPost_ret (v := .tuple #[.agg #[.slice qa c.ts.length qc, .slice xa c.cs.length xc, .slice ya c.ss.length yc, .slice ea dl.length ec, .int .i64 (nz : Int)], .int .i64 0]) (results_ct (p := 4) (q := 5) (ty := 28) Try.results27 _ _ _ ⟨b2, 0, none⟩ rfl rfl (run_loadVar_mid Z9 b2 0 28 [.slice qa c.ts.length qc, .slice xa c.cs.length xc, .slice ya c.ss.length yc, .slice ea dl.length ec, .int .i64 (nz : Int)] _ HF.out.1.range Try.underlying28 rfl (by kernel_rfl))) rfl ?_
        refine ⟨?_, ?_⟩
        · rw [E.out]
          exact ⟨_, rfl, by first | exact HF.out.2.1 | (rw [GB.out]; exact HF.out.2.1) | (rw [← GB.out]; exact HF.out.2.1)⟩
        · (first | exact HF.out.2.2 | (rw [GB.out]; exact HF.out.2.2))
      · rw [if_pos (by rfl)]
        go_simp
        have hB : Below z1.heap.size z1 (z1.alloc (.cells #[.slice da c.d.length dc, .slice ua b.length uc] 22)) := below_alloc _ _
        have F9 := pl_two z1 _ _ c.d b (SRC.out.1.d.mono fun _ _ _ => trivial : BL (fun _ => True) z1 _ c.d) (SRC.out.2.mono fun _ _ _ => trivial)
        have H9 := HH.past hB
        clear HH
        have HH := H9
        clear H9
        have q9 := B.out.trans (hB.mono (Nat.le_trans GE.out B.out.size))
        clear B
        have B : Hid (Below bw w (z1.alloc (.cells #[.slice da c.d.length dc, .slice ua b.length uc] 22))) := q9
        clear q9
        have q9 := BX.out.past hB
        clear BX
        have BX : Hid (CBox (z1.alloc (.cells #[.slice da c.d.length dc, .slice ua b.length uc] 22)) b2 28 [.slice none 0 0, .slice none 0 0, .slice none 0 0, .slice none 0 0, .int .i64 0]) := q9
        clear q9
        have q9 := And.intro (SRC.out.1.past hB) (SRC.out.2.past hB)
        clear SRC
        have SRC : Hid (SrC P (z1.alloc (.cells #[.slice da c.d.length dc, .slice ua b.length uc] 22)) (.slice ta c.ts.length tc) (.slice ca c.cs.length cc) (.slice sa c.ss.length sc) (.slice da c.d.length dc) c ∧ BL R (z1.alloc (.cells #[.slice da c.d.length dc, .slice ua b.length uc] 22)) (.slice ua b.length uc) b) := q9
        clear q9
        (try (have q9 := FT.out; clear FT; have FT : Hid ((z1.alloc (.cells #[.slice da c.d.length dc, .slice ua b.length uc] 22)).ownsRow bw 77 3 (.slice qa c.ts.length qc) c.ts.length (tV c.ts)) := owns_past q9 hB; clear q9))
        (try (have q9 := FC.out; clear FC; have FC : Hid (PO bw (z1.alloc (.cells #[.slice da c.d.length dc, .slice ua b.length uc] 22)) (.slice xa c.cs.length xc) c.cs) := PO.past q9 hB; clear q9))
        (try (have q9 := FZ.out; clear FZ; have FZ : Hid (PO bw (z1.alloc (.cells #[.slice da c.d.length dc, .slice ua b.length uc] 22)) (.slice ya c.ss.length yc) c.ss) := PO.past q9 hB; clear q9))
        have FB : Hid (PL (fun _ => True) (z1.alloc (.cells #[.slice da c.d.length dc, .slice ua b.length uc] 22)) (.slice (some ⟨z1.heap.size, 0, none⟩) 2 2) [c.d, b]) := F9
        clear F9 hB
        refine hK.out _ (z1.alloc (.cells #[.slice da c.d.length dc, .slice ua b.length uc] 22)) HH (fun _ => ?_)
        clear hK K
        (try simp only [Act.put, List.setIfInBounds_toArray, List.set_cons_zero, List.set_cons_succ])
        generalize z1.heap.size = bb at FB ⊢
        (first | generalize (z1.alloc (.cells #[.slice da c.d.length dc, .slice ua b.length uc] 22)) = z1 at HH B BX SRC FB FT FC FZ ⊢ | generalize (z1.alloc (.cells #[.slice da c.d.length dc, .slice ua b.length uc] 22)) = z1 at HH B BX SRC FB FT FC ⊢ | generalize (z1.alloc (.cells #[.slice da c.d.length dc, .slice ua b.length uc] 22)) = z1 at HH B BX SRC FB FT ⊢ | generalize (z1.alloc (.cells #[.slice da c.d.length dc, .slice ua b.length uc] 22)) = z1 at HH B BX SRC FB ⊢)
        refine wpAnyH_ready (rs := [8]) (by kernel_rfl) (by simp) ?_
        refine AllReadyH.cons ov8 (fun K hK => ?_) AllReadyH.nil
        rw [if_pos (by rfl)]
        go_simp
        refine (copies_is _ _ c.ss SRC.out.1.s (by have := HSM.out; unfold Small at this; omega) (by have := HSM.out; unfold Small at this; omega)).mono ?_
        rintro e z1 ⟨v9, rfl, hP, hB⟩
        obtain ⟨ya, yc, e9⟩ := PO.sl hP
        subst e9
        have FAP : Hid (∀ g, OwnV (.slice ya c.ss.length yc) g → ¬ OwnV (.slice xa c.cs.length xc) g) := fun g h1 h2 => by have q1 := (PO.lt hP g h1).1; have q2 := (PO.lt FC.out g h2).2; omega
        have F9 := hP.base (Nat.le_trans GE.out B.out.size)
        clear hP
        have H9 := HH.past hB
        clear HH
        have HH := H9
        clear H9
        have q9 := B.out.trans (hB.mono (Nat.le_trans GE.out B.out.size))
        clear B
        have B : Hid (Below bw w z1) := q9
        clear q9
        have q9 := BX.out.past hB
        clear BX
        have BX : Hid (CBox z1 b2 28 [.slice none 0 0, .slice none 0 0, .slice none 0 0, .slice none 0 0, .int .i64 0]) := q9
        clear q9
        have q9 := And.intro (SRC.out.1.past hB) (SRC.out.2.past hB)
        clear SRC
        have SRC : Hid (SrC P z1 (.slice ta c.ts.length tc) (.slice ca c.cs.length cc) (.slice sa c.ss.length sc) (.slice da c.d.length dc) c ∧ BL R z1 (.slice ua b.length uc) b) := q9
        clear q9
        (try (have q9 := FT.out; clear FT; have FT : Hid (z1.ownsRow bw 77 3 (.slice qa c.ts.length qc) c.ts.length (tV c.ts)) := owns_past q9 hB; clear q9))
        (try (have q9 := FC.out; clear FC; have FC : Hid (PO bw z1 (.slice xa c.cs.length xc) c.cs) := PO.past q9 hB; clear q9))
        (try (have q9 := FB.out; clear FB; have FB : Hid (PL (fun _ => True) z1 (.slice (some ⟨bb, 0, none⟩) 2 2) [c.d, b]) := PL.past q9 hB; clear q9))
        have FZ : Hid (PO bw z1 (.slice ya c.ss.length yc) c.ss) := F9
        clear F9 hB
        (try go_wp2_with fail)
        refine hK.out _ _ HH (fun _ => ?_)
        clear hK K
        (try simp only [Act.put, List.setIfInBounds_toArray, List.set_cons_zero, List.set_cons_succ])
        refine wpAnyH_ready (rs := [13]) (by kernel_rfl) (by simp) ?_
        refine AllReadyH.cons ov13 (fun K hK => ?_) AllReadyH.nil
        rw [if_pos (by rfl)]
        go_simp
        refine (CN.out _ _ FB.out).mono ?_
        rintro e z1 ⟨v9, rfl, hP, hB⟩
        obtain ⟨ea, ec, e9⟩ := owns_sl hP
        subst e9
        have F9 := owns_base hP (Nat.le_trans GE.out B.out.size)
        clear hP FB
        have H9 := HH.past hB
        clear HH
        have HH := H9
        clear H9
        have q9 := B.out.trans (hB.mono (Nat.le_trans GE.out B.out.size))
        clear B
        have B : Hid (Below bw w z1) := q9
        clear q9
        have q9 := BX.out.past hB
        clear BX
        have BX : Hid (CBox z1 b2 28 [.slice none 0 0, .slice none 0 0, .slice none 0 0, .slice none 0 0, .int .i64 0]) := q9
        clear q9
        have q9 := And.intro (SRC.out.1.past hB) (SRC.out.2.past hB)
        clear SRC
        have SRC : Hid (SrC P z1 (.slice ta c.ts.length tc) (.slice ca c.cs.length cc) (.slice sa c.ss.length sc) (.slice da c.d.length dc) c ∧ BL R z1 (.slice ua b.length uc) b) := q9
        clear q9
        (try (have q9 := FT.out; clear FT; have FT : Hid (z1.ownsRow bw 77 3 (.slice qa c.ts.length qc) c.ts.length (tV c.ts)) := owns_past q9 hB; clear q9))
        (try (have q9 := FC.out; clear FC; have FC : Hid (PO bw z1 (.slice xa c.cs.length xc) c.cs) := PO.past q9 hB; clear q9))
        (try (have q9 := FZ.out; clear FZ; have FZ : Hid (PO bw z1 (.slice ya c.ss.length yc) c.ss) := PO.past q9 hB; clear q9))
        have FD : Hid (z1.ownsRow bw 5 1 (.slice ea dl.length ec) dl.length (bV dl)) := F9
        clear F9 hB
        (try go_wp2_with fail)
        refine hK.out _ _ HH (fun _ => ?_)
        clear hK K
        (try simp only [Act.put, List.setIfInBounds_toArray, List.set_cons_zero, List.set_cons_succ])
        refine wpAnyH_take (i := 15) (v := .agg #[.slice qa c.ts.length qc, .slice xa c.cs.length xc, .slice ya c.ss.length yc, .slice ea dl.length ec, .int .i64 (nz : Int)]) ov15 (by kernel_rfl) (by kernel_rfl) (by kernel_rfl) (fun _ _ _ h => h) (Or.inl ⟨by rfl, fun V' hS => ?_⟩) HH ?_
        · go_simp
        simp only [Act.put, List.setIfInBounds_toArray, List.set_cons_zero, List.set_cons_succ]
        refine wpAnyH_ready (rs := [16]) (by kernel_rfl) (by simp) ?_
        refine AllReadyH.cons ov16 (fun K hK => ?_) AllReadyH.nil
        rw [if_pos (by rfl)]
        have k0 : z1.cell? ⟨b2, 0, none⟩ = some (.slice none 0 0) := BX.out.cell 0
        have k1 : z1.cell? ⟨b2, 1, none⟩ = some (.slice none 0 0) := BX.out.cell 1
        have k2 : z1.cell? ⟨b2, 2, none⟩ = some (.slice none 0 0) := BX.out.cell 2
        have k3 : z1.cell? ⟨b2, 3, none⟩ = some (.slice none 0 0) := BX.out.cell 3
        have k4 : z1.cell? ⟨b2, 4, none⟩ = some (.int .i64 0) := BX.out.cell 4
        have f0 := CBox.frozen BX.out 0
        have f1 := CBox.frozen BX.out 1
        have f2 := CBox.frozen BX.out 2
        have f3 := CBox.frozen BX.out 3
        have f4 := CBox.frozen BX.out 4
        go_simp
        clear k0 k1 k2 k3 k4 f0 f1 f2 f3 f4
        have hs : But (fun y => y = b2) z1 (((((z1.setCell ⟨b2, 0, none⟩ (.slice qa c.ts.length qc)).setCell ⟨b2, 1, none⟩ (.slice xa c.cs.length xc)).setCell ⟨b2, 2, none⟩ (.slice ya c.ss.length yc)).setCell ⟨b2, 3, none⟩ (.slice ea dl.length ec)).setCell ⟨b2, 4, none⟩ (.int .i64 (nz : Int))) := ((((((But.refl (fun y => y = b2) z1).setCell ⟨b2, 0, none⟩ _ (Or.inl rfl)).setCell ⟨b2, 1, none⟩ _ (Or.inl rfl)).setCell ⟨b2, 2, none⟩ _ (Or.inl rfl)).setCell ⟨b2, 3, none⟩ _ (Or.inl rfl)).setCell ⟨b2, 4, none⟩ _ (Or.inl rfl))
        have ra : Alien z1 b2 := ⟨_, _, BX.out, by decide, by decide, by decide⟩
        have cb : CBox (((((z1.setCell ⟨b2, 0, none⟩ (.slice qa c.ts.length qc)).setCell ⟨b2, 1, none⟩ (.slice xa c.cs.length xc)).setCell ⟨b2, 2, none⟩ (.slice ya c.ss.length yc)).setCell ⟨b2, 3, none⟩ (.slice ea dl.length ec)).setCell ⟨b2, 4, none⟩ (.int .i64 (nz : Int))) b2 28 [.slice qa c.ts.length qc, .slice xa c.cs.length xc, .slice ya c.ss.length yc, .slice ea dl.length ec, .int .i64 (nz : Int)] := (((((BX.out.set 0 _).set 1 _).set 2 _).set 3 _).set 4 _)
        have HF : Hid (CBox (((((z1.setCell ⟨b2, 0, none⟩ (.slice qa c.ts.length qc)).setCell ⟨b2, 1, none⟩ (.slice xa c.cs.length xc)).setCell ⟨b2, 2, none⟩ (.slice ya c.ss.length yc)).setCell ⟨b2, 3, none⟩ (.slice ea dl.length ec)).setCell ⟨b2, 4, none⟩ (.int .i64 (nz : Int))) b2 28 [.slice qa c.ts.length qc, .slice xa c.cs.length xc, .slice ya c.ss.length yc, .slice ea dl.length ec, .int .i64 (nz : Int)] ∧ DO bw (((((z1.setCell ⟨b2, 0, none⟩ (.slice qa c.ts.length qc)).setCell ⟨b2, 1, none⟩ (.slice xa c.cs.length xc)).setCell ⟨b2, 2, none⟩ (.slice ya c.ss.length yc)).setCell ⟨b2, 3, none⟩ (.slice ea dl.length ec)).setCell ⟨b2, 4, none⟩ (.int .i64 (nz : Int))) (.agg #[.slice qa c.ts.length qc, .slice xa c.cs.length xc, .slice ya c.ss.length yc, .slice ea dl.length ec, .int .i64 (nz : Int)]) ⟨c.ts, c.cs, c.ss, dl, (nz : Int)⟩ ∧ Below bw w (((((z1.setCell ⟨b2, 0, none⟩ (.slice qa c.ts.length qc)).setCell ⟨b2, 1, none⟩ (.slice xa c.cs.length xc)).setCell ⟨b2, 2, none⟩ (.slice ya c.ss.length yc)).setCell ⟨b2, 3, none⟩ (.slice ea dl.length ec)).setCell ⟨b2, 4, none⟩ (.int .i64 (nz : Int)))) := ⟨cb, ⟨_, _, _, _, _, _, _, _, rfl, row_alienT FT.out hs ra, PO.alien FC.out hs ra, PO.alien FZ.out hs ra, row_alien FD.out hs ra, FAP.out⟩, B.out.trans (hs.below (fun g e => by have := GL.out; have := GB.out; omega) (Nat.le_trans GE.out B.out.size))⟩
        have HHN := HH.but hs (by have := GL.out; omega)
        clear hs ra cb HH
        refine hK.out _ (((((z1.setCell ⟨b2, 0, none⟩ (.slice qa c.ts.length qc)).setCell ⟨b2, 1, none⟩ (.slice xa c.cs.length xc)).setCell ⟨b2, 2, none⟩ (.slice ya c.ss.length yc)).setCell ⟨b2, 3, none⟩ (.slice ea dl.length ec)).setCell ⟨b2, 4, none⟩ (.int .i64 (nz : Int))) HHN (fun _ => ?_)
        clear hK K
        (try simp only [Act.put, List.setIfInBounds_toArray, List.set_cons_zero, List.set_cons_succ])
        generalize (((((z1.setCell ⟨b2, 0, none⟩ (.slice qa c.ts.length qc)).setCell ⟨b2, 1, none⟩ (.slice xa c.cs.length xc)).setCell ⟨b2, 2, none⟩ (.slice ya c.ss.length yc)).setCell ⟨b2, 3, none⟩ (.slice ea dl.length ec)).setCell ⟨b2, 4, none⟩ (.int .i64 (nz : Int))) = Z9 at HF HHN ⊢
        clear B BX SRC FT FC FZ FD FAP
        refine wpAnyH_take (i := 17) (v := .int .i64 0) ov17 (by kernel_rfl) (by kernel_rfl) (by kernel_rfl) (fun _ _ _ h => h) (Or.inl ⟨by rfl, fun V' hS => ?_⟩) HHN ?_
        · go_simp
        simp only [Act.put, List.setIfInBounds_toArray, List.set_cons_zero, List.set_cons_succ]
        refine wpAnyH_done (by kernel_rfl) ?_ _
        clear HHN
        go_wp2
        refine bodyPost_ret (v := .tuple #[.agg #[.slice qa c.ts.length qc, .slice xa c.cs.length xc, .slice ya c.ss.length yc, .slice ea dl.length ec, .int .i64 (nz : Int)], .int .i64 0]) (results_ct (p := 4) (q := 5) (ty := 28) Try.results27 _ _ _ ⟨b2, 0, none⟩ rfl rfl (run_loadVar_mid Z9 b2 0 28 [.slice qa c.ts.length qc, .slice xa c.cs.length xc, .slice ya c.ss.length yc, .slice ea dl.length ec, .int .i64 (nz : Int)] _ HF.out.1.range Try.underlying28 rfl (by kernel_rfl))) rfl ?_
        refine ⟨?_, ?_⟩
        · rw [E.out]
          exact ⟨_, rfl, by first | exact HF.out.2.1 | (rw [GB.out]; exact HF.out.2.1) | (rw [← GB.out]; exact HF.out.2.1)⟩
        · (first | exact HF.out.2.2 | (rw [GB.out]; exact HF.out.2.2))
    · rw [if_pos (by rfl)]
      go_simp
      have hB : Below z1.heap.size z1 (z1.alloc (.cells #[.slice da c.d.length dc, .slice ua b.length uc] 22)) := below_alloc _ _
      have F9 := pl_two z1 _ _ c.d b (SRC.out.1.d.mono fun _ _ _ => trivial : BL (fun _ => True) z1 _ c.d) (SRC.out.2.mono fun _ _ _ => trivial)
      have H9 := HH.past hB
      clear HH
      have HH := H9
      clear H9
      have q9 := B.out.trans (hB.mono (Nat.le_trans GE.out B.out.size))
      clear B
      have B : Hid (Below bw w (z1.alloc (.cells #[.slice da c.d.length dc, .slice ua b.length uc] 22))) := q9
      clear q9
      have q9 := BX.out.past hB
      clear BX
      have BX : Hid (CBox (z1.alloc (.cells #[.slice da c.d.length dc, .slice ua b.length uc] 22)) b2 28 [.slice none 0 0, .slice none 0 0, .slice none 0 0, .slice none 0 0, .int .i64 0]) := q9
      clear q9
      have q9 := And.intro (SRC.out.1.past hB) (SRC.out.2.past hB)
      clear SRC
      have SRC : Hid (SrC P (z1.alloc (.cells #[.slice da c.d.length dc, .slice ua b.length uc] 22)) (.slice ta c.ts.length tc) (.slice ca c.cs.length cc) (.slice sa c.ss.length sc) (.slice da c.d.length dc) c ∧ BL R (z1.alloc (.cells #[.slice da c.d.length dc, .slice ua b.length uc] 22)) (.slice ua b.length uc) b) := q9
      clear q9
      (try (have q9 := FT.out; clear FT; have FT : Hid ((z1.alloc (.cells #[.slice da c.d.length dc, .slice ua b.length uc] 22)).ownsRow bw 77 3 (.slice qa c.ts.length qc) c.ts.length (tV c.ts)) := owns_past q9 hB; clear q9))
      (try (have q9 := FC.out; clear FC; have FC : Hid (PO bw (z1.alloc (.cells #[.slice da c.d.length dc, .slice ua b.length uc] 22)) (.slice xa c.cs.length xc) c.cs) := PO.past q9 hB; clear q9))
      (try (have q9 := FZ.out; clear FZ; have FZ : Hid (PO bw (z1.alloc (.cells #[.slice da c.d.length dc, .slice ua b.length uc] 22)) (.slice ya c.ss.length yc) c.ss) := PO.past q9 hB; clear q9))
      have FB : Hid (PL (fun _ => True) (z1.alloc (.cells #[.slice da c.d.length dc, .slice ua b.length uc] 22)) (.slice (some ⟨z1.heap.size, 0, none⟩) 2 2) [c.d, b]) := F9
      clear F9 hB
      refine hK.out _ (z1.alloc (.cells #[.slice da c.d.length dc, .slice ua b.length uc] 22)) HH (fun _ => ?_)
      clear hK K
      (try simp only [Act.put, List.setIfInBounds_toArray, List.set_cons_zero, List.set_cons_succ])
      generalize z1.heap.size = bb at FB ⊢
      (first | generalize (z1.alloc (.cells #[.slice da c.d.length dc, .slice ua b.length uc] 22)) = z1 at HH B BX SRC FB FT FC FZ ⊢ | generalize (z1.alloc (.cells #[.slice da c.d.length dc, .slice ua b.length uc] 22)) = z1 at HH B BX SRC FB FT FC ⊢ | generalize (z1.alloc (.cells #[.slice da c.d.length dc, .slice ua b.length uc] 22)) = z1 at HH B BX SRC FB FT ⊢ | generalize (z1.alloc (.cells #[.slice da c.d.length dc, .slice ua b.length uc] 22)) = z1 at HH B BX SRC FB ⊢)
      refine wpAnyH_ready (rs := [5]) (by kernel_rfl) (by simp) ?_
      refine AllReadyH.cons ov5 (fun K hK => ?_) AllReadyH.nil
      rw [if_pos (by rfl)]
      go_simp
      refine (copies_is _ _ c.cs SRC.out.1.p (by have := HSM.out; unfold Small at this; omega) (by have := HSM.out; unfold Small at this; omega)).mono ?_
      rintro e z1 ⟨v9, rfl, hP, hB⟩
      obtain ⟨xa, xc, e9⟩ := PO.sl hP
      subst e9
      have F9 := hP.base (Nat.le_trans GE.out B.out.size)
      clear hP
      have H9 := HH.past hB
      clear HH
      have HH := H9
      clear H9
      have q9 := B.out.trans (hB.mono (Nat.le_trans GE.out B.out.size))
      clear B
      have B : Hid (Below bw w z1) := q9
      clear q9
      have q9 := BX.out.past hB
      clear BX
      have BX : Hid (CBox z1 b2 28 [.slice none 0 0, .slice none 0 0, .slice none 0 0, .slice none 0 0, .int .i64 0]) := q9
      clear q9
      have q9 := And.intro (SRC.out.1.past hB) (SRC.out.2.past hB)
      clear SRC
      have SRC : Hid (SrC P z1 (.slice ta c.ts.length tc) (.slice ca c.cs.length cc) (.slice sa c.ss.length sc) (.slice da c.d.length dc) c ∧ BL R z1 (.slice ua b.length uc) b) := q9
      clear q9
      (try (have q9 := FT.out; clear FT; have FT : Hid (z1.ownsRow bw 77 3 (.slice qa c.ts.length qc) c.ts.length (tV c.ts)) := owns_past q9 hB; clear q9))
      (try (have q9 := FZ.out; clear FZ; have FZ : Hid (PO bw z1 (.slice ya c.ss.length yc) c.ss) := PO.past q9 hB; clear q9))
      (try (have q9 := FB.out; clear FB; have FB : Hid (PL (fun _ => True) z1 (.slice (some ⟨bb, 0, none⟩) 2 2) [c.d, b]) := PL.past q9 hB; clear q9))
      have FC : Hid (PO bw z1 (.slice xa c.cs.length xc) c.cs) := F9
      clear F9 hB
      (try go_wp2_with fail)
      refine hK.out _ _ HH (fun _ => ?_)
      clear hK K
      (try simp only [Act.put, List.setIfInBounds_toArray, List.set_cons_zero, List.set_cons_succ])
      refine wpAnyH_ready (rs := [8]) (by kernel_rfl) (by simp) ?_
      refine AllReadyH.cons ov8 (fun K hK => ?_) AllReadyH.nil
      rw [if_pos (by rfl)]
      go_simp
      refine (copies_is _ _ c.ss SRC.out.1.s (by have := HSM.out; unfold Small at this; omega) (by have := HSM.out; unfold Small at this; omega)).mono ?_
      rintro e z1 ⟨v9, rfl, hP, hB⟩
      obtain ⟨ya, yc, e9⟩ := PO.sl hP
      subst e9
      have FAP : Hid (∀ g, OwnV (.slice ya c.ss.length yc) g → ¬ OwnV (.slice xa c.cs.length xc) g) := fun g h1 h2 => by have q1 := (PO.lt hP g h1).1; have q2 := (PO.lt FC.out g h2).2; omega
      have F9 := hP.base (Nat.le_trans GE.out B.out.size)
      clear hP
      have H9 := HH.past hB
      clear HH
      have HH := H9
      clear H9
      have q9 := B.out.trans (hB.mono (Nat.le_trans GE.out B.out.size))
      clear B
      have B : Hid (Below bw w z1) := q9
      clear q9
      have q9 := BX.out.past hB
      clear BX
      have BX : Hid (CBox z1 b2 28 [.slice none 0 0, .slice none 0 0, .slice none 0 0, .slice none 0 0, .int .i64 0]) := q9
      clear q9
      have q9 := And.intro (SRC.out.1.past hB) (SRC.out.2.past hB)
      clear SRC
      have SRC : Hid (SrC P z1 (.slice ta c.ts.length tc) (.slice ca c.cs.length cc) (.slice sa c.ss.length sc) (.slice da c.d.length dc) c ∧ BL R z1 (.slice ua b.length uc) b) := q9
      clear q9
      (try (have q9 := FT.out; clear FT; have FT : Hid (z1.ownsRow bw 77 3 (.slice qa c.ts.length qc) c.ts.length (tV c.ts)) := owns_past q9 hB; clear q9))
      (try (have q9 := FC.out; clear FC; have FC : Hid (PO bw z1 (.slice xa c.cs.length xc) c.cs) := PO.past q9 hB; clear q9))
      (try (have q9 := FB.out; clear FB; have FB : Hid (PL (fun _ => True) z1 (.slice (some ⟨bb, 0, none⟩) 2 2) [c.d, b]) := PL.past q9 hB; clear q9))
      have FZ : Hid (PO bw z1 (.slice ya c.ss.length yc) c.ss) := F9
      clear F9 hB
      (try go_wp2_with fail)
      refine hK.out _ _ HH (fun _ => ?_)
      clear hK K
      (try simp only [Act.put, List.setIfInBounds_toArray, List.set_cons_zero, List.set_cons_succ])
      refine wpAnyH_ready (rs := [13]) (by kernel_rfl) (by simp) ?_
      refine AllReadyH.cons ov13 (fun K hK => ?_) AllReadyH.nil
      rw [if_pos (by rfl)]
      go_simp
      refine (CN.out _ _ FB.out).mono ?_
      rintro e z1 ⟨v9, rfl, hP, hB⟩
      obtain ⟨ea, ec, e9⟩ := owns_sl hP
      subst e9
      have F9 := owns_base hP (Nat.le_trans GE.out B.out.size)
      clear hP FB
      have H9 := HH.past hB
      clear HH
      have HH := H9
      clear H9
      have q9 := B.out.trans (hB.mono (Nat.le_trans GE.out B.out.size))
      clear B
      have B : Hid (Below bw w z1) := q9
      clear q9
      have q9 := BX.out.past hB
      clear BX
      have BX : Hid (CBox z1 b2 28 [.slice none 0 0, .slice none 0 0, .slice none 0 0, .slice none 0 0, .int .i64 0]) := q9
      clear q9
      have q9 := And.intro (SRC.out.1.past hB) (SRC.out.2.past hB)
      clear SRC
      have SRC : Hid (SrC P z1 (.slice ta c.ts.length tc) (.slice ca c.cs.length cc) (.slice sa c.ss.length sc) (.slice da c.d.length dc) c ∧ BL R z1 (.slice ua b.length uc) b) := q9
      clear q9
      (try (have q9 := FT.out; clear FT; have FT : Hid (z1.ownsRow bw 77 3 (.slice qa c.ts.length qc) c.ts.length (tV c.ts)) := owns_past q9 hB; clear q9))
      (try (have q9 := FC.out; clear FC; have FC : Hid (PO bw z1 (.slice xa c.cs.length xc) c.cs) := PO.past q9 hB; clear q9))
      (try (have q9 := FZ.out; clear FZ; have FZ : Hid (PO bw z1 (.slice ya c.ss.length yc) c.ss) := PO.past q9 hB; clear q9))
      have FD : Hid (z1.ownsRow bw 5 1 (.slice ea dl.length ec) dl.length (bV dl)) := F9
      clear F9 hB
      (try go_wp2_with fail)
      refine hK.out _ _ HH (fun _ => ?_)
      clear hK K
      (try simp only [Act.put, List.setIfInBounds_toArray, List.set_cons_zero, List.set_cons_succ])
      refine wpAnyH_take (i := 15) (v := .agg #[.slice qa c.ts.length qc, .slice xa c.cs.length xc, .slice ya c.ss.length yc, .slice ea dl.length ec, .int .i64 (nz : Int)]) ov15 (by kernel_rfl) (by kernel_rfl) (by kernel_rfl) (fun _ _ _ h => h) (Or.inl ⟨by rfl, fun V' hS => ?_⟩) HH ?_
      · go_simp
      simp only [Act.put, List.setIfInBounds_toArray, List.set_cons_zero, List.set_cons_succ]
      refine wpAnyH_ready (rs := [16]) (by kernel_rfl) (by simp) ?_
      refine AllReadyH.cons ov16 (fun K hK => ?_) AllReadyH.nil
      rw [if_pos (by rfl)]
      have k0 : z1.cell? ⟨b2, 0, none⟩ = some (.slice none 0 0) := BX.out.cell 0
      have k1 : z1.cell? ⟨b2, 1, none⟩ = some (.slice none 0 0) := BX.out.cell 1
      have k2 : z1.cell? ⟨b2, 2, none⟩ = some (.slice none 0 0) := BX.out.cell 2
      have k3 : z1.cell? ⟨b2, 3, none⟩ = some (.slice none 0 0) := BX.out.cell 3
      have k4 : z1.cell? ⟨b2, 4, none⟩ = some (.int .i64 0) := BX.out.cell 4
      have f0 := CBox.frozen BX.out 0
      have f1 := CBox.frozen BX.out 1
      have f2 := CBox.frozen BX.out 2
      have f3 := CBox.frozen BX.out 3
      have f4 := CBox.frozen BX.out 4
      go_simp
      clear k0 k1 k2 k3 k4 f0 f1 f2 f3 f4
      have hs : But (fun y => y = b2) z1 (((((z1.setCell ⟨b2, 0, none⟩ (.slice qa c.ts.length qc)).setCell ⟨b2, 1, none⟩ (.slice xa c.cs.length xc)).setCell ⟨b2, 2, none⟩ (.slice ya c.ss.length yc)).setCell ⟨b2, 3, none⟩ (.slice ea dl.length ec)).setCell ⟨b2, 4, none⟩ (.int .i64 (nz : Int))) := ((((((But.refl (fun y => y = b2) z1).setCell ⟨b2, 0, none⟩ _ (Or.inl rfl)).setCell ⟨b2, 1, none⟩ _ (Or.inl rfl)).setCell ⟨b2, 2, none⟩ _ (Or.inl rfl)).setCell ⟨b2, 3, none⟩ _ (Or.inl rfl)).setCell ⟨b2, 4, none⟩ _ (Or.inl rfl))
      have ra : Alien z1 b2 := ⟨_, _, BX.out, by decide, by decide, by decide⟩
      have cb : CBox (((((z1.setCell ⟨b2, 0, none⟩ (.slice qa c.ts.length qc)).setCell ⟨b2, 1, none⟩ (.slice xa c.cs.length xc)).setCell ⟨b2, 2, none⟩ (.slice ya c.ss.length yc)).setCell ⟨b2, 3, none⟩ (.slice ea dl.length ec)).setCell ⟨b2, 4, none⟩ (.int .i64 (nz : Int))) b2 28 [.slice qa c.ts.length qc, .slice xa c.cs.length xc, .slice ya c.ss.length yc, .slice ea dl.length ec, .int .i64 (nz : Int)] := (((((BX.out.set 0 _).set 1 _).set 2 _).set 3 _).set 4 _)
      have HF : Hid (CBox (((((z1.setCell ⟨b2, 0, none⟩ (.slice qa c.ts.length qc)).setCell ⟨b2, 1, none⟩ (.slice xa c.cs.length xc)).setCell ⟨b2, 2, none⟩ (.slice ya c.ss.length yc)).setCell ⟨b2, 3, none⟩ (.slice ea dl.length ec)).setCell ⟨b2, 4, none⟩ (.int .i64 (nz : Int))) b2 28 [.slice qa c.ts.length qc, .slice xa c.cs.length xc, .slice ya c.ss.length yc, .slice ea dl.length ec, .int .i64 (nz : Int)] ∧ DO bw (((((z1.setCell ⟨b2, 0, none⟩ (.slice qa c.ts.length qc)).setCell ⟨b2, 1, none⟩ (.slice xa c.cs.length xc)).setCell ⟨b2, 2, none⟩ (.slice ya c.ss.length yc)).setCell ⟨b2, 3, none⟩ (.slice ea dl.length ec)).setCell ⟨b2, 4, none⟩ (.int .i64 (nz : Int))) (.agg #[.slice qa c.ts.length qc, .slice xa c.cs.length xc, .slice ya c.ss.length yc, .slice ea dl.length ec, .int .i64 (nz : Int)]) ⟨c.ts, c.cs, c.ss, dl, (nz : Int)⟩ ∧ Below bw w (((((z1.setCell ⟨b2, 0, none⟩ (.slice qa c.ts.length qc)).setCell ⟨b2, 1, none⟩ (.slice xa c.cs.length xc)).setCell ⟨b2, 2, none⟩ (.slice ya c.ss.length yc)).setCell ⟨b2, 3, none⟩ (.slice ea dl.length ec)).setCell ⟨b2, 4, none⟩ (.int .i64 (nz : Int)))) := ⟨cb, ⟨_, _, _, _, _, _, _, _, rfl, row_alienT FT.out hs ra, PO.alien FC.out hs ra, PO.alien FZ.out hs ra, row_alien FD.out hs ra, FAP.out⟩, B.out.trans (hs.below (fun g e => by have := GL.out; have := GB.out; omega) (Nat.le_trans GE.out B.out.size))⟩
      have HHN := HH.but hs (by have := GL.out; omega)
      clear hs ra cb HH
      refine hK.out _ (((((z1.setCell ⟨b2, 0, none⟩ (.slice qa c.ts.length qc)).setCell ⟨b2, 1, none⟩ (.slice xa c.cs.length xc)).setCell ⟨b2, 2, none⟩ (.slice ya c.ss.length yc)).setCell ⟨b2, 3, none⟩ (.slice ea dl.length ec)).setCell ⟨b2, 4, none⟩ (.int .i64 (nz : Int))) HHN (fun _ => ?_)
      clear hK K
      (try simp only [Act.put, List.setIfInBounds_toArray, List.set_cons_zero, List.set_cons_succ])
      generalize (((((z1.setCell ⟨b2, 0, none⟩ (.slice qa c.ts.length qc)).setCell ⟨b2, 1, none⟩ (.slice xa c.cs.length xc)).setCell ⟨b2, 2, none⟩ (.slice ya c.ss.length yc)).setCell ⟨b2, 3, none⟩ (.slice ea dl.length ec)).setCell ⟨b2, 4, none⟩ (.int .i64 (nz : Int))) = Z9 at HF HHN ⊢
      clear B BX SRC FT FC FZ FD FAP
      refine wpAnyH_take (i := 17) (v := .int .i64 0) ov17 (by kernel_rfl) (by kernel_rfl) (by kernel_rfl) (fun _ _ _ h => h) (Or.inl ⟨by rfl, fun V' hS => ?_⟩) HHN ?_
      · go_simp
      simp only [Act.put, List.setIfInBounds_toArray, List.set_cons_zero, List.set_cons_succ]
      refine wpAnyH_done (by kernel_rfl) ?_ _
      clear HHN
      go_wp2
      refine bodyPost_ret (v := .tuple #[.agg #[.slice qa c.ts.length qc, .slice xa c.cs.length xc, .slice ya c.ss.length yc, .slice ea dl.length ec, .int .i64 (nz : Int)], .int .i64 0]) (results_ct (p := 4) (q := 5) (ty := 28) Try.results27 _ _ _ ⟨b2, 0, none⟩ rfl rfl (run_loadVar_mid Z9 b2 0 28 [.slice qa c.ts.length qc, .slice xa c.cs.length xc, .slice ya c.ss.length yc, .slice ea dl.length ec, .int .i64 (nz : Int)] _ HF.out.1.range Try.underlying28 rfl (by kernel_rfl))) rfl ?_
      refine ⟨?_, ?_⟩
      · rw [E.out]
        exact ⟨_, rfl, by first | exact HF.out.2.1 | (rw [GB.out]; exact HF.out.2.1) | (rw [← GB.out]; exact HF.out.2.1)⟩
      · (first | exact HF.out.2.2 | (rw [GB.out]; exact HF.out.2.2))
  · rw [if_pos (by rfl)]
    go_simp
    have hB : Below z1.heap.size z1 (z1.alloc (.cells #[.slice da c.d.length dc, .slice ua b.length uc] 22)) := below_alloc _ _
    have F9 := pl_two z1 _ _ c.d b (SRC.out.1.d.mono fun _ _ _ => trivial : BL (fun _ => True) z1 _ c.d) (SRC.out.2.mono fun _ _ _ => trivial)
    have H9 := HH.past hB
    clear HH
    have HH := H9
    clear H9
    have q9 := B.out.trans (hB.mono (Nat.le_trans GE.out B.out.size))
    clear B
    have B : Hid (Below bw w (z1.alloc (.cells #[.slice da c.d.length dc, .slice ua b.length uc] 22))) := q9
    clear q9
    have q9 := BX.out.past hB
    clear BX
    have BX : Hid (CBox (z1.alloc (.cells #[.slice da c.d.length dc, .slice ua b.length uc] 22)) b2 28 [.slice none 0 0, .slice none 0 0, .slice none 0 0, .slice none 0 0, .int .i64 0]) := q9
    clear q9
    have q9 := And.intro (SRC.out.1.past hB) (SRC.out.2.past hB)
    clear SRC
    have SRC : Hid (SrC P (z1.alloc (.cells #[.slice da c.d.length dc, .slice ua b.length uc] 22)) (.slice ta c.ts.length tc) (.slice ca c.cs.length cc) (.slice sa c.ss.length sc) (.slice da c.d.length dc) c ∧ BL R (z1.alloc (.cells #[.slice da c.d.length dc, .slice ua b.length uc] 22)) (.slice ua b.length uc) b) := q9
    clear q9
    (try (have q9 := FT.out; clear FT; have FT : Hid ((z1.alloc (.cells #[.slice da c.d.length dc, .slice ua b.length uc] 22)).ownsRow bw 77 3 (.slice qa c.ts.length qc) c.ts.length (tV c.ts)) := owns_past q9 hB; clear q9))
    (try (have q9 := FC.out; clear FC; have FC : Hid (PO bw (z1.alloc (.cells #[.slice da c.d.length dc, .slice ua b.length uc] 22)) (.slice xa c.cs.length xc) c.cs) := PO.past q9 hB; clear q9))
    (try (have q9 := FZ.out; clear FZ; have FZ : Hid (PO bw (z1.alloc (.cells #[.slice da c.d.length dc, .slice ua b.length uc] 22)) (.slice ya c.ss.length yc) c.ss) := PO.past q9 hB; clear q9))
    have FB : Hid (PL (fun _ => True) (z1.alloc (.cells #[.slice da c.d.length dc, .slice ua b.length uc] 22)) (.slice (some ⟨z1.heap.size, 0, none⟩) 2 2) [c.d, b]) := F9
    clear F9 hB
    refine hK.out _ (z1.alloc (.cells #[.slice da c.d.length dc, .slice ua b.length uc] 22)) HH (fun _ => ?_)
    clear hK K
    (try simp only [Act.put, List.setIfInBounds_toArray, List.set_cons_zero, List.set_cons_succ])
    generalize z1.heap.size = bb at FB ⊢
    (first | generalize (z1.alloc (.cells #[.slice da c.d.length dc, .slice ua b.length uc] 22)) = z1 at HH B BX SRC FB FT FC FZ ⊢ | generalize (z1.alloc (.cells #[.slice da c.d.length dc, .slice ua b.length uc] 22)) = z1 at HH B BX SRC FB FT FC ⊢ | generalize (z1.alloc (.cells #[.slice da c.d.length dc, .slice ua b.length uc] 22)) = z1 at HH B BX SRC FB FT ⊢ | generalize (z1.alloc (.cells #[.slice da c.d.length dc, .slice ua b.length uc] 22)) = z1 at HH B BX SRC FB ⊢)
    refine wpAnyH_ready (rs := [2]) (by kernel_rfl) (by simp) ?_
    refine AllReadyH.cons ov2 (fun K hK => ?_) AllReadyH.nil
    rw [if_pos (by rfl)]
    go_simp
    refine (cloneT_is _ _ c.ts SRC.out.1.t (by have := HSM.out; unfold Small at this; omega)).mono ?_
    rintro e z1 ⟨v9, rfl, hP, hB⟩
    obtain ⟨qa, qc, e9⟩ := owns_sl hP
    subst e9
    have F9 := owns_base hP (Nat.le_trans GE.out B.out.size)
    clear hP
    have H9 := HH.past hB
    clear HH
    have HH := H9
    clear H9
    have q9 := B.out.trans (hB.mono (Nat.le_trans GE.out B.out.size))
    clear B
    have B : Hid (Below bw w z1) := q9
    clear q9
    have q9 := BX.out.past hB
    clear BX
    have BX : Hid (CBox z1 b2 28 [.slice none 0 0, .slice none 0 0, .slice none 0 0, .slice none 0 0, .int .i64 0]) := q9
    clear q9
    have q9 := And.intro (SRC.out.1.past hB) (SRC.out.2.past hB)
    clear SRC
    have SRC : Hid (SrC P z1 (.slice ta c.ts.length tc) (.slice ca c.cs.length cc) (.slice sa c.ss.length sc) (.slice da c.d.length dc) c ∧ BL R z1 (.slice ua b.length uc) b) := q9
    clear q9
    (try (have q9 := FC.out; clear FC; have FC : Hid (PO bw z1 (.slice xa c.cs.length xc) c.cs) := PO.past q9 hB; clear q9))
    (try (have q9 := FZ.out; clear FZ; have FZ : Hid (PO bw z1 (.slice ya c.ss.length yc) c.ss) := PO.past q9 hB; clear q9))
    (try (have q9 := FB.out; clear FB; have FB : Hid (PL (fun _ => True) z1 (.slice (some ⟨bb, 0, none⟩) 2 2) [c.d, b]) := PL.past q9 hB; clear q9))
    have FT : Hid (z1.ownsRow bw 77 3 (.slice qa c.ts.length qc) c.ts.length (tV c.ts)) := F9
    clear F9 hB
    (try go_wp2_with fail)
    refine hK.out _ _ HH (fun _ => ?_)
    clear hK K
    (try simp only [Act.put, List.setIfInBounds_toArray, List.set_cons_zero, List.set_cons_succ])
    refine wpAnyH_ready (rs := [5]) (by kernel_rfl) (by simp) ?_
    refine AllReadyH.cons ov5 (fun K hK => ?_) AllReadyH.nil
    rw [if_pos (by rfl)]
    go_simp
    refine (copies_is _ _ c.cs SRC.out.1.p (by have := HSM.out; unfold Small at this; omega) (by have := HSM.out; unfold Small at this; omega)).mono ?_
    rintro e z1 ⟨v9, rfl, hP, hB⟩
    obtain ⟨xa, xc, e9⟩ := PO.sl hP
    subst e9
    have F9 := hP.base (Nat.le_trans GE.out B.out.size)
    clear hP
    have H9 := HH.past hB
    clear HH
    have HH := H9
    clear H9
    have q9 := B.out.trans (hB.mono (Nat.le_trans GE.out B.out.size))
    clear B
    have B : Hid (Below bw w z1) := q9
    clear q9
    have q9 := BX.out.past hB
    clear BX
    have BX : Hid (CBox z1 b2 28 [.slice none 0 0, .slice none 0 0, .slice none 0 0, .slice none 0 0, .int .i64 0]) := q9
    clear q9
    have q9 := And.intro (SRC.out.1.past hB) (SRC.out.2.past hB)
    clear SRC
    have SRC : Hid (SrC P z1 (.slice ta c.ts.length tc) (.slice ca c.cs.length cc) (.slice sa c.ss.length sc) (.slice da c.d.length dc) c ∧ BL R z1 (.slice ua b.length uc) b) := q9
    clear q9
    (try (have q9 := FT.out; clear FT; have FT : Hid (z1.ownsRow bw 77 3 (.slice qa c.ts.length qc) c.ts.length (tV c.ts)) := owns_past q9 hB; clear q9))
    (try (have q9 := FZ.out; clear FZ; have FZ : Hid (PO bw z1 (.slice ya c.ss.length yc) c.ss) := PO.past q9 hB; clear q9))
    (try (have q9 := FB.out; clear FB; have FB : Hid (PL (fun _ => True) z1 (.slice (some ⟨bb, 0, none⟩) 2 2) [c.d, b]) := PL.past q9 hB; clear q9))
    have FC : Hid (PO bw z1 (.slice xa c.cs.length xc) c.cs) := F9
    clear F9 hB
    (try go_wp2_with fail)
    refine hK.out _ _ HH (fun _ => ?_)
    clear hK K
    (try simp only [Act.put, List.setIfInBounds_toArray, List.set_cons_zero, List.set_cons_succ])
    refine wpAnyH_ready (rs := [8]) (by kernel_rfl) (by simp) ?_
    refine AllReadyH.cons ov8 (fun K hK => ?_) AllReadyH.nil
    rw [if_pos (by rfl)]
    go_simp
    refine (copies_is _ _ c.ss SRC.out.1.s (by have := HSM.out; unfold Small at this; omega) (by have := HSM.out; unfold Small at this; omega)).mono ?_
    rintro e z1 ⟨v9, rfl, hP, hB⟩
    obtain ⟨ya, yc, e9⟩ := PO.sl hP
    subst e9
    have FAP : Hid (∀ g, OwnV (.slice ya c.ss.length yc) g → ¬ OwnV (.slice xa c.cs.length xc) g) := fun g h1 h2 => by have q1 := (PO.lt hP g h1).1; have q2 := (PO.lt FC.out g h2).2; omega
    have F9 := hP.base (Nat.le_trans GE.out B.out.size)
    clear hP
    have H9 := HH.past hB
    clear HH
    have HH := H9
    clear H9
    have q9 := B.out.trans (hB.mono (Nat.le_trans GE.out B.out.size))
    clear B
    have B : Hid (Below bw w z1) := q9
    clear q9
    have q9 := BX.out.past hB
    clear BX
    have BX : Hid (CBox z1 b2 28 [.slice none 0 0, .slice none 0 0, .slice none 0 0, .slice none 0 0, .int .i64 0]) := q9
    clear q9
    have q9 := And.intro (SRC.out.1.past hB) (SRC.out.2.past hB)
    clear SRC
    have SRC : Hid (SrC P z1 (.slice ta c.ts.length tc) (.slice ca c.cs.length cc) (.slice sa c.ss.length sc) (.slice da c.d.length dc) c ∧ BL R z1 (.slice ua b.length uc) b) := q9
    clear q9
    (try (have q9 := FT.out; clear FT; have FT : Hid (z1.ownsRow bw 77 3 (.slice qa c.ts.length qc) c.ts.length (tV c.ts)) := owns_past q9 hB; clear q9))
    (try (have q9 := FC.out; clear FC; have FC : Hid (PO bw z1 (.slice xa c.cs.length xc) c.cs) := PO.past q9 hB; clear q9))
    (try (have q9 := FB.out; clear FB; have FB : Hid (PL (fun _ => True) z1 (.slice (some ⟨bb, 0, none⟩) 2 2) [c.d, b]) := PL.past q9 hB; clear q9))
    have FZ : Hid (PO bw z1 (.slice ya c.ss.length yc) c.ss) := F9
    clear F9 hB
    (try go_wp2_with fail)
    refine hK.out _ _ HH (fun _ => ?_)
    clear hK K
    (try simp only [Act.put, List.setIfInBounds_toArray, List.set_cons_zero, List.set_cons_succ])
    refine wpAnyH_ready (rs := [13]) (by kernel_rfl) (by simp) ?_
    refine AllReadyH.cons ov13 (fun K hK => ?_) AllReadyH.nil
    rw [if_pos (by rfl)]
    go_simp
    refine (CN.out _ _ FB.out).mono ?_
    rintro e z1 ⟨v9, rfl, hP, hB⟩
    obtain ⟨ea, ec, e9⟩ := owns_sl hP
    subst e9
    have F9 := owns_base hP (Nat.le_trans GE.out B.out.size)
    clear hP FB
    have H9 := HH.past hB
    clear HH
    have HH := H9
    clear H9
    have q9 := B.out.trans (hB.mono (Nat.le_trans GE.out B.out.size))
    clear B
    have B : Hid (Below bw w z1) := q9
    clear q9
    have q9 := BX.out.past hB
    clear BX
    have BX : Hid (CBox z1 b2 28 [.slice none 0 0, .slice none 0 0, .slice none 0 0, .slice none 0 0, .int .i64 0]) := q9
    clear q9
    have q9 := And.intro (SRC.out.1.past hB) (SRC.out.2.past hB)
    clear SRC
    have SRC : Hid (SrC P z1 (.slice ta c.ts.length tc) (.slice ca c.cs.length cc) (.slice sa c.ss.length sc) (.slice da c.d.length dc) c ∧ BL R z1 (.slice ua b.length uc) b) := q9
    clear q9
    (try (have q9 := FT.out; clear FT; have FT : Hid (z1.ownsRow bw 77 3 (.slice qa c.ts.length qc) c.ts.length (tV c.ts)) := owns_past q9 hB; clear q9))
    (try (have q9 := FC.out; clear FC; have FC : Hid (PO bw z1 (.slice xa c.cs.length xc) c.cs) := PO.past q9 hB; clear q9))
    (try (have q9 := FZ.out; clear FZ; have FZ : Hid (PO bw z1 (.slice ya c.ss.length yc) c.ss) := PO.past q9 hB; clear q9))
    have FD : Hid (z1.ownsRow bw 5 1 (.slice ea dl.length ec) dl.length (bV dl)) := F9
    clear F9 hB
    (try go_wp2_with fail)
    refine hK.out _ _ HH (fun _ => ?_)
    clear hK K
    (try simp only [Act.put, List.setIfInBounds_toArray, List.set_cons_zero, List.set_cons_succ])
    refine wpAnyH_take (i := 15) (v := .agg #[.slice qa c.ts.length qc, .slice xa c.cs.length xc, .slice ya c.ss.length yc, .slice ea dl.length ec, .int .i64 (nz : Int)]) ov15 (by kernel_rfl) (by kernel_rfl) (by kernel_rfl) (fun _ _ _ h => h) (Or.inl ⟨by rfl, fun V' hS => ?_⟩) HH ?_
    · go_simp
    simp only [Act.put, List.setIfInBounds_toArray, List.set_cons_zero, List.set_cons_succ]
    refine wpAnyH_ready (rs := [16]) (by kernel_rfl) (by simp) ?_
    refine AllReadyH.cons ov16 (fun K hK => ?_) AllReadyH.nil
    rw [if_pos (by rfl)]
    have k0 : z1.cell? ⟨b2, 0, none⟩ = some (.slice none 0 0) := BX.out.cell 0
    have k1 : z1.cell? ⟨b2, 1, none⟩ = some (.slice none 0 0) := BX.out.cell 1
    have k2 : z1.cell? ⟨b2, 2, none⟩ = some (.slice none 0 0) := BX.out.cell 2
    have k3 : z1.cell? ⟨b2, 3, none⟩ = some (.slice none 0 0) := BX.out.cell 3
    have k4 : z1.cell? ⟨b2, 4, none⟩ = some (.int .i64 0) := BX.out.cell 4
    have f0 := CBox.frozen BX.out 0
    have f1 := CBox.frozen BX.out 1
    have f2 := CBox.frozen BX.out 2
    have f3 := CBox.frozen BX.out 3
    have f4 := CBox.frozen BX.out 4
    go_simp
    clear k0 k1 k2 k3 k4 f0 f1 f2 f3 f4
    have hs : But (fun y => y = b2) z1 (((((z1.setCell ⟨b2, 0, none⟩ (.slice qa c.ts.length qc)).setCell ⟨b2, 1, none⟩ (.slice xa c.cs.length xc)).setCell ⟨b2, 2, none⟩ (.slice ya c.ss.length yc)).setCell ⟨b2, 3, none⟩ (.slice ea dl.length ec)).setCell ⟨b2, 4, none⟩ (.int .i64 (nz : Int))) := ((((((But.refl (fun y => y = b2) z1).setCell ⟨b2, 0, none⟩ _ (Or.inl rfl)).setCell ⟨b2, 1, none⟩ _ (Or.inl rfl)).setCell ⟨b2, 2, none⟩ _ (Or.inl rfl)).setCell ⟨b2, 3, none⟩ _ (Or.inl rfl)).setCell ⟨b2, 4, none⟩ _ (Or.inl rfl))
    have ra : Alien z1 b2 := ⟨_, _, BX.out, by decide, by decide, by decide⟩
    have cb : CBox (((((z1.setCell ⟨b2, 0, none⟩ (.slice qa c.ts.length qc)).setCell ⟨b2, 1, none⟩ (.slice xa c.cs.length xc)).setCell ⟨b2, 2, none⟩ (.slice ya c.ss.length yc)).setCell ⟨b2, 3, none⟩ (.slice ea dl.length ec)).setCell ⟨b2, 4, none⟩ (.int .i64 (nz : Int))) b2 28 [.slice qa c.ts.length qc, .slice xa c.cs.length xc, .slice ya c.ss.length yc, .slice ea dl.length ec, .int .i64 (nz : Int)] := (((((BX.out.set 0 _).set 1 _).set 2 _).set 3 _).set 4 _)
    have HF : Hid (CBox (((((z1.setCell ⟨b2, 0, none⟩ (.slice qa c.ts.length qc)).setCell ⟨b2, 1, none⟩ (.slice xa c.cs.length xc)).setCell ⟨b2, 2, none⟩ (.slice ya c.ss.length yc)).setCell ⟨b2, 3, none⟩ (.slice ea dl.length ec)).setCell ⟨b2, 4, none⟩ (.int .i64 (nz : Int))) b2 28 [.slice qa c.ts.length qc, .slice xa c.cs.length xc, .slice ya c.ss.length yc, .slice ea dl.length ec, .int .i64 (nz : Int)] ∧ DO bw (((((z1.setCell ⟨b2, 0, none⟩ (.slice qa c.ts.length qc)).setCell ⟨b2, 1, none⟩ (.slice xa c.cs.length xc)).setCell ⟨b2, 2, none⟩ (.slice ya c.ss.length yc)).setCell ⟨b2, 3, none⟩ (.slice ea dl.length ec)).setCell ⟨b2, 4, none⟩ (.int .i64 (nz : Int))) (.agg #[.slice qa c.ts.length qc, .slice xa c.cs.length xc, .slice ya c.ss.length yc, .slice ea dl.length ec, .int .i64 (nz : Int)]) ⟨c.ts, c.cs, c.ss, dl, (nz : Int)⟩ ∧ Below bw w (((((z1.setCell ⟨b2, 0, none⟩ (.slice qa c.ts.length qc)).setCell ⟨b2, 1, none⟩ (.slice xa c.cs.length xc)).setCell ⟨b2, 2, none⟩ (.slice ya c.ss.length yc)).setCell ⟨b2, 3, none⟩ (.slice ea dl.length ec)).setCell ⟨b2, 4, none⟩ (.int .i64 (nz : Int)))) := ⟨cb, ⟨_, _, _, _, _, _, _, _, rfl, row_alienT FT.out hs ra, PO.alien FC.out hs ra, PO.alien FZ.out hs ra, row_alien FD.out hs ra, FAP.out⟩, B.out.trans (hs.below (fun g e => by have := GL.out; have := GB.out; omega) (Nat.le_trans GE.out B.out.size))⟩
    have HHN := HH.but hs (by have := GL.out; omega)
    clear hs ra cb HH
    refine hK.out _ (((((z1.setCell ⟨b2, 0, none⟩ (.slice qa c.ts.length qc)).setCell ⟨b2, 1, none⟩ (.slice xa c.cs.length xc)).setCell ⟨b2, 2, none⟩ (.slice ya c.ss.length yc)).setCell ⟨b2, 3, none⟩ (.slice ea dl.length ec)).setCell ⟨b2, 4, none⟩ (.int .i64 (nz : Int))) HHN (fun _ => ?_)
    clear hK K
    (try simp only [Act.put, List.setIfInBounds_toArray, List.set_cons_zero, List.set_cons_succ])
    generalize (((((z1.setCell ⟨b2, 0, none⟩ (.slice qa c.ts.length qc)).setCell ⟨b2, 1, none⟩ (.slice xa c.cs.length xc)).setCell ⟨b2, 2, none⟩ (.slice ya c.ss.length yc)).setCell ⟨b2, 3, none⟩ (.slice ea dl.length ec)).setCell ⟨b2, 4, none⟩ (.int .i64 (nz : Int))) = Z9 at HF HHN ⊢
    clear B BX SRC FT FC FZ FD FAP
    refine wpAnyH_take (i := 17) (v := .int .i64 0) ov17 (by kernel_rfl) (by kernel_rfl) (by kernel_rfl) (fun _ _ _ h => h) (Or.inl ⟨by rfl, fun V' hS => ?_⟩) HHN ?_
    · go_simp
    simp only [Act.put, List.setIfInBounds_toArray, List.set_cons_zero, List.set_cons_succ]
    refine wpAnyH_done (by kernel_rfl) ?_ _
    clear HHN
    go_wp2
    refine bodyPost_ret (v := .tuple #[.agg #[.slice qa c.ts.length qc, .slice xa c.cs.length xc, .slice ya c.ss.length yc, .slice ea dl.length ec, .int .i64 (nz : Int)], .int .i64 0]) (results_ct (p := 4) (q := 5) (ty := 28) Try.results27 _ _ _ ⟨b2, 0, none⟩ rfl rfl (run_loadVar_mid Z9 b2 0 28 [.slice qa c.ts.length qc, .slice xa c.cs.length xc, .slice ya c.ss.length yc, .slice ea dl.length ec, .int .i64 (nz : Int)] _ HF.out.1.range Try.underlying28 rfl (by kernel_rfl))) rfl ?_
    refine ⟨?_, ?_⟩
    · rw [E.out]
      exact ⟨_, rfl, by first | exact HF.out.2.1 | (rw [GB.out]; exact HF.out.2.1) | (rw [← GB.out]; exact HF.out.2.1)⟩
    · (first | exact HF.out.2.2 | (rw [GB.out]; exact HF.out.2.2))
end Go.Proofs.Ytndhabhlajldeaa
