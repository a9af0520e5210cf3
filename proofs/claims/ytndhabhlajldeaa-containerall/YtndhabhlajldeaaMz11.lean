/- The document's Lay. -/
import Derived.Test.YtndhabhlajldeaaMz10
namespace Go.Proofs.Ytndhabhlajldeaa
open Go.RowKit
/-- the container in the making: its box, its types, its data; all else is as at Z -/
structure LN (b8 B : Nat) (w Z W : World) (tv : Value) (kt : Nat) (xv yv dv : Value) (kd : Nat) (ts : List Ty) (D : List Nat) (d : Nat) : Prop where
  box : CBox W b8 28 [tv, xv, yv, dv, .int .i64 (d : Int)]
  t : W.ownsRow B 77 3 tv kt (tV ts)
  dd : W.ownsRow B 5 1 dv kd (bV D)
  but : But (fun g => g = b8 ∨ B ≤ g) Z W
  bel : Below w.heap.size w W
  g8 : w.heap.size ≤ b8
  lt : b8 < B
  ge : B ≤ Z.heap.size
section
variable {b8 B kt kd d : Nat} {w Z W W' : World} {tv xv yv dv v' : Value} {ts : List Ty} {D : List Nat}
theorem LN.le (h : LN b8 B w Z W tv kt xv yv dv kd ts D d) : B ≤ W.heap.size := Nat.le_trans h.ge h.but.size
theorem LN.past (h : LN b8 B w Z W tv kt xv yv dv kd ts D d) (q : Below W.heap.size W W') : LN b8 B w Z W' tv kt xv yv dv kd ts D d := ⟨h.box.past q, owns_past h.t q, owns_past h.dd q, h.but.trans (below_but q), h.bel.trans (q.mono h.bel.size), h.g8, h.lt, h.ge⟩
theorem LN.appT {y : List Ty} {n : Nat} (h : LN b8 B w Z W tv kt xv yv dv kd ts D d) (q : App B 77 3 W W' tv v' n (tV y)) : LN b8 B w Z (W'.setCell ⟨b8, 0, none⟩ v') v' n xv yv dv kd y D d := by
  have hx : CBox W' b8 28 [tv, xv, yv, dv, .int .i64 (d : Int)] := h.box.but q.but fun e => own_box h.t h.box (by decide) e rfl
  have hd : W'.ownsRow B 5 1 dv kd (bV D) := owns_row_blockB h.dd fun g hg => q.but.block g (World.ownsRow.lt h.dd g hg).2 fun e => owns_apart h.t h.dd (by decide) e hg
  have hs : But (fun y => y = b8) W' (W'.setCell ⟨b8, 0, none⟩ v') := (But.refl (fun y => y = b8) W').setCell ⟨b8, 0, none⟩ _ (Or.inl rfl)
  have k1 : But (fun g => g = b8 ∨ B ≤ g) W W' := q.but.mono fun g hg => Or.inr (h.t.lt g hg).1
  have k2 : But (fun g => g = b8 ∨ B ≤ g) W' (W'.setCell ⟨b8, 0, none⟩ v') := hs.mono fun g hg => Or.inl hg
  have h8 := h.g8
  have hl := h.lt
  exact ⟨hx.set 0 _, owns_row_blockB q.row fun g hg => hs.block g (World.ownsRow.lt q.row g hg).2 fun e => own_box q.row hx (by decide) hg e, owns_row_blockB hd fun g hg => hs.block g (World.ownsRow.lt hd g hg).2 fun e => own_box hd hx (by decide) hg e, h.but.trans (k1.trans k2), h.bel.trans ((k1.trans k2).below (fun g e => by omega) h.bel.size), h.g8, h.lt, h.ge⟩
theorem LN.appD {y : List Nat} {n : Nat} (h : LN b8 B w Z W tv kt xv yv dv kd ts D d) (q : App B 5 1 W W' dv v' n (bV y)) : LN b8 B w Z (W'.setCell ⟨b8, 3, none⟩ v') tv kt xv yv v' n ts y d := by
  have hx : CBox W' b8 28 [tv, xv, yv, dv, .int .i64 (d : Int)] := h.box.but q.but fun e => own_box h.dd h.box (by decide) e rfl
  have ht : W'.ownsRow B 77 3 tv kt (tV ts) := owns_row_blockB h.t fun g hg => q.but.block g (World.ownsRow.lt h.t g hg).2 fun e => owns_apart h.dd h.t (by decide) e hg
  have hs : But (fun y => y = b8) W' (W'.setCell ⟨b8, 3, none⟩ v') := (But.refl (fun y => y = b8) W').setCell ⟨b8, 3, none⟩ _ (Or.inl rfl)
  have k1 : But (fun g => g = b8 ∨ B ≤ g) W W' := q.but.mono fun g hg => Or.inr (h.dd.lt g hg).1
  have k2 : But (fun g => g = b8 ∨ B ≤ g) W' (W'.setCell ⟨b8, 3, none⟩ v') := hs.mono fun g hg => Or.inl hg
  have h8 := h.g8
  have hl := h.lt
  exact ⟨hx.set 3 _, owns_row_blockB ht fun g hg => hs.block g (World.ownsRow.lt ht g hg).2 fun e => own_box ht hx (by decide) hg e, owns_row_blockB q.row fun g hg => hs.block g (World.ownsRow.lt q.row g hg).2 fun e => own_box q.row hx (by decide) hg e, h.but.trans (k1.trans k2), h.bel.trans ((k1.trans k2).below (fun g e => by omega) h.bel.size), h.g8, h.lt, h.ge⟩
end
/-- behind the document's literal of a container -/
structure LyZ (b1 b2 b8 bw : Nat) (w Z : World) (L L8 L2 : List Value) (xv yv : Value) (c : Con) : Prop where
  c8 : CBox Z b8 28 L8
  c1 : CBox Z b1 28 L
  c2 : CBox Z b2 28 L2
  px : PO bw Z xv c.cs
  py : PO bw Z yv c.ss
  bel : Below w.heap.size w Z
  ap : ∀ g, OwnV yv g → ¬ OwnV xv g
  g8 : w.heap.size ≤ b8
  n2 : b2 ≠ b8
  n1 : b1 ≠ b8
theorem PO.keptB {B0 b8 B : Nat} {Z W : World} {v : Value} {ll : List (List Nat)} {l : List Value} (h : PO B0 Z v ll) (k : But (fun g => g = b8 ∨ B ≤ g) Z W) (hB : Z.heap.size ≤ B) (hb : CBox Z b8 28 l) : PO B0 W v ll := by
  obtain ⟨us, h1, h2, h3⟩ := h
  refine ⟨us, h1, owns_row_blockB h2 fun g hg => k.block g (h2.lt g hg).2 fun e => ?_, fun i u x q1 q2 => owns_row_blockB (h3 i u x q1 q2) fun g hg => k.block g ((h3 i u x q1 q2).lt g hg).2 fun e => ?_⟩
  · rcases e with e | e
    · exact own_box h2 hb (by decide) hg e
    · have := (h2.lt g hg).2; omega
  · rcases e with e | e
    · exact own_box (h3 i u x q1 q2) hb (by decide) hg e
    · have := ((h3 i u x q1 q2).lt g hg).2; omega
theorem CBox.keptB {b b8 B : Nat} {Z W : World} {t : TypeId} {l : List Value} (h : CBox Z b t l) (k : But (fun g => g = b8 ∨ B ≤ g) Z W) (hn : b ≠ b8) (hB : b < B) : CBox W b t l := h.but k fun e => e.elim hn fun e => by omega
set_option maxHeartbeats 8000000 in
set_option maxRecDepth 100000 in
theorem rlay_is {P R : Nat → Prop} (w : World) (v u : Value) (c : Con) (b : List Nat) (h : CW P w v c) (k : BL R w u b) (hs : Small c) (hb : b.length ≤ 16777216) : Calls Try.prog 28 #[v, u] w fun e w' => LayQ w.heap.size (layC c b).2 (layC c b).1 e w' ∧ Below w.heap.size w w' := by
  obtain ⟨tv, cv, sv, dv, rfl, h1, h2, h3, h4⟩ := id h
  obtain ⟨ta, tc, rfl, _⟩ := h1.len
  obtain ⟨ca, cc, rfl, _⟩ := h2.len
  obtain ⟨sa, sc, rfl, _⟩ := h3.len
  obtain ⟨da, dc, rfl, _⟩ := h4.len
  obtain ⟨ua, uc, rfl, _⟩ := k.len
  have HSM : Hid (Small c) := hs
  have ST : Hid (∀ W, Below w.heap.size w W → TL P W (.slice ta c.ts.length tc) c.ts) := fun W hW => h1.past hW
  have SC : Hid (∀ W, Below w.heap.size w W → PL P W (.slice ca c.cs.length cc) c.cs) := fun W hW => h2.past hW
  have SK : Hid (∀ W, Below w.heap.size w W → PL P W (.slice sa c.ss.length sc) c.ss) := fun W hW => h3.past hW
  have SD : Hid (∀ W, Below w.heap.size w W → BL P W (.slice da c.d.length dc) c.d) := fun W hW => h4.past hW
  have SU : Hid (∀ W, Below w.heap.size w W → BL R W (.slice ua b.length uc) b) := fun W hW => k.past hW
  have HCW : Hid (∀ W, Below w.heap.size w W → CW P W (.agg #[.slice ta c.ts.length tc, .slice ca c.cs.length cc, .slice sa c.ss.length sc, .slice da c.d.length dc, .int .i64 c.n]) c) := fun W hW => h.past hW
  have hsm := hs
  unfold Small at hsm
  obtain ⟨nt, hnt⟩ : ∃ nt, c.ts.length = nt := ⟨_, rfl⟩
  obtain ⟨nc, hnc⟩ : ∃ nc, c.cs.length = nc := ⟨_, rfl⟩
  obtain ⟨ns, hns⟩ : ∃ ns, c.ss.length = ns := ⟨_, rfl⟩
  obtain ⟨nd, hnd⟩ : ∃ nd, c.d.length = nd := ⟨_, rfl⟩
  obtain ⟨nu, hnu⟩ : ∃ nu, b.length = nu := ⟨_, rfl⟩
  obtain ⟨z, hz⟩ : ∃ z, c.n = z := ⟨_, rfl⟩
  rw [hnt, hnc, hns, hnd, hz] at HCW
  rw [hnt] at ST
  rw [hnc] at SC
  rw [hns] at SK
  rw [hnd] at SD
  rw [hnu] at SU
  rw [hnt, hnc, hns, hnd, hz, hnu]
  have HLN : Hid (c.ts.length = nt ∧ c.cs.length = nc ∧ c.ss.length = ns ∧ c.d.length = nd ∧ b.length = nu ∧ nt ≤ 16777216 ∧ nd ≤ 16777216 ∧ nu ≤ 16777216 ∧ c.n = z) := ⟨hnt, hnc, hns, hnd, hnu, by omega, by omega, by omega, hz⟩
  have i1 : (nt : Int) ≤ 16777216 := by omega
  have i2 : (nd : Int) ≤ 16777216 := by omega
  have i3 : (nu : Int) ≤ 16777216 := by omega
  have b1 := below_alloc w (.cells #[.slice ta nt tc, .slice ca nc cc, .slice sa ns sc, .slice da nd dc, .int .i64 z] 28)
  have b2 := below_alloc (w.alloc (.cells #[.slice ta nt tc, .slice ca nc cc, .slice sa ns sc, .slice da nd dc, .int .i64 z] 28)) (.cells #[.slice none 0 0, .slice none 0 0, .slice none 0 0, .slice none 0 0, .int .i64 0] 28)
  have s1 : (w.alloc (.cells #[.slice ta nt tc, .slice ca nc cc, .slice sa ns sc, .slice da nd dc, .int .i64 z] 28)).heap.size = w.heap.size + 1 := by simp
  have bb : Below w.heap.size w ((w.alloc (.cells #[.slice ta nt tc, .slice ca nc cc, .slice sa ns sc, .slice da nd dc, .int .i64 z] 28)).alloc (.cells #[.slice none 0 0, .slice none 0 0, .slice none 0 0, .slice none 0 0, .int .i64 0] 28)) := b1.trans (b2.mono (by omega))
  have c2 := CBox.new (w.alloc (.cells #[.slice ta nt tc, .slice ca nc cc, .slice sa ns sc, .slice da nd dc, .int .i64 z] 28)) 28 [.slice none 0 0, .slice none 0 0, .slice none 0 0, .slice none 0 0, .int .i64 0]
  rw [s1] at c2
  have M0 : Hid (LyM w.heap.size (w.heap.size + 1) w ((w.alloc (.cells #[.slice ta nt tc, .slice ca nc cc, .slice sa ns sc, .slice da nd dc, .int .i64 z] 28)).alloc (.cells #[.slice none 0 0, .slice none 0 0, .slice none 0 0, .slice none 0 0, .int .i64 0] 28)) [.slice ta nt tc, .slice ca nc cc, .slice sa ns sc, .slice da nd dc, .int .i64 z] [.slice none 0 0, .slice none 0 0, .slice none 0 0, .slice none 0 0, .int .i64 0]) := ⟨(CBox.new w 28 [.slice ta nt tc, .slice ca nc cc, .slice sa ns sc, .slice da nd dc, .int .i64 z]).past b2, c2, bb⟩
  have GL0 : Hid (w.heap.size < w.heap.size + 1) := by unfold Hid; omega
  obtain ⟨nz, hnz⟩ : ∃ nz, nz = nd + nu := ⟨_, rfl⟩
  have r1 : (nd : Int) + (nu : Int) = (nz : Int) := by omega
  have r2 : IntKind.i64.wrap (nz : Int) = (nz : Int) := by rw [IntKind.wrap_i64]; omega
  have HNZ : Hid (nz = nd + nu) := hnz
  have HBD : Hid (nz ≤ 33554432 ∧ nt ≤ 16777216) := ⟨by omega, by omega⟩
  have hn1 : c.d.length + b.length = nz := by omega
  have HN1 : Hid (c.d.length + b.length = nz) := hn1
  obtain ⟨ec, hec⟩ : ∃ ec, ec = chk c := ⟨_, rfl⟩
  have HEC : Hid (ec = chk c) := hec
  have CC : Hid (∀ (W : World) (R : Nat → Prop) (u : Value), CW R W u c → Calls Try.prog 21 #[u] W fun e w' => e = .returned (.int .i64 ec) ∧ Below W.heap.size W w') := fun W R u q => by rw [hec]; exact rCheck_is W u c q
  obtain ⟨lr, hlr⟩ : ∃ lr, lr = layC c b := ⟨_, rfl⟩
  have HLR : Hid (lr = layC c b) := hlr
  rw [← hlr]
  clear h k hs h1 h2 h3 h4 b1 b2 s1 bb c2 hb hnz hec hlr hsm hnt hnc hns hnd hnu hz hn1
  generalize hbw : w.heap.size = bw at M0 GL0
  have GB : Hid (w.heap.size = bw) := hbw
  have GE : Hid (bw ≤ w.heap.size) := by unfold Hid; omega
  have GL2 : Hid (w.heap.size < bw + 1) := by unfold Hid; omega
  go_enter Try.func28, Try.ntmps28
  go_upto_region 1 with fail
  clear hbw
  generalize hb2 : bw + 1 = b2 at M0 GL0 GL2 ⊢
  clear hb2
  generalize hb1 : bw = b1 at M0 GL0
  (try rw [hb1])
  clear hb1
  have GL : Hid (w.heap.size < b2 ∧ b1 < b2) := ⟨GL2.out, GL0.out⟩
  clear GL0 GL2
  generalize (w.alloc _).alloc _ = W1 at M0 ⊢
  have a0 : W1.cell? ⟨b1, 0, none⟩ = some (.slice ta nt tc) := M0.out.c1.cell 0
  have a1 : W1.cell? ⟨b1, 1, none⟩ = some (.slice ca nc cc) := M0.out.c1.cell 1
  have a2 : W1.cell? ⟨b1, 2, none⟩ = some (.slice sa ns sc) := M0.out.c1.cell 2
  have a3 : W1.cell? ⟨b1, 3, none⟩ = some (.slice da nd dc) := M0.out.c1.cell 3
  have a4 : W1.cell? ⟨b1, 4, none⟩ = some (.int .i64 z) := M0.out.c1.cell 4
  go_upto_region 2 with (go_at_call 21; refine (CC.out _ _ _ (HCW.out _ M0.out.bel)).mono ?_; rintro e W2 ⟨rfl, hB⟩; (have M : Hid (LyM b1 b2 w W2 [.slice ta nt tc, .slice ca nc cc, .slice sa ns sc, .slice da nd dc, .int .i64 z] [.slice none 0 0, .slice none 0 0, .slice none 0 0, .slice none 0 0, .int .i64 0]) := M0.out.past hB); (clear hB))
  clear a0 a1 a2 a3 a4 M0 CC HCW
  by_cases e0 : ec = 0
  rotate_left
  · have E : Hid (lr = (ec, con0)) := by unfold Hid; rw [HLR.out]; unfold layC; rw [← HEC.out, if_pos e0]
    have q1 : (ec == 0) = false := by rw [beq_eq_false_iff_ne]; exact e0
    clear e0 r1 r2 HLR HEC
    have k0 : W2.cell? ⟨b2, 0, none⟩ = some (.slice none 0 0) := M.out.c2.cell 0
    have f0 := CBox.frozen M.out.c2 0
    have k1 : W2.cell? ⟨b2, 1, none⟩ = some (.slice none 0 0) := M.out.c2.cell 1
    have f1 := CBox.frozen M.out.c2 1
    have k2 : W2.cell? ⟨b2, 2, none⟩ = some (.slice none 0 0) := M.out.c2.cell 2
    have f2 := CBox.frozen M.out.c2 2
    have k3 : W2.cell? ⟨b2, 3, none⟩ = some (.slice none 0 0) := M.out.c2.cell 3
    have f3 := CBox.frozen M.out.c2 3
    have k4 : W2.cell? ⟨b2, 4, none⟩ = some (.int .i64 0) := M.out.c2.cell 4
    have f4 := CBox.frozen M.out.c2 4
    have HF : Hid (CBox (((((W2.setCell ⟨b2, 0, none⟩ (.slice none 0 0)).setCell ⟨b2, 1, none⟩ (.slice none 0 0)).setCell ⟨b2, 2, none⟩ (.slice none 0 0)).setCell ⟨b2, 3, none⟩ (.slice none 0 0)).setCell ⟨b2, 4, none⟩ (.int .i64 0)) b2 28 [.slice none 0 0, .slice none 0 0, .slice none 0 0, .slice none 0 0, .int .i64 0] ∧ Below w.heap.size w (((((W2.setCell ⟨b2, 0, none⟩ (.slice none 0 0)).setCell ⟨b2, 1, none⟩ (.slice none 0 0)).setCell ⟨b2, 2, none⟩ (.slice none 0 0)).setCell ⟨b2, 3, none⟩ (.slice none 0 0)).setCell ⟨b2, 4, none⟩ (.int .i64 0))) := ⟨(((((M.out.c2.set 0 _).set 1 _).set 2 _).set 3 _).set 4 _), M.out.bel.trans (((((((But.refl (fun y => y = b2) W2).setCell ⟨b2, 0, none⟩ _ (Or.inl rfl)).setCell ⟨b2, 1, none⟩ _ (Or.inl rfl)).setCell ⟨b2, 2, none⟩ _ (Or.inl rfl)).setCell ⟨b2, 3, none⟩ _ (Or.inl rfl)).setCell ⟨b2, 4, none⟩ _ (Or.inl rfl)).below (fun g e => by have := GL.out; omega) M.out.bel.size)⟩
    clear M
    go_wp2
    clear k0 k1 k2 k3 k4 f0 f1 f2 f3 f4
    generalize (((((W2.setCell ⟨b2, 0, none⟩ (.slice none 0 0)).setCell ⟨b2, 1, none⟩ (.slice none 0 0)).setCell ⟨b2, 2, none⟩ (.slice none 0 0)).setCell ⟨b2, 3, none⟩ (.slice none 0 0)).setCell ⟨b2, 4, none⟩ (.int .i64 0)) = Z9 at HF ⊢
    refine bodyPost_ret (v := .tuple #[.agg #[.slice none 0 0, .slice none 0 0, .slice none 0 0, .slice none 0 0, .int .i64 0], .int .i64 ec]) (results_ct (p := 4) (q := 5) (ty := 28) Try.results28 _ _ _ ⟨b2, 0, none⟩ rfl rfl (run_loadVar_mid Z9 b2 0 28 [.slice none 0 0, .slice none 0 0, .slice none 0 0, .slice none 0 0, .int .i64 0] _ HF.out.1.range Try.underlying28 rfl (by kernel_rfl))) rfl ?_
    exact ⟨by rw [E.out]; exact ⟨_, rfl, DO.zero _ _⟩, by first | exact HF.out.2 | (rw [← GB.out]; exact HF.out.2)⟩
  have HE0 : Hid (chk c = 0) := by unfold Hid; rw [← HEC.out]; exact e0
  clear HEC
  subst e0
  have a3 : W2.cell? ⟨b1, 3, none⟩ = some (.slice da nd dc) := M.out.c1.cell 3
  have a4 : W2.cell? ⟨b1, 4, none⟩ = some (.int .i64 z) := M.out.c1.cell 4
  go_upto_region 5 with fail
  clear r1 r2
  by_cases e1 : (nz : Int) < z
  · have E : Hid (lr = (50, con0)) := by unfold Hid; rw [HLR.out]; unfold layC; rw [if_neg (by simp [HE0.out]), if_pos (by rw [HN1.out, HLN.out.2.2.2.2.2.2.2.2]; exact e1)]
    clear HLR
    have k0 : W2.cell? ⟨b2, 0, none⟩ = some (.slice none 0 0) := M.out.c2.cell 0
    have f0 := CBox.frozen M.out.c2 0
    have k1 : W2.cell? ⟨b2, 1, none⟩ = some (.slice none 0 0) := M.out.c2.cell 1
    have f1 := CBox.frozen M.out.c2 1
    have k2 : W2.cell? ⟨b2, 2, none⟩ = some (.slice none 0 0) := M.out.c2.cell 2
    have f2 := CBox.frozen M.out.c2 2
    have k3 : W2.cell? ⟨b2, 3, none⟩ = some (.slice none 0 0) := M.out.c2.cell 3
    have f3 := CBox.frozen M.out.c2 3
    have k4 : W2.cell? ⟨b2, 4, none⟩ = some (.int .i64 0) := M.out.c2.cell 4
    have f4 := CBox.frozen M.out.c2 4
    have HF : Hid (CBox (((((W2.setCell ⟨b2, 0, none⟩ (.slice none 0 0)).setCell ⟨b2, 1, none⟩ (.slice none 0 0)).setCell ⟨b2, 2, none⟩ (.slice none 0 0)).setCell ⟨b2, 3, none⟩ (.slice none 0 0)).setCell ⟨b2, 4, none⟩ (.int .i64 0)) b2 28 [.slice none 0 0, .slice none 0 0, .slice none 0 0, .slice none 0 0, .int .i64 0] ∧ Below w.heap.size w (((((W2.setCell ⟨b2, 0, none⟩ (.slice none 0 0)).setCell ⟨b2, 1, none⟩ (.slice none 0 0)).setCell ⟨b2, 2, none⟩ (.slice none 0 0)).setCell ⟨b2, 3, none⟩ (.slice none 0 0)).setCell ⟨b2, 4, none⟩ (.int .i64 0))) := ⟨(((((M.out.c2.set 0 _).set 1 _).set 2 _).set 3 _).set 4 _), M.out.bel.trans (((((((But.refl (fun y => y = b2) W2).setCell ⟨b2, 0, none⟩ _ (Or.inl rfl)).setCell ⟨b2, 1, none⟩ _ (Or.inl rfl)).setCell ⟨b2, 2, none⟩ _ (Or.inl rfl)).setCell ⟨b2, 3, none⟩ _ (Or.inl rfl)).setCell ⟨b2, 4, none⟩ _ (Or.inl rfl)).below (fun g e => by have := GL.out; omega) M.out.bel.size)⟩
    clear M
    go_wp2
    clear k0 k1 k2 k3 k4 f0 f1 f2 f3 f4
    generalize (((((W2.setCell ⟨b2, 0, none⟩ (.slice none 0 0)).setCell ⟨b2, 1, none⟩ (.slice none 0 0)).setCell ⟨b2, 2, none⟩ (.slice none 0 0)).setCell ⟨b2, 3, none⟩ (.slice none 0 0)).setCell ⟨b2, 4, none⟩ (.int .i64 0)) = Z9 at HF ⊢
    refine bodyPost_ret (v := .tuple #[.agg #[.slice none 0 0, .slice none 0 0, .slice none 0 0, .slice none 0 0, .int .i64 0], .int .i64 50]) (results_ct (p := 4) (q := 5) (ty := 28) Try.results28 _ _ _ ⟨b2, 0, none⟩ rfl rfl (run_loadVar_mid Z9 b2 0 28 [.slice none 0 0, .slice none 0 0, .slice none 0 0, .slice none 0 0, .int .i64 0] _ HF.out.1.range Try.underlying28 rfl (by kernel_rfl))) rfl ?_
    exact ⟨by rw [E.out]; exact ⟨_, rfl, DO.zero _ _⟩, by first | exact HF.out.2 | (rw [← GB.out]; exact HF.out.2)⟩
  have q2 := e1
  clear e1
  go_upto_region 7 with fail
  clear a3 a4
  by_cases e2 : 65535 < nz
  · have E : Hid (lr = (2, con0)) := by unfold Hid; rw [HLR.out]; unfold layC; rw [if_neg (by simp [HE0.out]), if_neg (by rw [HN1.out, HLN.out.2.2.2.2.2.2.2.2]; exact q2), if_pos (by rw [HN1.out]; exact e2)]
    have q3 : (65535 : Int) < (nz : Int) := by omega
    clear HLR q2 e2
    have k0 : W2.cell? ⟨b2, 0, none⟩ = some (.slice none 0 0) := M.out.c2.cell 0
    have f0 := CBox.frozen M.out.c2 0
    have k1 : W2.cell? ⟨b2, 1, none⟩ = some (.slice none 0 0) := M.out.c2.cell 1
    have f1 := CBox.frozen M.out.c2 1
    have k2 : W2.cell? ⟨b2, 2, none⟩ = some (.slice none 0 0) := M.out.c2.cell 2
    have f2 := CBox.frozen M.out.c2 2
    have k3 : W2.cell? ⟨b2, 3, none⟩ = some (.slice none 0 0) := M.out.c2.cell 3
    have f3 := CBox.frozen M.out.c2 3
    have k4 : W2.cell? ⟨b2, 4, none⟩ = some (.int .i64 0) := M.out.c2.cell 4
    have f4 := CBox.frozen M.out.c2 4
    have HF : Hid (CBox (((((W2.setCell ⟨b2, 0, none⟩ (.slice none 0 0)).setCell ⟨b2, 1, none⟩ (.slice none 0 0)).setCell ⟨b2, 2, none⟩ (.slice none 0 0)).setCell ⟨b2, 3, none⟩ (.slice none 0 0)).setCell ⟨b2, 4, none⟩ (.int .i64 0)) b2 28 [.slice none 0 0, .slice none 0 0, .slice none 0 0, .slice none 0 0, .int .i64 0] ∧ Below w.heap.size w (((((W2.setCell ⟨b2, 0, none⟩ (.slice none 0 0)).setCell ⟨b2, 1, none⟩ (.slice none 0 0)).setCell ⟨b2, 2, none⟩ (.slice none 0 0)).setCell ⟨b2, 3, none⟩ (.slice none 0 0)).setCell ⟨b2, 4, none⟩ (.int .i64 0))) := ⟨(((((M.out.c2.set 0 _).set 1 _).set 2 _).set 3 _).set 4 _), M.out.bel.trans (((((((But.refl (fun y => y = b2) W2).setCell ⟨b2, 0, none⟩ _ (Or.inl rfl)).setCell ⟨b2, 1, none⟩ _ (Or.inl rfl)).setCell ⟨b2, 2, none⟩ _ (Or.inl rfl)).setCell ⟨b2, 3, none⟩ _ (Or.inl rfl)).setCell ⟨b2, 4, none⟩ _ (Or.inl rfl)).below (fun g e => by have := GL.out; omega) M.out.bel.size)⟩
    clear M
    go_wp2
    clear k0 k1 k2 k3 k4 f0 f1 f2 f3 f4
    generalize (((((W2.setCell ⟨b2, 0, none⟩ (.slice none 0 0)).setCell ⟨b2, 1, none⟩ (.slice none 0 0)).setCell ⟨b2, 2, none⟩ (.slice none 0 0)).setCell ⟨b2, 3, none⟩ (.slice none 0 0)).setCell ⟨b2, 4, none⟩ (.int .i64 0)) = Z9 at HF ⊢
    refine bodyPost_ret (v := .tuple #[.agg #[.slice none 0 0, .slice none 0 0, .slice none 0 0, .slice none 0 0, .int .i64 0], .int .i64 2]) (results_ct (p := 4) (q := 5) (ty := 28) Try.results28 _ _ _ ⟨b2, 0, none⟩ rfl rfl (run_loadVar_mid Z9 b2 0 28 [.slice none 0 0, .slice none 0 0, .slice none 0 0, .slice none 0 0, .int .i64 0] _ HF.out.1.range Try.underlying28 rfl (by kernel_rfl))) rfl ?_
    exact ⟨by rw [E.out]; exact ⟨_, rfl, DO.zero _ _⟩, by first | exact HF.out.2 | (rw [← GB.out]; exact HF.out.2)⟩
  have q3 : ¬ (65535 : Int) < (nz : Int) := by omega
  have E : Hid (lr = (0, ⟨c.ts, c.cs, c.ss, c.d ++ b, (nz : Int)⟩)) := by unfold Hid; rw [HLR.out]; unfold layC; rw [if_neg (by simp [HE0.out]), if_neg (by rw [HN1.out, HLN.out.2.2.2.2.2.2.2.2]; exact q2), if_neg (by rw [HN1.out]; exact e2), HN1.out]
  clear q2 e2 HLR HN1
  go_upto_region 9 with fail
  clear q3
  go_cut [8] (fun s8 wx => ∃ (b8 : Nat) (xa : Option Addr) (xc : Nat) (ya : Option Addr) (yc : Nat), s8 = .pointer (some ⟨b8, 0, none⟩) ∧ LyZ b1 b2 b8 bw w wx [.slice ta nt tc, .slice ca nc cc, .slice sa ns sc, .slice da nd dc, .int .i64 z] [.slice none 0 0, .slice xa nc xc, .slice ya ns yc, .slice none 0 0, .int .i64 (nz : Int)] [.slice none 0 0, .slice none 0 0, .slice none 0 0, .slice none 0 0, .int .i64 0] (.slice xa nc xc) (.slice ya ns yc) c)
  case first =>
    refine wp_region_held_drew (S := fun V' => CBox V' b1 28 [.slice ta nt tc, .slice ca nc cc, .slice sa ns sc, .slice da nd dc, .int .i64 z]) (by kernel_rfl) (M.out.c1.past below_drew) (fun HH => ?_)
    have BX : Hid (CBox W2.drew b2 28 [.slice none 0 0, .slice none 0 0, .slice none 0 0, .slice none 0 0, .int .i64 0]) := M.out.c2.past below_drew
    have B : Hid (Below bw w W2.drew ∧ b2 < W2.drew.heap.size ∧ b1 < W2.drew.heap.size) := ⟨by rw [← GB.out]; exact M.out.bel.drew, M.out.c2.lt, M.out.c1.lt⟩
    have SRC : Hid (PL P W2.drew (.slice ca nc cc) c.cs ∧ PL P W2.drew (.slice sa ns sc) c.ss) := ⟨(SC.out W2 M.out.bel).past below_drew, (SK.out W2 M.out.bel).past below_drew⟩
    clear M
    generalize W2.drew = z1 at HH BX B SRC ⊢
    refine wpAnyH_take (i := 0) (v := .pointer (some ⟨b1, 1, none⟩)) ov0 (by kernel_rfl) (by kernel_rfl) (by kernel_rfl) (fun _ _ _ h => h) (Or.inl ⟨by rfl, fun V' hS => ?_⟩) HH ?_
    · go_simp
    simp only [Act.put, List.setIfInBounds_toArray, List.set_cons_zero, List.set_cons_succ]
    refine wpAnyH_take (i := 1) (v := .slice ca nc cc) ov1 (by kernel_rfl) (by kernel_rfl) (by kernel_rfl) (fun _ _ _ h => h) (Or.inl ⟨by rfl, fun V' hS => ?_⟩) HH ?_
    · have c0 := hS.cell 1
      go_simp
    simp only [Act.put, List.setIfInBounds_toArray, List.set_cons_zero, List.set_cons_succ]
    refine wpAnyH_take (i := 3) (v := .pointer (some ⟨b1, 2, none⟩)) ov3 (by kernel_rfl) (by kernel_rfl) (by kernel_rfl) (fun _ _ _ h => h) (Or.inl ⟨by rfl, fun V' hS => ?_⟩) HH ?_
    · go_simp
    simp only [Act.put, List.setIfInBounds_toArray, List.set_cons_zero, List.set_cons_succ]
    refine wpAnyH_take (i := 4) (v := .slice sa ns sc) ov4 (by kernel_rfl) (by kernel_rfl) (by kernel_rfl) (fun _ _ _ h => h) (Or.inl ⟨by rfl, fun V' hS => ?_⟩) HH ?_
    · have c0 := hS.cell 2
      go_simp
    simp only [Act.put, List.setIfInBounds_toArray, List.set_cons_zero, List.set_cons_succ]
    refine wpAnyH_take (i := 6) (v := .int .i64 (nz : Int)) ov6 (by kernel_rfl) (by kernel_rfl) (by kernel_rfl) (fun _ _ _ h => h) (Or.inl ⟨by rfl, fun V' hS => ?_⟩) HH ?_
    · go_simp
    simp only [Act.put, List.setIfInBounds_toArray, List.set_cons_zero, List.set_cons_succ]
    refine wpAnyH_ready (rs := [2, 8]) (by kernel_rfl) (by simp) ?_
    refine AllReadyH.cons ov2 (fun K hK => ?_) (AllReadyH.cons ov8 (fun K hK => ?_) AllReadyH.nil)
    · rw [if_pos (by rfl)]
      go_simp
      refine (copied_is _ _ c.cs SRC.out.1 (by have := HSM.out; unfold Small at this; omega)).mono ?_
      rintro e z1 ⟨v9, rfl, hP, hB⟩
      obtain ⟨xa, xc, e9⟩ := PO.sl hP
      rw [HLN.out.2.1] at e9
      subst e9
      have F9 := hP.base (Nat.le_trans GE.out B.out.1.size)
      clear hP
      have H9 := HH.past hB
      clear HH
      have HH := H9
      clear H9
      have q9 := And.intro (B.out.1.trans (hB.mono (Nat.le_trans GE.out B.out.1.size))) (And.intro (Nat.lt_of_lt_of_le B.out.2.1 hB.size) (Nat.lt_of_lt_of_le B.out.2.2 hB.size))
      clear B
      have B : Hid (Below bw w z1 ∧ b2 < z1.heap.size ∧ b1 < z1.heap.size) := q9
      clear q9
      have q9 := BX.out.past hB
      clear BX
      have BX : Hid (CBox z1 b2 28 [.slice none 0 0, .slice none 0 0, .slice none 0 0, .slice none 0 0, .int .i64 0]) := q9
      clear q9
      have q9 := And.intro (SRC.out.1.past hB) (SRC.out.2.past hB)
      clear SRC
      have SRC : Hid (PL P z1 (.slice ca nc cc) c.cs ∧ PL P z1 (.slice sa ns sc) c.ss) := q9
      clear q9
      (try (have q9 := FZ.out; clear FZ; have FZ : Hid (PO bw z1 (.slice ya ns yc) c.ss) := PO.past q9 hB; clear q9))
      (try (have q9 := FX.out; clear FX; have FX : Hid (CBox z1 b8 28 [.slice none 0 0, .slice none 0 0, .slice none 0 0, .slice none 0 0, .int .i64 0]) := CBox.past q9 hB; clear q9))
      have FC : Hid (PO bw z1 (.slice xa nc xc) c.cs) := F9
      clear F9 hB
      (try go_wp2_with fail)
      refine hK.out _ _ HH (fun _ => ?_)
      clear hK K
      (try simp only [Act.put, List.setIfInBounds_toArray, List.set_cons_zero, List.set_cons_succ])
      refine wpAnyH_ready (rs := [5, 8]) (by kernel_rfl) (by simp) ?_
      refine AllReadyH.cons ov5 (fun K hK => ?_) (AllReadyH.cons ov8 (fun K hK => ?_) AllReadyH.nil)
      · rw [if_pos (by rfl)]
        go_simp
        refine (copied_is _ _ c.ss SRC.out.2 (by have := HSM.out; unfold Small at this; omega)).mono ?_
        rintro e z1 ⟨v9, rfl, hP, hB⟩
        obtain ⟨ya, yc, e9⟩ := PO.sl hP
        rw [HLN.out.2.2.1] at e9
        subst e9
        have FAP : Hid (∀ g, OwnV (.slice ya ns yc) g → ¬ OwnV (.slice xa nc xc) g) := fun g h1 h2 => by have q1 := (PO.lt hP g h1).1; have q2 := (PO.lt FC.out g h2).2; omega
        have F9 := hP.base (Nat.le_trans GE.out B.out.1.size)
        clear hP
        have H9 := HH.past hB
        clear HH
        have HH := H9
        clear H9
        have q9 := And.intro (B.out.1.trans (hB.mono (Nat.le_trans GE.out B.out.1.size))) (And.intro (Nat.lt_of_lt_of_le B.out.2.1 hB.size) (Nat.lt_of_lt_of_le B.out.2.2 hB.size))
        clear B
        have B : Hid (Below bw w z1 ∧ b2 < z1.heap.size ∧ b1 < z1.heap.size) := q9
        clear q9
        have q9 := BX.out.past hB
        clear BX
        have BX : Hid (CBox z1 b2 28 [.slice none 0 0, .slice none 0 0, .slice none 0 0, .slice none 0 0, .int .i64 0]) := q9
        clear q9
        have q9 := And.intro (SRC.out.1.past hB) (SRC.out.2.past hB)
        clear SRC
        have SRC : Hid (PL P z1 (.slice ca nc cc) c.cs ∧ PL P z1 (.slice sa ns sc) c.ss) := q9
        clear q9
        (try (have q9 := FC.out; clear FC; have FC : Hid (PO bw z1 (.slice xa nc xc) c.cs) := PO.past q9 hB; clear q9))
        (try (have q9 := FX.out; clear FX; have FX : Hid (CBox z1 b8 28 [.slice none 0 0, .slice none 0 0, .slice none 0 0, .slice none 0 0, .int .i64 0]) := CBox.past q9 hB; clear q9))
        have FZ : Hid (PO bw z1 (.slice ya ns yc) c.ss) := F9
        clear F9 hB
        (try go_wp2_with fail)
        refine hK.out _ _ HH (fun _ => ?_)
        clear hK K
        (try simp only [Act.put, List.setIfInBounds_toArray, List.set_cons_zero, List.set_cons_succ])
        refine wpAnyH_take (i := 7) (v := .agg #[.slice none 0 0, .slice xa nc xc, .slice ya ns yc, .slice none 0 0, .int .i64 (nz : Int)]) ov7 (by kernel_rfl) (by kernel_rfl) (by kernel_rfl) (fun _ _ _ h => h) (Or.inl ⟨by rfl, fun V' hS => ?_⟩) HH ?_
        · go_simp
        simp only [Act.put, List.setIfInBounds_toArray, List.set_cons_zero, List.set_cons_succ]
        refine wpAnyH_ready (rs := [8]) (by kernel_rfl) (by simp) ?_
        refine AllReadyH.cons ov8 (fun K hK => ?_) AllReadyH.nil
        rw [if_pos (by rfl)]
        go_simp
        have hB : Below z1.heap.size z1 (z1.alloc (.cells #[.slice none 0 0, .slice none 0 0, .slice none 0 0, .slice none 0 0, .int .i64 0] 28)) := below_alloc _ _
        have F9 := CBox.new z1 28 [.slice none 0 0, .slice none 0 0, .slice none 0 0, .slice none 0 0, .int .i64 0]
        have G9 : Hid (w.heap.size ≤ z1.heap.size ∧ b2 ≠ z1.heap.size ∧ b1 ≠ z1.heap.size) := ⟨by have h1 := B.out.1.size; exact h1, by have := B.out.2.1; omega, by have := B.out.2.2; omega⟩
        have H9 := HH.past hB
        clear HH
        have HH := H9
        clear H9
        have q9 := And.intro (B.out.1.trans (hB.mono (Nat.le_trans GE.out B.out.1.size))) (And.intro (Nat.lt_of_lt_of_le B.out.2.1 hB.size) (Nat.lt_of_lt_of_le B.out.2.2 hB.size))
        clear B
        have B : Hid (Below bw w (z1.alloc (.cells #[.slice none 0 0, .slice none 0 0, .slice none 0 0, .slice none 0 0, .int .i64 0] 28)) ∧ b2 < (z1.alloc (.cells #[.slice none 0 0, .slice none 0 0, .slice none 0 0, .slice none 0 0, .int .i64 0] 28)).heap.size ∧ b1 < (z1.alloc (.cells #[.slice none 0 0, .slice none 0 0, .slice none 0 0, .slice none 0 0, .int .i64 0] 28)).heap.size) := q9
        clear q9
        have q9 := BX.out.past hB
        clear BX
        have BX : Hid (CBox (z1.alloc (.cells #[.slice none 0 0, .slice none 0 0, .slice none 0 0, .slice none 0 0, .int .i64 0] 28)) b2 28 [.slice none 0 0, .slice none 0 0, .slice none 0 0, .slice none 0 0, .int .i64 0]) := q9
        clear q9
        have q9 := And.intro (SRC.out.1.past hB) (SRC.out.2.past hB)
        clear SRC
        have SRC : Hid (PL P (z1.alloc (.cells #[.slice none 0 0, .slice none 0 0, .slice none 0 0, .slice none 0 0, .int .i64 0] 28)) (.slice ca nc cc) c.cs ∧ PL P (z1.alloc (.cells #[.slice none 0 0, .slice none 0 0, .slice none 0 0, .slice none 0 0, .int .i64 0] 28)) (.slice sa ns sc) c.ss) := q9
        clear q9
        (try (have q9 := FC.out; clear FC; have FC : Hid (PO bw (z1.alloc (.cells #[.slice none 0 0, .slice none 0 0, .slice none 0 0, .slice none 0 0, .int .i64 0] 28)) (.slice xa nc xc) c.cs) := PO.past q9 hB; clear q9))
        (try (have q9 := FZ.out; clear FZ; have FZ : Hid (PO bw (z1.alloc (.cells #[.slice none 0 0, .slice none 0 0, .slice none 0 0, .slice none 0 0, .int .i64 0] 28)) (.slice ya ns yc) c.ss) := PO.past q9 hB; clear q9))
        have FX : Hid (CBox (z1.alloc (.cells #[.slice none 0 0, .slice none 0 0, .slice none 0 0, .slice none 0 0, .int .i64 0] 28)) z1.heap.size 28 [.slice none 0 0, .slice none 0 0, .slice none 0 0, .slice none 0 0, .int .i64 0]) := F9
        clear F9 hB
        refine hK.out _ (z1.alloc (.cells #[.slice none 0 0, .slice none 0 0, .slice none 0 0, .slice none 0 0, .int .i64 0] 28)) HH (fun _ => ?_)
        clear hK K
        (try simp only [Act.put, List.setIfInBounds_toArray, List.set_cons_zero, List.set_cons_succ])
        generalize z1.heap.size = b8 at FX G9 ⊢
        (first | generalize (z1.alloc (.cells #[.slice none 0 0, .slice none 0 0, .slice none 0 0, .slice none 0 0, .int .i64 0] 28)) = z1 at HH B BX SRC FX FC FZ ⊢ | generalize (z1.alloc (.cells #[.slice none 0 0, .slice none 0 0, .slice none 0 0, .slice none 0 0, .int .i64 0] 28)) = z1 at HH B BX SRC FX FC ⊢ | generalize (z1.alloc (.cells #[.slice none 0 0, .slice none 0 0, .slice none 0 0, .slice none 0 0, .int .i64 0] 28)) = z1 at HH B BX SRC FX ⊢)
        refine wpAnyH_ready (rs := [9]) (by kernel_rfl) (by simp) ?_
        refine AllReadyH.cons ov9 (fun K hK => ?_) AllReadyH.nil
        rw [if_pos (by rfl)]
        have k0 : z1.cell? ⟨b8, 0, none⟩ = some (.slice none 0 0) := FX.out.cell 0
        have k1 : z1.cell? ⟨b8, 1, none⟩ = some (.slice none 0 0) := FX.out.cell 1
        have k2 : z1.cell? ⟨b8, 2, none⟩ = some (.slice none 0 0) := FX.out.cell 2
        have k3 : z1.cell? ⟨b8, 3, none⟩ = some (.slice none 0 0) := FX.out.cell 3
        have k4 : z1.cell? ⟨b8, 4, none⟩ = some (.int .i64 0) := FX.out.cell 4
        have f0 := CBox.frozen FX.out 0
        have f1 := CBox.frozen FX.out 1
        have f2 := CBox.frozen FX.out 2
        have f3 := CBox.frozen FX.out 3
        have f4 := CBox.frozen FX.out 4
        go_simp
        clear k0 k1 k2 k3 k4 f0 f1 f2 f3 f4
        have hs : But (fun y => y = b8) z1 (((((z1.setCell ⟨b8, 0, none⟩ (.slice none 0 0)).setCell ⟨b8, 1, none⟩ (.slice xa nc xc)).setCell ⟨b8, 2, none⟩ (.slice ya ns yc)).setCell ⟨b8, 3, none⟩ (.slice none 0 0)).setCell ⟨b8, 4, none⟩ (.int .i64 (nz : Int))) := ((((((But.refl (fun y => y = b8) z1).setCell ⟨b8, 0, none⟩ _ (Or.inl rfl)).setCell ⟨b8, 1, none⟩ _ (Or.inl rfl)).setCell ⟨b8, 2, none⟩ _ (Or.inl rfl)).setCell ⟨b8, 3, none⟩ _ (Or.inl rfl)).setCell ⟨b8, 4, none⟩ _ (Or.inl rfl))
        have ra : Alien z1 b8 := ⟨_, _, FX.out, by decide, by decide, by decide⟩
        have cb : CBox (((((z1.setCell ⟨b8, 0, none⟩ (.slice none 0 0)).setCell ⟨b8, 1, none⟩ (.slice xa nc xc)).setCell ⟨b8, 2, none⟩ (.slice ya ns yc)).setCell ⟨b8, 3, none⟩ (.slice none 0 0)).setCell ⟨b8, 4, none⟩ (.int .i64 (nz : Int))) b8 28 [.slice none 0 0, .slice xa nc xc, .slice ya ns yc, .slice none 0 0, .int .i64 (nz : Int)] := (((((FX.out.set 0 _).set 1 _).set 2 _).set 3 _).set 4 _)
        have HZ : Hid (LyZ b1 b2 b8 bw w (((((z1.setCell ⟨b8, 0, none⟩ (.slice none 0 0)).setCell ⟨b8, 1, none⟩ (.slice xa nc xc)).setCell ⟨b8, 2, none⟩ (.slice ya ns yc)).setCell ⟨b8, 3, none⟩ (.slice none 0 0)).setCell ⟨b8, 4, none⟩ (.int .i64 (nz : Int))) [.slice ta nt tc, .slice ca nc cc, .slice sa ns sc, .slice da nd dc, .int .i64 z] [.slice none 0 0, .slice xa nc xc, .slice ya ns yc, .slice none 0 0, .int .i64 (nz : Int)] [.slice none 0 0, .slice none 0 0, .slice none 0 0, .slice none 0 0, .int .i64 0] (.slice xa nc xc) (.slice ya ns yc) c) := ⟨cb, HH.but hs G9.out.2.2, BX.out.but hs G9.out.2.1, PO.alien FC.out hs ra, PO.alien FZ.out hs ra, (show Below w.heap.size w z1 from by first | exact B.out.1 | (rw [GB.out]; exact B.out.1)).trans (hs.below (fun g e => by have := G9.out.1; omega) (show w.heap.size ≤ z1.heap.size from by have h1 := B.out.1.size; exact h1)), FAP.out, G9.out.1, G9.out.2.1, G9.out.2.2⟩
        have HHN := HH.but hs G9.out.2.2
        clear hs ra cb HH
        refine hK.out _ (((((z1.setCell ⟨b8, 0, none⟩ (.slice none 0 0)).setCell ⟨b8, 1, none⟩ (.slice xa nc xc)).setCell ⟨b8, 2, none⟩ (.slice ya ns yc)).setCell ⟨b8, 3, none⟩ (.slice none 0 0)).setCell ⟨b8, 4, none⟩ (.int .i64 (nz : Int))) HHN (fun _ => ?_)
        clear hK K
        (try simp only [Act.put, List.setIfInBounds_toArray, List.set_cons_zero, List.set_cons_succ])
        generalize (((((z1.setCell ⟨b8, 0, none⟩ (.slice none 0 0)).setCell ⟨b8, 1, none⟩ (.slice xa nc xc)).setCell ⟨b8, 2, none⟩ (.slice ya ns yc)).setCell ⟨b8, 3, none⟩ (.slice none 0 0)).setCell ⟨b8, 4, none⟩ (.int .i64 (nz : Int))) = Z at HZ HHN ⊢
        clear B BX SRC FC FZ FX
        refine wpAnyH_done (by kernel_rfl) ?_ _
        clear HHN
        go_wp2
        go_meet
        case rel => exact ⟨b8, xa, xc, ya, yc, rfl, HZ.out⟩
      · rw [if_pos (by rfl)]
        go_simp
        have hB : Below z1.heap.size z1 (z1.alloc (.cells #[.slice none 0 0, .slice none 0 0, .slice none 0 0, .slice none 0 0, .int .i64 0] 28)) := below_alloc _ _
        have F9 := CBox.new z1 28 [.slice none 0 0, .slice none 0 0, .slice none 0 0, .slice none 0 0, .int .i64 0]
        have G9 : Hid (w.heap.size ≤ z1.heap.size ∧ b2 ≠ z1.heap.size ∧ b1 ≠ z1.heap.size) := ⟨by have h1 := B.out.1.size; exact h1, by have := B.out.2.1; omega, by have := B.out.2.2; omega⟩
        have H9 := HH.past hB
        clear HH
        have HH := H9
        clear H9
        have q9 := And.intro (B.out.1.trans (hB.mono (Nat.le_trans GE.out B.out.1.size))) (And.intro (Nat.lt_of_lt_of_le B.out.2.1 hB.size) (Nat.lt_of_lt_of_le B.out.2.2 hB.size))
        clear B
        have B : Hid (Below bw w (z1.alloc (.cells #[.slice none 0 0, .slice none 0 0, .slice none 0 0, .slice none 0 0, .int .i64 0] 28)) ∧ b2 < (z1.alloc (.cells #[.slice none 0 0, .slice none 0 0, .slice none 0 0, .slice none 0 0, .int .i64 0] 28)).heap.size ∧ b1 < (z1.alloc (.cells #[.slice none 0 0, .slice none 0 0, .slice none 0 0, .slice none 0 0, .int .i64 0] 28)).heap.size) := q9
        clear q9
        have q9 := BX.out.past hB
        clear BX
        have BX : Hid (CBox (z1.alloc (.cells #[.slice none 0 0, .slice none 0 0, .slice none 0 0, .slice none 0 0, .int .i64 0] 28)) b2 28 [.slice none 0 0, .slice none 0 0, .slice none 0 0, .slice none 0 0, .int .i64 0]) := q9
        clear q9
        have q9 := And.intro (SRC.out.1.past hB) (SRC.out.2.past hB)
        clear SRC
        have SRC : Hid (PL P (z1.alloc (.cells #[.slice none 0 0, .slice none 0 0, .slice none 0 0, .slice none 0 0, .int .i64 0] 28)) (.slice ca nc cc) c.cs ∧ PL P (z1.alloc (.cells #[.slice none 0 0, .slice none 0 0, .slice none 0 0, .slice none 0 0, .int .i64 0] 28)) (.slice sa ns sc) c.ss) := q9
        clear q9
        (try (have q9 := FC.out; clear FC; have FC : Hid (PO bw (z1.alloc (.cells #[.slice none 0 0, .slice none 0 0, .slice none 0 0, .slice none 0 0, .int .i64 0] 28)) (.slice xa nc xc) c.cs) := PO.past q9 hB; clear q9))
        (try (have q9 := FZ.out; clear FZ; have FZ : Hid (PO bw (z1.alloc (.cells #[.slice none 0 0, .slice none 0 0, .slice none 0 0, .slice none 0 0, .int .i64 0] 28)) (.slice ya ns yc) c.ss) := PO.past q9 hB; clear q9))
        have FX : Hid (CBox (z1.alloc (.cells #[.slice none 0 0, .slice none 0 0, .slice none 0 0, .slice none 0 0, .int .i64 0] 28)) z1.heap.size 28 [.slice none 0 0, .slice none 0 0, .slice none 0 0, .slice none 0 0, .int .i64 0]) := F9
        clear F9 hB
        refine hK.out _ (z1.alloc (.cells #[.slice none 0 0, .slice none 0 0, .slice none 0 0, .slice none 0 0, .int .i64 0] 28)) HH (fun _ => ?_)
        clear hK K
        (try simp only [Act.put, List.setIfInBounds_toArray, List.set_cons_zero, List.set_cons_succ])
        generalize z1.heap.size = b8 at FX G9 ⊢
        (first | generalize (z1.alloc (.cells #[.slice none 0 0, .slice none 0 0, .slice none 0 0, .slice none 0 0, .int .i64 0] 28)) = z1 at HH B BX SRC FX FC FZ ⊢ | generalize (z1.alloc (.cells #[.slice none 0 0, .slice none 0 0, .slice none 0 0, .slice none 0 0, .int .i64 0] 28)) = z1 at HH B BX SRC FX FC ⊢ | generalize (z1.alloc (.cells #[.slice none 0 0, .slice none 0 0, .slice none 0 0, .slice none 0 0, .int .i64 0] 28)) = z1 at HH B BX SRC FX ⊢)
        refine wpAnyH_ready (rs := [5]) (by kernel_rfl) (by simp) ?_
        refine AllReadyH.cons ov5 (fun K hK => ?_) AllReadyH.nil
        rw [if_pos (by rfl)]
        go_simp
        refine (copied_is _ _ c.ss SRC.out.2 (by have := HSM.out; unfold Small at this; omega)).mono ?_
        rintro e z1 ⟨v9, rfl, hP, hB⟩
        obtain ⟨ya, yc, e9⟩ := PO.sl hP
        rw [HLN.out.2.2.1] at e9
        subst e9
        have FAP : Hid (∀ g, OwnV (.slice ya ns yc) g → ¬ OwnV (.slice xa nc xc) g) := fun g h1 h2 => by have q1 := (PO.lt hP g h1).1; have q2 := (PO.lt FC.out g h2).2; omega
        have F9 := hP.base (Nat.le_trans GE.out B.out.1.size)
        clear hP
        have H9 := HH.past hB
        clear HH
        have HH := H9
        clear H9
        have q9 := And.intro (B.out.1.trans (hB.mono (Nat.le_trans GE.out B.out.1.size))) (And.intro (Nat.lt_of_lt_of_le B.out.2.1 hB.size) (Nat.lt_of_lt_of_le B.out.2.2 hB.size))
        clear B
        have B : Hid (Below bw w z1 ∧ b2 < z1.heap.size ∧ b1 < z1.heap.size) := q9
        clear q9
        have q9 := BX.out.past hB
        clear BX
        have BX : Hid (CBox z1 b2 28 [.slice none 0 0, .slice none 0 0, .slice none 0 0, .slice none 0 0, .int .i64 0]) := q9
        clear q9
        have q9 := And.intro (SRC.out.1.past hB) (SRC.out.2.past hB)
        clear SRC
        have SRC : Hid (PL P z1 (.slice ca nc cc) c.cs ∧ PL P z1 (.slice sa ns sc) c.ss) := q9
        clear q9
        (try (have q9 := FC.out; clear FC; have FC : Hid (PO bw z1 (.slice xa nc xc) c.cs) := PO.past q9 hB; clear q9))
        (try (have q9 := FX.out; clear FX; have FX : Hid (CBox z1 b8 28 [.slice none 0 0, .slice none 0 0, .slice none 0 0, .slice none 0 0, .int .i64 0]) := CBox.past q9 hB; clear q9))
        have FZ : Hid (PO bw z1 (.slice ya ns yc) c.ss) := F9
        clear F9 hB
        (try go_wp2_with fail)
        refine hK.out _ _ HH (fun _ => ?_)
        clear hK K
        (try simp only [Act.put, List.setIfInBounds_toArray, List.set_cons_zero, List.set_cons_succ])
        refine wpAnyH_take (i := 7) (v := .agg #[.slice none 0 0, .slice xa nc xc, .slice ya ns yc, .slice none 0 0, .int .i64 (nz : Int)]) ov7 (by kernel_rfl) (by kernel_rfl) (by kernel_rfl) (fun _ _ _ h => h) (Or.inl ⟨by rfl, fun V' hS => ?_⟩) HH ?_
        · go_simp
        simp only [Act.put, List.setIfInBounds_toArray, List.set_cons_zero, List.set_cons_succ]
        refine wpAnyH_ready (rs := [9]) (by kernel_rfl) (by simp) ?_
        refine AllReadyH.cons ov9 (fun K hK => ?_) AllReadyH.nil
        rw [if_pos (by rfl)]
        have k0 : z1.cell? ⟨b8, 0, none⟩ = some (.slice none 0 0) := FX.out.cell 0
        have k1 : z1.cell? ⟨b8, 1, none⟩ = some (.slice none 0 0) := FX.out.cell 1
        have k2 : z1.cell? ⟨b8, 2, none⟩ = some (.slice none 0 0) := FX.out.cell 2
        have k3 : z1.cell? ⟨b8, 3, none⟩ = some (.slice none 0 0) := FX.out.cell 3
        have k4 : z1.cell? ⟨b8, 4, none⟩ = some (.int .i64 0) := FX.out.cell 4
        have f0 := CBox.frozen FX.out 0
        have f1 := CBox.frozen FX.out 1
        have f2 := CBox.frozen FX.out 2
        have f3 := CBox.frozen FX.out 3
        have f4 := CBox.frozen FX.out 4
        go_simp
        clear k0 k1 k2 k3 k4 f0 f1 f2 f3 f4
        have hs : But (fun y => y = b8) z1 (((((z1.setCell ⟨b8, 0, none⟩ (.slice none 0 0)).setCell ⟨b8, 1, none⟩ (.slice xa nc xc)).setCell ⟨b8, 2, none⟩ (.slice ya ns yc)).setCell ⟨b8, 3, none⟩ (.slice none 0 0)).setCell ⟨b8, 4, none⟩ (.int .i64 (nz : Int))) := ((((((But.refl (fun y => y = b8) z1).setCell ⟨b8, 0, none⟩ _ (Or.inl rfl)).setCell ⟨b8, 1, none⟩ _ (Or.inl rfl)).setCell ⟨b8, 2, none⟩ _ (Or.inl rfl)).setCell ⟨b8, 3, none⟩ _ (Or.inl rfl)).setCell ⟨b8, 4, none⟩ _ (Or.inl rfl))
        have ra : Alien z1 b8 := ⟨_, _, FX.out, by decide, by decide, by decide⟩
        have cb : CBox (((((z1.setCell ⟨b8, 0, none⟩ (.slice none 0 0)).setCell ⟨b8, 1, none⟩ (.slice xa nc xc)).setCell ⟨b8, 2, none⟩ (.slice ya ns yc)).setCell ⟨b8, 3, none⟩ (.slice none 0 0)).setCell ⟨b8, 4, none⟩ (.int .i64 (nz : Int))) b8 28 [.slice none 0 0, .slice xa nc xc, .slice ya ns yc, .slice none 0 0, .int .i64 (nz : Int)] := (((((FX.out.set 0 _).set 1 _).set 2 _).set 3 _).set 4 _)
        have HZ : Hid (LyZ b1 b2 b8 bw w (((((z1.setCell ⟨b8, 0, none⟩ (.slice none 0 0)).setCell ⟨b8, 1, none⟩ (.slice xa nc xc)).setCell ⟨b8, 2, none⟩ (.slice ya ns yc)).setCell ⟨b8, 3, none⟩ (.slice none 0 0)).setCell ⟨b8, 4, none⟩ (.int .i64 (nz : Int))) [.slice ta nt tc, .slice ca nc cc, .slice sa ns sc, .slice da nd dc, .int .i64 z] [.slice none 0 0, .slice xa nc xc, .slice ya ns yc, .slice none 0 0, .int .i64 (nz : Int)] [.slice none 0 0, .slice none 0 0, .slice none 0 0, .slice none 0 0, .int .i64 0] (.slice xa nc xc) (.slice ya ns yc) c) := ⟨cb, HH.but hs G9.out.2.2, BX.out.but hs G9.out.2.1, PO.alien FC.out hs ra, PO.alien FZ.out hs ra, (show Below w.heap.size w z1 from by first | exact B.out.1 | (rw [GB.out]; exact B.out.1)).trans (hs.below (fun g e => by have := G9.out.1; omega) (show w.heap.size ≤ z1.heap.size from by have h1 := B.out.1.size; exact h1)), FAP.out, G9.out.1, G9.out.2.1, G9.out.2.2⟩
        have HHN := HH.but hs G9.out.2.2
        clear hs ra cb HH
        refine hK.out _ (((((z1.setCell ⟨b8, 0, none⟩ (.slice none 0 0)).setCell ⟨b8, 1, none⟩ (.slice xa nc xc)).setCell ⟨b8, 2, none⟩ (.slice ya ns yc)).setCell ⟨b8, 3, none⟩ (.slice none 0 0)).setCell ⟨b8, 4, none⟩ (.int .i64 (nz : Int))) HHN (fun _ => ?_)
        clear hK K
        (try simp only [Act.put, List.setIfInBounds_toArray, List.set_cons_zero, List.set_cons_succ])
        generalize (((((z1.setCell ⟨b8, 0, none⟩ (.slice none 0 0)).setCell ⟨b8, 1, none⟩ (.slice xa nc xc)).setCell ⟨b8, 2, none⟩ (.slice ya ns yc)).setCell ⟨b8, 3, none⟩ (.slice none 0 0)).setCell ⟨b8, 4, none⟩ (.int .i64 (nz : Int))) = Z at HZ HHN ⊢
        clear B BX SRC FC FZ FX
        refine wpAnyH_done (by kernel_rfl) ?_ _
        clear HHN
        go_wp2
        go_meet
        case rel => exact ⟨b8, xa, xc, ya, yc, rfl, HZ.out⟩
    · rw [if_pos (by rfl)]
      go_simp
      have hB : Below z1.heap.size z1 (z1.alloc (.cells #[.slice none 0 0, .slice none 0 0, .slice none 0 0, .slice none 0 0, .int .i64 0] 28)) := below_alloc _ _
      have F9 := CBox.new z1 28 [.slice none 0 0, .slice none 0 0, .slice none 0 0, .slice none 0 0, .int .i64 0]
      have G9 : Hid (w.heap.size ≤ z1.heap.size ∧ b2 ≠ z1.heap.size ∧ b1 ≠ z1.heap.size) := ⟨by have h1 := B.out.1.size; exact h1, by have := B.out.2.1; omega, by have := B.out.2.2; omega⟩
      have H9 := HH.past hB
      clear HH
      have HH := H9
      clear H9
      have q9 := And.intro (B.out.1.trans (hB.mono (Nat.le_trans GE.out B.out.1.size))) (And.intro (Nat.lt_of_lt_of_le B.out.2.1 hB.size) (Nat.lt_of_lt_of_le B.out.2.2 hB.size))
      clear B
      have B : Hid (Below bw w (z1.alloc (.cells #[.slice none 0 0, .slice none 0 0, .slice none 0 0, .slice none 0 0, .int .i64 0] 28)) ∧ b2 < (z1.alloc (.cells #[.slice none 0 0, .slice none 0 0, .slice none 0 0, .slice none 0 0, .int .i64 0] 28)).heap.size ∧ b1 < (z1.alloc (.cells #[.slice none 0 0, .slice none 0 0, .slice none 0 0, .slice none 0 0, .int .i64 0] 28)).heap.size) := q9
      clear q9
      have q9 := BX.out.past hB
      clear BX
      have BX : Hid (CBox (z1.alloc (.cells #[.slice none 0 0, .slice none 0 0, .slice none 0 0, .slice none 0 0, .int .i64 0] 28)) b2 28 [.slice none 0 0, .slice none 0 0, .slice none 0 0, .slice none 0 0, .int .i64 0]) := q9
      clear q9
      have q9 := And.intro (SRC.out.1.past hB) (SRC.out.2.past hB)
      clear SRC
      have SRC : Hid (PL P (z1.alloc (.cells #[.slice none 0 0, .slice none 0 0, .slice none 0 0, .slice none 0 0, .int .i64 0] 28)) (.slice ca nc cc) c.cs ∧ PL P (z1.alloc (.cells #[.slice none 0 0, .slice none 0 0, .slice none 0 0, .slice none 0 0, .int .i64 0] 28)) (.slice sa ns sc) c.ss) := q9
      clear q9
      (try (have q9 := FC.out; clear FC; have FC : Hid (PO bw (z1.alloc (.cells #[.slice none 0 0, .slice none 0 0, .slice none 0 0, .slice none 0 0, .int .i64 0] 28)) (.slice xa nc xc) c.cs) := PO.past q9 hB; clear q9))
      (try (have q9 := FZ.out; clear FZ; have FZ : Hid (PO bw (z1.alloc (.cells #[.slice none 0 0, .slice none 0 0, .slice none 0 0, .slice none 0 0, .int .i64 0] 28)) (.slice ya ns yc) c.ss) := PO.past q9 hB; clear q9))
      have FX : Hid (CBox (z1.alloc (.cells #[.slice none 0 0, .slice none 0 0, .slice none 0 0, .slice none 0 0, .int .i64 0] 28)) z1.heap.size 28 [.slice none 0 0, .slice none 0 0, .slice none 0 0, .slice none 0 0, .int .i64 0]) := F9
      clear F9 hB
      refine hK.out _ (z1.alloc (.cells #[.slice none 0 0, .slice none 0 0, .slice none 0 0, .slice none 0 0, .int .i64 0] 28)) HH (fun _ => ?_)
      clear hK K
      (try simp only [Act.put, List.setIfInBounds_toArray, List.set_cons_zero, List.set_cons_succ])
      generalize z1.heap.size = b8 at FX G9 ⊢
      (first | generalize (z1.alloc (.cells #[.slice none 0 0, .slice none 0 0, .slice none 0 0, .slice none 0 0, .int .i64 0] 28)) = z1 at HH B BX SRC FX FC FZ ⊢ | generalize (z1.alloc (.cells #[.slice none 0 0, .slice none 0 0, .slice none 0 0, .slice none 0 0, .int .i64 0] 28)) = z1 at HH B BX SRC FX FC ⊢ | generalize (z1.alloc (.cells #[.slice none 0 0, .slice none 0 0, .slice none 0 0, .slice none 0 0, .int .i64 0] 28)) = z1 at HH B BX SRC FX ⊢)
      refine wpAnyH_ready (rs := [2]) (by kernel_rfl) (by simp) ?_
      refine AllReadyH.cons ov2 (fun K hK => ?_) AllReadyH.nil
      rw [if_pos (by rfl)]
      go_simp
      refine (copied_is _ _ c.cs SRC.out.1 (by have := HSM.out; unfold Small at this; omega)).mono ?_
      rintro e z1 ⟨v9, rfl, hP, hB⟩
      obtain ⟨xa, xc, e9⟩ := PO.sl hP
      rw [HLN.out.2.1] at e9
      subst e9
      have F9 := hP.base (Nat.le_trans GE.out B.out.1.size)
      clear hP
      have H9 := HH.past hB
      clear HH
      have HH := H9
      clear H9
      have q9 := And.intro (B.out.1.trans (hB.mono (Nat.le_trans GE.out B.out.1.size))) (And.intro (Nat.lt_of_lt_of_le B.out.2.1 hB.size) (Nat.lt_of_lt_of_le B.out.2.2 hB.size))
      clear B
      have B : Hid (Below bw w z1 ∧ b2 < z1.heap.size ∧ b1 < z1.heap.size) := q9
      clear q9
      have q9 := BX.out.past hB
      clear BX
      have BX : Hid (CBox z1 b2 28 [.slice none 0 0, .slice none 0 0, .slice none 0 0, .slice none 0 0, .int .i64 0]) := q9
      clear q9
      have q9 := And.intro (SRC.out.1.past hB) (SRC.out.2.past hB)
      clear SRC
      have SRC : Hid (PL P z1 (.slice ca nc cc) c.cs ∧ PL P z1 (.slice sa ns sc) c.ss) := q9
      clear q9
      (try (have q9 := FZ.out; clear FZ; have FZ : Hid (PO bw z1 (.slice ya ns yc) c.ss) := PO.past q9 hB; clear q9))
      (try (have q9 := FX.out; clear FX; have FX : Hid (CBox z1 b8 28 [.slice none 0 0, .slice none 0 0, .slice none 0 0, .slice none 0 0, .int .i64 0]) := CBox.past q9 hB; clear q9))
      have FC : Hid (PO bw z1 (.slice xa nc xc) c.cs) := F9
      clear F9 hB
      (try go_wp2_with fail)
      refine hK.out _ _ HH (fun _ => ?_)
      clear hK K
      (try simp only [Act.put, List.setIfInBounds_toArray, List.set_cons_zero, List.set_cons_succ])
      refine wpAnyH_ready (rs := [5]) (by kernel_rfl) (by simp) ?_
      refine AllReadyH.cons ov5 (fun K hK => ?_) AllReadyH.nil
      rw [if_pos (by rfl)]
      go_simp
      refine (copied_is _ _ c.ss SRC.out.2 (by have := HSM.out; unfold Small at this; omega)).mono ?_
      rintro e z1 ⟨v9, rfl, hP, hB⟩
      obtain ⟨ya, yc, e9⟩ := PO.sl hP
      rw [HLN.out.2.2.1] at e9
      subst e9
      have FAP : Hid (∀ g, OwnV (.slice ya ns yc) g → ¬ OwnV (.slice xa nc xc) g) := fun g h1 h2 => by have q1 := (PO.lt hP g h1).1; have q2 := (PO.lt FC.out g h2).2; omega
      have F9 := hP.base (Nat.le_trans GE.out B.out.1.size)
      clear hP
      have H9 := HH.past hB
      clear HH
      have HH := H9
      clear H9
      have q9 := And.intro (B.out.1.trans (hB.mono (Nat.le_trans GE.out B.out.1.size))) (And.intro (Nat.lt_of_lt_of_le B.out.2.1 hB.size) (Nat.lt_of_lt_of_le B.out.2.2 hB.size))
      clear B
      have B : Hid (Below bw w z1 ∧ b2 < z1.heap.size ∧ b1 < z1.heap.size) := q9
      clear q9
      have q9 := BX.out.past hB
      clear BX
      have BX : Hid (CBox z1 b2 28 [.slice none 0 0, .slice none 0 0, .slice none 0 0, .slice none 0 0, .int .i64 0]) := q9
      clear q9
      have q9 := And.intro (SRC.out.1.past hB) (SRC.out.2.past hB)
      clear SRC
      have SRC : Hid (PL P z1 (.slice ca nc cc) c.cs ∧ PL P z1 (.slice sa ns sc) c.ss) := q9
      clear q9
      (try (have q9 := FC.out; clear FC; have FC : Hid (PO bw z1 (.slice xa nc xc) c.cs) := PO.past q9 hB; clear q9))
      (try (have q9 := FX.out; clear FX; have FX : Hid (CBox z1 b8 28 [.slice none 0 0, .slice none 0 0, .slice none 0 0, .slice none 0 0, .int .i64 0]) := CBox.past q9 hB; clear q9))
      have FZ : Hid (PO bw z1 (.slice ya ns yc) c.ss) := F9
      clear F9 hB
      (try go_wp2_with fail)
      refine hK.out _ _ HH (fun _ => ?_)
      clear hK K
      (try simp only [Act.put, List.setIfInBounds_toArray, List.set_cons_zero, List.set_cons_succ])
      refine wpAnyH_take (i := 7) (v := .agg #[.slice none 0 0, .slice xa nc xc, .slice ya ns yc, .slice none 0 0, .int .i64 (nz : Int)]) ov7 (by kernel_rfl) (by kernel_rfl) (by kernel_rfl) (fun _ _ _ h => h) (Or.inl ⟨by rfl, fun V' hS => ?_⟩) HH ?_
      · go_simp
      simp only [Act.put, List.setIfInBounds_toArray, List.set_cons_zero, List.set_cons_succ]
      refine wpAnyH_ready (rs := [9]) (by kernel_rfl) (by simp) ?_
      refine AllReadyH.cons ov9 (fun K hK => ?_) AllReadyH.nil
      rw [if_pos (by rfl)]
      have k0 : z1.cell? ⟨b8, 0, none⟩ = some (.slice none 0 0) := FX.out.cell 0
      have k1 : z1.cell? ⟨b8, 1, none⟩ = some (.slice none 0 0) := FX.out.cell 1
      have k2 : z1.cell? ⟨b8, 2, none⟩ = some (.slice none 0 0) := FX.out.cell 2
      have k3 : z1.cell? ⟨b8, 3, none⟩ = some (.slice none 0 0) := FX.out.cell 3
      have k4 : z1.cell? ⟨b8, 4, none⟩ = some (.int .i64 0) := FX.out.cell 4
      have f0 := CBox.frozen FX.out 0
      have f1 := CBox.frozen FX.out 1
      have f2 := CBox.frozen FX.out 2
      have f3 := CBox.frozen FX.out 3
      have f4 := CBox.frozen FX.out 4
      go_simp
      clear k0 k1 k2 k3 k4 f0 f1 f2 f3 f4
      have hs : But (fun y => y = b8) z1 (((((z1.setCell ⟨b8, 0, none⟩ (.slice none 0 0)).setCell ⟨b8, 1, none⟩ (.slice xa nc xc)).setCell ⟨b8, 2, none⟩ (.slice ya ns yc)).setCell ⟨b8, 3, none⟩ (.slice none 0 0)).setCell ⟨b8, 4, none⟩ (.int .i64 (nz : Int))) := ((((((But.refl (fun y => y = b8) z1).setCell ⟨b8, 0, none⟩ _ (Or.inl rfl)).setCell ⟨b8, 1, none⟩ _ (Or.inl rfl)).setCell ⟨b8, 2, none⟩ _ (Or.inl rfl)).setCell ⟨b8, 3, none⟩ _ (Or.inl rfl)).setCell ⟨b8, 4, none⟩ _ (Or.inl rfl))
      have ra : Alien z1 b8 := ⟨_, _, FX.out, by decide, by decide, by decide⟩
      have cb : CBox (((((z1.setCell ⟨b8, 0, none⟩ (.slice none 0 0)).setCell ⟨b8, 1, none⟩ (.slice xa nc xc)).setCell ⟨b8, 2, none⟩ (.slice ya ns yc)).setCell ⟨b8, 3, none⟩ (.slice none 0 0)).setCell ⟨b8, 4, none⟩ (.int .i64 (nz : Int))) b8 28 [.slice none 0 0, .slice xa nc xc, .slice ya ns yc, .slice none 0 0, .int .i64 (nz : Int)] := (((((FX.out.set 0 _).set 1 _).set 2 _).set 3 _).set 4 _)
      have HZ : Hid (LyZ b1 b2 b8 bw w (((((z1.setCell ⟨b8, 0, none⟩ (.slice none 0 0)).setCell ⟨b8, 1, none⟩ (.slice xa nc xc)).setCell ⟨b8, 2, none⟩ (.slice ya ns yc)).setCell ⟨b8, 3, none⟩ (.slice none 0 0)).setCell ⟨b8, 4, none⟩ (.int .i64 (nz : Int))) [.slice ta nt tc, .slice ca nc cc, .slice sa ns sc, .slice da nd dc, .int .i64 z] [.slice none 0 0, .slice xa nc xc, .slice ya ns yc, .slice none 0 0, .int .i64 (nz : Int)] [.slice none 0 0, .slice none 0 0, .slice none 0 0, .slice none 0 0, .int .i64 0] (.slice xa nc xc) (.slice ya ns yc) c) := ⟨cb, HH.but hs G9.out.2.2, BX.out.but hs G9.out.2.1, PO.alien FC.out hs ra, PO.alien FZ.out hs ra, (show Below w.heap.size w z1 from by first | exact B.out.1 | (rw [GB.out]; exact B.out.1)).trans (hs.below (fun g e => by have := G9.out.1; omega) (show w.heap.size ≤ z1.heap.size from by have h1 := B.out.1.size; exact h1)), FAP.out, G9.out.1, G9.out.2.1, G9.out.2.2⟩
      have HHN := HH.but hs G9.out.2.2
      clear hs ra cb HH
      refine hK.out _ (((((z1.setCell ⟨b8, 0, none⟩ (.slice none 0 0)).setCell ⟨b8, 1, none⟩ (.slice xa nc xc)).setCell ⟨b8, 2, none⟩ (.slice ya ns yc)).setCell ⟨b8, 3, none⟩ (.slice none 0 0)).setCell ⟨b8, 4, none⟩ (.int .i64 (nz : Int))) HHN (fun _ => ?_)
      clear hK K
      (try simp only [Act.put, List.setIfInBounds_toArray, List.set_cons_zero, List.set_cons_succ])
      generalize (((((z1.setCell ⟨b8, 0, none⟩ (.slice none 0 0)).setCell ⟨b8, 1, none⟩ (.slice xa nc xc)).setCell ⟨b8, 2, none⟩ (.slice ya ns yc)).setCell ⟨b8, 3, none⟩ (.slice none 0 0)).setCell ⟨b8, 4, none⟩ (.int .i64 (nz : Int))) = Z at HZ HHN ⊢
      clear B BX SRC FC FZ FX
      refine wpAnyH_done (by kernel_rfl) ?_ _
      clear HHN
      go_wp2
      go_meet
      case rel => exact ⟨b8, xa, xc, ya, yc, rfl, HZ.out⟩
  case rest =>
    obtain ⟨b8, xa, xc, ya, yc, rfl, hZ⟩ := hcut
    have HZ : Hid (LyZ b1 b2 b8 bw w wc [.slice ta nt tc, .slice ca nc cc, .slice sa ns sc, .slice da nd dc, .int .i64 z] [.slice none 0 0, .slice xa nc xc, .slice ya ns yc, .slice none 0 0, .int .i64 (nz : Int)] [.slice none 0 0, .slice none 0 0, .slice none 0 0, .slice none 0 0, .int .i64 0] (.slice xa nc xc) (.slice ya ns yc) c) := hZ
    clear hZ M
    generalize hZZ : wc = Z at *
    clear hZZ
    obtain ⟨B, hBz⟩ : ∃ B, B = Z.heap.size := ⟨_, rfl⟩
    have HBZ : Hid (Z.heap.size ≤ B) := by unfold Hid; omega
    have HGB : Hid (bw ≤ B) := by have h1 := HZ.out.bel.size; have := GE.out; unfold Hid; omega
    have HNE : Hid (b1 ≠ b8 ∧ b2 ≠ b8 ∧ b1 < B ∧ b2 < B) := ⟨HZ.out.n1, HZ.out.n2, by have := HZ.out.c1.lt; omega, by have := HZ.out.c2.lt; omega⟩
    have H : Hid (LN b8 B w Z Z (.slice none 0 0) (0) (.slice xa nc xc) (.slice ya ns yc) (.slice none 0 0) (0) ([]) ([]) nz) := ⟨HZ.out.c8, World.ownsRow_nil _ _ _ _, World.ownsRow_nil _ _ _ _, But.refl _ _, HZ.out.bel, HZ.out.g8, by have := HZ.out.c8.lt; omega, by omega⟩
    have HZAP : Hid (∀ g, OwnV (.slice ya ns yc) g → ¬ OwnV (.slice xa nc xc) g) := HZ.out.ap
    clear hBz
    go_wp2
    go_loopw [9] (fun s9 wr => ∃ (k : Nat) (qa : Option Addr) (qc : Nat), s9 = .int .i64 (k : Int) ∧ k ≤ nt ∧ LN b8 B w Z wr (.slice qa k qc) (k) (.slice xa nc xc) (.slice ya ns yc) (.slice none 0 0) (0) (c.ts.take k) ([]) nz) (fun s9 _ => nt - (intOf s9).toNat)
    case atStart => exact ⟨0, none, 0, rfl, by omega, H.out⟩
    case round =>
      obtain ⟨k, qa, qc, rfl, hk, hA⟩ := hrel
      clear H
      have H : Hid (LN b8 B w Z wr (.slice qa k qc) (k) (.slice xa nc xc) (.slice ya ns yc) (.slice none 0 0) (0) (c.ts.take k) ([]) nz) := hA
      clear hA
      have HB1 : Hid (CBox wr b1 28 [.slice ta nt tc, .slice ca nc cc, .slice sa ns sc, .slice da nd dc, .int .i64 z]) := HZ.out.c1.keptB H.out.but HNE.out.1 HNE.out.2.2.1
      have a0 : wr.cell? ⟨b1, 0, none⟩ = some (.slice ta nt tc) := HB1.out.cell 0
      by_cases e : k = nt
      · have q1 : ¬ (k : Int) < (nt : Int) := by omega
        have H9 : Hid (LN b8 B w Z wr (.slice qa nt qc) (nt) (.slice xa nc xc) (.slice ya ns yc) (.slice none 0 0) (0) (c.ts) ([]) nz) := by have h9 := H.out; rw [e, List.take_of_length_le (by have := HLN.out; omega)] at h9; exact h9
        clear H e hk
        have H := H9
        clear H9
        go_wp2
        go_loopw [10] (fun s10 wr => ∃ (k : Nat) (ra : Option Addr) (rc : Nat), s10 = .int .i64 (k : Int) ∧ k ≤ nz ∧ LN b8 B w Z wr (.slice qa nt qc) (nt) (.slice xa nc xc) (.slice ya ns yc) (.slice ra k rc) (k) (c.ts) ((c.d ++ b).take k) nz) (fun s10 _ => nz - (intOf s10).toNat)
        case atStart => exact ⟨0, none, 0, rfl, by omega, by simpa using H.out⟩
        case round =>
          obtain ⟨k, ra, rc, rfl, hk, hA⟩ := hrel
          clear H HB1
          have H : Hid (LN b8 B w Z wr (.slice qa nt qc) (nt) (.slice xa nc xc) (.slice ya ns yc) (.slice ra k rc) (k) (c.ts) ((c.d ++ b).take k) nz) := hA
          clear hA
          have HB1 : Hid (CBox wr b1 28 [.slice ta nt tc, .slice ca nc cc, .slice sa ns sc, .slice da nd dc, .int .i64 z]) := HZ.out.c1.keptB H.out.but HNE.out.1 HNE.out.2.2.1
          by_cases e : k = nz
          · have q1 : ¬ (k : Int) < (nz : Int) := by omega
            have H9 : Hid (LN b8 B w Z wr (.slice qa nt qc) (nt) (.slice xa nc xc) (.slice ya ns yc) (.slice ra nz rc) (nz) (c.ts) (c.d ++ b) nz) := by have h9 := H.out; rw [e, List.take_of_length_le (by rw [List.length_append]; have := HNZ.out; have := HLN.out; omega)] at h9; exact h9
            clear H e hk
            have H := H9
            clear H9
            have C2 : Hid (CBox wr b2 28 [.slice none 0 0, .slice none 0 0, .slice none 0 0, .slice none 0 0, .int .i64 0]) := HZ.out.c2.keptB H.out.but HNE.out.2.1 HNE.out.2.2.2
            have HP : Hid (PO bw wr (.slice xa nc xc) c.cs ∧ PO bw wr (.slice ya ns yc) c.ss) := ⟨HZ.out.px.keptB H.out.but HBZ.out HZ.out.c8, HZ.out.py.keptB H.out.but HBZ.out HZ.out.c8⟩
            have x0 : wr.cell? ⟨b8, 0, none⟩ = some (.slice qa nt qc) := H.out.box.cell 0
            have x1 : wr.cell? ⟨b8, 1, none⟩ = some (.slice xa nc xc) := H.out.box.cell 1
            have x2 : wr.cell? ⟨b8, 2, none⟩ = some (.slice ya ns yc) := H.out.box.cell 2
            have x3 : wr.cell? ⟨b8, 3, none⟩ = some (.slice ra nz rc) := H.out.box.cell 3
            have x4 : wr.cell? ⟨b8, 4, none⟩ = some (.int .i64 (nz : Int)) := H.out.box.cell 4
            have k0 : wr.cell? ⟨b2, 0, none⟩ = some (.slice none 0 0) := C2.out.cell 0
            have f0 := CBox.frozen C2.out 0
            have k1 : wr.cell? ⟨b2, 1, none⟩ = some (.slice none 0 0) := C2.out.cell 1
            have f1 := CBox.frozen C2.out 1
            have k2 : wr.cell? ⟨b2, 2, none⟩ = some (.slice none 0 0) := C2.out.cell 2
            have f2 := CBox.frozen C2.out 2
            have k3 : wr.cell? ⟨b2, 3, none⟩ = some (.slice none 0 0) := C2.out.cell 3
            have f3 := CBox.frozen C2.out 3
            have k4 : wr.cell? ⟨b2, 4, none⟩ = some (.int .i64 0) := C2.out.cell 4
            have f4 := CBox.frozen C2.out 4
            have HF : Hid (CBox (((((wr.setCell ⟨b2, 0, none⟩ (.slice qa nt qc)).setCell ⟨b2, 1, none⟩ (.slice xa nc xc)).setCell ⟨b2, 2, none⟩ (.slice ya ns yc)).setCell ⟨b2, 3, none⟩ (.slice ra nz rc)).setCell ⟨b2, 4, none⟩ (.int .i64 (nz : Int))) b2 28 [.slice qa nt qc, .slice xa nc xc, .slice ya ns yc, .slice ra nz rc, .int .i64 (nz : Int)] ∧ DO bw (((((wr.setCell ⟨b2, 0, none⟩ (.slice qa nt qc)).setCell ⟨b2, 1, none⟩ (.slice xa nc xc)).setCell ⟨b2, 2, none⟩ (.slice ya ns yc)).setCell ⟨b2, 3, none⟩ (.slice ra nz rc)).setCell ⟨b2, 4, none⟩ (.int .i64 (nz : Int))) (.agg #[.slice qa nt qc, .slice xa nc xc, .slice ya ns yc, .slice ra nz rc, .int .i64 (nz : Int)]) ⟨c.ts, c.cs, c.ss, c.d ++ b, (nz : Int)⟩ ∧ Below w.heap.size w (((((wr.setCell ⟨b2, 0, none⟩ (.slice qa nt qc)).setCell ⟨b2, 1, none⟩ (.slice xa nc xc)).setCell ⟨b2, 2, none⟩ (.slice ya ns yc)).setCell ⟨b2, 3, none⟩ (.slice ra nz rc)).setCell ⟨b2, 4, none⟩ (.int .i64 (nz : Int)))) := by
              have hs : But (fun y => y = b2) wr (((((wr.setCell ⟨b2, 0, none⟩ (.slice qa nt qc)).setCell ⟨b2, 1, none⟩ (.slice xa nc xc)).setCell ⟨b2, 2, none⟩ (.slice ya ns yc)).setCell ⟨b2, 3, none⟩ (.slice ra nz rc)).setCell ⟨b2, 4, none⟩ (.int .i64 (nz : Int))) := ((((((But.refl (fun y => y = b2) wr).setCell ⟨b2, 0, none⟩ _ (Or.inl rfl)).setCell ⟨b2, 1, none⟩ _ (Or.inl rfl)).setCell ⟨b2, 2, none⟩ _ (Or.inl rfl)).setCell ⟨b2, 3, none⟩ _ (Or.inl rfl)).setCell ⟨b2, 4, none⟩ _ (Or.inl rfl))
              have ra9 : Alien wr b2 := ⟨_, _, C2.out, by decide, by decide, by decide⟩
              have hl := HLN.out
              have hz := HNZ.out
              have hgz := HGB.out
              have h1 : World.ownsRow (((((wr.setCell ⟨b2, 0, none⟩ (.slice qa nt qc)).setCell ⟨b2, 1, none⟩ (.slice xa nc xc)).setCell ⟨b2, 2, none⟩ (.slice ya ns yc)).setCell ⟨b2, 3, none⟩ (.slice ra nz rc)).setCell ⟨b2, 4, none⟩ (.int .i64 (nz : Int))) bw 77 3 (.slice qa c.ts.length qc) c.ts.length (tV c.ts) := by rw [hl.1]; exact row_alienT (owns_base H.out.t hgz) hs ra9
              have h2 : World.ownsRow (((((wr.setCell ⟨b2, 0, none⟩ (.slice qa nt qc)).setCell ⟨b2, 1, none⟩ (.slice xa nc xc)).setCell ⟨b2, 2, none⟩ (.slice ya ns yc)).setCell ⟨b2, 3, none⟩ (.slice ra nz rc)).setCell ⟨b2, 4, none⟩ (.int .i64 (nz : Int))) bw 5 1 (.slice ra (c.d ++ b).length rc) (c.d ++ b).length (bV (c.d ++ b)) := by rw [show (c.d ++ b).length = nz by rw [List.length_append]; omega]; exact row_alien (owns_base H.out.dd hgz) hs ra9
              have h3 := PO.alien HP.out.1 hs ra9
              have h4 := PO.alien HP.out.2 hs ra9
              refine ⟨(((((C2.out.set 0 _).set 1 _).set 2 _).set 3 _).set 4 _), ⟨qa, qc, xa, xc, ya, yc, ra, rc, ?_, h1, by rw [hl.2.1]; exact h3, by rw [hl.2.2.1]; exact h4, h2, by rw [hl.2.1, hl.2.2.1]; exact HZAP.out⟩, H.out.bel.trans (hs.below (fun g e => by have := GL.out; omega) H.out.bel.size)⟩
              rw [hl.1, hl.2.1, hl.2.2.1, show (c.d ++ b).length = nz by rw [List.length_append]; omega]
            clear H C2 HP HZ
            go_wp2
            clear x0 x1 x2 x3 x4 k0 k1 k2 k3 k4 f0 f1 f2 f3 f4
            generalize (((((wr.setCell ⟨b2, 0, none⟩ (.slice qa nt qc)).setCell ⟨b2, 1, none⟩ (.slice xa nc xc)).setCell ⟨b2, 2, none⟩ (.slice ya ns yc)).setCell ⟨b2, 3, none⟩ (.slice ra nz rc)).setCell ⟨b2, 4, none⟩ (.int .i64 (nz : Int))) = Z9 at HF ⊢
            refine bodyPost_ret (v := .tuple #[.agg #[.slice qa nt qc, .slice xa nc xc, .slice ya ns yc, .slice ra nz rc, .int .i64 (nz : Int)], .int .i64 0]) (results_ct (p := 4) (q := 5) (ty := 28) Try.results28 _ _ _ ⟨b2, 0, none⟩ rfl rfl (run_loadVar_mid Z9 b2 0 28 [.slice qa nt qc, .slice xa nc xc, .slice ya ns yc, .slice ra nz rc, .int .i64 (nz : Int)] _ HF.out.1.range Try.underlying28 rfl (by kernel_rfl))) rfl ?_
            refine ⟨?_, by first | exact HF.out.2.2 | (rw [← GB.out]; exact HF.out.2.2)⟩
            rw [E.out]
            exact ⟨_, rfl, by first | exact HF.out.2.1 | (rw [GB.out]; exact HF.out.2.1) | (rw [← GB.out]; exact HF.out.2.1)⟩
          · have q1 : (k : Int) < (nz : Int) := by omega
            have HK : Hid (k < nz) := by unfold Hid; omega
            have HLK : Hid (((c.d ++ b).take k).length = k) := by unfold Hid; rw [List.length_take, List.length_append]; have := HNZ.out; have := HLN.out; omega
            obtain ⟨x, hx⟩ : ∃ x, (c.d ++ b)[k]? = some x := ⟨(c.d ++ b)[k]'(by rw [List.length_append]; have := HNZ.out; have := HLN.out; omega), List.getElem?_eq_getElem _⟩
            have HX : Hid ((c.d ++ b)[k]? = some x) := hx
            clear hx e hk
            by_cases e2 : k < nd
            · have q2 : (k : Int) < (nd : Int) := by omega
              have HXS : Hid (c.d[k]? = some x) := by have h9 := HX.out; rw [List.getElem?_append_left (by have := HLN.out; omega)] at h9; exact h9
              obtain ⟨g, a, eg, _⟩ := BL.get (SD.out wr H.out.bel) (i := k) (x := x) HXS.out
              subst eg
              have PX : Hid (∀ W, Below w.heap.size w W → W.cell? ⟨g, a + k, none⟩ = some (.int .u8 (x : Int))) := fun W hW => by
                obtain ⟨g', a', eg', h1⟩ := BL.get (SD.out W hW) (i := k) (x := x) HXS.out
                injection eg' with eg'
                injection eg' with e1 e2
                subst e1 e2
                exact h1
              clear HXS
              have kB : (k : Int) < 1152921504606846976 := by have := HBD.out; have := HK.out; omega
              have a3 : wr.cell? ⟨b1, 3, none⟩ = some (.slice (some ⟨g, a, none⟩) nd dc) := HB1.out.cell 3
              go_upto_region 18 with fail
              clear a3
              refine wp_region_held_drew (S := fun V' => CBox V' b1 28 [.slice ta nt tc, .slice ca nc cc, .slice sa ns sc, .slice (some ⟨g, a, none⟩) nd dc, .int .i64 z] ∧ Below w.heap.size w V') (by kernel_rfl) ⟨HB1.out.past below_drew, H.out.bel.drew⟩ (fun HH => ?_)
              have q9 := H.out.past below_drew
              clear H
              have H : Hid (LN b8 B w Z wr.drew (.slice qa nt qc) (nt) (.slice xa nc xc) (.slice ya ns yc) (.slice ra k rc) (k) (c.ts) ((c.d ++ b).take k) nz) := q9
              clear q9
              have q9 := HB1.out.past below_drew
              clear HB1
              have HB1 : Hid (CBox wr.drew b1 28 [.slice ta nt tc, .slice ca nc cc, .slice sa ns sc, .slice (some ⟨g, a, none⟩) nd dc, .int .i64 z]) := q9
              clear q9
              generalize wr.drew = z1 at HH H HB1 ⊢
              refine wpAnyH_take (i := 0) (v := .pointer (some ⟨b8, 3, none⟩)) ov0 (by kernel_rfl) (by kernel_rfl) (by kernel_rfl) (fun _ _ _ h => h) (Or.inl ⟨by rfl, fun V' hS => ?_⟩) HH ?_
              · go_simp
              simp only [Act.put, List.setIfInBounds_toArray, List.set_cons_zero, List.set_cons_succ]
              refine wpAnyH_take (i := 2) (v := .pointer (some ⟨b1, 3, none⟩)) ov2 (by kernel_rfl) (by kernel_rfl) (by kernel_rfl) (fun _ _ _ h => h) (Or.inl ⟨by rfl, fun V' hS => ?_⟩) HH ?_
              · go_simp
              simp only [Act.put, List.setIfInBounds_toArray, List.set_cons_zero, List.set_cons_succ]
              refine wpAnyH_take (i := 3) (v := .slice (some ⟨g, a, none⟩) nd dc) ov3 (by kernel_rfl) (by kernel_rfl) (by kernel_rfl) (fun _ _ _ h => h) (Or.inl ⟨by rfl, fun V' hS => ?_⟩) HH ?_
              · have c0 := hS.1.cell 3
                go_simp
              simp only [Act.put, List.setIfInBounds_toArray, List.set_cons_zero, List.set_cons_succ]
              refine wpAnyH_take (i := 4) (v := .int .i64 (k : Int)) ov4 (by kernel_rfl) (by kernel_rfl) (by kernel_rfl) (fun _ _ _ h => h) (Or.inl ⟨by rfl, fun V' hS => ?_⟩) HH ?_
              · go_simp
              simp only [Act.put, List.setIfInBounds_toArray, List.set_cons_zero, List.set_cons_succ]
              refine wpAnyH_take (i := 5) (v := .pointer (some ⟨g, a + k, none⟩)) ov5 (by kernel_rfl) (by kernel_rfl) (by kernel_rfl) (fun _ _ _ h => h) (Or.inl ⟨by rfl, fun V' hS => ?_⟩) HH ?_
              · go_simp
              simp only [Act.put, List.setIfInBounds_toArray, List.set_cons_zero, List.set_cons_succ]
              refine wpAnyH_take (i := 6) (v := .int .u8 (x : Int)) ov6 (by kernel_rfl) (by kernel_rfl) (by kernel_rfl) (fun _ _ _ h => h) (Or.inl ⟨by rfl, fun V' hS => ?_⟩) HH ?_
              · have c0 := PX.out V' hS.2
                go_simp
              simp only [Act.put, List.setIfInBounds_toArray, List.set_cons_zero, List.set_cons_succ]
              refine wpAnyH_ready (rs := [1, 7]) (by kernel_rfl) (by simp) ?_
              refine AllReadyH.cons ov1 (fun K hK => ?_) (AllReadyH.cons ov7 (fun K hK => ?_) AllReadyH.nil)
              · rw [if_pos (by rfl)]
                have c0 := H.out.box.cell 3
                go_simp
                clear c0
                refine hK.out _ _ HH (fun _ => ?_)
                clear hK K
                (try simp only [Act.put, List.setIfInBounds_toArray, List.set_cons_zero, List.set_cons_succ])
                refine wpAnyH_ready (rs := [7]) (by kernel_rfl) (by simp) ?_
                refine AllReadyH.cons ov7 (fun K hK => ?_) AllReadyH.nil
                rw [if_pos (by rfl)]
                go_simp
                have hB : Below z1.heap.size z1 (z1.alloc (.cells #[.int .u8 (x : Int)] 5)) := below_alloc _ _
                have F9 : BL (fun _ => True) (z1.alloc (.cells #[.int .u8 (x : Int)] 5)) (.slice (some ⟨z1.heap.size, 0, none⟩) 1 1) [x] := ((BL.new z1 [x] (by simp)).mono fun _ _ _ => trivial)
                have q9 := H.out.past hB
                clear H
                have H : Hid (LN b8 B w Z (z1.alloc (.cells #[.int .u8 (x : Int)] 5)) (.slice qa nt qc) (nt) (.slice xa nc xc) (.slice ya ns yc) (.slice ra k rc) (k) (c.ts) ((c.d ++ b).take k) nz) := q9
                clear q9
                have q9 := HB1.out.past hB
                clear HB1
                have HB1 : Hid (CBox (z1.alloc (.cells #[.int .u8 (x : Int)] 5)) b1 28 [.slice ta nt tc, .slice ca nc cc, .slice sa ns sc, .slice (some ⟨g, a, none⟩) nd dc, .int .i64 z]) := q9
                clear q9
                have FB : Hid (BL (fun _ => True) (z1.alloc (.cells #[.int .u8 (x : Int)] 5)) (.slice (some ⟨z1.heap.size, 0, none⟩) 1 1) [x]) := F9
                clear F9 hB
                refine hK.out _ (z1.alloc (.cells #[.int .u8 (x : Int)] 5)) ⟨HB1.out, H.out.bel⟩ (fun _ => ?_)
                clear hK K
                (try simp only [Act.put, List.setIfInBounds_toArray, List.set_cons_zero, List.set_cons_succ])
                generalize z1.heap.size = bb at FB ⊢
                generalize (z1.alloc (.cells #[.int .u8 (x : Int)] 5)) = z1 at H HB1 FB ⊢
                refine wpAnyH_ready (rs := [8]) (by kernel_rfl) (by simp) ?_
                refine AllReadyH.cons ov8 (fun K hK => ?_) AllReadyH.nil
                rw [if_pos (by rfl)]
                have hlk : ((c.d ++ b).take k).length = k := HLK.out
                have hrow : z1.ownsRow B 5 1 (.slice ra k rc) ((c.d ++ b).take k).length (bV ((c.d ++ b).take k)) := by rw [hlk]; exact H.out.dd
                refine wp_appB _ _ rfl B H.out.le (.slice ra k rc) ((c.d ++ b).take k) rfl hrow (.slice (some ⟨bb, 0, none⟩) 1 1) [x] rfl FB.out (by have := HBD.out; simp only [List.length_singleton]; omega) ?_
                intro v9 z9 hA
                obtain ⟨oa2, oc2, e9⟩ := owns_sl hA.row
                rw [List.length_append, List.length_singleton, hlk] at e9
                subst e9
                have hb9 : CBox z9 b1 28 [.slice ta nt tc, .slice ca nc cc, .slice sa ns sc, .slice (some ⟨g, a, none⟩) nd dc, .int .i64 z] := HB1.out.but hA.but (fun e => own_box H.out.dd HB1.out (by decide) e rfl)
                have c8 : CBox z9 b8 28 [.slice qa nt qc, .slice xa nc xc, .slice ya ns yc, .slice ra k rc, .int .i64 (nz : Int)] := H.out.box.but hA.but (fun e => own_box H.out.dd H.out.box (by decide) e rfl)
                have bel9 : Below w.heap.size w z9 := H.out.bel.trans (hA.but.below (fun g hg => by have h1 := (H.out.dd.lt g hg).1; have h2 := H.out.g8; have h3 := H.out.lt; omega) H.out.bel.size)
                have hA2 : App B 5 1 z1 z9 (.slice ra k rc) (.slice oa2 (k + 1) oc2) (k + 1) (bV ((c.d ++ b).take k ++ [x])) := by have h9 := hA; rw [List.length_append, List.length_singleton, hlk] at h9; exact h9
                clear hrow FB hA
                refine hK.out _ z9 ⟨hb9, bel9⟩ (fun _ => ?_)
                clear hK K
                (try simp only [Act.put, List.setIfInBounds_toArray, List.set_cons_zero, List.set_cons_succ])
                refine wpAnyH_take (i := 9) (v := .pointer (some ⟨b8, 3, none⟩)) ov9 (by kernel_rfl) (by kernel_rfl) (by kernel_rfl) (fun _ _ _ h => h) (Or.inl ⟨by rfl, fun V' hS => ?_⟩) ⟨hb9, bel9⟩ ?_
                · go_simp
                simp only [Act.put, List.setIfInBounds_toArray, List.set_cons_zero, List.set_cons_succ]
                refine wpAnyH_ready (rs := [10]) (by kernel_rfl) (by simp) ?_
                refine AllReadyH.cons ov10 (fun K hK => ?_) AllReadyH.nil
                rw [if_pos (by rfl)]
                have k0 := c8.cell 3
                have f0 := CBox.frozen c8 3
                go_simp
                clear k0 f0
                have H9 : Hid (LN b8 B w Z (z9.setCell ⟨b8, 3, none⟩ (.slice oa2 (k + 1) oc2)) (.slice qa nt qc) (nt) (.slice xa nc xc) (.slice ya ns yc) (.slice oa2 (k + 1) oc2) (k + 1) (c.ts) ((c.d ++ b).take k ++ [x]) nz) := H.out.appD hA2
                have hb8 : CBox (z9.setCell ⟨b8, 3, none⟩ (.slice oa2 (k + 1) oc2)) b1 28 [.slice ta nt tc, .slice ca nc cc, .slice sa ns sc, .slice (some ⟨g, a, none⟩) nd dc, .int .i64 z] := hb9.but ((But.refl (fun y => y = b8) z9).setCell ⟨b8, 3, none⟩ (.slice oa2 (k + 1) oc2) (Or.inl rfl)) HNE.out.1
                refine hK.out _ (z9.setCell ⟨b8, 3, none⟩ (.slice oa2 (k + 1) oc2)) ⟨hb8, H9.out.bel⟩ (fun _ => ?_)
                clear hK K
                (try simp only [Act.put, List.setIfInBounds_toArray, List.set_cons_zero, List.set_cons_succ])
                generalize (z9.setCell ⟨b8, 3, none⟩ (.slice oa2 (k + 1) oc2)) = z2 at H9 hb8 ⊢
                clear hb9 c8 bel9 hA2 hlk H HB1
                refine wpAnyH_done (by kernel_rfl) ?_ _
                have HR : Hid (LN b8 B w Z z2 (.slice qa nt qc) (nt) (.slice xa nc xc) (.slice ya ns yc) (.slice oa2 (k + 1) oc2) (k + 1) (c.ts) ((c.d ++ b).take (k + 1)) nz) := by have h9 := H9.out; rw [← take_snoc HX.out] at h9; exact h9
                clear H9 hb8 PX HX HLK
                go_wp2
                go_roundw
                case rel => exact ⟨k + 1, oa2, oc2, by first | rfl | go_num, by have := HK.out; omega, HR.out⟩
                case measure => simp [intOf]; omega
              · rw [if_pos (by rfl)]
                go_simp
                have hB : Below z1.heap.size z1 (z1.alloc (.cells #[.int .u8 (x : Int)] 5)) := below_alloc _ _
                have F9 : BL (fun _ => True) (z1.alloc (.cells #[.int .u8 (x : Int)] 5)) (.slice (some ⟨z1.heap.size, 0, none⟩) 1 1) [x] := ((BL.new z1 [x] (by simp)).mono fun _ _ _ => trivial)
                have q9 := H.out.past hB
                clear H
                have H : Hid (LN b8 B w Z (z1.alloc (.cells #[.int .u8 (x : Int)] 5)) (.slice qa nt qc) (nt) (.slice xa nc xc) (.slice ya ns yc) (.slice ra k rc) (k) (c.ts) ((c.d ++ b).take k) nz) := q9
                clear q9
                have q9 := HB1.out.past hB
                clear HB1
                have HB1 : Hid (CBox (z1.alloc (.cells #[.int .u8 (x : Int)] 5)) b1 28 [.slice ta nt tc, .slice ca nc cc, .slice sa ns sc, .slice (some ⟨g, a, none⟩) nd dc, .int .i64 z]) := q9
                clear q9
                have FB : Hid (BL (fun _ => True) (z1.alloc (.cells #[.int .u8 (x : Int)] 5)) (.slice (some ⟨z1.heap.size, 0, none⟩) 1 1) [x]) := F9
                clear F9 hB
                refine hK.out _ (z1.alloc (.cells #[.int .u8 (x : Int)] 5)) ⟨HB1.out, H.out.bel⟩ (fun _ => ?_)
                clear hK K
                (try simp only [Act.put, List.setIfInBounds_toArray, List.set_cons_zero, List.set_cons_succ])
                generalize z1.heap.size = bb at FB ⊢
                generalize (z1.alloc (.cells #[.int .u8 (x : Int)] 5)) = z1 at H HB1 FB ⊢
                refine wpAnyH_ready (rs := [1]) (by kernel_rfl) (by simp) ?_
                refine AllReadyH.cons ov1 (fun K hK => ?_) AllReadyH.nil
                rw [if_pos (by rfl)]
                have c0 := H.out.box.cell 3
                go_simp
                clear c0
                refine hK.out _ _ ⟨HB1.out, H.out.bel⟩ (fun _ => ?_)
                clear hK K
                (try simp only [Act.put, List.setIfInBounds_toArray, List.set_cons_zero, List.set_cons_succ])
                refine wpAnyH_ready (rs := [8]) (by kernel_rfl) (by simp) ?_
                refine AllReadyH.cons ov8 (fun K hK => ?_) AllReadyH.nil
                rw [if_pos (by rfl)]
                have hlk : ((c.d ++ b).take k).length = k := HLK.out
                have hrow : z1.ownsRow B 5 1 (.slice ra k rc) ((c.d ++ b).take k).length (bV ((c.d ++ b).take k)) := by rw [hlk]; exact H.out.dd
                refine wp_appB _ _ rfl B H.out.le (.slice ra k rc) ((c.d ++ b).take k) rfl hrow (.slice (some ⟨bb, 0, none⟩) 1 1) [x] rfl FB.out (by have := HBD.out; simp only [List.length_singleton]; omega) ?_
                intro v9 z9 hA
                obtain ⟨oa2, oc2, e9⟩ := owns_sl hA.row
                rw [List.length_append, List.length_singleton, hlk] at e9
                subst e9
                have hb9 : CBox z9 b1 28 [.slice ta nt tc, .slice ca nc cc, .slice sa ns sc, .slice (some ⟨g, a, none⟩) nd dc, .int .i64 z] := HB1.out.but hA.but (fun e => own_box H.out.dd HB1.out (by decide) e rfl)
                have c8 : CBox z9 b8 28 [.slice qa nt qc, .slice xa nc xc, .slice ya ns yc, .slice ra k rc, .int .i64 (nz : Int)] := H.out.box.but hA.but (fun e => own_box H.out.dd H.out.box (by decide) e rfl)
                have bel9 : Below w.heap.size w z9 := H.out.bel.trans (hA.but.below (fun g hg => by have h1 := (H.out.dd.lt g hg).1; have h2 := H.out.g8; have h3 := H.out.lt; omega) H.out.bel.size)
                have hA2 : App B 5 1 z1 z9 (.slice ra k rc) (.slice oa2 (k + 1) oc2) (k + 1) (bV ((c.d ++ b).take k ++ [x])) := by have h9 := hA; rw [List.length_append, List.length_singleton, hlk] at h9; exact h9
                clear hrow FB hA
                refine hK.out _ z9 ⟨hb9, bel9⟩ (fun _ => ?_)
                clear hK K
                (try simp only [Act.put, List.setIfInBounds_toArray, List.set_cons_zero, List.set_cons_succ])
                refine wpAnyH_take (i := 9) (v := .pointer (some ⟨b8, 3, none⟩)) ov9 (by kernel_rfl) (by kernel_rfl) (by kernel_rfl) (fun _ _ _ h => h) (Or.inl ⟨by rfl, fun V' hS => ?_⟩) ⟨hb9, bel9⟩ ?_
                · go_simp
                simp only [Act.put, List.setIfInBounds_toArray, List.set_cons_zero, List.set_cons_succ]
                refine wpAnyH_ready (rs := [10]) (by kernel_rfl) (by simp) ?_
                refine AllReadyH.cons ov10 (fun K hK => ?_) AllReadyH.nil
                rw [if_pos (by rfl)]
                have k0 := c8.cell 3
                have f0 := CBox.frozen c8 3
                go_simp
                clear k0 f0
                have H9 : Hid (LN b8 B w Z (z9.setCell ⟨b8, 3, none⟩ (.slice oa2 (k + 1) oc2)) (.slice qa nt qc) (nt) (.slice xa nc xc) (.slice ya ns yc) (.slice oa2 (k + 1) oc2) (k + 1) (c.ts) ((c.d ++ b).take k ++ [x]) nz) := H.out.appD hA2
                have hb8 : CBox (z9.setCell ⟨b8, 3, none⟩ (.slice oa2 (k + 1) oc2)) b1 28 [.slice ta nt tc, .slice ca nc cc, .slice sa ns sc, .slice (some ⟨g, a, none⟩) nd dc, .int .i64 z] := hb9.but ((But.refl (fun y => y = b8) z9).setCell ⟨b8, 3, none⟩ (.slice oa2 (k + 1) oc2) (Or.inl rfl)) HNE.out.1
                refine hK.out _ (z9.setCell ⟨b8, 3, none⟩ (.slice oa2 (k + 1) oc2)) ⟨hb8, H9.out.bel⟩ (fun _ => ?_)
                clear hK K
                (try simp only [Act.put, List.setIfInBounds_toArray, List.set_cons_zero, List.set_cons_succ])
                generalize (z9.setCell ⟨b8, 3, none⟩ (.slice oa2 (k + 1) oc2)) = z2 at H9 hb8 ⊢
                clear hb9 c8 bel9 hA2 hlk H HB1
                refine wpAnyH_done (by kernel_rfl) ?_ _
                have HR : Hid (LN b8 B w Z z2 (.slice qa nt qc) (nt) (.slice xa nc xc) (.slice ya ns yc) (.slice oa2 (k + 1) oc2) (k + 1) (c.ts) ((c.d ++ b).take (k + 1)) nz) := by have h9 := H9.out; rw [← take_snoc HX.out] at h9; exact h9
                clear H9 hb8 PX HX HLK
                go_wp2
                go_roundw
                case rel => exact ⟨k + 1, oa2, oc2, by first | rfl | go_num, by have := HK.out; omega, HR.out⟩
                case measure => simp [intOf]; omega
            · have q2 : ¬ (k : Int) < (nd : Int) := by omega
              obtain ⟨j, hj⟩ : ∃ j, k = nd + j := ⟨k - nd, by omega⟩
              have HXS : Hid (b[j]? = some x) := by have h9 := HX.out; rw [List.getElem?_append_right (by have := HLN.out; omega), HLN.out.2.2.2.1, hj, Nat.add_sub_cancel_left] at h9; exact h9
              obtain ⟨g, a, eg, _⟩ := BL.get (SU.out wr H.out.bel) (i := j) (x := x) HXS.out
              subst eg
              have HJ : Hid ((k : Int) - (nd : Int) = (j : Int) ∧ IntKind.i64.wrap (j : Int) = (j : Int)) := ⟨by omega, by have := HBD.out; have := HK.out; rw [IntKind.wrap_i64]; omega⟩
              have jI : (j : Int) < (nu : Int) := by have := HNZ.out; have := HK.out; omega
              have PX : Hid (∀ W, Below w.heap.size w W → W.cell? ⟨g, a + j, none⟩ = some (.int .u8 (x : Int))) := fun W hW => by
                obtain ⟨g', a', eg', h1⟩ := BL.get (SU.out W hW) (i := j) (x := x) HXS.out
                injection eg' with eg'
                injection eg' with e1 e2
                subst e1 e2
                exact h1
              clear HXS hj
              have kB2 : (k : Int) < 1152921504606846976 := by have := HBD.out; have := HK.out; omega
              have kB : (j : Int) < 1152921504606846976 := by have := HBD.out; have := HNZ.out; omega
              have a3 : wr.cell? ⟨b1, 3, none⟩ = some (.slice da nd dc) := HB1.out.cell 3
              go_upto_region 19 with fail
              clear a3
              refine wp_region_held_drew (S := fun V' => CBox V' b1 28 [.slice ta nt tc, .slice ca nc cc, .slice sa ns sc, .slice da nd dc, .int .i64 z] ∧ Below w.heap.size w V') (by kernel_rfl) ⟨HB1.out.past below_drew, H.out.bel.drew⟩ (fun HH => ?_)
              have q9 := H.out.past below_drew
              clear H
              have H : Hid (LN b8 B w Z wr.drew (.slice qa nt qc) (nt) (.slice xa nc xc) (.slice ya ns yc) (.slice ra k rc) (k) (c.ts) ((c.d ++ b).take k) nz) := q9
              clear q9
              have q9 := HB1.out.past below_drew
              clear HB1
              have HB1 : Hid (CBox wr.drew b1 28 [.slice ta nt tc, .slice ca nc cc, .slice sa ns sc, .slice da nd dc, .int .i64 z]) := q9
              clear q9
              generalize wr.drew = z1 at HH H HB1 ⊢
              refine wpAnyH_take (i := 0) (v := .pointer (some ⟨b8, 3, none⟩)) ov0 (by kernel_rfl) (by kernel_rfl) (by kernel_rfl) (fun _ _ _ h => h) (Or.inl ⟨by rfl, fun V' hS => ?_⟩) HH ?_
              · go_simp
              simp only [Act.put, List.setIfInBounds_toArray, List.set_cons_zero, List.set_cons_succ]
              refine wpAnyH_take (i := 2) (v := .slice (some ⟨g, a, none⟩) nu uc) ov2 (by kernel_rfl) (by kernel_rfl) (by kernel_rfl) (fun _ _ _ h => h) (Or.inl ⟨by rfl, fun V' hS => ?_⟩) HH ?_
              · go_simp
              simp only [Act.put, List.setIfInBounds_toArray, List.set_cons_zero, List.set_cons_succ]
              refine wpAnyH_take (i := 3) (v := .int .i64 (k : Int)) ov3 (by kernel_rfl) (by kernel_rfl) (by kernel_rfl) (fun _ _ _ h => h) (Or.inl ⟨by rfl, fun V' hS => ?_⟩) HH ?_
              · go_simp
              simp only [Act.put, List.setIfInBounds_toArray, List.set_cons_zero, List.set_cons_succ]
              refine wpAnyH_take (i := 4) (v := .pointer (some ⟨b1, 3, none⟩)) ov4 (by kernel_rfl) (by kernel_rfl) (by kernel_rfl) (fun _ _ _ h => h) (Or.inl ⟨by rfl, fun V' hS => ?_⟩) HH ?_
              · go_simp
              simp only [Act.put, List.setIfInBounds_toArray, List.set_cons_zero, List.set_cons_succ]
              refine wpAnyH_take (i := 5) (v := .slice da nd dc) ov5 (by kernel_rfl) (by kernel_rfl) (by kernel_rfl) (fun _ _ _ h => h) (Or.inl ⟨by rfl, fun V' hS => ?_⟩) HH ?_
              · have c0 := hS.1.cell 3
                go_simp
              simp only [Act.put, List.setIfInBounds_toArray, List.set_cons_zero, List.set_cons_succ]
              refine wpAnyH_take (i := 6) (v := .int .i64 (nd : Int)) ov6 (by kernel_rfl) (by kernel_rfl) (by kernel_rfl) (fun _ _ _ h => h) (Or.inl ⟨by rfl, fun V' hS => ?_⟩) HH ?_
              · go_simp
              simp only [Act.put, List.setIfInBounds_toArray, List.set_cons_zero, List.set_cons_succ]
              refine wpAnyH_take (i := 7) (v := .int .i64 (j : Int)) ov7 (by kernel_rfl) (by kernel_rfl) (by kernel_rfl) (fun _ _ _ h => h) (Or.inl ⟨by rfl, fun V' hS => ?_⟩) HH ?_
              · have c0 := HJ.out.1; have c1 := HJ.out.2
                go_simp
              simp only [Act.put, List.setIfInBounds_toArray, List.set_cons_zero, List.set_cons_succ]
              refine wpAnyH_take (i := 8) (v := .pointer (some ⟨g, a + j, none⟩)) ov8 (by kernel_rfl) (by kernel_rfl) (by kernel_rfl) (fun _ _ _ h => h) (Or.inl ⟨by rfl, fun V' hS => ?_⟩) HH ?_
              · go_simp
              simp only [Act.put, List.setIfInBounds_toArray, List.set_cons_zero, List.set_cons_succ]
              refine wpAnyH_take (i := 9) (v := .int .u8 (x : Int)) ov9 (by kernel_rfl) (by kernel_rfl) (by kernel_rfl) (fun _ _ _ h => h) (Or.inl ⟨by rfl, fun V' hS => ?_⟩) HH ?_
              · have c0 := PX.out V' hS.2
                go_simp
              simp only [Act.put, List.setIfInBounds_toArray, List.set_cons_zero, List.set_cons_succ]
              refine wpAnyH_ready (rs := [1, 10]) (by kernel_rfl) (by simp) ?_
              refine AllReadyH.cons ov1 (fun K hK => ?_) (AllReadyH.cons ov10 (fun K hK => ?_) AllReadyH.nil)
              · rw [if_pos (by rfl)]
                have c0 := H.out.box.cell 3
                go_simp
                clear c0
                refine hK.out _ _ HH (fun _ => ?_)
                clear hK K
                (try simp only [Act.put, List.setIfInBounds_toArray, List.set_cons_zero, List.set_cons_succ])
                refine wpAnyH_ready (rs := [10]) (by kernel_rfl) (by simp) ?_
                refine AllReadyH.cons ov10 (fun K hK => ?_) AllReadyH.nil
                rw [if_pos (by rfl)]
                go_simp
                have hB : Below z1.heap.size z1 (z1.alloc (.cells #[.int .u8 (x : Int)] 5)) := below_alloc _ _
                have F9 : BL (fun _ => True) (z1.alloc (.cells #[.int .u8 (x : Int)] 5)) (.slice (some ⟨z1.heap.size, 0, none⟩) 1 1) [x] := ((BL.new z1 [x] (by simp)).mono fun _ _ _ => trivial)
                have q9 := H.out.past hB
                clear H
                have H : Hid (LN b8 B w Z (z1.alloc (.cells #[.int .u8 (x : Int)] 5)) (.slice qa nt qc) (nt) (.slice xa nc xc) (.slice ya ns yc) (.slice ra k rc) (k) (c.ts) ((c.d ++ b).take k) nz) := q9
                clear q9
                have q9 := HB1.out.past hB
                clear HB1
                have HB1 : Hid (CBox (z1.alloc (.cells #[.int .u8 (x : Int)] 5)) b1 28 [.slice ta nt tc, .slice ca nc cc, .slice sa ns sc, .slice da nd dc, .int .i64 z]) := q9
                clear q9
                have FB : Hid (BL (fun _ => True) (z1.alloc (.cells #[.int .u8 (x : Int)] 5)) (.slice (some ⟨z1.heap.size, 0, none⟩) 1 1) [x]) := F9
                clear F9 hB
                refine hK.out _ (z1.alloc (.cells #[.int .u8 (x : Int)] 5)) ⟨HB1.out, H.out.bel⟩ (fun _ => ?_)
                clear hK K
                (try simp only [Act.put, List.setIfInBounds_toArray, List.set_cons_zero, List.set_cons_succ])
                generalize z1.heap.size = bb at FB ⊢
                generalize (z1.alloc (.cells #[.int .u8 (x : Int)] 5)) = z1 at H HB1 FB ⊢
                refine wpAnyH_ready (rs := [11]) (by kernel_rfl) (by simp) ?_
                refine AllReadyH.cons ov11 (fun K hK => ?_) AllReadyH.nil
                rw [if_pos (by rfl)]
                have hlk : ((c.d ++ b).take k).length = k := HLK.out
                have hrow : z1.ownsRow B 5 1 (.slice ra k rc) ((c.d ++ b).take k).length (bV ((c.d ++ b).take k)) := by rw [hlk]; exact H.out.dd
                refine wp_appB _ _ rfl B H.out.le (.slice ra k rc) ((c.d ++ b).take k) rfl hrow (.slice (some ⟨bb, 0, none⟩) 1 1) [x] rfl FB.out (by have := HBD.out; simp only [List.length_singleton]; omega) ?_
                intro v9 z9 hA
                obtain ⟨oa2, oc2, e9⟩ := owns_sl hA.row
                rw [List.length_append, List.length_singleton, hlk] at e9
                subst e9
                have hb9 : CBox z9 b1 28 [.slice ta nt tc, .slice ca nc cc, .slice sa ns sc, .slice da nd dc, .int .i64 z] := HB1.out.but hA.but (fun e => own_box H.out.dd HB1.out (by decide) e rfl)
                have c8 : CBox z9 b8 28 [.slice qa nt qc, .slice xa nc xc, .slice ya ns yc, .slice ra k rc, .int .i64 (nz : Int)] := H.out.box.but hA.but (fun e => own_box H.out.dd H.out.box (by decide) e rfl)
                have bel9 : Below w.heap.size w z9 := H.out.bel.trans (hA.but.below (fun g hg => by have h1 := (H.out.dd.lt g hg).1; have h2 := H.out.g8; have h3 := H.out.lt; omega) H.out.bel.size)
                have hA2 : App B 5 1 z1 z9 (.slice ra k rc) (.slice oa2 (k + 1) oc2) (k + 1) (bV ((c.d ++ b).take k ++ [x])) := by have h9 := hA; rw [List.length_append, List.length_singleton, hlk] at h9; exact h9
                clear hrow FB hA
                refine hK.out _ z9 ⟨hb9, bel9⟩ (fun _ => ?_)
                clear hK K
                (try simp only [Act.put, List.setIfInBounds_toArray, List.set_cons_zero, List.set_cons_succ])
                refine wpAnyH_take (i := 12) (v := .pointer (some ⟨b8, 3, none⟩)) ov12 (by kernel_rfl) (by kernel_rfl) (by kernel_rfl) (fun _ _ _ h => h) (Or.inl ⟨by rfl, fun V' hS => ?_⟩) ⟨hb9, bel9⟩ ?_
                · go_simp
                simp only [Act.put, List.setIfInBounds_toArray, List.set_cons_zero, List.set_cons_succ]
                refine wpAnyH_ready (rs := [13]) (by kernel_rfl) (by simp) ?_
                refine AllReadyH.cons ov13 (fun K hK => ?_) AllReadyH.nil
                rw [if_pos (by rfl)]
                have k0 := c8.cell 3
                have f0 := CBox.frozen c8 3
                go_simp
                clear k0 f0
                have H9 : Hid (LN b8 B w Z (z9.setCell ⟨b8, 3, none⟩ (.slice oa2 (k + 1) oc2)) (.slice qa nt qc) (nt) (.slice xa nc xc) (.slice ya ns yc) (.slice oa2 (k + 1) oc2) (k + 1) (c.ts) ((c.d ++ b).take k ++ [x]) nz) := H.out.appD hA2
                have hb8 : CBox (z9.setCell ⟨b8, 3, none⟩ (.slice oa2 (k + 1) oc2)) b1 28 [.slice ta nt tc, .slice ca nc cc, .slice sa ns sc, .slice da nd dc, .int .i64 z] := hb9.but ((But.refl (fun y => y = b8) z9).setCell ⟨b8, 3, none⟩ (.slice oa2 (k + 1) oc2) (Or.inl rfl)) HNE.out.1
                refine hK.out _ (z9.setCell ⟨b8, 3, none⟩ (.slice oa2 (k + 1) oc2)) ⟨hb8, H9.out.bel⟩ (fun _ => ?_)
                clear hK K
                (try simp only [Act.put, List.setIfInBounds_toArray, List.set_cons_zero, List.set_cons_succ])
                generalize (z9.setCell ⟨b8, 3, none⟩ (.slice oa2 (k + 1) oc2)) = z2 at H9 hb8 ⊢
                clear hb9 c8 bel9 hA2 hlk H HB1
                refine wpAnyH_done (by kernel_rfl) ?_ _
                have HR : Hid (LN b8 B w Z z2 (.slice qa nt qc) (nt) (.slice xa nc xc) (.slice ya ns yc) (.slice oa2 (k + 1) oc2) (k + 1) (c.ts) ((c.d ++ b).take (k + 1)) nz) := by have h9 := H9.out; rw [← take_snoc HX.out] at h9; exact h9
                clear H9 hb8 PX HX HLK
                go_wp2
                go_roundw
                case rel => exact ⟨k + 1, oa2, oc2, by first | rfl | go_num, by have := HK.out; omega, HR.out⟩
                case measure => simp [intOf]; omega
              · rw [if_pos (by rfl)]
                go_simp
                have hB : Below z1.heap.size z1 (z1.alloc (.cells #[.int .u8 (x : Int)] 5)) := below_alloc _ _
                have F9 : BL (fun _ => True) (z1.alloc (.cells #[.int .u8 (x : Int)] 5)) (.slice (some ⟨z1.heap.size, 0, none⟩) 1 1) [x] := ((BL.new z1 [x] (by simp)).mono fun _ _ _ => trivial)
                have q9 := H.out.past hB
                clear H
                have H : Hid (LN b8 B w Z (z1.alloc (.cells #[.int .u8 (x : Int)] 5)) (.slice qa nt qc) (nt) (.slice xa nc xc) (.slice ya ns yc) (.slice ra k rc) (k) (c.ts) ((c.d ++ b).take k) nz) := q9
                clear q9
                have q9 := HB1.out.past hB
                clear HB1
                have HB1 : Hid (CBox (z1.alloc (.cells #[.int .u8 (x : Int)] 5)) b1 28 [.slice ta nt tc, .slice ca nc cc, .slice sa ns sc, .slice da nd dc, .int .i64 z]) := q9
                clear q9
                have FB : Hid (BL (fun _ => True) (z1.alloc (.cells #[.int .u8 (x : Int)] 5)) (.slice (some ⟨z1.heap.size, 0, none⟩) 1 1) [x]) := F9
                clear F9 hB
                refine hK.out _ (z1.alloc (.cells #[.int .u8 (x : Int)] 5)) ⟨HB1.out, H.out.bel⟩ (fun _ => ?_)
                clear hK K
                (try simp only [Act.put, List.setIfInBounds_toArray, List.set_cons_zero, List.set_cons_succ])
                generalize z1.heap.size = bb at FB ⊢
                generalize (z1.alloc (.cells #[.int .u8 (x : Int)] 5)) = z1 at H HB1 FB ⊢
                refine wpAnyH_ready (rs := [1]) (by kernel_rfl) (by simp) ?_
                refine AllReadyH.cons ov1 (fun K hK => ?_) AllReadyH.nil
                rw [if_pos (by rfl)]
                have c0 := H.out.box.cell 3
                go_simp
                clear c0
                refine hK.out _ _ ⟨HB1.out, H.out.bel⟩ (fun _ => ?_)
                clear hK K
                (try simp only [Act.put, List.setIfInBounds_toArray, List.set_cons_zero, List.set_cons_succ])
                refine wpAnyH_ready (rs := [11]) (by kernel_rfl) (by simp) ?_
                refine AllReadyH.cons ov11 (fun K hK => ?_) AllReadyH.nil
                rw [if_pos (by rfl)]
                have hlk : ((c.d ++ b).take k).length = k := HLK.out
                have hrow : z1.ownsRow B 5 1 (.slice ra k rc) ((c.d ++ b).take k).length (bV ((c.d ++ b).take k)) := by rw [hlk]; exact H.out.dd
                refine wp_appB _ _ rfl B H.out.le (.slice ra k rc) ((c.d ++ b).take k) rfl hrow (.slice (some ⟨bb, 0, none⟩) 1 1) [x] rfl FB.out (by have := HBD.out; simp only [List.length_singleton]; omega) ?_
                intro v9 z9 hA
                obtain ⟨oa2, oc2, e9⟩ := owns_sl hA.row
                rw [List.length_append, List.length_singleton, hlk] at e9
                subst e9
                have hb9 : CBox z9 b1 28 [.slice ta nt tc, .slice ca nc cc, .slice sa ns sc, .slice da nd dc, .int .i64 z] := HB1.out.but hA.but (fun e => own_box H.out.dd HB1.out (by decide) e rfl)
                have c8 : CBox z9 b8 28 [.slice qa nt qc, .slice xa nc xc, .slice ya ns yc, .slice ra k rc, .int .i64 (nz : Int)] := H.out.box.but hA.but (fun e => own_box H.out.dd H.out.box (by decide) e rfl)
                have bel9 : Below w.heap.size w z9 := H.out.bel.trans (hA.but.below (fun g hg => by have h1 := (H.out.dd.lt g hg).1; have h2 := H.out.g8; have h3 := H.out.lt; omega) H.out.bel.size)
                have hA2 : App B 5 1 z1 z9 (.slice ra k rc) (.slice oa2 (k + 1) oc2) (k + 1) (bV ((c.d ++ b).take k ++ [x])) := by have h9 := hA; rw [List.length_append, List.length_singleton, hlk] at h9; exact h9
                clear hrow FB hA
                refine hK.out _ z9 ⟨hb9, bel9⟩ (fun _ => ?_)
                clear hK K
                (try simp only [Act.put, List.setIfInBounds_toArray, List.set_cons_zero, List.set_cons_succ])
                refine wpAnyH_take (i := 12) (v := .pointer (some ⟨b8, 3, none⟩)) ov12 (by kernel_rfl) (by kernel_rfl) (by kernel_rfl) (fun _ _ _ h => h) (Or.inl ⟨by rfl, fun V' hS => ?_⟩) ⟨hb9, bel9⟩ ?_
                · go_simp
                simp only [Act.put, List.setIfInBounds_toArray, List.set_cons_zero, List.set_cons_succ]
                refine wpAnyH_ready (rs := [13]) (by kernel_rfl) (by simp) ?_
                refine AllReadyH.cons ov13 (fun K hK => ?_) AllReadyH.nil
                rw [if_pos (by rfl)]
                have k0 := c8.cell 3
                have f0 := CBox.frozen c8 3
                go_simp
                clear k0 f0
                have H9 : Hid (LN b8 B w Z (z9.setCell ⟨b8, 3, none⟩ (.slice oa2 (k + 1) oc2)) (.slice qa nt qc) (nt) (.slice xa nc xc) (.slice ya ns yc) (.slice oa2 (k + 1) oc2) (k + 1) (c.ts) ((c.d ++ b).take k ++ [x]) nz) := H.out.appD hA2
                have hb8 : CBox (z9.setCell ⟨b8, 3, none⟩ (.slice oa2 (k + 1) oc2)) b1 28 [.slice ta nt tc, .slice ca nc cc, .slice sa ns sc, .slice da nd dc, .int .i64 z] := hb9.but ((But.refl (fun y => y = b8) z9).setCell ⟨b8, 3, none⟩ (.slice oa2 (k + 1) oc2) (Or.inl rfl)) HNE.out.1
                refine hK.out _ (z9.setCell ⟨b8, 3, none⟩ (.slice oa2 (k + 1) oc2)) ⟨hb8, H9.out.bel⟩ (fun _ => ?_)
                clear hK K
                (try simp only [Act.put, List.setIfInBounds_toArray, List.set_cons_zero, List.set_cons_succ])
                generalize (z9.setCell ⟨b8, 3, none⟩ (.slice oa2 (k + 1) oc2)) = z2 at H9 hb8 ⊢
                clear hb9 c8 bel9 hA2 hlk H HB1
                refine wpAnyH_done (by kernel_rfl) ?_ _
                have HR : Hid (LN b8 B w Z z2 (.slice qa nt qc) (nt) (.slice xa nc xc) (.slice ya ns yc) (.slice oa2 (k + 1) oc2) (k + 1) (c.ts) ((c.d ++ b).take (k + 1)) nz) := by have h9 := H9.out; rw [← take_snoc HX.out] at h9; exact h9
                clear H9 hb8 PX HX HLK
                go_wp2
                go_roundw
                case rel => exact ⟨k + 1, oa2, oc2, by first | rfl | go_num, by have := HK.out; omega, HR.out⟩
                case measure => simp [intOf]; omega
      · have q1 : (k : Int) < (nt : Int) := by omega
        have HK : Hid (k < nt) := by unfold Hid; omega
        have HLK : Hid ((c.ts.take k).length = k) := by unfold Hid; rw [List.length_take]; have := HLN.out; omega
        obtain ⟨t, hx⟩ : ∃ t, c.ts[k]? = some t := ⟨c.ts[k]'(by have := HLN.out; omega), List.getElem?_eq_getElem _⟩
        have HX : Hid (c.ts[k]? = some t) := hx
        obtain ⟨g, a, eg, _⟩ := (ST.out wr H.out.bel).get hx
        subst eg
        have PX : Hid (∀ W, Below w.heap.size w W → W.cell? ⟨g, a + k * 3, none⟩ = some (.int .i64 t.1) ∧ W.cell? ⟨g, a + k * 3 + 1, none⟩ = some (.int .i64 t.2.1) ∧ W.cell? ⟨g, a + k * 3 + 2, none⟩ = some (.int .i64 t.2.2)) := fun W hW => by
          obtain ⟨g', a', eg', h1, h2, h3⟩ := (ST.out W hW).get HX.out
          injection eg' with eg'
          injection eg' with e1 e2
          subst e1 e2
          exact ⟨h1, h2, h3⟩
        clear hx e hk
        have kB : (k : Int) < 1152921504606846976 := by have := HLN.out; omega
        go_upto_region 13 with fail
        clear a0
        refine wp_region_held_drew (S := fun V' => CBox V' b1 28 [.slice (some ⟨g, a, none⟩) nt tc, .slice ca nc cc, .slice sa ns sc, .slice da nd dc, .int .i64 z] ∧ Below w.heap.size w V') (by kernel_rfl) ⟨HB1.out.past below_drew, H.out.bel.drew⟩ (fun HH => ?_)
        have q9 := H.out.past below_drew
        clear H
        have H : Hid (LN b8 B w Z wr.drew (.slice qa k qc) (k) (.slice xa nc xc) (.slice ya ns yc) (.slice none 0 0) (0) (c.ts.take k) ([]) nz) := q9
        clear q9
        have q9 := HB1.out.past below_drew
        clear HB1
        have HB1 : Hid (CBox wr.drew b1 28 [.slice (some ⟨g, a, none⟩) nt tc, .slice ca nc cc, .slice sa ns sc, .slice da nd dc, .int .i64 z]) := q9
        clear q9
        generalize wr.drew = z1 at HH H HB1 ⊢
        refine wpAnyH_take (i := 0) (v := .pointer (some ⟨b8, 0, none⟩)) ov0 (by kernel_rfl) (by kernel_rfl) (by kernel_rfl) (fun _ _ _ h => h) (Or.inl ⟨by rfl, fun V' hS => ?_⟩) HH ?_
        · go_simp
        simp only [Act.put, List.setIfInBounds_toArray, List.set_cons_zero, List.set_cons_succ]
        refine wpAnyH_take (i := 2) (v := .pointer (some ⟨b1, 0, none⟩)) ov2 (by kernel_rfl) (by kernel_rfl) (by kernel_rfl) (fun _ _ _ h => h) (Or.inl ⟨by rfl, fun V' hS => ?_⟩) HH ?_
        · go_simp
        simp only [Act.put, List.setIfInBounds_toArray, List.set_cons_zero, List.set_cons_succ]
        refine wpAnyH_take (i := 3) (v := .slice (some ⟨g, a, none⟩) nt tc) ov3 (by kernel_rfl) (by kernel_rfl) (by kernel_rfl) (fun _ _ _ h => h) (Or.inl ⟨by rfl, fun V' hS => ?_⟩) HH ?_
        · have c0 := hS.1.cell 0
          go_simp
        simp only [Act.put, List.setIfInBounds_toArray, List.set_cons_zero, List.set_cons_succ]
        refine wpAnyH_take (i := 4) (v := .int .i64 (k : Int)) ov4 (by kernel_rfl) (by kernel_rfl) (by kernel_rfl) (fun _ _ _ h => h) (Or.inl ⟨by rfl, fun V' hS => ?_⟩) HH ?_
        · go_simp
        simp only [Act.put, List.setIfInBounds_toArray, List.set_cons_zero, List.set_cons_succ]
        refine wpAnyH_take (i := 5) (v := .pointer (some ⟨g, a + k * 3, none⟩)) ov5 (by kernel_rfl) (by kernel_rfl) (by kernel_rfl) (fun _ _ _ h => h) (Or.inl ⟨by rfl, fun V' hS => ?_⟩) HH ?_
        · go_simp
        simp only [Act.put, List.setIfInBounds_toArray, List.set_cons_zero, List.set_cons_succ]
        refine wpAnyH_take (i := 6) (v := .agg #[.int .i64 t.1, .int .i64 t.2.1, .int .i64 t.2.2]) ov6 (by kernel_rfl) (by kernel_rfl) (by kernel_rfl) (fun _ _ _ h => h) (Or.inl ⟨by rfl, fun V' hS => ?_⟩) HH ?_
        · obtain ⟨c0, c1, c2⟩ := PX.out V' hS.2
          go_simp
        simp only [Act.put, List.setIfInBounds_toArray, List.set_cons_zero, List.set_cons_succ]
        refine wpAnyH_ready (rs := [1, 7]) (by kernel_rfl) (by simp) ?_
        refine AllReadyH.cons ov1 (fun K hK => ?_) (AllReadyH.cons ov7 (fun K hK => ?_) AllReadyH.nil)
        · rw [if_pos (by rfl)]
          have c0 := H.out.box.cell 0
          go_simp
          clear c0
          refine hK.out _ _ HH (fun _ => ?_)
          clear hK K
          (try simp only [Act.put, List.setIfInBounds_toArray, List.set_cons_zero, List.set_cons_succ])
          refine wpAnyH_ready (rs := [7]) (by kernel_rfl) (by simp) ?_
          refine AllReadyH.cons ov7 (fun K hK => ?_) AllReadyH.nil
          rw [if_pos (by rfl)]
          go_simp
          have hB : Below z1.heap.size z1 (z1.alloc (.cells #[.int .i64 t.1, .int .i64 t.2.1, .int .i64 t.2.2] 77)) := below_alloc _ _
          have F9 : TL (fun _ => True) (z1.alloc (.cells #[.int .i64 t.1, .int .i64 t.2.1, .int .i64 t.2.2] 77)) (.slice (some ⟨z1.heap.size, 0, none⟩) 1 1) [t] := (SL.box (CBox.new z1 77 [.int .i64 t.1, .int .i64 t.2.1, .int .i64 t.2.2]) rfl (by omega) trivial)
          have q9 := H.out.past hB
          clear H
          have H : Hid (LN b8 B w Z (z1.alloc (.cells #[.int .i64 t.1, .int .i64 t.2.1, .int .i64 t.2.2] 77)) (.slice qa k qc) (k) (.slice xa nc xc) (.slice ya ns yc) (.slice none 0 0) (0) (c.ts.take k) ([]) nz) := q9
          clear q9
          have q9 := HB1.out.past hB
          clear HB1
          have HB1 : Hid (CBox (z1.alloc (.cells #[.int .i64 t.1, .int .i64 t.2.1, .int .i64 t.2.2] 77)) b1 28 [.slice (some ⟨g, a, none⟩) nt tc, .slice ca nc cc, .slice sa ns sc, .slice da nd dc, .int .i64 z]) := q9
          clear q9
          have FB : Hid (TL (fun _ => True) (z1.alloc (.cells #[.int .i64 t.1, .int .i64 t.2.1, .int .i64 t.2.2] 77)) (.slice (some ⟨z1.heap.size, 0, none⟩) 1 1) [t]) := F9
          clear F9 hB
          refine hK.out _ (z1.alloc (.cells #[.int .i64 t.1, .int .i64 t.2.1, .int .i64 t.2.2] 77)) ⟨HB1.out, H.out.bel⟩ (fun _ => ?_)
          clear hK K
          (try simp only [Act.put, List.setIfInBounds_toArray, List.set_cons_zero, List.set_cons_succ])
          generalize z1.heap.size = bb at FB ⊢
          generalize (z1.alloc (.cells #[.int .i64 t.1, .int .i64 t.2.1, .int .i64 t.2.2] 77)) = z1 at H HB1 FB ⊢
          refine wpAnyH_ready (rs := [8]) (by kernel_rfl) (by simp) ?_
          refine AllReadyH.cons ov8 (fun K hK => ?_) AllReadyH.nil
          rw [if_pos (by rfl)]
          have hlk : (c.ts.take k).length = k := HLK.out
          have hrow : z1.ownsRow B 77 3 (.slice qa k qc) (c.ts.take k).length (tV (c.ts.take k)) := by rw [hlk]; exact H.out.t
          refine wp_appTs _ _ rfl B H.out.le (.slice qa k qc) (c.ts.take k) rfl hrow (.slice (some ⟨bb, 0, none⟩) 1 1) [t] rfl FB.out (by have := HBD.out; simp only [List.length_singleton]; omega) ?_
          intro v9 z9 hA
          obtain ⟨oa2, oc2, e9⟩ := owns_sl hA.row
          rw [List.length_append, List.length_singleton, hlk] at e9
          subst e9
          have hb9 : CBox z9 b1 28 [.slice (some ⟨g, a, none⟩) nt tc, .slice ca nc cc, .slice sa ns sc, .slice da nd dc, .int .i64 z] := HB1.out.but hA.but (fun e => own_box H.out.t HB1.out (by decide) e rfl)
          have c8 : CBox z9 b8 28 [.slice qa k qc, .slice xa nc xc, .slice ya ns yc, .slice none 0 0, .int .i64 (nz : Int)] := H.out.box.but hA.but (fun e => own_box H.out.t H.out.box (by decide) e rfl)
          have bel9 : Below w.heap.size w z9 := H.out.bel.trans (hA.but.below (fun g hg => by have h1 := (H.out.t.lt g hg).1; have h2 := H.out.g8; have h3 := H.out.lt; omega) H.out.bel.size)
          have hA2 : App B 77 3 z1 z9 (.slice qa k qc) (.slice oa2 (k + 1) oc2) (k + 1) (tV (c.ts.take k ++ [t])) := by have h9 := hA; rw [List.length_append, List.length_singleton, hlk] at h9; exact h9
          clear hrow FB hA
          refine hK.out _ z9 ⟨hb9, bel9⟩ (fun _ => ?_)
          clear hK K
          (try simp only [Act.put, List.setIfInBounds_toArray, List.set_cons_zero, List.set_cons_succ])
          refine wpAnyH_take (i := 9) (v := .pointer (some ⟨b8, 0, none⟩)) ov9 (by kernel_rfl) (by kernel_rfl) (by kernel_rfl) (fun _ _ _ h => h) (Or.inl ⟨by rfl, fun V' hS => ?_⟩) ⟨hb9, bel9⟩ ?_
          · go_simp
          simp only [Act.put, List.setIfInBounds_toArray, List.set_cons_zero, List.set_cons_succ]
          refine wpAnyH_ready (rs := [10]) (by kernel_rfl) (by simp) ?_
          refine AllReadyH.cons ov10 (fun K hK => ?_) AllReadyH.nil
          rw [if_pos (by rfl)]
          have k0 := c8.cell 0
          have f0 := CBox.frozen c8 0
          go_simp
          clear k0 f0
          have H9 : Hid (LN b8 B w Z (z9.setCell ⟨b8, 0, none⟩ (.slice oa2 (k + 1) oc2)) (.slice oa2 (k + 1) oc2) (k + 1) (.slice xa nc xc) (.slice ya ns yc) (.slice none 0 0) (0) (c.ts.take k ++ [t]) ([]) nz) := H.out.appT hA2
          have hb8 : CBox (z9.setCell ⟨b8, 0, none⟩ (.slice oa2 (k + 1) oc2)) b1 28 [.slice (some ⟨g, a, none⟩) nt tc, .slice ca nc cc, .slice sa ns sc, .slice da nd dc, .int .i64 z] := hb9.but ((But.refl (fun y => y = b8) z9).setCell ⟨b8, 0, none⟩ (.slice oa2 (k + 1) oc2) (Or.inl rfl)) HNE.out.1
          refine hK.out _ (z9.setCell ⟨b8, 0, none⟩ (.slice oa2 (k + 1) oc2)) ⟨hb8, H9.out.bel⟩ (fun _ => ?_)
          clear hK K
          (try simp only [Act.put, List.setIfInBounds_toArray, List.set_cons_zero, List.set_cons_succ])
          generalize (z9.setCell ⟨b8, 0, none⟩ (.slice oa2 (k + 1) oc2)) = z2 at H9 hb8 ⊢
          clear hb9 c8 bel9 hA2 hlk H HB1
          refine wpAnyH_done (by kernel_rfl) ?_ _
          have HR : Hid (LN b8 B w Z z2 (.slice oa2 (k + 1) oc2) (k + 1) (.slice xa nc xc) (.slice ya ns yc) (.slice none 0 0) (0) (c.ts.take (k + 1)) ([]) nz) := by have h9 := H9.out; rw [← take_snoc HX.out] at h9; exact h9
          clear H9 hb8 PX HX HLK
          go_wp2
          go_roundw
          case rel => exact ⟨k + 1, oa2, oc2, by first | rfl | go_num, by have := HK.out; omega, HR.out⟩
          case measure => simp [intOf]; omega
        · rw [if_pos (by rfl)]
          go_simp
          have hB : Below z1.heap.size z1 (z1.alloc (.cells #[.int .i64 t.1, .int .i64 t.2.1, .int .i64 t.2.2] 77)) := below_alloc _ _
          have F9 : TL (fun _ => True) (z1.alloc (.cells #[.int .i64 t.1, .int .i64 t.2.1, .int .i64 t.2.2] 77)) (.slice (some ⟨z1.heap.size, 0, none⟩) 1 1) [t] := (SL.box (CBox.new z1 77 [.int .i64 t.1, .int .i64 t.2.1, .int .i64 t.2.2]) rfl (by omega) trivial)
          have q9 := H.out.past hB
          clear H
          have H : Hid (LN b8 B w Z (z1.alloc (.cells #[.int .i64 t.1, .int .i64 t.2.1, .int .i64 t.2.2] 77)) (.slice qa k qc) (k) (.slice xa nc xc) (.slice ya ns yc) (.slice none 0 0) (0) (c.ts.take k) ([]) nz) := q9
          clear q9
          have q9 := HB1.out.past hB
          clear HB1
          have HB1 : Hid (CBox (z1.alloc (.cells #[.int .i64 t.1, .int .i64 t.2.1, .int .i64 t.2.2] 77)) b1 28 [.slice (some ⟨g, a, none⟩) nt tc, .slice ca nc cc, .slice sa ns sc, .slice da nd dc, .int .i64 z]) := q9
          clear q9
          have FB : Hid (TL (fun _ => True) (z1.alloc (.cells #[.int .i64 t.1, .int .i64 t.2.1, .int .i64 t.2.2] 77)) (.slice (some ⟨z1.heap.size, 0, none⟩) 1 1) [t]) := F9
          clear F9 hB
          refine hK.out _ (z1.alloc (.cells #[.int .i64 t.1, .int .i64 t.2.1, .int .i64 t.2.2] 77)) ⟨HB1.out, H.out.bel⟩ (fun _ => ?_)
          clear hK K
          (try simp only [Act.put, List.setIfInBounds_toArray, List.set_cons_zero, List.set_cons_succ])
          generalize z1.heap.size = bb at FB ⊢
          generalize (z1.alloc (.cells #[.int .i64 t.1, .int .i64 t.2.1, .int .i64 t.2.2] 77)) = z1 at H HB1 FB ⊢
          refine wpAnyH_ready (rs := [1]) (by kernel_rfl) (by simp) ?_
          refine AllReadyH.cons ov1 (fun K hK => ?_) AllReadyH.nil
          rw [if_pos (by rfl)]
          have c0 := H.out.box.cell 0
          go_simp
          clear c0
          refine hK.out _ _ ⟨HB1.out, H.out.bel⟩ (fun _ => ?_)
          clear hK K
          (try simp only [Act.put, List.setIfInBounds_toArray, List.set_cons_zero, List.set_cons_succ])
          refine wpAnyH_ready (rs := [8]) (by kernel_rfl) (by simp) ?_
          refine AllReadyH.cons ov8 (fun K hK => ?_) AllReadyH.nil
          rw [if_pos (by rfl)]
          have hlk : (c.ts.take k).length = k := HLK.out
          have hrow : z1.ownsRow B 77 3 (.slice qa k qc) (c.ts.take k).length (tV (c.ts.take k)) := by rw [hlk]; exact H.out.t
          refine wp_appTs _ _ rfl B H.out.le (.slice qa k qc) (c.ts.take k) rfl hrow (.slice (some ⟨bb, 0, none⟩) 1 1) [t] rfl FB.out (by have := HBD.out; simp only [List.length_singleton]; omega) ?_
          intro v9 z9 hA
          obtain ⟨oa2, oc2, e9⟩ := owns_sl hA.row
          rw [List.length_append, List.length_singleton, hlk] at e9
          subst e9
          have hb9 : CBox z9 b1 28 [.slice (some ⟨g, a, none⟩) nt tc, .slice ca nc cc, .slice sa ns sc, .slice da nd dc, .int .i64 z] := HB1.out.but hA.but (fun e => own_box H.out.t HB1.out (by decide) e rfl)
          have c8 : CBox z9 b8 28 [.slice qa k qc, .slice xa nc xc, .slice ya ns yc, .slice none 0 0, .int .i64 (nz : Int)] := H.out.box.but hA.but (fun e => own_box H.out.t H.out.box (by decide) e rfl)
          have bel9 : Below w.heap.size w z9 := H.out.bel.trans (hA.but.below (fun g hg => by have h1 := (H.out.t.lt g hg).1; have h2 := H.out.g8; have h3 := H.out.lt; omega) H.out.bel.size)
          have hA2 : App B 77 3 z1 z9 (.slice qa k qc) (.slice oa2 (k + 1) oc2) (k + 1) (tV (c.ts.take k ++ [t])) := by have h9 := hA; rw [List.length_append, List.length_singleton, hlk] at h9; exact h9
          clear hrow FB hA
          refine hK.out _ z9 ⟨hb9, bel9⟩ (fun _ => ?_)
          clear hK K
          (try simp only [Act.put, List.setIfInBounds_toArray, List.set_cons_zero, List.set_cons_succ])
          refine wpAnyH_take (i := 9) (v := .pointer (some ⟨b8, 0, none⟩)) ov9 (by kernel_rfl) (by kernel_rfl) (by kernel_rfl) (fun _ _ _ h => h) (Or.inl ⟨by rfl, fun V' hS => ?_⟩) ⟨hb9, bel9⟩ ?_
          · go_simp
          simp only [Act.put, List.setIfInBounds_toArray, List.set_cons_zero, List.set_cons_succ]
          refine wpAnyH_ready (rs := [10]) (by kernel_rfl) (by simp) ?_
          refine AllReadyH.cons ov10 (fun K hK => ?_) AllReadyH.nil
          rw [if_pos (by rfl)]
          have k0 := c8.cell 0
          have f0 := CBox.frozen c8 0
          go_simp
          clear k0 f0
          have H9 : Hid (LN b8 B w Z (z9.setCell ⟨b8, 0, none⟩ (.slice oa2 (k + 1) oc2)) (.slice oa2 (k + 1) oc2) (k + 1) (.slice xa nc xc) (.slice ya ns yc) (.slice none 0 0) (0) (c.ts.take k ++ [t]) ([]) nz) := H.out.appT hA2
          have hb8 : CBox (z9.setCell ⟨b8, 0, none⟩ (.slice oa2 (k + 1) oc2)) b1 28 [.slice (some ⟨g, a, none⟩) nt tc, .slice ca nc cc, .slice sa ns sc, .slice da nd dc, .int .i64 z] := hb9.but ((But.refl (fun y => y = b8) z9).setCell ⟨b8, 0, none⟩ (.slice oa2 (k + 1) oc2) (Or.inl rfl)) HNE.out.1
          refine hK.out _ (z9.setCell ⟨b8, 0, none⟩ (.slice oa2 (k + 1) oc2)) ⟨hb8, H9.out.bel⟩ (fun _ => ?_)
          clear hK K
          (try simp only [Act.put, List.setIfInBounds_toArray, List.set_cons_zero, List.set_cons_succ])
          generalize (z9.setCell ⟨b8, 0, none⟩ (.slice oa2 (k + 1) oc2)) = z2 at H9 hb8 ⊢
          clear hb9 c8 bel9 hA2 hlk H HB1
          refine wpAnyH_done (by kernel_rfl) ?_ _
          have HR : Hid (LN b8 B w Z z2 (.slice oa2 (k + 1) oc2) (k + 1) (.slice xa nc xc) (.slice ya ns yc) (.slice none 0 0) (0) (c.ts.take (k + 1)) ([]) nz) := by have h9 := H9.out; rw [← take_snoc HX.out] at h9; exact h9
          clear H9 hb8 PX HX HLK
          go_wp2
          go_roundw
          case rel => exact ⟨k + 1, oa2, oc2, by first | rfl | go_num, by have := HK.out; omega, HR.out⟩
          case measure => simp [intOf]; omega
end Go.Proofs.Ytndhabhlajldeaa
