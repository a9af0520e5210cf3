/- The document's containers: Parse. -/
import Derived.Test.YtndhabhlajldeaaMz7
import Derived.Test.YtndhabhlajldeaaMz5
namespace Go.Proofs.Ytndhabhlajldeaa
open Go.RowKit
theorem own_box {W : World} {B s n q : Nat} {t u : TypeId} {v : Value} {cs l : List Value} (h : W.ownsRow B t s v n cs) (c : CBox W q u l) (ht : t ≠ u) {g : Nat} (hg : OwnV v g) : g ≠ q := by
  rintro rfl
  rcases h.2 with ⟨rfl, _⟩ | ⟨g', c', cur, rfl, _, hh, _⟩
  · cases hg
  · injection hg with hg
    subst hg
    rw [show W.heap[g']? = _ from c] at hh
    cases hh
    exact ht rfl
theorem cuts_small (b : List Nat) : ∀ (ls : List Nat) (k : Nat) (x : List Nat), x ∈ cuts b k ls → x.length ≤ b.length
  | [], _, x, h => by cases h
  | n :: r, k, x, h => by
    rw [cuts] at h
    rcases List.mem_cons.1 h with rfl | h
    · rw [List.length_take, List.length_drop]; omega
    · exact cuts_small b r _ x h
theorem PO.but {B : Nat} {S : Nat → Prop} {W W' : World} {v : Value} {ll : List (List Nat)} (h : PO B W v ll) (k : But S W W') (hs : ∀ g, B ≤ g → ¬ S g) : PO B W' v ll := by
  obtain ⟨us, h1, h2, h3⟩ := h
  exact ⟨us, h1, owns_row_blockB h2 fun g hg => k.block g (h2.lt g hg).2 (hs g (h2.lt g hg).1), h3.but k hs⟩
/-- in the midst of the document's Parse -/
structure RPM (bw b5 : Nat) (w W : World) (cv sv : Value) (cs ss : List Nat) : Prop where
  c4 : CBox W bw 28 con0L
  c5 : CBox W b5 47 rej0L
  c : InO (b5 + 1) W cv cs
  s : InO (b5 + 1) W sv ss
  bel : Below bw w W
  g5 : bw < b5
  ge : bw ≤ w.heap.size
  lt : b5 < W.heap.size
theorem RPM.past {bw b5 : Nat} {w W W' : World} {cv sv : Value} {cs ss : List Nat} (h : RPM bw b5 w W cv sv cs ss) (q : Below W.heap.size W W') : RPM bw b5 w W' cv sv cs ss := ⟨h.c4.past q, h.c5.past q, h.c.past q, h.s.past q, h.bel.trans (q.mono (Nat.le_trans h.ge h.bel.size)), h.g5, h.ge, Nat.lt_of_lt_of_le h.lt q.size⟩
/-- the container in the making; Z: where its box was made -/
structure RN (bz : Nat) (Z W : World) (tv xv yv dv : Value) (ts : List Ty) (D : List Nat) (d : Nat) : Prop where
  bel : Below bz Z W
  box : CBox W bz 28 [tv, xv, yv, dv, .int .i64 (d : Int)]
  t : W.ownsRow bz 77 3 tv ts.length (tV ts)
  dd : W.ownsRow bz 5 1 dv D.length (bV D)
  ge : bz ≤ Z.heap.size
section
variable {bz d : Nat} {Z W W' : World} {tv xv yv dv v' : Value} {ts : List Ty} {D : List Nat}
theorem RN.le (h : RN bz Z W tv xv yv dv ts D d) : bz ≤ W.heap.size := Nat.le_trans h.ge h.bel.size
theorem RN.past (h : RN bz Z W tv xv yv dv ts D d) (q : Below W.heap.size W W') : RN bz Z W' tv xv yv dv ts D d := ⟨h.bel.trans (q.mono h.le), h.box.past q, owns_past h.t q, owns_past h.dd q, h.ge⟩
theorem RN.appT {y : List Ty} (h : RN bz Z W tv xv yv dv ts D d) (q : App bz 77 3 W W' tv v' y.length (tV y)) : RN bz Z (W'.setCell ⟨bz, 0, none⟩ v') v' xv yv dv y D d := by
  have hx : CBox W' bz 28 [tv, xv, yv, dv, .int .i64 (d : Int)] := h.box.but q.but fun e => own_box h.t h.box (by decide) e rfl
  have hd : W'.ownsRow bz 5 1 dv D.length (bV D) := owns_row_blockB h.dd fun g hg => q.but.block g (World.ownsRow.lt h.dd g hg).2 fun e => owns_apart h.t h.dd (by decide) e hg
  have hs : But (fun y => y = bz) W' (W'.setCell ⟨bz, 0, none⟩ v') := (But.refl (fun y => y = bz) W').setCell ⟨bz, 0, none⟩ _ (Or.inl rfl)
  have b1 : Below bz Z W' := h.bel.trans (q.below h.t h.le)
  exact ⟨b1.trans (hs.below (fun g e => by omega) (Nat.le_trans h.ge b1.size)), hx.set 0 _, owns_row_blockB q.row fun g hg => hs.block g (World.ownsRow.lt q.row g hg).2 fun e => own_box q.row hx (by decide) hg e, owns_row_blockB hd fun g hg => hs.block g (World.ownsRow.lt hd g hg).2 fun e => own_box hd hx (by decide) hg e, h.ge⟩
theorem RN.appD {y : List Nat} (h : RN bz Z W tv xv yv dv ts D d) (q : App bz 5 1 W W' dv v' y.length (bV y)) : RN bz Z (W'.setCell ⟨bz, 3, none⟩ v') tv xv yv v' ts y d := by
  have hx : CBox W' bz 28 [tv, xv, yv, dv, .int .i64 (d : Int)] := h.box.but q.but fun e => own_box h.dd h.box (by decide) e rfl
  have ht : W'.ownsRow bz 77 3 tv ts.length (tV ts) := owns_row_blockB h.t fun g hg => q.but.block g (World.ownsRow.lt h.t g hg).2 fun e => owns_apart h.dd h.t (by decide) e hg
  have hs : But (fun y => y = bz) W' (W'.setCell ⟨bz, 3, none⟩ v') := (But.refl (fun y => y = bz) W').setCell ⟨bz, 3, none⟩ _ (Or.inl rfl)
  have b1 : Below bz Z W' := h.bel.trans (q.below h.dd h.le)
  exact ⟨b1.trans (hs.below (fun g e => by omega) (Nat.le_trans h.ge b1.size)), hx.set 3 _, owns_row_blockB ht fun g hg => hs.block g (World.ownsRow.lt ht g hg).2 fun e => own_box ht hx (by decide) hg e, owns_row_blockB q.row fun g hg => hs.block g (World.ownsRow.lt q.row g hg).2 fun e => own_box q.row hx (by decide) hg e, h.ge⟩
end
set_option maxHeartbeats 8000000 in
set_option maxRecDepth 100000 in
theorem rparse_is {P : Nat → Prop} (w : World) (v : Value) (b : List Nat) (opn : Bool) (h : BL P w v b) (hb : Byt b) (hl : b.length ≤ 16777216) :
    Calls Try.prog 33 #[v, .bool opn] w fun e w' => PrD w.heap.size (prs b opn) e w' ∧ Below w.heap.size w w' := by
  obtain ⟨ba, bc, rfl, hbc, _⟩ := h.len
  obtain ⟨LL, hLL⟩ : ∃ LL, LL = prs b opn := ⟨_, rfl⟩
  rw [← hLL]
  have HE : Hid (LL = (hdr b).bind fun h => (msr b h.e (4 * h.cs.length + sumL h.cs + sumL h.ss) h.d opn).bind fun _ => bdy b h.e h.cs h.ss h.d) := by unfold Hid; rw [hLL, prs_is]
  have HBY : Hid (Byt b) := hb
  have HBL : Hid (∀ W, Below w.heap.size w W → BL P W (.slice ba b.length bc) b) := fun W hW => h.past hW
  have M0 : Hid (RPM w.heap.size (w.heap.size + 1) w ((w.alloc (.cells #[.slice none 0 0, .slice none 0 0, .slice none 0 0, .slice none 0 0, .int .i64 0] 28)).alloc (.cells #[.int .i64 0, .slice none 0 0, .int .i64 0, .int .i64 0] 47)) (.slice none 0 0) (.slice none 0 0) [] []) := by
    have b1 := below_alloc w (.cells con0L.toArray 28)
    have b2 := below_alloc (w.alloc (.cells con0L.toArray 28)) (.cells rej0L.toArray 47)
    have c4 := CBox.new w 28 con0L
    have c5 := CBox.new (w.alloc (.cells con0L.toArray 28)) 47 rej0L
    have s1 : (w.alloc (.cells con0L.toArray 28)).heap.size = w.heap.size + 1 := by simp
    have s2 : ((w.alloc (.cells con0L.toArray 28)).alloc (.cells rej0L.toArray 47)).heap.size = w.heap.size + 1 + 1 := by simp
    rw [s1] at c5
    exact ⟨c4.past b2, c5, InO.nil _ _, InO.nil _ _, b1.trans (b2.mono (by omega)), by omega, by omega, by show w.heap.size + 1 < ((w.alloc (.cells con0L.toArray 28)).alloc (.cells rej0L.toArray 47)).heap.size; omega⟩
  have HLN : Hid (b.length ≤ 16777216) := hl
  have HC : Hid (∀ W, Below w.heap.size w W → Calls Try.prog 68 #[.slice ba b.length bc] W fun e w' => RHA W.heap.size (hdr b) e w' ∧ Below W.heap.size W w') := fun W hW => rheader_is W _ b (h.past hW) hb hl
  have HH : Hid (∀ h, hdr b = .ok h → HdIs b h ∧ h.e ≤ b.length ∧ sumL h.cs ≤ 1024 * 65536 ∧ sumL h.ss ≤ 256 * 4294967296) := fun h g => ⟨hdr_ok hb g, hdr_e hb g, hdr_sums hb g⟩
  have H0 : Hid (∀ a, hdr b ≠ .error (0, a)) := fun a => hdr_no0 b a
  have nI : (b.length : Int) ≤ 16777216 := by omega
  clear h hb hl hbc hLL
  go_enter Try.func33, Try.ntmps33
  go_upto_region 1 with fail
  generalize hbw : w.heap.size = bw at M0 HBL HC ⊢
  generalize bw + 1 = b5 at M0 ⊢
  generalize (w.alloc _).alloc _ = W0 at M0 ⊢
  have GB : Hid (w.heap.size = bw) := hbw
  clear hbw
  have FC0 := HC.out W0 M0.out.bel
  generalize hdr b = FF at *
  cases FF with
  | error er =>
    obtain ⟨ec, ea⟩ := er
    have E0 : Hid (LL = .error (ec, ea)) := HE.out
    have FC : Hid (Calls Try.prog 68 #[.slice ba b.length bc] W0 fun e w' => (e = .returned (.tuple #[.slice none 0 0, .slice none 0 0, .int .i64 0, .int .i64 0, .int .i64 (ec : Int), .int .i64 (ea : Int)])) ∧ Below W0.heap.size W0 w') := FC0
    have qe : ((ec : Int) != 0) = true := by
      have : ec ≠ 0 := fun e => H0.out ea (by rw [e])
      simp
      omega
    obtain ⟨cs, hcs⟩ : ∃ cs : List Nat, cs = [] := ⟨_, rfl⟩
    obtain ⟨ss, hss⟩ : ∃ ss : List Nat, ss = [] := ⟨_, rfl⟩
    rw [← hcs] at M0
    have M0 : Hid (RPM bw b5 w W0 (.slice none 0 0) (.slice none 0 0) cs ss) := by rw [hss]; have := M0.out; rw [hcs] at this ⊢; exact this
    clear FC0 HE HC hcs hss
    go_upto_region 3 with (go_at_call 68; refine FC.out.mono ?_; rintro e w1 ⟨rfl, hB⟩; (have M1 : Hid (RPM bw b5 w w1 (.slice none 0 0) (.slice none 0 0) cs ss) := M0.out.past hB); (clear hB))
    clear FC M0
    go_wp2_with (go_at_call 69; refine (refused_is _ _ _).mono ?_; rintro e w' ⟨rfl, hB⟩; (have N9 : Hid (RPM bw b5 w w' _ _ cs ss) := M1.out.past hB); (clear hB); (have n45 : ¬ b5 = bw := by have := N9.out.g5; omega); (have n54 : ¬ bw = b5 := by have := N9.out.g5; omega); (have p0 : w'.cell? ⟨bw, 0, none⟩ = some (.slice none 0 0) := N9.out.c4.cell 0); (have q0 := CBox.frozen N9.out.c4 0); (have p1 : w'.cell? ⟨bw, 1, none⟩ = some (.slice none 0 0) := N9.out.c4.cell 1); (have q1 := CBox.frozen N9.out.c4 1); (have p2 : w'.cell? ⟨bw, 2, none⟩ = some (.slice none 0 0) := N9.out.c4.cell 2); (have q2 := CBox.frozen N9.out.c4 2); (have p3 : w'.cell? ⟨bw, 3, none⟩ = some (.slice none 0 0) := N9.out.c4.cell 3); (have q3 := CBox.frozen N9.out.c4 3); (have p4 : w'.cell? ⟨bw, 4, none⟩ = some (.int .i64 0) := N9.out.c4.cell 4); (have q4 := CBox.frozen N9.out.c4 4); (have r0 : w'.cell? ⟨b5, 0, none⟩ = some (.int .i64 0) := N9.out.c5.cell 0); (have s0 := CBox.frozen N9.out.c5 0); (have r1 : w'.cell? ⟨b5, 1, none⟩ = some (.slice none 0 0) := N9.out.c5.cell 1); (have s1 := CBox.frozen N9.out.c5 1); (have r2 : w'.cell? ⟨b5, 2, none⟩ = some (.int .i64 0) := N9.out.c5.cell 2); (have s2 := CBox.frozen N9.out.c5 2); (have r3 : w'.cell? ⟨b5, 3, none⟩ = some (.int .i64 0) := N9.out.c5.cell 3); (have s3 := CBox.frozen N9.out.c5 3); skip)
    obtain ⟨h1, h2, h3⟩ := boxes_is w' bw b5 (.slice none 0 0) (.slice none 0 0) (.slice none 0 0) (.slice none 0 0) (.int .i64 0) (.int .i64 (ec : Int)) (.slice none 0 0) (.int .i64 0) (.int .i64 (ea : Int)) N9.out.c4 N9.out.c5 n54
    refine bodyPost_ret (v := .tuple #[.agg #[.slice none 0 0, .slice none 0 0, .slice none 0 0, .slice none 0 0, .int .i64 0], .agg #[.int .i64 (ec : Int), .slice none 0 0, .int .i64 0, .int .i64 (ea : Int)]]) (boxes_load w' bw b5 (.slice none 0 0) (.slice none 0 0) (.slice none 0 0) (.slice none 0 0) (.int .i64 0) (.int .i64 (ec : Int)) (.slice none 0 0) (.int .i64 0) (.int .i64 (ea : Int)) _ rfl rfl (run_loadVar_mid _ bw 0 28 [.slice none 0 0, .slice none 0 0, .slice none 0 0, .slice none 0 0, .int .i64 0] _ h1.range Try.underlying28 rfl (by kernel_rfl)) (run_loadVar_mid _ b5 0 47 [.int .i64 (ec : Int), .slice none 0 0, .int .i64 0, .int .i64 (ea : Int)] _ h2.range Try.underlying47 rfl (by kernel_rfl))) rfl ?_
    rw [E0.out, GB.out]
    exact ⟨rfl, N9.out.bel.trans (h3.below (fun g e => by have := N9.out.g5; omega) (Nat.le_trans N9.out.ge N9.out.bel.size))⟩
  | ok hh =>
  obtain ⟨hI, hk, hS1, hS2⟩ := HH.out hh rfl
  have HE : Hid (LL = (msr b hh.e (4 * hh.cs.length + sumL hh.cs + sumL hh.ss) hh.d opn).bind fun _ => bdy b hh.e hh.cs hh.ss hh.d) := HE.out
  have HQ : Hid (hh.cs.length ≤ 1024 ∧ hh.ss.length ≤ 256 ∧ hh.d < 65536 ∧ hh.e ≤ b.length ∧ sumL hh.cs ≤ 1024 * 65536 ∧ sumL hh.ss ≤ 256 * 4294967296) := ⟨hI.c1, hI.s1, hI.hd, hk, hS1, hS2⟩
  clear hI hk hS1 hS2 HH
  have FC0 : RHA W0.heap.size (.ok hh) = RHA W0.heap.size (.ok hh) ∧ Calls Try.prog 68 #[.slice ba b.length bc] W0 fun e w' => RHA W0.heap.size (.ok hh) e w' ∧ Below W0.heap.size W0 w' := ⟨rfl, FC0⟩
  obtain ⟨cs, ss, d, k⟩ := hh
  dsimp only at HE HQ
  have FC : Hid (Calls Try.prog 68 #[.slice ba b.length bc] W0 fun e w' => (∃ cv sv, e = .returned (.tuple #[cv, sv, .int .i64 (d : Int), .int .i64 (k : Int), .int .i64 0, .int .i64 0]) ∧ InO W0.heap.size w' cv cs ∧ InO W0.heap.size w' sv ss) ∧ Below W0.heap.size W0 w') := FC0.2
  clear FC0 H0 HC
  go_upto_region 4 with (go_at_call 68; refine FC.out.mono ?_; rintro e w1 ⟨⟨cv, sv, rfl, h1, h2⟩, hB⟩; (obtain ⟨ca, cc, rfl⟩ := owns_sl h1); (obtain ⟨sa, sc, rfl⟩ := owns_sl h2); (have M1 : Hid (RPM bw b5 w w1 (.slice ca cs.length cc) (.slice sa ss.length sc) cs ss) := ⟨M0.out.c4.past hB, M0.out.c5.past hB, owns_base h1 M0.out.lt, owns_base h2 M0.out.lt, M0.out.bel.trans (hB.mono (Nat.le_trans M0.out.ge M0.out.bel.size)), M0.out.g5, M0.out.ge, Nat.lt_of_lt_of_le M0.out.lt hB.size⟩); (clear hB h1 h2))
  clear FC M0
  have SC := sum_is w1 _ cs M1.out.c (by have := HQ.out; omega) (by have := HQ.out; omega)
  have SS := sum_is w1 _ ss M1.out.s (by have := HQ.out; omega) (by have := HQ.out; omega)
  have S1 : Hid (Calls Try.prog 70 #[.slice ca cs.length cc] w1 fun e w' => e = .returned (.int .i64 (sumL cs : Int)) ∧ w' = w1) := SC
  have S2 : Hid (Calls Try.prog 70 #[.slice sa ss.length sc] w1 fun e w' => e = .returned (.int .i64 (sumL ss : Int)) ∧ w' = w1) := SS
  have S3 : Hid (∀ W C, InO C W (.slice ca cs.length cc) cs → Calls Try.prog 70 #[.slice ca cs.length cc] W fun e w' => e = .returned (.int .i64 (sumL cs : Int)) ∧ w' = W) := fun W C hW => sum_is W _ cs hW (by have := HQ.out; omega) (by have := HQ.out; omega)
  have CU1 : Hid (∀ W lv C, Below bw w W → InO C W lv cs → k + 4 * cs.length + sumL cs ≤ b.length → Calls Try.prog 71 #[.slice ba b.length bc, .int .i64 ((k + 4 * cs.length : Nat) : Int), lv] W fun e w' => ∃ v', e = .returned v' ∧ PO W.heap.size w' v' (cuts b (k + 4 * cs.length) cs) ∧ Below W.heap.size W w') := fun W lv C hW hi hk => cut_is W _ b _ lv cs (HBL.out W hW) hi hk (by have := HLN.out; omega) (by have := HQ.out; omega)
  have CU2 : Hid (∀ W lv C, Below bw w W → InO C W lv ss → k + 4 * cs.length + sumL cs + sumL ss ≤ b.length → Calls Try.prog 71 #[.slice ba b.length bc, .int .i64 ((k + 4 * cs.length + sumL cs : Nat) : Int), lv] W fun e w' => ∃ v', e = .returned v' ∧ PO W.heap.size w' v' (cuts b (k + 4 * cs.length + sumL cs) ss) ∧ Below W.heap.size W w') := fun W lv C hW hi hk => cut_is W _ b _ lv ss (HBL.out W hW) hi hk (by have := HLN.out; omega) (by have := HQ.out; omega)
  have HCL : Hid (∀ x ∈ cuts b (k + 4 * cs.length) cs, x.length ≤ 1152921504606846976) := fun x hx => Nat.le_trans (cuts_small b cs _ x hx) (by have := HLN.out; omega)
  have HSL : Hid (∀ x ∈ cuts b (k + 4 * cs.length + sumL cs) ss, x.length ≤ 1152921504606846976) := fun x hx => Nat.le_trans (cuts_small b ss _ x hx) (by have := HLN.out; omega)
  have HNN : Hid ((cuts b (k + 4 * cs.length) cs).length ≤ 1152921504606846976 ∧ (cuts b (k + 4 * cs.length + sumL cs) ss).length ≤ 1152921504606846976) := by unfold Hid; rw [cuts_len, cuts_len]; have := HQ.out; omega
  have K1 : Hid (b.length < (if opn then k + (4 * cs.length + sumL cs + sumL ss) else k + (4 * cs.length + sumL cs + sumL ss) + d) → LL = .error (50, b.length)) := fun q => by rw [HE.out, msr_cut q]; rfl
  have K2 : Hid (¬ b.length < (if opn then k + (4 * cs.length + sumL cs + sumL ss) else k + (4 * cs.length + sumL cs + sumL ss) + d) → k + (4 * cs.length + sumL cs + sumL ss) + d < b.length → LL = .error (58, k + (4 * cs.length + sumL cs + sumL ss) + d)) := fun q q2 => by rw [HE.out, msr_tail q q2]; rfl
  have K3 : Hid (¬ b.length < (if opn then k + (4 * cs.length + sumL cs + sumL ss) else k + (4 * cs.length + sumL cs + sumL ss) + d) → ¬ k + (4 * cs.length + sumL cs + sumL ss) + d < b.length → LL = (tys b k 0 cs.length).bind fun ts => .ok ⟨ts, cuts b (k + 4 * cs.length) cs, cuts b (k + 4 * cs.length + sumL cs) ss, b.drop (k + 4 * cs.length + sumL cs + sumL ss), (d : Int)⟩) := fun q q2 => by rw [HE.out, msr_ok q q2]; rfl
  obtain ⟨m1, hm1⟩ : ∃ m, m = k + 4 * cs.length := ⟨_, rfl⟩
  obtain ⟨m2, hm2⟩ : ∃ m, m = m1 + sumL cs := ⟨_, rfl⟩
  obtain ⟨m3, hm3⟩ : ∃ m, m = m2 + sumL ss := ⟨_, rfl⟩
  obtain ⟨m4, hm4⟩ : ∃ m, m = m3 + d := ⟨_, rfl⟩
  rw [show k + (4 * cs.length + sumL cs + sumL ss) = m3 by omega] at K1 K2 K3
  rw [← hm1] at CU1 CU2 HCL HSL HNN K3
  rw [← hm2] at CU1 CU2 HSL HNN K3
  rw [← hm3] at CU2 K3
  rw [← hm4] at K1 K2 K3
  obtain ⟨q4, hq4⟩ : ∃ q : Nat, q = 4 * cs.length := ⟨_, rfl⟩
  have HM : Hid (m1 = k + 4 * cs.length ∧ m2 = m1 + sumL cs ∧ m3 = m2 + sumL ss ∧ m4 = m3 + d) := ⟨hm1, hm2, hm3, hm4⟩
  have r1 : (4 : Int) * (cs.length : Int) = (q4 : Int) := by omega
  have r2 : (k : Int) + (q4 : Int) = (m1 : Int) := by omega
  have hq := HQ.out
  have hln := HLN.out
  have w1' : IntKind.i64.wrap (q4 : Int) = (q4 : Int) := by rw [IntKind.wrap_i64]; omega
  have w2' : IntKind.i64.wrap (m1 : Int) = (m1 : Int) := by rw [IntKind.wrap_i64]; omega
  have HR : Hid ((m1 : Int) + (sumL cs : Int) = (m2 : Int) ∧ (m2 : Int) + (sumL ss : Int) = (m3 : Int) ∧ (m3 : Int) + (d : Int) = (m4 : Int) ∧ IntKind.i64.wrap (m2 : Int) = (m2 : Int) ∧ IntKind.i64.wrap (m3 : Int) = (m3 : Int) ∧ IntKind.i64.wrap (m4 : Int) = (m4 : Int)) := by
    refine ⟨by omega, by omega, by omega, ?_, ?_, ?_⟩ <;> (rw [IntKind.wrap_i64]; omega)
  have HMB : Hid ((m4 : Int) < 4611686018427387904 ∧ m3 ≤ m4 ∧ m2 ≤ m3 ∧ m1 ≤ m2 ∧ k ≤ m1) := by unfold Hid; omega
  clear hq hln hm1 hm2 hm3 hm4 hq4 SC SS HE
  generalize hnb : b.length = nb at *
  have HNB : Hid (b.length = nb) := hnb
  clear hnb
  go_upto_region 5 with fail
  clear r1 r2 w1' w2'
  obtain ⟨r3, r4, r5, w3, w4, w5⟩ := HR.out
  generalize hs1 : sumL cs = s1 at *
  generalize hs2 : sumL ss = s2 at *
  have HSS : Hid (sumL cs = s1 ∧ sumL ss = s2) := ⟨hs1, hs2⟩
  clear hs1 hs2
  go_upto_region 7 with (first | (go_at_call 70; (have hq := S1); clear S1; refine hq.out.mono ?_; rintro e w' ⟨rfl, hw⟩; (have hw2 := hw.symm); clear hw; subst hw2) | (go_at_call 70; (have hq := S2); clear S2; refine hq.out.mono ?_; rintro e w' ⟨rfl, hw⟩; (have hw2 := hw.symm); clear hw; subst hw2))
  clear r3 r4 w3 w4
  cases opn with
  | true =>
    simp only [if_true] at K1 K2 K3
    by_cases e1 : nb < m3
    · have E0 : Hid (LL = .error (50, nb)) := K1.out e1
      have q1 : (nb : Int) < (m3 : Int) := by omega
      clear K1 K2 K3
      go_wp2_with (go_at_call 69; refine (refused_is _ _ _).mono ?_; rintro e w' ⟨rfl, hB⟩; (have N9 : Hid (RPM bw b5 w w' _ _ cs ss) := M1.out.past hB); (clear hB); (have n45 : ¬ b5 = bw := by have := N9.out.g5; omega); (have n54 : ¬ bw = b5 := by have := N9.out.g5; omega); (have p0 : w'.cell? ⟨bw, 0, none⟩ = some (.slice none 0 0) := N9.out.c4.cell 0); (have q0 := CBox.frozen N9.out.c4 0); (have p1 : w'.cell? ⟨bw, 1, none⟩ = some (.slice none 0 0) := N9.out.c4.cell 1); (have q1 := CBox.frozen N9.out.c4 1); (have p2 : w'.cell? ⟨bw, 2, none⟩ = some (.slice none 0 0) := N9.out.c4.cell 2); (have q2 := CBox.frozen N9.out.c4 2); (have p3 : w'.cell? ⟨bw, 3, none⟩ = some (.slice none 0 0) := N9.out.c4.cell 3); (have q3 := CBox.frozen N9.out.c4 3); (have p4 : w'.cell? ⟨bw, 4, none⟩ = some (.int .i64 0) := N9.out.c4.cell 4); (have q4 := CBox.frozen N9.out.c4 4); (have r0 : w'.cell? ⟨b5, 0, none⟩ = some (.int .i64 0) := N9.out.c5.cell 0); (have s0 := CBox.frozen N9.out.c5 0); (have r1 : w'.cell? ⟨b5, 1, none⟩ = some (.slice none 0 0) := N9.out.c5.cell 1); (have s1 := CBox.frozen N9.out.c5 1); (have r2 : w'.cell? ⟨b5, 2, none⟩ = some (.int .i64 0) := N9.out.c5.cell 2); (have s2 := CBox.frozen N9.out.c5 2); (have r3 : w'.cell? ⟨b5, 3, none⟩ = some (.int .i64 0) := N9.out.c5.cell 3); (have s3 := CBox.frozen N9.out.c5 3); skip)
      obtain ⟨h1, h2, h3⟩ := boxes_is w' bw b5 (.slice none 0 0) (.slice none 0 0) (.slice none 0 0) (.slice none 0 0) (.int .i64 0) (.int .i64 50) (.slice none 0 0) (.int .i64 0) (.int .i64 (nb : Int)) N9.out.c4 N9.out.c5 n54
      refine bodyPost_ret (v := .tuple #[.agg #[.slice none 0 0, .slice none 0 0, .slice none 0 0, .slice none 0 0, .int .i64 0], .agg #[.int .i64 50, .slice none 0 0, .int .i64 0, .int .i64 (nb : Int)]]) (boxes_load w' bw b5 (.slice none 0 0) (.slice none 0 0) (.slice none 0 0) (.slice none 0 0) (.int .i64 0) (.int .i64 50) (.slice none 0 0) (.int .i64 0) (.int .i64 (nb : Int)) _ rfl rfl (run_loadVar_mid _ bw 0 28 [.slice none 0 0, .slice none 0 0, .slice none 0 0, .slice none 0 0, .int .i64 0] _ h1.range Try.underlying28 rfl (by kernel_rfl)) (run_loadVar_mid _ b5 0 47 [.int .i64 50, .slice none 0 0, .int .i64 0, .int .i64 (nb : Int)] _ h2.range Try.underlying47 rfl (by kernel_rfl))) rfl ?_
      rw [E0.out, GB.out]
      exact ⟨rfl, N9.out.bel.trans (h3.below (fun g e => by have := N9.out.g5; omega) (Nat.le_trans N9.out.ge N9.out.bel.size))⟩
    have q1 : ¬ (nb : Int) < (m3 : Int) := by omega
    by_cases e2 : m4 < nb
    · have E0 : Hid (LL = .error (58, m4)) := K2.out e1 e2
      have q2 : (m4 : Int) < (nb : Int) := by omega
      clear K1 K2 K3
      go_wp2_with (go_at_call 69; refine (refused_is _ _ _).mono ?_; rintro e w' ⟨rfl, hB⟩; (have N9 : Hid (RPM bw b5 w w' _ _ cs ss) := M1.out.past hB); (clear hB); (have n45 : ¬ b5 = bw := by have := N9.out.g5; omega); (have n54 : ¬ bw = b5 := by have := N9.out.g5; omega); (have p0 : w'.cell? ⟨bw, 0, none⟩ = some (.slice none 0 0) := N9.out.c4.cell 0); (have q0 := CBox.frozen N9.out.c4 0); (have p1 : w'.cell? ⟨bw, 1, none⟩ = some (.slice none 0 0) := N9.out.c4.cell 1); (have q1 := CBox.frozen N9.out.c4 1); (have p2 : w'.cell? ⟨bw, 2, none⟩ = some (.slice none 0 0) := N9.out.c4.cell 2); (have q2 := CBox.frozen N9.out.c4 2); (have p3 : w'.cell? ⟨bw, 3, none⟩ = some (.slice none 0 0) := N9.out.c4.cell 3); (have q3 := CBox.frozen N9.out.c4 3); (have p4 : w'.cell? ⟨bw, 4, none⟩ = some (.int .i64 0) := N9.out.c4.cell 4); (have q4 := CBox.frozen N9.out.c4 4); (have r0 : w'.cell? ⟨b5, 0, none⟩ = some (.int .i64 0) := N9.out.c5.cell 0); (have s0 := CBox.frozen N9.out.c5 0); (have r1 : w'.cell? ⟨b5, 1, none⟩ = some (.slice none 0 0) := N9.out.c5.cell 1); (have s1 := CBox.frozen N9.out.c5 1); (have r2 : w'.cell? ⟨b5, 2, none⟩ = some (.int .i64 0) := N9.out.c5.cell 2); (have s2 := CBox.frozen N9.out.c5 2); (have r3 : w'.cell? ⟨b5, 3, none⟩ = some (.int .i64 0) := N9.out.c5.cell 3); (have s3 := CBox.frozen N9.out.c5 3); skip)
      obtain ⟨h1, h2, h3⟩ := boxes_is w' bw b5 (.slice none 0 0) (.slice none 0 0) (.slice none 0 0) (.slice none 0 0) (.int .i64 0) (.int .i64 58) (.slice none 0 0) (.int .i64 0) (.int .i64 (m4 : Int)) N9.out.c4 N9.out.c5 n54
      refine bodyPost_ret (v := .tuple #[.agg #[.slice none 0 0, .slice none 0 0, .slice none 0 0, .slice none 0 0, .int .i64 0], .agg #[.int .i64 58, .slice none 0 0, .int .i64 0, .int .i64 (m4 : Int)]]) (boxes_load w' bw b5 (.slice none 0 0) (.slice none 0 0) (.slice none 0 0) (.slice none 0 0) (.int .i64 0) (.int .i64 58) (.slice none 0 0) (.int .i64 0) (.int .i64 (m4 : Int)) _ rfl rfl (run_loadVar_mid _ bw 0 28 [.slice none 0 0, .slice none 0 0, .slice none 0 0, .slice none 0 0, .int .i64 0] _ h1.range Try.underlying28 rfl (by kernel_rfl)) (run_loadVar_mid _ b5 0 47 [.int .i64 58, .slice none 0 0, .int .i64 0, .int .i64 (m4 : Int)] _ h2.range Try.underlying47 rfl (by kernel_rfl))) rfl ?_
      rw [E0.out, GB.out]
      exact ⟨rfl, N9.out.bel.trans (h3.below (fun g e => by have := N9.out.g5; omega) (Nat.le_trans N9.out.ge N9.out.bel.size))⟩
    have q2 : ¬ (m4 : Int) < (nb : Int) := by omega
    have HE := K3.out e1 e2
    have HE2 : Hid (LL = (tys b k 0 cs.length).bind fun ts => .ok ⟨ts, cuts b m1 cs, cuts b m2 ss, b.drop m3, (d : Int)⟩) := HE
    have HLE : Hid (m3 ≤ nb) := by unfold Hid; have := HMB.out; omega
    clear K1 K2 K3 e1 e2 HE
    obtain ⟨r3, _, _, w3, _, _⟩ := HR.out
    have HD : Hid ((b.drop m3).length = nb - m3 ∧ ∀ j, (b.drop m3)[j]? = b[m3 + j]?) := ⟨by rw [List.length_drop, HNB.out], fun j => by rw [List.getElem?_drop]⟩
    generalize b.drop m3 = D at *
    generalize cuts b m1 cs = C1 at *
    generalize cuts b m2 ss = C2 at *
    go_upto_region 14 with (first | (go_at_call 71; (have hq := CU1); clear CU1; refine (hq.out w1 _ _ M1.out.bel M1.out.c (by have := HMB.out; have := HLE.out; omega)).mono ?_; rintro e wa ⟨va, rfl, hP, hB⟩; (obtain ⟨xa, xc, rfl⟩ := PO.sl hP); (have Ma : Hid (RPM bw b5 w wa (.slice ca cs.length cc) (.slice sa ss.length sc) cs ss ∧ PO (b5 + 1) wa (.slice xa C1.length xc) C1) := ⟨M1.out.past hB, hP.base M1.out.lt⟩); clear hP hB) | (go_at_call 70; (have hq := S3); clear S3; refine (hq.out wa _ Ma.out.1.c).mono ?_; rintro e w' ⟨rfl, hw⟩; (have hw2 := hw.symm); clear hw; subst hw2) | (go_at_call 71; (have hq := CU2); clear CU2; refine (hq.out wa _ _ Ma.out.1.bel Ma.out.1.s (by have := HMB.out; have := HLE.out; omega)).mono ?_; rintro e wb ⟨vb, rfl, hP, hB⟩; (obtain ⟨ya, yc, rfl⟩ := PO.sl hP); (have Mb : Hid (RPM bw b5 w wb (.slice ca cs.length cc) (.slice sa ss.length sc) cs ss ∧ PO (b5 + 1) wb (.slice xa C1.length xc) C1 ∧ PO (b5 + 1) wb (.slice ya C2.length yc) C2) := ⟨Ma.out.1.past hB, Ma.out.2.past hB, hP.base Ma.out.1.lt⟩); clear hP hB))
    clear M1 Ma r3 w3 q1 q2
    have N0 : Hid (RN wb.heap.size wb (wb.alloc (.cells #[.slice none 0 0, .slice xa C1.length xc, .slice ya C2.length yc, .slice none 0 0, .int .i64 (d : Int)] 28)) (.slice none 0 0) (.slice xa C1.length xc) (.slice ya C2.length yc) (.slice none 0 0) [] [] d) := ⟨below_alloc _ _, CBox.new _ _ [_, _, _, _, _], World.ownsRow_nil _ _ _ _, World.ownsRow_nil _ _ _ _, Nat.le_refl _⟩
    generalize wb.alloc _ = W5 at N0 ⊢
    generalize hbz : wb.heap.size = bz at N0 ⊢
    have GZ : Hid (wb.heap.size = bz) := hbz
    clear hbz
    have HP : Hid (∀ W, Below bz wb W → RPM bw b5 w W (.slice ca cs.length cc) (.slice sa ss.length sc) cs ss) := fun W hW => Mb.out.1.past (by rw [GZ.out]; exact hW)
    go_wp2
    go_loopw [16] (fun s16 wr => ∃ (i : Nat) (ts : List Ty) (tv : Value), s16 = .int .i64 (i : Int) ∧ i ≤ cs.length ∧ ts.length = i ∧ RN bz wb wr (tv) (.slice xa C1.length xc) (.slice ya C2.length yc) (.slice none 0 0) (ts) ([]) d ∧ LL = (tys b (k + 4 * i) i (cs.length - i)).bind fun r => .ok ⟨ts ++ r, C1, C2, D, (d : Int)⟩) (fun s16 _ => cs.length - (intOf s16).toNat)
    case atStart => exact ⟨0, [], _, rfl, by omega, rfl, N0.out, by rw [HE2.out]; rfl⟩
    case round =>
      obtain ⟨i, ts, tv, rfl, hi, htl, hN, hE⟩ := hrel
      have N : Hid (RN bz wb wr (tv) (.slice xa C1.length xc) (.slice ya C2.length yc) (.slice none 0 0) (ts) ([]) d) := hN
      have HE : Hid (LL = (tys b (k + 4 * i) i (cs.length - i)).bind fun r => .ok ⟨ts ++ r, C1, C2, D, (d : Int)⟩) := hE
      have HTL : Hid (ts.length = i) := htl
      clear hN hE htl N0 HE2
      obtain ⟨ta, tc, rfl⟩ := owns_sl N.out.t
      by_cases e : i = cs.length
      · have E0 : Hid (LL = .ok ⟨ts, C1, C2, D, (d : Int)⟩) := by unfold Hid; rw [HE.out, e, Nat.sub_self, tys]; simp [Except.bind]
        have HTN : Hid (ts.length ≤ 1024) := by unfold Hid; have := HTL.out; have := HQ.out; omega
        clear HE
        obtain ⟨nd, hnd⟩ : ∃ nd, nd = nb - m3 := ⟨_, rfl⟩
        have HND : Hid (D.length = nd ∧ m3 + nd = nb ∧ ∀ j, D[j]? = b[m3 + j]?) := by unfold Hid; have := HLE.out; exact ⟨by rw [hnd]; exact HD.out.1, by omega, HD.out.2⟩
        have hni : ¬ (i : Int) < (cs.length : Int) := by omega
        clear hnd e
        go_wp2
        go_loopw [20] (fun s20 wr => ∃ (j jj : Nat) (dv : Value), s20 = .int .i64 (jj : Int) ∧ jj = m3 + j ∧ j ≤ nd ∧ RN bz wb wr (.slice ta ts.length tc) (.slice xa C1.length xc) (.slice ya C2.length yc) (dv) (ts) (D.take j) d) (fun s20 _ => nb - (intOf s20).toNat)
        case atStart => exact ⟨0, m3, _, rfl, by omega, by omega, N.out⟩
        case round =>
          obtain ⟨j, jj, dv, rfl, hjj, hj, hN⟩ := hrel
          have N5 : Hid (RN bz wb wr (.slice ta ts.length tc) (.slice xa C1.length xc) (.slice ya C2.length yc) (dv) (ts) (D.take j) d) := hN
          have HJ : Hid (jj = m3 + j) := hjj
          clear hN N
          generalize hT : D.take j = T at N5
          have HTJ : Hid (D.take j = T) := hT
          clear hT
          obtain ⟨da, dc, rfl⟩ := owns_sl N5.out.dd
          by_cases e : j = nd
          · have eD : D.take j = D := List.take_of_length_le (by have := HND.out; omega)
            have eT : T = D := HTJ.out.symm.trans eD
            subst eT
            have q1 : ¬ (jj : Int) < (nb : Int) := by have := HND.out; omega
            have M9 : Hid (RPM bw b5 w wr (.slice ca cs.length cc) (.slice sa ss.length sc) cs ss) := HP.out wr N5.out.bel
            have n45 : ¬ b5 = bw := by have := M9.out.g5; omega
            have n54 : ¬ bw = b5 := by have := M9.out.g5; omega
            have GL : Hid (b5 < bz) := by unfold Hid; rw [← GZ.out]; exact Mb.out.1.lt
            have a0 : wr.cell? ⟨bz, 0, none⟩ = some (.slice ta ts.length tc) := N5.out.box.cell 0
            have a1 : wr.cell? ⟨bz, 1, none⟩ = some (.slice xa C1.length xc) := N5.out.box.cell 1
            have a2 : wr.cell? ⟨bz, 2, none⟩ = some (.slice ya C2.length yc) := N5.out.box.cell 2
            have a3 : wr.cell? ⟨bz, 3, none⟩ = some (.slice da T.length dc) := N5.out.box.cell 3
            have a4 : wr.cell? ⟨bz, 4, none⟩ = some (.int .i64 (d : Int)) := N5.out.box.cell 4
            have p0 : wr.cell? ⟨bw, 0, none⟩ = some (.slice none 0 0) := M9.out.c4.cell 0
            have q0 := CBox.frozen M9.out.c4 0
            have p1 : wr.cell? ⟨bw, 1, none⟩ = some (.slice none 0 0) := M9.out.c4.cell 1
            have q1 := CBox.frozen M9.out.c4 1
            have p2 : wr.cell? ⟨bw, 2, none⟩ = some (.slice none 0 0) := M9.out.c4.cell 2
            have q2 := CBox.frozen M9.out.c4 2
            have p3 : wr.cell? ⟨bw, 3, none⟩ = some (.slice none 0 0) := M9.out.c4.cell 3
            have q3 := CBox.frozen M9.out.c4 3
            have p4 : wr.cell? ⟨bw, 4, none⟩ = some (.int .i64 0) := M9.out.c4.cell 4
            have q4 := CBox.frozen M9.out.c4 4
            have r0 : wr.cell? ⟨b5, 0, none⟩ = some (.int .i64 0) := M9.out.c5.cell 0
            have s0 := CBox.frozen M9.out.c5 0
            have r1 : wr.cell? ⟨b5, 1, none⟩ = some (.slice none 0 0) := M9.out.c5.cell 1
            have s1 := CBox.frozen M9.out.c5 1
            have r2 : wr.cell? ⟨b5, 2, none⟩ = some (.int .i64 0) := M9.out.c5.cell 2
            have s2 := CBox.frozen M9.out.c5 2
            have r3 : wr.cell? ⟨b5, 3, none⟩ = some (.int .i64 0) := M9.out.c5.cell 3
            have s3 := CBox.frozen M9.out.c5 3
            have HDL9 : Hid (T.length ≤ 1152921504606846976) := by unfold Hid; have := HND.out; have := HLN.out; omega
            clear eD e HJ hjj
            go_wp2
            obtain ⟨h1, h2, h3⟩ := boxes_is wr bw b5 (.slice ta ts.length tc) (.slice xa C1.length xc) (.slice ya C2.length yc) (.slice da T.length dc) (.int .i64 (d : Int)) (.int .i64 0) (.slice none 0 0) (.int .i64 0) (.int .i64 0) M9.out.c4 M9.out.c5 n54
            refine bodyPost_ret (v := .tuple #[.agg #[.slice ta ts.length tc, .slice xa C1.length xc, .slice ya C2.length yc, .slice da T.length dc, .int .i64 (d : Int)], .agg #[.int .i64 0, .slice none 0 0, .int .i64 0, .int .i64 0]]) (boxes_load wr bw b5 (.slice ta ts.length tc) (.slice xa C1.length xc) (.slice ya C2.length yc) (.slice da T.length dc) (.int .i64 (d : Int)) (.int .i64 0) (.slice none 0 0) (.int .i64 0) (.int .i64 0) _ rfl rfl (run_loadVar_mid _ bw 0 28 [.slice ta ts.length tc, .slice xa C1.length xc, .slice ya C2.length yc, .slice da T.length dc, .int .i64 (d : Int)] _ h1.range Try.underlying28 rfl (by kernel_rfl)) (run_loadVar_mid _ b5 0 47 [.int .i64 0, .slice none 0 0, .int .i64 0, .int .i64 0] _ h2.range Try.underlying47 rfl (by kernel_rfl))) rfl ?_
            rw [E0.out, GB.out]
            have hg := GL.out
            have hg5 := M9.out.g5
            have hno : ∀ g, b5 + 1 ≤ g → ¬ (g = bw ∨ g = b5) := fun g hg e => by omega
            have bb : Below wb.heap.size wb wr := by rw [GZ.out]; exact N5.out.bel
            have t9 := owns_row_blockB N5.out.t fun g hg => h3.block g (World.ownsRow.lt N5.out.t g hg).2 (hno g (by have := (World.ownsRow.lt N5.out.t g hg).1; omega))
            have d9 := owns_row_blockB N5.out.dd fun g hg => h3.block g (World.ownsRow.lt N5.out.dd g hg).2 (hno g (by have := (World.ownsRow.lt N5.out.dd g hg).1; omega))
            have x9 := (Mb.out.2.1.past bb).but h3 hno
            have y9 := (Mb.out.2.2.past bb).but h3 hno
            refine ⟨⟨_, rfl, ⟨_, _, _, _, rfl, SL.own t9 (Nat.le_trans HTN.out (by omega)) fun g hg => ?_, (x9.pl HNN.out.1 HCL.out).mono (fun g h _ => by omega), (y9.pl HNN.out.2 HSL.out).mono (fun g h _ => by omega), SL.own d9 HDL9.out fun g hg => ?_⟩⟩, M9.out.bel.trans (h3.below (fun g e => by omega) (Nat.le_trans M9.out.ge M9.out.bel.size))⟩
            · have := (World.ownsRow.lt N5.out.t g hg).1; omega
            · have := (World.ownsRow.lt N5.out.dd g hg).1; omega
          · have q1 : (jj : Int) < (nb : Int) := by have := HND.out; omega
            obtain ⟨x, hx⟩ : ∃ x, D[j]? = some x := ⟨D[j]'(by have := HND.out; omega), List.getElem?_eq_getElem _⟩
            have hx2 : b[jj]? = some x := by rw [hjj, ← HND.out.2.2 j]; exact hx
            have HT1 : Hid (D.take (j + 1) = T ++ [x]) := by unfold Hid; rw [take_snoc hx, HTJ.out]
            obtain ⟨g3, a3, eg, _⟩ := (HBL.out wr (HP.out wr N5.out.bel).bel).get hx2
            subst eg
            have HXC : Hid (∀ V, Below bz wb V → V.cell? ⟨g3, a3 + jj, none⟩ = some (.int .u8 (x : Int))) := fun V hV => by
              obtain ⟨g4, a4, e4, hc4⟩ := (HBL.out V (HP.out V hV).bel).get hx2
              cases e4
              exact hc4
            have HLe : Hid (T.length + [x].length ≤ 2199023255552) := by unfold Hid; rw [← HTJ.out, List.length_take]; have := HND.out; have := HLN.out; simp only [List.length_singleton]; omega
            have HJJ : Hid ((jj + 1 = m3 + (j + 1)) ∧ j + 1 ≤ nd) := by unfold Hid; omega
            clear hx hx2 e hjj hj
            go_upto_region 26 with fail
            refine wp_region_held_drew (S := fun V' => V'.cell? ⟨g3, a3 + jj, none⟩ = some (.int .u8 (x : Int))) (by kernel_rfl) (HXC.out _ (N5.out.past below_drew).bel) (fun hHeld => ?_)
            have B0 : Hid (RN bz wb wr.drew (.slice ta ts.length tc) (.slice xa C1.length xc) (.slice ya C2.length yc) (.slice da T.length dc) (ts) (T) d) := N5.out.past below_drew
            generalize wr.drew = z0 at hHeld B0 ⊢
            refine wpAnyH_take (i := 0) (v := .pointer (some ⟨bz, 3, none⟩)) ov0 (by kernel_rfl) (by kernel_rfl) (by kernel_rfl) (fun _ _ _ h => h) (Or.inl ⟨by rfl, fun V' hS => ?_⟩) hHeld ?_
            · go_simp
            simp only [Act.put, List.setIfInBounds_toArray, List.set_cons_zero, List.set_cons_succ]
            refine wpAnyH_take (i := 2) (v := .slice (some ⟨g3, a3, none⟩) nb bc) ov2 (by kernel_rfl) (by kernel_rfl) (by kernel_rfl) (fun _ _ _ h => h) (Or.inl ⟨by rfl, fun V' hS => ?_⟩) hHeld ?_
            · go_simp
            simp only [Act.put, List.setIfInBounds_toArray, List.set_cons_zero, List.set_cons_succ]
            refine wpAnyH_take (i := 3) (v := .int .i64 (jj : Int)) ov3 (by kernel_rfl) (by kernel_rfl) (by kernel_rfl) (fun _ _ _ h => h) (Or.inl ⟨by rfl, fun V' hS => ?_⟩) hHeld ?_
            · go_simp
            simp only [Act.put, List.setIfInBounds_toArray, List.set_cons_zero, List.set_cons_succ]
            refine wpAnyH_take (i := 4) (v := .pointer (some ⟨g3, a3 + jj, none⟩)) ov4 (by kernel_rfl) (by kernel_rfl) (by kernel_rfl) (fun _ _ _ h => h) (Or.inl ⟨by rfl, fun V' hS => ?_⟩) hHeld ?_
            · go_simp
            simp only [Act.put, List.setIfInBounds_toArray, List.set_cons_zero, List.set_cons_succ]
            refine wpAnyH_take (i := 5) (v := .int .u8 (x : Int)) ov5 (by kernel_rfl) (by kernel_rfl) (by kernel_rfl) (fun _ _ _ h => h) (Or.inl ⟨by rfl, fun V' hS => ?_⟩) hHeld ?_
            · go_simp
            simp only [Act.put, List.setIfInBounds_toArray, List.set_cons_zero, List.set_cons_succ]
            refine wpAnyH_ready (rs := [1, 6]) (by kernel_rfl) (by simp) ?_
            refine AllReadyH.cons ov1 (fun K hK => ?_) (AllReadyH.cons ov6 (fun K hK => ?_) AllReadyH.nil)
            · rw [if_pos (by rfl)]
              first | (have k0 := B1.out.box.cell 3; go_simp; clear k0) | (have k0 := B0.out.box.cell 3; go_simp; clear k0)
              refine hK.out _ _ hHeld (fun _ => ?_)
              clear hK K
              (try simp only [Act.put, List.setIfInBounds_toArray, List.set_cons_zero, List.set_cons_succ])
              refine wpAnyH_ready (rs := [6]) (by kernel_rfl) (by simp) ?_
              refine AllReadyH.cons ov6 (fun K hK => ?_) AllReadyH.nil
              rw [if_pos (by rfl)]
              go_simp
              have B1 : Hid (RN bz wb (z0.alloc (.cells #[.int .u8 (x : Int)] 5)) (.slice ta ts.length tc) (.slice xa C1.length xc) (.slice ya C2.length yc) (.slice da T.length dc) (ts) (T) d) := B0.out.past (below_alloc _ _)
              have X1 : Hid (BL (fun k => k = z0.heap.size) (z0.alloc (.cells #[.int .u8 (x : Int)] 5)) (.slice (some ⟨z0.heap.size, 0, none⟩) 1 1) [x]) := BL.new z0 [x] (by simp)
              refine hK.out _ (z0.alloc (.cells #[.int .u8 (x : Int)] 5)) (HXC.out _ B1.out.bel) (fun _ => ?_)
              clear hK K
              (try simp only [Act.put, List.setIfInBounds_toArray, List.set_cons_zero, List.set_cons_succ])
              refine wpAnyH_ready (rs := [7]) (by kernel_rfl) (by simp) ?_
              refine AllReadyH.cons ov7 (fun K hK => ?_) AllReadyH.nil
              rw [if_pos (by rfl)]
              refine wp_appB (P := fun k => k = z0.heap.size) _ _ rfl bz B1.out.le (.slice da T.length dc) T rfl B1.out.dd (.slice (some ⟨z0.heap.size, 0, none⟩) 1 1) [x] rfl X1.out HLe.out ?_
              intro v8 w8 hA
              obtain ⟨t8, u8, e8⟩ := owns_sl hA.row
              rw [List.length_append, List.length_singleton] at e8
              subst e8
              have z9 := B1.out.box.but hA.but (fun e => own_box B1.out.dd B1.out.box (by decide) e rfl)
              have bel8 := B1.out.bel.trans (hA.below B1.out.dd B1.out.le)
              refine hK.out _ w8 (HXC.out _ bel8) (fun _ => ?_)
              clear hK K
              (try simp only [Act.put, List.setIfInBounds_toArray, List.set_cons_zero, List.set_cons_succ])
              refine wpAnyH_take (i := 8) (v := .pointer (some ⟨bz, 3, none⟩)) ov8 (by kernel_rfl) (by kernel_rfl) (by kernel_rfl) (fun _ _ _ h => h) (Or.inl ⟨by rfl, fun V' hS => ?_⟩) (HXC.out _ bel8) ?_
              · go_simp
              simp only [Act.put, List.setIfInBounds_toArray, List.set_cons_zero, List.set_cons_succ]
              refine wpAnyH_ready (rs := [9]) (by kernel_rfl) (by simp) ?_
              refine AllReadyH.cons ov9 (fun K hK => ?_) AllReadyH.nil
              rw [if_pos (by rfl)]
              have k0 : w8.cell? ⟨bz, 3, none⟩ = some (.slice da T.length dc) := z9.cell 3
              have k1 := CBox.frozen z9 3
              go_simp
              have N6 : Hid (RN bz wb (w8.setCell ⟨bz, 3, none⟩ (.slice t8 (T.length + 1) u8)) (.slice ta ts.length tc) (.slice xa C1.length xc) (.slice ya C2.length yc) (.slice t8 (T.length + 1) u8) (ts) (T ++ [x]) d) := B1.out.appD hA
              clear k0 k1 z9 bel8 hA
              refine hK.out _ (w8.setCell ⟨bz, 3, none⟩ (.slice t8 (T.length + 1) u8)) (HXC.out _ N6.out.bel) (fun _ => ?_)
              clear hK K
              (try simp only [Act.put, List.setIfInBounds_toArray, List.set_cons_zero, List.set_cons_succ])
              generalize (w8.setCell ⟨bz, 3, none⟩ (.slice t8 (T.length + 1) u8)) = W9 at N6 ⊢
              refine wpAnyH_done (by kernel_rfl) ?_ _
              clear hHeld B0 B1 X1 N5 HXC
              go_wp2
              go_roundw
              case rel => (exact ⟨j + 1, jj + 1, _, by first | rfl | go_num, HJJ.out.1, HJJ.out.2, by rw [HT1.out]; exact N6.out⟩)
              case measure => simp [intOf]; omega
            · rw [if_pos (by rfl)]
              go_simp
              have B1 : Hid (RN bz wb (z0.alloc (.cells #[.int .u8 (x : Int)] 5)) (.slice ta ts.length tc) (.slice xa C1.length xc) (.slice ya C2.length yc) (.slice da T.length dc) (ts) (T) d) := B0.out.past (below_alloc _ _)
              have X1 : Hid (BL (fun k => k = z0.heap.size) (z0.alloc (.cells #[.int .u8 (x : Int)] 5)) (.slice (some ⟨z0.heap.size, 0, none⟩) 1 1) [x]) := BL.new z0 [x] (by simp)
              refine hK.out _ (z0.alloc (.cells #[.int .u8 (x : Int)] 5)) (HXC.out _ B1.out.bel) (fun _ => ?_)
              clear hK K
              (try simp only [Act.put, List.setIfInBounds_toArray, List.set_cons_zero, List.set_cons_succ])
              refine wpAnyH_ready (rs := [1]) (by kernel_rfl) (by simp) ?_
              refine AllReadyH.cons ov1 (fun K hK => ?_) AllReadyH.nil
              rw [if_pos (by rfl)]
              first | (have k0 := B1.out.box.cell 3; go_simp; clear k0) | (have k0 := B0.out.box.cell 3; go_simp; clear k0)
              refine hK.out _ _ (HXC.out _ B1.out.bel) (fun _ => ?_)
              clear hK K
              (try simp only [Act.put, List.setIfInBounds_toArray, List.set_cons_zero, List.set_cons_succ])
              refine wpAnyH_ready (rs := [7]) (by kernel_rfl) (by simp) ?_
              refine AllReadyH.cons ov7 (fun K hK => ?_) AllReadyH.nil
              rw [if_pos (by rfl)]
              refine wp_appB (P := fun k => k = z0.heap.size) _ _ rfl bz B1.out.le (.slice da T.length dc) T rfl B1.out.dd (.slice (some ⟨z0.heap.size, 0, none⟩) 1 1) [x] rfl X1.out HLe.out ?_
              intro v8 w8 hA
              obtain ⟨t8, u8, e8⟩ := owns_sl hA.row
              rw [List.length_append, List.length_singleton] at e8
              subst e8
              have z9 := B1.out.box.but hA.but (fun e => own_box B1.out.dd B1.out.box (by decide) e rfl)
              have bel8 := B1.out.bel.trans (hA.below B1.out.dd B1.out.le)
              refine hK.out _ w8 (HXC.out _ bel8) (fun _ => ?_)
              clear hK K
              (try simp only [Act.put, List.setIfInBounds_toArray, List.set_cons_zero, List.set_cons_succ])
              refine wpAnyH_take (i := 8) (v := .pointer (some ⟨bz, 3, none⟩)) ov8 (by kernel_rfl) (by kernel_rfl) (by kernel_rfl) (fun _ _ _ h => h) (Or.inl ⟨by rfl, fun V' hS => ?_⟩) (HXC.out _ bel8) ?_
              · go_simp
              simp only [Act.put, List.setIfInBounds_toArray, List.set_cons_zero, List.set_cons_succ]
              refine wpAnyH_ready (rs := [9]) (by kernel_rfl) (by simp) ?_
              refine AllReadyH.cons ov9 (fun K hK => ?_) AllReadyH.nil
              rw [if_pos (by rfl)]
              have k0 : w8.cell? ⟨bz, 3, none⟩ = some (.slice da T.length dc) := z9.cell 3
              have k1 := CBox.frozen z9 3
              go_simp
              have N6 : Hid (RN bz wb (w8.setCell ⟨bz, 3, none⟩ (.slice t8 (T.length + 1) u8)) (.slice ta ts.length tc) (.slice xa C1.length xc) (.slice ya C2.length yc) (.slice t8 (T.length + 1) u8) (ts) (T ++ [x]) d) := B1.out.appD hA
              clear k0 k1 z9 bel8 hA
              refine hK.out _ (w8.setCell ⟨bz, 3, none⟩ (.slice t8 (T.length + 1) u8)) (HXC.out _ N6.out.bel) (fun _ => ?_)
              clear hK K
              (try simp only [Act.put, List.setIfInBounds_toArray, List.set_cons_zero, List.set_cons_succ])
              generalize (w8.setCell ⟨bz, 3, none⟩ (.slice t8 (T.length + 1) u8)) = W9 at N6 ⊢
              refine wpAnyH_done (by kernel_rfl) ?_ _
              clear hHeld B0 B1 X1 N5 HXC
              go_wp2
              go_roundw
              case rel => (exact ⟨j + 1, jj + 1, _, by first | rfl | go_num, HJJ.out.1, HJJ.out.2, by rw [HT1.out]; exact N6.out⟩)
              case measure => simp [intOf]; omega
      · have iI : (i : Int) < (cs.length : Int) := by omega
        have iB : (i : Int) < 1024 := by have := HQ.out; omega
        obtain ⟨r, hr⟩ : ∃ r, cs.length - i = r + 1 := ⟨cs.length - i - 1, by omega⟩
        have HR1 : Hid (cs.length - (i + 1) = r) := by unfold Hid; omega
        obtain ⟨kk, hkk⟩ : ∃ kk, kk = k + 4 * i := ⟨_, rfl⟩
        obtain ⟨i4, hi4⟩ : ∃ i4, i4 = 4 * i := ⟨_, rfl⟩
        have hb4 : kk + 4 ≤ nb := by have := HM.out; have := HMB.out; have := HLE.out; omega
        have HKN : Hid (kk + 4 = k + 4 * (i + 1)) := by unfold Hid; omega
        have HE : Hid (LL = (tyAt b kk i).bind fun t => (tys b (kk + 4) (i + 1) r).bind fun q => .ok ⟨ts ++ (t :: q), C1, C2, D, (d : Int)⟩) := by
          unfold Hid
          rw [HE.out, hr, tys, ← hkk]
          cases tyAt b kk i with
          | error er => rfl
          | ok t => cases tys b (kk + 4) (i + 1) r <;> rfl
        rw [tyAt_is b kk i (by rw [HNB.out]; exact hb4)] at HE
        have bel : Below bw w wr := (HP.out wr N.out.bel).bel
        have A1 := at_is wr _ b kk 1 (HBL.out wr bel) HBY.out (by omega) (by rw [HNB.out]; omega) (by rw [HNB.out]; have := HLN.out; omega)
        have A2 := at_is wr _ b (kk + 1) 1 (HBL.out wr bel) HBY.out (by omega) (by rw [HNB.out]; omega) (by rw [HNB.out]; have := HLN.out; omega)
        have A3 := at_is wr _ b (kk + 2) 2 (HBL.out wr bel) HBY.out (by omega) (by rw [HNB.out]; omega) (by rw [HNB.out]; have := HLN.out; omega)
        obtain ⟨kk1, hkk1⟩ : ∃ q, q = kk + 1 := ⟨_, rfl⟩
        obtain ⟨kk2, hkk2⟩ : ∃ q, q = kk + 2 := ⟨_, rfl⟩
        rw [← hkk1] at A2 HE
        rw [← hkk2] at A3 HE
        have AT1 : Hid (Calls Try.prog 72 #[.slice ba nb bc, .int .i64 (kk : Int), .int .i64 1] wr fun e w' => e = .returned (.int .i64 (rd b kk 1 : Int)) ∧ w' = wr) := A1
        have AT2 : Hid (Calls Try.prog 72 #[.slice ba nb bc, .int .i64 (kk1 : Int), .int .i64 1] wr fun e w' => e = .returned (.int .i64 (rd b kk1 1 : Int)) ∧ w' = wr) := A2
        have AT3 : Hid (Calls Try.prog 72 #[.slice ba nb bc, .int .i64 (kk2 : Int), .int .i64 2] wr fun e w' => e = .returned (.int .i64 (rd b kk2 2 : Int)) ∧ w' = wr) := A3
        have i1 : (4 : Int) * (i : Int) = (i4 : Int) := by omega
        have i2 : (k : Int) + (i4 : Int) = (kk : Int) := by omega
        have i3 : (kk : Int) + 1 = (kk1 : Int) := by omega
        have i5 : (kk : Int) + 2 = (kk2 : Int) := by omega
        have hln := HLN.out
        have v1 : IntKind.i64.wrap (i4 : Int) = (i4 : Int) := by rw [IntKind.wrap_i64]; omega
        have v2 : IntKind.i64.wrap (kk : Int) = (kk : Int) := by rw [IntKind.wrap_i64]; omega
        have v3 : IntKind.i64.wrap (kk1 : Int) = (kk1 : Int) := by rw [IntKind.wrap_i64]; omega
        have v4 : IntKind.i64.wrap (kk2 : Int) = (kk2 : Int) := by rw [IntKind.wrap_i64]; omega
        have HKB : Hid (kk + 4 ≤ nb) := hb4
        clear A1 A2 A3 hkk hi4 hkk1 hkk2 hb4 e hr bel hln
        generalize rd b kk 1 = x at *
        generalize rd b kk1 1 = y at *
        generalize rd b kk2 2 = z at *
        go_upto_region 19 with (first | (go_at_call 72; (have hq := AT1); clear AT1; refine hq.out.mono ?_; rintro e w' ⟨rfl, hw⟩; (have hw2 := hw.symm); clear hw; subst hw2) | (go_at_call 72; (have hq := AT2); clear AT2; refine hq.out.mono ?_; rintro e w' ⟨rfl, hw⟩; (have hw2 := hw.symm); clear hw; subst hw2) | (go_at_call 72; (have hq := AT3); clear AT3; refine hq.out.mono ?_; rintro e w' ⟨rfl, hw⟩; (have hw2 := hw.symm); clear hw; subst hw2))
        clear i1 i2 i3 i5 v1 v2 v3 v4
        have N1 : Hid (RN bz wb (wr.alloc (.cells #[.int .i64 (x : Int), .int .i64 (y : Int), .int .i64 (z : Int)] 77)) (.slice ta ts.length tc) (.slice xa C1.length xc) (.slice ya C2.length yc) (.slice none 0 0) (ts) ([]) d ∧ CBox (wr.alloc (.cells #[.int .i64 (x : Int), .int .i64 (y : Int), .int .i64 (z : Int)] 77)) wr.heap.size 77 [.int .i64 (x : Int), .int .i64 (y : Int), .int .i64 (z : Int)]) := ⟨N.out.past (below_alloc _ _), CBox.new _ _ [_, _, _]⟩
        clear N
        generalize wr.alloc _ = W6 at N1 ⊢
        generalize wr.heap.size = b18 at N1 ⊢
        have TW0 := typeWrong_is W6 i (x : Int) (y : Int) (z : Int)
        have TWC : Hid (Calls Try.prog 73 #[.int .i64 (i : Int), .agg #[.int .i64 (x : Int), .int .i64 (y : Int), .int .i64 (z : Int)]] W6 fun e w' => e = .returned (.int .i64 (tyBad i ((x : Int), (y : Int), (z : Int)) : Int)) ∧ Below W6.heap.size W6 w') := TW0
        clear TW0
        have hb3 : tyBad i ((x : Int), (y : Int), (z : Int)) ≤ 3 := by unfold tyBad; split; omega; split; omega; split <;> omega
        generalize tyBad i ((x : Int), (y : Int), (z : Int)) = tb at *
        have c0 : W6.cell? ⟨b18, 0, none⟩ = some (.int .i64 (x : Int)) := N1.out.2.cell 0
        have c1 : W6.cell? ⟨b18, 1, none⟩ = some (.int .i64 (y : Int)) := N1.out.2.cell 1
        have c2 : W6.cell? ⟨b18, 2, none⟩ = some (.int .i64 (z : Int)) := N1.out.2.cell 2
        go_upto_region 20 with (go_at_call 73; refine TWC.out.mono ?_; rintro e w7 ⟨rfl, hB⟩; (have N2 : Hid (RN bz wb w7 (.slice ta ts.length tc) (.slice xa C1.length xc) (.slice ya C2.length yc) (.slice none 0 0) (ts) ([]) d ∧ CBox w7 b18 77 [.int .i64 (x : Int), .int .i64 (y : Int), .int .i64 (z : Int)]) := ⟨N1.out.1.past hB, N1.out.2.past hB⟩); clear hB)
        clear c0 c1 c2 N1 TWC
        by_cases et : tb < 3
        · obtain ⟨kt, hkt⟩ : ∃ kt, kt = kk + tb := ⟨_, rfl⟩
          have E0 : Hid (LL = .error (59, kt)) := by unfold Hid; rw [HE.out, if_pos et, hkt]; rfl
          have r1 : (kk : Int) + (tb : Int) = (kt : Int) := by omega
          have w1' : IntKind.i64.wrap (kt : Int) = (kt : Int) := by rw [IntKind.wrap_i64]; have := HKB.out; have := HLN.out; omega
          have q1 : (tb : Int) < 3 := by omega
          have M9 : Hid (RPM bw b5 w w7 (.slice ca cs.length cc) (.slice sa ss.length sc) cs ss) := HP.out w7 N2.out.1.bel
          clear HE et hkt
          go_wp2_with (go_at_call 69; refine (refused_is _ _ _).mono ?_; rintro e w' ⟨rfl, hB⟩; (have N9 : Hid (RPM bw b5 w w' _ _ cs ss) := M9.out.past hB); (clear hB); (have n45 : ¬ b5 = bw := by have := N9.out.g5; omega); (have n54 : ¬ bw = b5 := by have := N9.out.g5; omega); (have p0 : w'.cell? ⟨bw, 0, none⟩ = some (.slice none 0 0) := N9.out.c4.cell 0); (have q0 := CBox.frozen N9.out.c4 0); (have p1 : w'.cell? ⟨bw, 1, none⟩ = some (.slice none 0 0) := N9.out.c4.cell 1); (have q1 := CBox.frozen N9.out.c4 1); (have p2 : w'.cell? ⟨bw, 2, none⟩ = some (.slice none 0 0) := N9.out.c4.cell 2); (have q2 := CBox.frozen N9.out.c4 2); (have p3 : w'.cell? ⟨bw, 3, none⟩ = some (.slice none 0 0) := N9.out.c4.cell 3); (have q3 := CBox.frozen N9.out.c4 3); (have p4 : w'.cell? ⟨bw, 4, none⟩ = some (.int .i64 0) := N9.out.c4.cell 4); (have q4 := CBox.frozen N9.out.c4 4); (have r0 : w'.cell? ⟨b5, 0, none⟩ = some (.int .i64 0) := N9.out.c5.cell 0); (have s0 := CBox.frozen N9.out.c5 0); (have r1 : w'.cell? ⟨b5, 1, none⟩ = some (.slice none 0 0) := N9.out.c5.cell 1); (have s1 := CBox.frozen N9.out.c5 1); (have r2 : w'.cell? ⟨b5, 2, none⟩ = some (.int .i64 0) := N9.out.c5.cell 2); (have s2 := CBox.frozen N9.out.c5 2); (have r3 : w'.cell? ⟨b5, 3, none⟩ = some (.int .i64 0) := N9.out.c5.cell 3); (have s3 := CBox.frozen N9.out.c5 3); skip)
          obtain ⟨h1, h2, h3⟩ := boxes_is w' bw b5 (.slice none 0 0) (.slice none 0 0) (.slice none 0 0) (.slice none 0 0) (.int .i64 0) (.int .i64 59) (.slice none 0 0) (.int .i64 0) (.int .i64 (kt : Int)) N9.out.c4 N9.out.c5 n54
          refine bodyPost_ret (v := .tuple #[.agg #[.slice none 0 0, .slice none 0 0, .slice none 0 0, .slice none 0 0, .int .i64 0], .agg #[.int .i64 59, .slice none 0 0, .int .i64 0, .int .i64 (kt : Int)]]) (boxes_load w' bw b5 (.slice none 0 0) (.slice none 0 0) (.slice none 0 0) (.slice none 0 0) (.int .i64 0) (.int .i64 59) (.slice none 0 0) (.int .i64 0) (.int .i64 (kt : Int)) _ rfl rfl (run_loadVar_mid _ bw 0 28 [.slice none 0 0, .slice none 0 0, .slice none 0 0, .slice none 0 0, .int .i64 0] _ h1.range Try.underlying28 rfl (by kernel_rfl)) (run_loadVar_mid _ b5 0 47 [.int .i64 59, .slice none 0 0, .int .i64 0, .int .i64 (kt : Int)] _ h2.range Try.underlying47 rfl (by kernel_rfl))) rfl ?_
          rw [E0.out, GB.out]
          exact ⟨rfl, N9.out.bel.trans (h3.below (fun g e => by have := N9.out.g5; omega) (Nat.le_trans N9.out.ge N9.out.bel.size))⟩
        have q1 : ¬ (tb : Int) < 3 := by omega
        have HE3 : Hid (LL = (tys b (k + 4 * (i + 1)) (i + 1) (cs.length - (i + 1))).bind fun q => .ok ⟨(ts ++ [((x : Int), (y : Int), (z : Int))]) ++ q, C1, C2, D, (d : Int)⟩) := by
          unfold Hid
          rw [HE.out, if_neg et, HR1.out, ← HKN.out]
          show ((tys b (kk + 4) (i + 1) r).bind _) = _
          congr 1
          funext q
          rw [List.append_assoc]
          rfl
        clear HE et
        have c0 : w7.cell? ⟨b18, 0, none⟩ = some (.int .i64 (x : Int)) := N2.out.2.cell 0
        have c1 : w7.cell? ⟨b18, 1, none⟩ = some (.int .i64 (y : Int)) := N2.out.2.cell 1
        have c2 : w7.cell? ⟨b18, 2, none⟩ = some (.int .i64 (z : Int)) := N2.out.2.cell 2
        have c3 : w7.cell? ⟨bz, 0, none⟩ = some (.slice ta ts.length tc) := N2.out.1.box.cell 0
        have HLe : Hid (ts.length + 1 ≤ 2199023255552) := by unfold Hid; have := HTL.out; have := HQ.out; omega
        go_wp2_with (at_builtin; refine wpList_appT rfl _ _ rfl bz N2.out.1.le (.slice ta ts.length tc) ts rfl N2.out.1.t (x : Int) (y : Int) (z : Int) rfl HLe.out ?_; intro v8 w8 hA; (obtain ⟨t8, u8, e8⟩ := owns_sl hA.row); (rw [List.length_append, List.length_singleton] at e8); (subst e8); (have z9 := N2.out.1.box.but hA.but (fun e => own_box N2.out.1.t N2.out.1.box (by decide) e rfl)); (have z1 : w8.cell? ⟨bz, 0, none⟩ = some (.slice ta ts.length tc) := z9.cell 0); (have z2 := CBox.frozen z9 0))
        have N3 := N2.out.1.appT hA
        have N4 : Hid _ := N3
        clear N3 hA z9 z1 z2 c0 c1 c2 c3 N2
        go_roundw
        case rel => exact ⟨i + 1, ts ++ [((x : Int), (y : Int), (z : Int))], _, by first | rfl | go_num, by omega, by rw [List.length_append, HTL.out]; rfl, N4.out, HE3.out⟩
        case measure => simp [intOf]; omega
  | false =>
    simp only [Bool.false_eq_true, if_false] at K1 K2 K3
    by_cases e1 : nb < m4
    · have E0 : Hid (LL = .error (50, nb)) := K1.out e1
      have q1 : (nb : Int) < (m4 : Int) := by omega
      clear K1 K2 K3
      go_wp2_with (go_at_call 69; refine (refused_is _ _ _).mono ?_; rintro e w' ⟨rfl, hB⟩; (have N9 : Hid (RPM bw b5 w w' _ _ cs ss) := M1.out.past hB); (clear hB); (have n45 : ¬ b5 = bw := by have := N9.out.g5; omega); (have n54 : ¬ bw = b5 := by have := N9.out.g5; omega); (have p0 : w'.cell? ⟨bw, 0, none⟩ = some (.slice none 0 0) := N9.out.c4.cell 0); (have q0 := CBox.frozen N9.out.c4 0); (have p1 : w'.cell? ⟨bw, 1, none⟩ = some (.slice none 0 0) := N9.out.c4.cell 1); (have q1 := CBox.frozen N9.out.c4 1); (have p2 : w'.cell? ⟨bw, 2, none⟩ = some (.slice none 0 0) := N9.out.c4.cell 2); (have q2 := CBox.frozen N9.out.c4 2); (have p3 : w'.cell? ⟨bw, 3, none⟩ = some (.slice none 0 0) := N9.out.c4.cell 3); (have q3 := CBox.frozen N9.out.c4 3); (have p4 : w'.cell? ⟨bw, 4, none⟩ = some (.int .i64 0) := N9.out.c4.cell 4); (have q4 := CBox.frozen N9.out.c4 4); (have r0 : w'.cell? ⟨b5, 0, none⟩ = some (.int .i64 0) := N9.out.c5.cell 0); (have s0 := CBox.frozen N9.out.c5 0); (have r1 : w'.cell? ⟨b5, 1, none⟩ = some (.slice none 0 0) := N9.out.c5.cell 1); (have s1 := CBox.frozen N9.out.c5 1); (have r2 : w'.cell? ⟨b5, 2, none⟩ = some (.int .i64 0) := N9.out.c5.cell 2); (have s2 := CBox.frozen N9.out.c5 2); (have r3 : w'.cell? ⟨b5, 3, none⟩ = some (.int .i64 0) := N9.out.c5.cell 3); (have s3 := CBox.frozen N9.out.c5 3); skip)
      obtain ⟨h1, h2, h3⟩ := boxes_is w' bw b5 (.slice none 0 0) (.slice none 0 0) (.slice none 0 0) (.slice none 0 0) (.int .i64 0) (.int .i64 50) (.slice none 0 0) (.int .i64 0) (.int .i64 (nb : Int)) N9.out.c4 N9.out.c5 n54
      refine bodyPost_ret (v := .tuple #[.agg #[.slice none 0 0, .slice none 0 0, .slice none 0 0, .slice none 0 0, .int .i64 0], .agg #[.int .i64 50, .slice none 0 0, .int .i64 0, .int .i64 (nb : Int)]]) (boxes_load w' bw b5 (.slice none 0 0) (.slice none 0 0) (.slice none 0 0) (.slice none 0 0) (.int .i64 0) (.int .i64 50) (.slice none 0 0) (.int .i64 0) (.int .i64 (nb : Int)) _ rfl rfl (run_loadVar_mid _ bw 0 28 [.slice none 0 0, .slice none 0 0, .slice none 0 0, .slice none 0 0, .int .i64 0] _ h1.range Try.underlying28 rfl (by kernel_rfl)) (run_loadVar_mid _ b5 0 47 [.int .i64 50, .slice none 0 0, .int .i64 0, .int .i64 (nb : Int)] _ h2.range Try.underlying47 rfl (by kernel_rfl))) rfl ?_
      rw [E0.out, GB.out]
      exact ⟨rfl, N9.out.bel.trans (h3.below (fun g e => by have := N9.out.g5; omega) (Nat.le_trans N9.out.ge N9.out.bel.size))⟩
    have q1 : ¬ (nb : Int) < (m4 : Int) := by omega
    by_cases e2 : m4 < nb
    · have E0 : Hid (LL = .error (58, m4)) := K2.out e1 e2
      have q2 : (m4 : Int) < (nb : Int) := by omega
      clear K1 K2 K3
      go_wp2_with (go_at_call 69; refine (refused_is _ _ _).mono ?_; rintro e w' ⟨rfl, hB⟩; (have N9 : Hid (RPM bw b5 w w' _ _ cs ss) := M1.out.past hB); (clear hB); (have n45 : ¬ b5 = bw := by have := N9.out.g5; omega); (have n54 : ¬ bw = b5 := by have := N9.out.g5; omega); (have p0 : w'.cell? ⟨bw, 0, none⟩ = some (.slice none 0 0) := N9.out.c4.cell 0); (have q0 := CBox.frozen N9.out.c4 0); (have p1 : w'.cell? ⟨bw, 1, none⟩ = some (.slice none 0 0) := N9.out.c4.cell 1); (have q1 := CBox.frozen N9.out.c4 1); (have p2 : w'.cell? ⟨bw, 2, none⟩ = some (.slice none 0 0) := N9.out.c4.cell 2); (have q2 := CBox.frozen N9.out.c4 2); (have p3 : w'.cell? ⟨bw, 3, none⟩ = some (.slice none 0 0) := N9.out.c4.cell 3); (have q3 := CBox.frozen N9.out.c4 3); (have p4 : w'.cell? ⟨bw, 4, none⟩ = some (.int .i64 0) := N9.out.c4.cell 4); (have q4 := CBox.frozen N9.out.c4 4); (have r0 : w'.cell? ⟨b5, 0, none⟩ = some (.int .i64 0) := N9.out.c5.cell 0); (have s0 := CBox.frozen N9.out.c5 0); (have r1 : w'.cell? ⟨b5, 1, none⟩ = some (.slice none 0 0) := N9.out.c5.cell 1); (have s1 := CBox.frozen N9.out.c5 1); (have r2 : w'.cell? ⟨b5, 2, none⟩ = some (.int .i64 0) := N9.out.c5.cell 2); (have s2 := CBox.frozen N9.out.c5 2); (have r3 : w'.cell? ⟨b5, 3, none⟩ = some (.int .i64 0) := N9.out.c5.cell 3); (have s3 := CBox.frozen N9.out.c5 3); skip)
      obtain ⟨h1, h2, h3⟩ := boxes_is w' bw b5 (.slice none 0 0) (.slice none 0 0) (.slice none 0 0) (.slice none 0 0) (.int .i64 0) (.int .i64 58) (.slice none 0 0) (.int .i64 0) (.int .i64 (m4 : Int)) N9.out.c4 N9.out.c5 n54
      refine bodyPost_ret (v := .tuple #[.agg #[.slice none 0 0, .slice none 0 0, .slice none 0 0, .slice none 0 0, .int .i64 0], .agg #[.int .i64 58, .slice none 0 0, .int .i64 0, .int .i64 (m4 : Int)]]) (boxes_load w' bw b5 (.slice none 0 0) (.slice none 0 0) (.slice none 0 0) (.slice none 0 0) (.int .i64 0) (.int .i64 58) (.slice none 0 0) (.int .i64 0) (.int .i64 (m4 : Int)) _ rfl rfl (run_loadVar_mid _ bw 0 28 [.slice none 0 0, .slice none 0 0, .slice none 0 0, .slice none 0 0, .int .i64 0] _ h1.range Try.underlying28 rfl (by kernel_rfl)) (run_loadVar_mid _ b5 0 47 [.int .i64 58, .slice none 0 0, .int .i64 0, .int .i64 (m4 : Int)] _ h2.range Try.underlying47 rfl (by kernel_rfl))) rfl ?_
      rw [E0.out, GB.out]
      exact ⟨rfl, N9.out.bel.trans (h3.below (fun g e => by have := N9.out.g5; omega) (Nat.le_trans N9.out.ge N9.out.bel.size))⟩
    have q2 : ¬ (m4 : Int) < (nb : Int) := by omega
    have HE := K3.out e1 e2
    have HE2 : Hid (LL = (tys b k 0 cs.length).bind fun ts => .ok ⟨ts, cuts b m1 cs, cuts b m2 ss, b.drop m3, (d : Int)⟩) := HE
    have HLE : Hid (m3 ≤ nb) := by unfold Hid; have := HMB.out; omega
    clear K1 K2 K3 e1 e2 HE
    obtain ⟨r3, _, _, w3, _, _⟩ := HR.out
    have HD : Hid ((b.drop m3).length = nb - m3 ∧ ∀ j, (b.drop m3)[j]? = b[m3 + j]?) := ⟨by rw [List.length_drop, HNB.out], fun j => by rw [List.getElem?_drop]⟩
    generalize b.drop m3 = D at *
    generalize cuts b m1 cs = C1 at *
    generalize cuts b m2 ss = C2 at *
    go_upto_region 14 with (first | (go_at_call 71; (have hq := CU1); clear CU1; refine (hq.out w1 _ _ M1.out.bel M1.out.c (by have := HMB.out; have := HLE.out; omega)).mono ?_; rintro e wa ⟨va, rfl, hP, hB⟩; (obtain ⟨xa, xc, rfl⟩ := PO.sl hP); (have Ma : Hid (RPM bw b5 w wa (.slice ca cs.length cc) (.slice sa ss.length sc) cs ss ∧ PO (b5 + 1) wa (.slice xa C1.length xc) C1) := ⟨M1.out.past hB, hP.base M1.out.lt⟩); clear hP hB) | (go_at_call 70; (have hq := S3); clear S3; refine (hq.out wa _ Ma.out.1.c).mono ?_; rintro e w' ⟨rfl, hw⟩; (have hw2 := hw.symm); clear hw; subst hw2) | (go_at_call 71; (have hq := CU2); clear CU2; refine (hq.out wa _ _ Ma.out.1.bel Ma.out.1.s (by have := HMB.out; have := HLE.out; omega)).mono ?_; rintro e wb ⟨vb, rfl, hP, hB⟩; (obtain ⟨ya, yc, rfl⟩ := PO.sl hP); (have Mb : Hid (RPM bw b5 w wb (.slice ca cs.length cc) (.slice sa ss.length sc) cs ss ∧ PO (b5 + 1) wb (.slice xa C1.length xc) C1 ∧ PO (b5 + 1) wb (.slice ya C2.length yc) C2) := ⟨Ma.out.1.past hB, Ma.out.2.past hB, hP.base Ma.out.1.lt⟩); clear hP hB))
    clear M1 Ma r3 w3 q1 q2
    have N0 : Hid (RN wb.heap.size wb (wb.alloc (.cells #[.slice none 0 0, .slice xa C1.length xc, .slice ya C2.length yc, .slice none 0 0, .int .i64 (d : Int)] 28)) (.slice none 0 0) (.slice xa C1.length xc) (.slice ya C2.length yc) (.slice none 0 0) [] [] d) := ⟨below_alloc _ _, CBox.new _ _ [_, _, _, _, _], World.ownsRow_nil _ _ _ _, World.ownsRow_nil _ _ _ _, Nat.le_refl _⟩
    generalize wb.alloc _ = W5 at N0 ⊢
    generalize hbz : wb.heap.size = bz at N0 ⊢
    have GZ : Hid (wb.heap.size = bz) := hbz
    clear hbz
    have HP : Hid (∀ W, Below bz wb W → RPM bw b5 w W (.slice ca cs.length cc) (.slice sa ss.length sc) cs ss) := fun W hW => Mb.out.1.past (by rw [GZ.out]; exact hW)
    go_wp2
    go_loopw [16] (fun s16 wr => ∃ (i : Nat) (ts : List Ty) (tv : Value), s16 = .int .i64 (i : Int) ∧ i ≤ cs.length ∧ ts.length = i ∧ RN bz wb wr (tv) (.slice xa C1.length xc) (.slice ya C2.length yc) (.slice none 0 0) (ts) ([]) d ∧ LL = (tys b (k + 4 * i) i (cs.length - i)).bind fun r => .ok ⟨ts ++ r, C1, C2, D, (d : Int)⟩) (fun s16 _ => cs.length - (intOf s16).toNat)
    case atStart => exact ⟨0, [], _, rfl, by omega, rfl, N0.out, by rw [HE2.out]; rfl⟩
    case round =>
      obtain ⟨i, ts, tv, rfl, hi, htl, hN, hE⟩ := hrel
      have N : Hid (RN bz wb wr (tv) (.slice xa C1.length xc) (.slice ya C2.length yc) (.slice none 0 0) (ts) ([]) d) := hN
      have HE : Hid (LL = (tys b (k + 4 * i) i (cs.length - i)).bind fun r => .ok ⟨ts ++ r, C1, C2, D, (d : Int)⟩) := hE
      have HTL : Hid (ts.length = i) := htl
      clear hN hE htl N0 HE2
      obtain ⟨ta, tc, rfl⟩ := owns_sl N.out.t
      by_cases e : i = cs.length
      · have E0 : Hid (LL = .ok ⟨ts, C1, C2, D, (d : Int)⟩) := by unfold Hid; rw [HE.out, e, Nat.sub_self, tys]; simp [Except.bind]
        have HTN : Hid (ts.length ≤ 1024) := by unfold Hid; have := HTL.out; have := HQ.out; omega
        clear HE
        obtain ⟨nd, hnd⟩ : ∃ nd, nd = nb - m3 := ⟨_, rfl⟩
        have HND : Hid (D.length = nd ∧ m3 + nd = nb ∧ ∀ j, D[j]? = b[m3 + j]?) := by unfold Hid; have := HLE.out; exact ⟨by rw [hnd]; exact HD.out.1, by omega, HD.out.2⟩
        have hni : ¬ (i : Int) < (cs.length : Int) := by omega
        clear hnd e
        go_wp2
        go_loopw [20] (fun s20 wr => ∃ (j jj : Nat) (dv : Value), s20 = .int .i64 (jj : Int) ∧ jj = m3 + j ∧ j ≤ nd ∧ RN bz wb wr (.slice ta ts.length tc) (.slice xa C1.length xc) (.slice ya C2.length yc) (dv) (ts) (D.take j) d) (fun s20 _ => nb - (intOf s20).toNat)
        case atStart => exact ⟨0, m3, _, rfl, by omega, by omega, N.out⟩
        case round =>
          obtain ⟨j, jj, dv, rfl, hjj, hj, hN⟩ := hrel
          have N5 : Hid (RN bz wb wr (.slice ta ts.length tc) (.slice xa C1.length xc) (.slice ya C2.length yc) (dv) (ts) (D.take j) d) := hN
          have HJ : Hid (jj = m3 + j) := hjj
          clear hN N
          generalize hT : D.take j = T at N5
          have HTJ : Hid (D.take j = T) := hT
          clear hT
          obtain ⟨da, dc, rfl⟩ := owns_sl N5.out.dd
          by_cases e : j = nd
          · have eD : D.take j = D := List.take_of_length_le (by have := HND.out; omega)
            have eT : T = D := HTJ.out.symm.trans eD
            subst eT
            have q1 : ¬ (jj : Int) < (nb : Int) := by have := HND.out; omega
            have M9 : Hid (RPM bw b5 w wr (.slice ca cs.length cc) (.slice sa ss.length sc) cs ss) := HP.out wr N5.out.bel
            have n45 : ¬ b5 = bw := by have := M9.out.g5; omega
            have n54 : ¬ bw = b5 := by have := M9.out.g5; omega
            have GL : Hid (b5 < bz) := by unfold Hid; rw [← GZ.out]; exact Mb.out.1.lt
            have a0 : wr.cell? ⟨bz, 0, none⟩ = some (.slice ta ts.length tc) := N5.out.box.cell 0
            have a1 : wr.cell? ⟨bz, 1, none⟩ = some (.slice xa C1.length xc) := N5.out.box.cell 1
            have a2 : wr.cell? ⟨bz, 2, none⟩ = some (.slice ya C2.length yc) := N5.out.box.cell 2
            have a3 : wr.cell? ⟨bz, 3, none⟩ = some (.slice da T.length dc) := N5.out.box.cell 3
            have a4 : wr.cell? ⟨bz, 4, none⟩ = some (.int .i64 (d : Int)) := N5.out.box.cell 4
            have p0 : wr.cell? ⟨bw, 0, none⟩ = some (.slice none 0 0) := M9.out.c4.cell 0
            have q0 := CBox.frozen M9.out.c4 0
            have p1 : wr.cell? ⟨bw, 1, none⟩ = some (.slice none 0 0) := M9.out.c4.cell 1
            have q1 := CBox.frozen M9.out.c4 1
            have p2 : wr.cell? ⟨bw, 2, none⟩ = some (.slice none 0 0) := M9.out.c4.cell 2
            have q2 := CBox.frozen M9.out.c4 2
            have p3 : wr.cell? ⟨bw, 3, none⟩ = some (.slice none 0 0) := M9.out.c4.cell 3
            have q3 := CBox.frozen M9.out.c4 3
            have p4 : wr.cell? ⟨bw, 4, none⟩ = some (.int .i64 0) := M9.out.c4.cell 4
            have q4 := CBox.frozen M9.out.c4 4
            have r0 : wr.cell? ⟨b5, 0, none⟩ = some (.int .i64 0) := M9.out.c5.cell 0
            have s0 := CBox.frozen M9.out.c5 0
            have r1 : wr.cell? ⟨b5, 1, none⟩ = some (.slice none 0 0) := M9.out.c5.cell 1
            have s1 := CBox.frozen M9.out.c5 1
            have r2 : wr.cell? ⟨b5, 2, none⟩ = some (.int .i64 0) := M9.out.c5.cell 2
            have s2 := CBox.frozen M9.out.c5 2
            have r3 : wr.cell? ⟨b5, 3, none⟩ = some (.int .i64 0) := M9.out.c5.cell 3
            have s3 := CBox.frozen M9.out.c5 3
            have HDL9 : Hid (T.length ≤ 1152921504606846976) := by unfold Hid; have := HND.out; have := HLN.out; omega
            clear eD e HJ hjj
            go_wp2
            obtain ⟨h1, h2, h3⟩ := boxes_is wr bw b5 (.slice ta ts.length tc) (.slice xa C1.length xc) (.slice ya C2.length yc) (.slice da T.length dc) (.int .i64 (d : Int)) (.int .i64 0) (.slice none 0 0) (.int .i64 0) (.int .i64 0) M9.out.c4 M9.out.c5 n54
            refine bodyPost_ret (v := .tuple #[.agg #[.slice ta ts.length tc, .slice xa C1.length xc, .slice ya C2.length yc, .slice da T.length dc, .int .i64 (d : Int)], .agg #[.int .i64 0, .slice none 0 0, .int .i64 0, .int .i64 0]]) (boxes_load wr bw b5 (.slice ta ts.length tc) (.slice xa C1.length xc) (.slice ya C2.length yc) (.slice da T.length dc) (.int .i64 (d : Int)) (.int .i64 0) (.slice none 0 0) (.int .i64 0) (.int .i64 0) _ rfl rfl (run_loadVar_mid _ bw 0 28 [.slice ta ts.length tc, .slice xa C1.length xc, .slice ya C2.length yc, .slice da T.length dc, .int .i64 (d : Int)] _ h1.range Try.underlying28 rfl (by kernel_rfl)) (run_loadVar_mid _ b5 0 47 [.int .i64 0, .slice none 0 0, .int .i64 0, .int .i64 0] _ h2.range Try.underlying47 rfl (by kernel_rfl))) rfl ?_
            rw [E0.out, GB.out]
            have hg := GL.out
            have hg5 := M9.out.g5
            have hno : ∀ g, b5 + 1 ≤ g → ¬ (g = bw ∨ g = b5) := fun g hg e => by omega
            have bb : Below wb.heap.size wb wr := by rw [GZ.out]; exact N5.out.bel
            have t9 := owns_row_blockB N5.out.t fun g hg => h3.block g (World.ownsRow.lt N5.out.t g hg).2 (hno g (by have := (World.ownsRow.lt N5.out.t g hg).1; omega))
            have d9 := owns_row_blockB N5.out.dd fun g hg => h3.block g (World.ownsRow.lt N5.out.dd g hg).2 (hno g (by have := (World.ownsRow.lt N5.out.dd g hg).1; omega))
            have x9 := (Mb.out.2.1.past bb).but h3 hno
            have y9 := (Mb.out.2.2.past bb).but h3 hno
            refine ⟨⟨_, rfl, ⟨_, _, _, _, rfl, SL.own t9 (Nat.le_trans HTN.out (by omega)) fun g hg => ?_, (x9.pl HNN.out.1 HCL.out).mono (fun g h _ => by omega), (y9.pl HNN.out.2 HSL.out).mono (fun g h _ => by omega), SL.own d9 HDL9.out fun g hg => ?_⟩⟩, M9.out.bel.trans (h3.below (fun g e => by omega) (Nat.le_trans M9.out.ge M9.out.bel.size))⟩
            · have := (World.ownsRow.lt N5.out.t g hg).1; omega
            · have := (World.ownsRow.lt N5.out.dd g hg).1; omega
          · have q1 : (jj : Int) < (nb : Int) := by have := HND.out; omega
            obtain ⟨x, hx⟩ : ∃ x, D[j]? = some x := ⟨D[j]'(by have := HND.out; omega), List.getElem?_eq_getElem _⟩
            have hx2 : b[jj]? = some x := by rw [hjj, ← HND.out.2.2 j]; exact hx
            have HT1 : Hid (D.take (j + 1) = T ++ [x]) := by unfold Hid; rw [take_snoc hx, HTJ.out]
            obtain ⟨g3, a3, eg, _⟩ := (HBL.out wr (HP.out wr N5.out.bel).bel).get hx2
            subst eg
            have HXC : Hid (∀ V, Below bz wb V → V.cell? ⟨g3, a3 + jj, none⟩ = some (.int .u8 (x : Int))) := fun V hV => by
              obtain ⟨g4, a4, e4, hc4⟩ := (HBL.out V (HP.out V hV).bel).get hx2
              cases e4
              exact hc4
            have HLe : Hid (T.length + [x].length ≤ 2199023255552) := by unfold Hid; rw [← HTJ.out, List.length_take]; have := HND.out; have := HLN.out; simp only [List.length_singleton]; omega
            have HJJ : Hid ((jj + 1 = m3 + (j + 1)) ∧ j + 1 ≤ nd) := by unfold Hid; omega
            clear hx hx2 e hjj hj
            go_upto_region 26 with fail
            refine wp_region_held_drew (S := fun V' => V'.cell? ⟨g3, a3 + jj, none⟩ = some (.int .u8 (x : Int))) (by kernel_rfl) (HXC.out _ (N5.out.past below_drew).bel) (fun hHeld => ?_)
            have B0 : Hid (RN bz wb wr.drew (.slice ta ts.length tc) (.slice xa C1.length xc) (.slice ya C2.length yc) (.slice da T.length dc) (ts) (T) d) := N5.out.past below_drew
            generalize wr.drew = z0 at hHeld B0 ⊢
            refine wpAnyH_take (i := 0) (v := .pointer (some ⟨bz, 3, none⟩)) ov0 (by kernel_rfl) (by kernel_rfl) (by kernel_rfl) (fun _ _ _ h => h) (Or.inl ⟨by rfl, fun V' hS => ?_⟩) hHeld ?_
            · go_simp
            simp only [Act.put, List.setIfInBounds_toArray, List.set_cons_zero, List.set_cons_succ]
            refine wpAnyH_take (i := 2) (v := .slice (some ⟨g3, a3, none⟩) nb bc) ov2 (by kernel_rfl) (by kernel_rfl) (by kernel_rfl) (fun _ _ _ h => h) (Or.inl ⟨by rfl, fun V' hS => ?_⟩) hHeld ?_
            · go_simp
            simp only [Act.put, List.setIfInBounds_toArray, List.set_cons_zero, List.set_cons_succ]
            refine wpAnyH_take (i := 3) (v := .int .i64 (jj : Int)) ov3 (by kernel_rfl) (by kernel_rfl) (by kernel_rfl) (fun _ _ _ h => h) (Or.inl ⟨by rfl, fun V' hS => ?_⟩) hHeld ?_
            · go_simp
            simp only [Act.put, List.setIfInBounds_toArray, List.set_cons_zero, List.set_cons_succ]
            refine wpAnyH_take (i := 4) (v := .pointer (some ⟨g3, a3 + jj, none⟩)) ov4 (by kernel_rfl) (by kernel_rfl) (by kernel_rfl) (fun _ _ _ h => h) (Or.inl ⟨by rfl, fun V' hS => ?_⟩) hHeld ?_
            · go_simp
            simp only [Act.put, List.setIfInBounds_toArray, List.set_cons_zero, List.set_cons_succ]
            refine wpAnyH_take (i := 5) (v := .int .u8 (x : Int)) ov5 (by kernel_rfl) (by kernel_rfl) (by kernel_rfl) (fun _ _ _ h => h) (Or.inl ⟨by rfl, fun V' hS => ?_⟩) hHeld ?_
            · go_simp
            simp only [Act.put, List.setIfInBounds_toArray, List.set_cons_zero, List.set_cons_succ]
            refine wpAnyH_ready (rs := [1, 6]) (by kernel_rfl) (by simp) ?_
            refine AllReadyH.cons ov1 (fun K hK => ?_) (AllReadyH.cons ov6 (fun K hK => ?_) AllReadyH.nil)
            · rw [if_pos (by rfl)]
              first | (have k0 := B1.out.box.cell 3; go_simp; clear k0) | (have k0 := B0.out.box.cell 3; go_simp; clear k0)
              refine hK.out _ _ hHeld (fun _ => ?_)
              clear hK K
              (try simp only [Act.put, List.setIfInBounds_toArray, List.set_cons_zero, List.set_cons_succ])
              refine wpAnyH_ready (rs := [6]) (by kernel_rfl) (by simp) ?_
              refine AllReadyH.cons ov6 (fun K hK => ?_) AllReadyH.nil
              rw [if_pos (by rfl)]
              go_simp
              have B1 : Hid (RN bz wb (z0.alloc (.cells #[.int .u8 (x : Int)] 5)) (.slice ta ts.length tc) (.slice xa C1.length xc) (.slice ya C2.length yc) (.slice da T.length dc) (ts) (T) d) := B0.out.past (below_alloc _ _)
              have X1 : Hid (BL (fun k => k = z0.heap.size) (z0.alloc (.cells #[.int .u8 (x : Int)] 5)) (.slice (some ⟨z0.heap.size, 0, none⟩) 1 1) [x]) := BL.new z0 [x] (by simp)
              refine hK.out _ (z0.alloc (.cells #[.int .u8 (x : Int)] 5)) (HXC.out _ B1.out.bel) (fun _ => ?_)
              clear hK K
              (try simp only [Act.put, List.setIfInBounds_toArray, List.set_cons_zero, List.set_cons_succ])
              refine wpAnyH_ready (rs := [7]) (by kernel_rfl) (by simp) ?_
              refine AllReadyH.cons ov7 (fun K hK => ?_) AllReadyH.nil
              rw [if_pos (by rfl)]
              refine wp_appB (P := fun k => k = z0.heap.size) _ _ rfl bz B1.out.le (.slice da T.length dc) T rfl B1.out.dd (.slice (some ⟨z0.heap.size, 0, none⟩) 1 1) [x] rfl X1.out HLe.out ?_
              intro v8 w8 hA
              obtain ⟨t8, u8, e8⟩ := owns_sl hA.row
              rw [List.length_append, List.length_singleton] at e8
              subst e8
              have z9 := B1.out.box.but hA.but (fun e => own_box B1.out.dd B1.out.box (by decide) e rfl)
              have bel8 := B1.out.bel.trans (hA.below B1.out.dd B1.out.le)
              refine hK.out _ w8 (HXC.out _ bel8) (fun _ => ?_)
              clear hK K
              (try simp only [Act.put, List.setIfInBounds_toArray, List.set_cons_zero, List.set_cons_succ])
              refine wpAnyH_take (i := 8) (v := .pointer (some ⟨bz, 3, none⟩)) ov8 (by kernel_rfl) (by kernel_rfl) (by kernel_rfl) (fun _ _ _ h => h) (Or.inl ⟨by rfl, fun V' hS => ?_⟩) (HXC.out _ bel8) ?_
              · go_simp
              simp only [Act.put, List.setIfInBounds_toArray, List.set_cons_zero, List.set_cons_succ]
              refine wpAnyH_ready (rs := [9]) (by kernel_rfl) (by simp) ?_
              refine AllReadyH.cons ov9 (fun K hK => ?_) AllReadyH.nil
              rw [if_pos (by rfl)]
              have k0 : w8.cell? ⟨bz, 3, none⟩ = some (.slice da T.length dc) := z9.cell 3
              have k1 := CBox.frozen z9 3
              go_simp
              have N6 : Hid (RN bz wb (w8.setCell ⟨bz, 3, none⟩ (.slice t8 (T.length + 1) u8)) (.slice ta ts.length tc) (.slice xa C1.length xc) (.slice ya C2.length yc) (.slice t8 (T.length + 1) u8) (ts) (T ++ [x]) d) := B1.out.appD hA
              clear k0 k1 z9 bel8 hA
              refine hK.out _ (w8.setCell ⟨bz, 3, none⟩ (.slice t8 (T.length + 1) u8)) (HXC.out _ N6.out.bel) (fun _ => ?_)
              clear hK K
              (try simp only [Act.put, List.setIfInBounds_toArray, List.set_cons_zero, List.set_cons_succ])
              generalize (w8.setCell ⟨bz, 3, none⟩ (.slice t8 (T.length + 1) u8)) = W9 at N6 ⊢
              refine wpAnyH_done (by kernel_rfl) ?_ _
              clear hHeld B0 B1 X1 N5 HXC
              go_wp2
              go_roundw
              case rel => (exact ⟨j + 1, jj + 1, _, by first | rfl | go_num, HJJ.out.1, HJJ.out.2, by rw [HT1.out]; exact N6.out⟩)
              case measure => simp [intOf]; omega
            · rw [if_pos (by rfl)]
              go_simp
              have B1 : Hid (RN bz wb (z0.alloc (.cells #[.int .u8 (x : Int)] 5)) (.slice ta ts.length tc) (.slice xa C1.length xc) (.slice ya C2.length yc) (.slice da T.length dc) (ts) (T) d) := B0.out.past (below_alloc _ _)
              have X1 : Hid (BL (fun k => k = z0.heap.size) (z0.alloc (.cells #[.int .u8 (x : Int)] 5)) (.slice (some ⟨z0.heap.size, 0, none⟩) 1 1) [x]) := BL.new z0 [x] (by simp)
              refine hK.out _ (z0.alloc (.cells #[.int .u8 (x : Int)] 5)) (HXC.out _ B1.out.bel) (fun _ => ?_)
              clear hK K
              (try simp only [Act.put, List.setIfInBounds_toArray, List.set_cons_zero, List.set_cons_succ])
              refine wpAnyH_ready (rs := [1]) (by kernel_rfl) (by simp) ?_
              refine AllReadyH.cons ov1 (fun K hK => ?_) AllReadyH.nil
              rw [if_pos (by rfl)]
              first | (have k0 := B1.out.box.cell 3; go_simp; clear k0) | (have k0 := B0.out.box.cell 3; go_simp; clear k0)
              refine hK.out _ _ (HXC.out _ B1.out.bel) (fun _ => ?_)
              clear hK K
              (try simp only [Act.put, List.setIfInBounds_toArray, List.set_cons_zero, List.set_cons_succ])
              refine wpAnyH_ready (rs := [7]) (by kernel_rfl) (by simp) ?_
              refine AllReadyH.cons ov7 (fun K hK => ?_) AllReadyH.nil
              rw [if_pos (by rfl)]
              refine wp_appB (P := fun k => k = z0.heap.size) _ _ rfl bz B1.out.le (.slice da T.length dc) T rfl B1.out.dd (.slice (some ⟨z0.heap.size, 0, none⟩) 1 1) [x] rfl X1.out HLe.out ?_
              intro v8 w8 hA
              obtain ⟨t8, u8, e8⟩ := owns_sl hA.row
              rw [List.length_append, List.length_singleton] at e8
              subst e8
              have z9 := B1.out.box.but hA.but (fun e => own_box B1.out.dd B1.out.box (by decide) e rfl)
              have bel8 := B1.out.bel.trans (hA.below B1.out.dd B1.out.le)
              refine hK.out _ w8 (HXC.out _ bel8) (fun _ => ?_)
              clear hK K
              (try simp only [Act.put, List.setIfInBounds_toArray, List.set_cons_zero, List.set_cons_succ])
              refine wpAnyH_take (i := 8) (v := .pointer (some ⟨bz, 3, none⟩)) ov8 (by kernel_rfl) (by kernel_rfl) (by kernel_rfl) (fun _ _ _ h => h) (Or.inl ⟨by rfl, fun V' hS => ?_⟩) (HXC.out _ bel8) ?_
              · go_simp
              simp only [Act.put, List.setIfInBounds_toArray, List.set_cons_zero, List.set_cons_succ]
              refine wpAnyH_ready (rs := [9]) (by kernel_rfl) (by simp) ?_
              refine AllReadyH.cons ov9 (fun K hK => ?_) AllReadyH.nil
              rw [if_pos (by rfl)]
              have k0 : w8.cell? ⟨bz, 3, none⟩ = some (.slice da T.length dc) := z9.cell 3
              have k1 := CBox.frozen z9 3
              go_simp
              have N6 : Hid (RN bz wb (w8.setCell ⟨bz, 3, none⟩ (.slice t8 (T.length + 1) u8)) (.slice ta ts.length tc) (.slice xa C1.length xc) (.slice ya C2.length yc) (.slice t8 (T.length + 1) u8) (ts) (T ++ [x]) d) := B1.out.appD hA
              clear k0 k1 z9 bel8 hA
              refine hK.out _ (w8.setCell ⟨bz, 3, none⟩ (.slice t8 (T.length + 1) u8)) (HXC.out _ N6.out.bel) (fun _ => ?_)
              clear hK K
              (try simp only [Act.put, List.setIfInBounds_toArray, List.set_cons_zero, List.set_cons_succ])
              generalize (w8.setCell ⟨bz, 3, none⟩ (.slice t8 (T.length + 1) u8)) = W9 at N6 ⊢
              refine wpAnyH_done (by kernel_rfl) ?_ _
              clear hHeld B0 B1 X1 N5 HXC
              go_wp2
              go_roundw
              case rel => (exact ⟨j + 1, jj + 1, _, by first | rfl | go_num, HJJ.out.1, HJJ.out.2, by rw [HT1.out]; exact N6.out⟩)
              case measure => simp [intOf]; omega
      · have iI : (i : Int) < (cs.length : Int) := by omega
        have iB : (i : Int) < 1024 := by have := HQ.out; omega
        obtain ⟨r, hr⟩ : ∃ r, cs.length - i = r + 1 := ⟨cs.length - i - 1, by omega⟩
        have HR1 : Hid (cs.length - (i + 1) = r) := by unfold Hid; omega
        obtain ⟨kk, hkk⟩ : ∃ kk, kk = k + 4 * i := ⟨_, rfl⟩
        obtain ⟨i4, hi4⟩ : ∃ i4, i4 = 4 * i := ⟨_, rfl⟩
        have hb4 : kk + 4 ≤ nb := by have := HM.out; have := HMB.out; have := HLE.out; omega
        have HKN : Hid (kk + 4 = k + 4 * (i + 1)) := by unfold Hid; omega
        have HE : Hid (LL = (tyAt b kk i).bind fun t => (tys b (kk + 4) (i + 1) r).bind fun q => .ok ⟨ts ++ (t :: q), C1, C2, D, (d : Int)⟩) := by
          unfold Hid
          rw [HE.out, hr, tys, ← hkk]
          cases tyAt b kk i with
          | error er => rfl
          | ok t => cases tys b (kk + 4) (i + 1) r <;> rfl
        rw [tyAt_is b kk i (by rw [HNB.out]; exact hb4)] at HE
        have bel : Below bw w wr := (HP.out wr N.out.bel).bel
        have A1 := at_is wr _ b kk 1 (HBL.out wr bel) HBY.out (by omega) (by rw [HNB.out]; omega) (by rw [HNB.out]; have := HLN.out; omega)
        have A2 := at_is wr _ b (kk + 1) 1 (HBL.out wr bel) HBY.out (by omega) (by rw [HNB.out]; omega) (by rw [HNB.out]; have := HLN.out; omega)
        have A3 := at_is wr _ b (kk + 2) 2 (HBL.out wr bel) HBY.out (by omega) (by rw [HNB.out]; omega) (by rw [HNB.out]; have := HLN.out; omega)
        obtain ⟨kk1, hkk1⟩ : ∃ q, q = kk + 1 := ⟨_, rfl⟩
        obtain ⟨kk2, hkk2⟩ : ∃ q, q = kk + 2 := ⟨_, rfl⟩
        rw [← hkk1] at A2 HE
        rw [← hkk2] at A3 HE
        have AT1 : Hid (Calls Try.prog 72 #[.slice ba nb bc, .int .i64 (kk : Int), .int .i64 1] wr fun e w' => e = .returned (.int .i64 (rd b kk 1 : Int)) ∧ w' = wr) := A1
        have AT2 : Hid (Calls Try.prog 72 #[.slice ba nb bc, .int .i64 (kk1 : Int), .int .i64 1] wr fun e w' => e = .returned (.int .i64 (rd b kk1 1 : Int)) ∧ w' = wr) := A2
        have AT3 : Hid (Calls Try.prog 72 #[.slice ba nb bc, .int .i64 (kk2 : Int), .int .i64 2] wr fun e w' => e = .returned (.int .i64 (rd b kk2 2 : Int)) ∧ w' = wr) := A3
        have i1 : (4 : Int) * (i : Int) = (i4 : Int) := by omega
        have i2 : (k : Int) + (i4 : Int) = (kk : Int) := by omega
        have i3 : (kk : Int) + 1 = (kk1 : Int) := by omega
        have i5 : (kk : Int) + 2 = (kk2 : Int) := by omega
        have hln := HLN.out
        have v1 : IntKind.i64.wrap (i4 : Int) = (i4 : Int) := by rw [IntKind.wrap_i64]; omega
        have v2 : IntKind.i64.wrap (kk : Int) = (kk : Int) := by rw [IntKind.wrap_i64]; omega
        have v3 : IntKind.i64.wrap (kk1 : Int) = (kk1 : Int) := by rw [IntKind.wrap_i64]; omega
        have v4 : IntKind.i64.wrap (kk2 : Int) = (kk2 : Int) := by rw [IntKind.wrap_i64]; omega
        have HKB : Hid (kk + 4 ≤ nb) := hb4
        clear A1 A2 A3 hkk hi4 hkk1 hkk2 hb4 e hr bel hln
        generalize rd b kk 1 = x at *
        generalize rd b kk1 1 = y at *
        generalize rd b kk2 2 = z at *
        go_upto_region 19 with (first | (go_at_call 72; (have hq := AT1); clear AT1; refine hq.out.mono ?_; rintro e w' ⟨rfl, hw⟩; (have hw2 := hw.symm); clear hw; subst hw2) | (go_at_call 72; (have hq := AT2); clear AT2; refine hq.out.mono ?_; rintro e w' ⟨rfl, hw⟩; (have hw2 := hw.symm); clear hw; subst hw2) | (go_at_call 72; (have hq := AT3); clear AT3; refine hq.out.mono ?_; rintro e w' ⟨rfl, hw⟩; (have hw2 := hw.symm); clear hw; subst hw2))
        clear i1 i2 i3 i5 v1 v2 v3 v4
        have N1 : Hid (RN bz wb (wr.alloc (.cells #[.int .i64 (x : Int), .int .i64 (y : Int), .int .i64 (z : Int)] 77)) (.slice ta ts.length tc) (.slice xa C1.length xc) (.slice ya C2.length yc) (.slice none 0 0) (ts) ([]) d ∧ CBox (wr.alloc (.cells #[.int .i64 (x : Int), .int .i64 (y : Int), .int .i64 (z : Int)] 77)) wr.heap.size 77 [.int .i64 (x : Int), .int .i64 (y : Int), .int .i64 (z : Int)]) := ⟨N.out.past (below_alloc _ _), CBox.new _ _ [_, _, _]⟩
        clear N
        generalize wr.alloc _ = W6 at N1 ⊢
        generalize wr.heap.size = b18 at N1 ⊢
        have TW0 := typeWrong_is W6 i (x : Int) (y : Int) (z : Int)
        have TWC : Hid (Calls Try.prog 73 #[.int .i64 (i : Int), .agg #[.int .i64 (x : Int), .int .i64 (y : Int), .int .i64 (z : Int)]] W6 fun e w' => e = .returned (.int .i64 (tyBad i ((x : Int), (y : Int), (z : Int)) : Int)) ∧ Below W6.heap.size W6 w') := TW0
        clear TW0
        have hb3 : tyBad i ((x : Int), (y : Int), (z : Int)) ≤ 3 := by unfold tyBad; split; omega; split; omega; split <;> omega
        generalize tyBad i ((x : Int), (y : Int), (z : Int)) = tb at *
        have c0 : W6.cell? ⟨b18, 0, none⟩ = some (.int .i64 (x : Int)) := N1.out.2.cell 0
        have c1 : W6.cell? ⟨b18, 1, none⟩ = some (.int .i64 (y : Int)) := N1.out.2.cell 1
        have c2 : W6.cell? ⟨b18, 2, none⟩ = some (.int .i64 (z : Int)) := N1.out.2.cell 2
        go_upto_region 20 with (go_at_call 73; refine TWC.out.mono ?_; rintro e w7 ⟨rfl, hB⟩; (have N2 : Hid (RN bz wb w7 (.slice ta ts.length tc) (.slice xa C1.length xc) (.slice ya C2.length yc) (.slice none 0 0) (ts) ([]) d ∧ CBox w7 b18 77 [.int .i64 (x : Int), .int .i64 (y : Int), .int .i64 (z : Int)]) := ⟨N1.out.1.past hB, N1.out.2.past hB⟩); clear hB)
        clear c0 c1 c2 N1 TWC
        by_cases et : tb < 3
        · obtain ⟨kt, hkt⟩ : ∃ kt, kt = kk + tb := ⟨_, rfl⟩
          have E0 : Hid (LL = .error (59, kt)) := by unfold Hid; rw [HE.out, if_pos et, hkt]; rfl
          have r1 : (kk : Int) + (tb : Int) = (kt : Int) := by omega
          have w1' : IntKind.i64.wrap (kt : Int) = (kt : Int) := by rw [IntKind.wrap_i64]; have := HKB.out; have := HLN.out; omega
          have q1 : (tb : Int) < 3 := by omega
          have M9 : Hid (RPM bw b5 w w7 (.slice ca cs.length cc) (.slice sa ss.length sc) cs ss) := HP.out w7 N2.out.1.bel
          clear HE et hkt
          go_wp2_with (go_at_call 69; refine (refused_is _ _ _).mono ?_; rintro e w' ⟨rfl, hB⟩; (have N9 : Hid (RPM bw b5 w w' _ _ cs ss) := M9.out.past hB); (clear hB); (have n45 : ¬ b5 = bw := by have := N9.out.g5; omega); (have n54 : ¬ bw = b5 := by have := N9.out.g5; omega); (have p0 : w'.cell? ⟨bw, 0, none⟩ = some (.slice none 0 0) := N9.out.c4.cell 0); (have q0 := CBox.frozen N9.out.c4 0); (have p1 : w'.cell? ⟨bw, 1, none⟩ = some (.slice none 0 0) := N9.out.c4.cell 1); (have q1 := CBox.frozen N9.out.c4 1); (have p2 : w'.cell? ⟨bw, 2, none⟩ = some (.slice none 0 0) := N9.out.c4.cell 2); (have q2 := CBox.frozen N9.out.c4 2); (have p3 : w'.cell? ⟨bw, 3, none⟩ = some (.slice none 0 0) := N9.out.c4.cell 3); (have q3 := CBox.frozen N9.out.c4 3); (have p4 : w'.cell? ⟨bw, 4, none⟩ = some (.int .i64 0) := N9.out.c4.cell 4); (have q4 := CBox.frozen N9.out.c4 4); (have r0 : w'.cell? ⟨b5, 0, none⟩ = some (.int .i64 0) := N9.out.c5.cell 0); (have s0 := CBox.frozen N9.out.c5 0); (have r1 : w'.cell? ⟨b5, 1, none⟩ = some (.slice none 0 0) := N9.out.c5.cell 1); (have s1 := CBox.frozen N9.out.c5 1); (have r2 : w'.cell? ⟨b5, 2, none⟩ = some (.int .i64 0) := N9.out.c5.cell 2); (have s2 := CBox.frozen N9.out.c5 2); (have r3 : w'.cell? ⟨b5, 3, none⟩ = some (.int .i64 0) := N9.out.c5.cell 3); (have s3 := CBox.frozen N9.out.c5 3); skip)
          obtain ⟨h1, h2, h3⟩ := boxes_is w' bw b5 (.slice none 0 0) (.slice none 0 0) (.slice none 0 0) (.slice none 0 0) (.int .i64 0) (.int .i64 59) (.slice none 0 0) (.int .i64 0) (.int .i64 (kt : Int)) N9.out.c4 N9.out.c5 n54
          refine bodyPost_ret (v := .tuple #[.agg #[.slice none 0 0, .slice none 0 0, .slice none 0 0, .slice none 0 0, .int .i64 0], .agg #[.int .i64 59, .slice none 0 0, .int .i64 0, .int .i64 (kt : Int)]]) (boxes_load w' bw b5 (.slice none 0 0) (.slice none 0 0) (.slice none 0 0) (.slice none 0 0) (.int .i64 0) (.int .i64 59) (.slice none 0 0) (.int .i64 0) (.int .i64 (kt : Int)) _ rfl rfl (run_loadVar_mid _ bw 0 28 [.slice none 0 0, .slice none 0 0, .slice none 0 0, .slice none 0 0, .int .i64 0] _ h1.range Try.underlying28 rfl (by kernel_rfl)) (run_loadVar_mid _ b5 0 47 [.int .i64 59, .slice none 0 0, .int .i64 0, .int .i64 (kt : Int)] _ h2.range Try.underlying47 rfl (by kernel_rfl))) rfl ?_
          rw [E0.out, GB.out]
          exact ⟨rfl, N9.out.bel.trans (h3.below (fun g e => by have := N9.out.g5; omega) (Nat.le_trans N9.out.ge N9.out.bel.size))⟩
        have q1 : ¬ (tb : Int) < 3 := by omega
        have HE3 : Hid (LL = (tys b (k + 4 * (i + 1)) (i + 1) (cs.length - (i + 1))).bind fun q => .ok ⟨(ts ++ [((x : Int), (y : Int), (z : Int))]) ++ q, C1, C2, D, (d : Int)⟩) := by
          unfold Hid
          rw [HE.out, if_neg et, HR1.out, ← HKN.out]
          show ((tys b (kk + 4) (i + 1) r).bind _) = _
          congr 1
          funext q
          rw [List.append_assoc]
          rfl
        clear HE et
        have c0 : w7.cell? ⟨b18, 0, none⟩ = some (.int .i64 (x : Int)) := N2.out.2.cell 0
        have c1 : w7.cell? ⟨b18, 1, none⟩ = some (.int .i64 (y : Int)) := N2.out.2.cell 1
        have c2 : w7.cell? ⟨b18, 2, none⟩ = some (.int .i64 (z : Int)) := N2.out.2.cell 2
        have c3 : w7.cell? ⟨bz, 0, none⟩ = some (.slice ta ts.length tc) := N2.out.1.box.cell 0
        have HLe : Hid (ts.length + 1 ≤ 2199023255552) := by unfold Hid; have := HTL.out; have := HQ.out; omega
        go_wp2_with (at_builtin; refine wpList_appT rfl _ _ rfl bz N2.out.1.le (.slice ta ts.length tc) ts rfl N2.out.1.t (x : Int) (y : Int) (z : Int) rfl HLe.out ?_; intro v8 w8 hA; (obtain ⟨t8, u8, e8⟩ := owns_sl hA.row); (rw [List.length_append, List.length_singleton] at e8); (subst e8); (have z9 := N2.out.1.box.but hA.but (fun e => own_box N2.out.1.t N2.out.1.box (by decide) e rfl)); (have z1 : w8.cell? ⟨bz, 0, none⟩ = some (.slice ta ts.length tc) := z9.cell 0); (have z2 := CBox.frozen z9 0))
        have N3 := N2.out.1.appT hA
        have N4 : Hid _ := N3
        clear N3 hA z9 z1 z2 c0 c1 c2 c3 N2
        go_roundw
        case rel => exact ⟨i + 1, ts ++ [((x : Int), (y : Int), (z : Int))], _, by first | rfl | go_num, by omega, by rw [List.length_append, HTL.out]; rfl, N4.out, HE3.out⟩
        case measure => simp [intOf]; omega
end Go.Proofs.Ytndhabhlajldeaa
/- The laws' helpers: own, ownParts. -/
namespace Go.Proofs.Ytndhabhlajldeaa
open Go.RowKit
set_option maxHeartbeats 4000000 in
set_option maxRecDepth 100000 in
theorem own_is {P : Nat → Prop} (w : World) (v : Value) (x : List Nat) (h : BL P w v x) (hn : x.length ≤ 16777216) : Calls Try.prog 32 #[v] w fun e w' => ∃ v', e = .returned v' ∧ w'.ownsRow w.heap.size 5 1 v' x.length (bV x) ∧ Below w.heap.size w w' := by
  obtain ⟨ad, cap, rfl, _, _⟩ := h.len
  have HB : Hid (BL P w (.slice ad x.length cap) x) := h
  have HLe : Hid (([] : List Nat).length + x.length ≤ 2199023255552) := by unfold Hid; simp only [List.length_nil]; omega
  clear h
  go_enter Try.func32, Try.ntmps32
  go_wp2_with (at_builtin; refine wpList_appB rfl _ _ rfl w.heap.size (Nat.le_refl _) (.slice none 0 0) [] rfl (World.ownsRow_nil _ _ _ _) _ x rfl HB.out HLe.out ?_; intro v1 w1 hA)
  go_ret
  exact ⟨v1, rfl, hA.row, hA.nil_below⟩
end Go.Proofs.Ytndhabhlajldeaa
/- The laws' helpers: sameBytes. -/
namespace Go.Proofs.Ytndhabhlajldeaa
open Go.RowKit
theorem below_dn {B : Nat} {a w : World} (h : Below B a w) (n : Nat) : Below B a (w.drewN n) := h.trans ⟨rfl, rfl, rfl, Nat.le_refl _, fun _ _ => rfl⟩
set_option maxHeartbeats 4000000 in
set_option maxRecDepth 100000 in
theorem sameBytes_is {P R : Nat → Prop} (w : World) (v u : Value) (x y : List Nat) (h : BL P w v x) (k : BL R w u y) : Calls Try.prog 37 #[v, u] w fun e w' => e = .returned (.bool (decide (x = y))) ∧ Below w.heap.size w w' := by
  obtain ⟨ad, cap, rfl, _, hx⟩ := h.len
  obtain ⟨bd, bp, rfl, _, hy⟩ := k.len
  have HX : Hid (∀ W, Below w.heap.size w W → BL P W (.slice ad x.length cap) x) := fun W hW => h.past hW
  have HY' : Hid (∀ W, Below w.heap.size w W → BL R W (.slice bd y.length bp) y) := fun W hW => k.past hW
  have nI : (x.length : Int) ≤ 1152921504606846976 := by omega
  clear h k
  by_cases e : x.length = y.length
  rotate_left
  · have ne : decide (x = y) = false := by simp only [decide_eq_false_iff_not]; exact fun q => e (by rw [q])
    rw [ne]
    generalize x.length = n at *
    generalize y.length = m at *
    have eI : ¬ (n : Int) = (m : Int) := by omega
    go_enter Try.func37, Try.ntmps37
    go_wp2
    go_ret
    exact ⟨rfl, Below.refl _ _⟩
  rw [← e] at HY' ⊢
  have HE : Hid (y.length = x.length) := e.symm
  clear e
  generalize hN : x.length = n at *
  have HN : Hid (x.length = n) := hN
  clear hN
  go_enter Try.func37, Try.ntmps37
  go_wp2
  go_loopw [5] (fun s5 wr => ∃ k : Nat, s5 = .int .i64 (k : Int) ∧ k ≤ n ∧ x.take k = y.take k ∧ Below w.heap.size w wr) (fun s5 _ => n - (intOf s5).toNat)
  case atStart => exact ⟨0, rfl, by omega, rfl, Below.refl _ _⟩
  case round =>
    obtain ⟨k, rfl, hk, ht, hw⟩ := hrel
    have HW : Hid (Below w.heap.size w wr) := hw
    clear hw
    have HT : Hid (x.take k = y.take k) := ht
    clear ht
    by_cases e : k = n
    · have e9 := e.symm
      clear e
      subst e9
      have E0 : Hid (decide (x = y) = true) := by
        unfold Hid
        have h9 := HT.out
        rw [List.take_of_length_le (by have := HN.out; omega), List.take_of_length_le (by have := HN.out; have := HE.out; omega)] at h9
        simp [h9]
      go_wp2
      go_ret
      exact ⟨by rw [E0.out] <;> rfl, HW.out⟩
    · have kn : (k : Int) < (n : Int) := by omega
      obtain ⟨p, hp⟩ : ∃ p, x[k]? = some p := ⟨x[k]'(by have := HN.out; omega), List.getElem?_eq_getElem _⟩
      obtain ⟨q, hq⟩ : ∃ q, y[k]? = some q := ⟨y[k]'(by have := HN.out; have := HE.out; omega), List.getElem?_eq_getElem _⟩
      obtain ⟨g1, a1, e1, c1⟩ := (HX.out wr HW.out).get hp
      obtain ⟨g2, a2, e2, c2⟩ := (HY'.out wr HW.out).get hq
      subst e1 e2
      by_cases e3 : p = q
      · have HS : Hid (x.take (k + 1) = y.take (k + 1)) := by unfold Hid; rw [take_snoc hp, take_snoc hq, HT.out, e3]
        subst e3
        clear hp hq e
        go_upto_region 6 with fail
        go_quiet (fail)
        go_wp2
        go_roundw
        case rel => exact ⟨k + 1, by first | rfl | go_num, by omega, HS.out, below_dn HW.out _⟩
        case measure => simp [intOf]; omega
      · have E0 : Hid (decide (x = y) = false) := by
          unfold Hid
          simp only [decide_eq_false_iff_not]
          intro q9
          rw [q9, hq] at hp
          exact e3 (Option.some.inj hp).symm
        have pq : ¬ (p : Int) = (q : Int) := by omega
        clear hp hq e
        go_upto_region 6 with fail
        go_quiet (fail)
        go_wp2
        go_ret
        exact ⟨by rw [E0.out] <;> rfl, below_dn HW.out _⟩
end Go.Proofs.Ytndhabhlajldeaa
