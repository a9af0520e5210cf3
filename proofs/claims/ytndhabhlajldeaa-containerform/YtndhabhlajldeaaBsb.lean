/- The laws' rejects, least, able. -/
import Derived.Test.YtndhabhlajldeaaBsa
import Derived.Test.YtndhabhlajldeaaBrm
namespace Go.Proofs.Ytndhabhlajldeaa
open Go.RowKit
set_option maxHeartbeats 4000000 in
set_option maxRecDepth 100000 in
theorem rejects_is (w : World) (x y : Int) : Calls Try.prog 34 #[rejV x y, rejV x y] w fun e w' => e = .returned (.bool true) ∧ Below w.heap.size w w' := by
  unfold rejV
  have b1 := below_alloc w (.cells #[.int .i64 x, .slice none 0 0, .int .i64 0, .int .i64 y] 47)
  have b2 := below_alloc (w.alloc (.cells #[.int .i64 x, .slice none 0 0, .int .i64 0, .int .i64 y] 47)) (.cells #[.int .i64 x, .slice none 0 0, .int .i64 0, .int .i64 y] 47)
  have s1 : (w.alloc (.cells #[.int .i64 x, .slice none 0 0, .int .i64 0, .int .i64 y] 47)).heap.size = w.heap.size + 1 := by simp
  have c1 := (CBox.new w 47 [.int .i64 x, .slice none 0 0, .int .i64 0, .int .i64 y]).past b2
  have c2 := CBox.new (w.alloc (.cells #[.int .i64 x, .slice none 0 0, .int .i64 0, .int .i64 y] 47)) 47 [.int .i64 x, .slice none 0 0, .int .i64 0, .int .i64 y]
  rw [s1] at c2
  have M : Hid (CBox ((w.alloc (.cells #[.int .i64 x, .slice none 0 0, .int .i64 0, .int .i64 y] 47)).alloc (.cells #[.int .i64 x, .slice none 0 0, .int .i64 0, .int .i64 y] 47)) w.heap.size 47 [.int .i64 x, .slice none 0 0, .int .i64 0, .int .i64 y] ∧ CBox ((w.alloc (.cells #[.int .i64 x, .slice none 0 0, .int .i64 0, .int .i64 y] 47)).alloc (.cells #[.int .i64 x, .slice none 0 0, .int .i64 0, .int .i64 y] 47)) (w.heap.size + 1) 47 [.int .i64 x, .slice none 0 0, .int .i64 0, .int .i64 y] ∧ Below w.heap.size w ((w.alloc (.cells #[.int .i64 x, .slice none 0 0, .int .i64 0, .int .i64 y] 47)).alloc (.cells #[.int .i64 x, .slice none 0 0, .int .i64 0, .int .i64 y] 47))) := ⟨c1, c2, b1.trans (b2.mono (by omega))⟩
  clear b1 b2 s1 c1 c2
  go_enter Try.func34, Try.ntmps34
  go_upto_region 1 with fail
  generalize w.heap.size + 1 = by' at M ⊢
  generalize hbx : w.heap.size = bx at M ⊢
  have GB : Hid (w.heap.size = bx) := hbx
  clear hbx
  generalize (w.alloc _).alloc _ = W0 at M ⊢
  have a0 : W0.cell? ⟨bx, 0, none⟩ = some (.int .i64 x) := M.out.1.cell 0
  have a1 : W0.cell? ⟨bx, 1, none⟩ = some (.slice none 0 0) := M.out.1.cell 1
  have a2 : W0.cell? ⟨bx, 2, none⟩ = some (.int .i64 0) := M.out.1.cell 2
  have a3 : W0.cell? ⟨bx, 3, none⟩ = some (.int .i64 y) := M.out.1.cell 3
  have d0 : W0.cell? ⟨by', 0, none⟩ = some (.int .i64 x) := M.out.2.1.cell 0
  have d1 : W0.cell? ⟨by', 1, none⟩ = some (.slice none 0 0) := M.out.2.1.cell 1
  have d2 : W0.cell? ⟨by', 2, none⟩ = some (.int .i64 0) := M.out.2.1.cell 2
  have d3 : W0.cell? ⟨by', 3, none⟩ = some (.int .i64 y) := M.out.2.1.cell 3
  have B0 : Hid (Below bx w W0) := M.out.2.2
  go_wp2
  go_loopw [5] (fun s5 wr => s5 = .int .i64 0 ∧ wr = W0) (fun _ _ => 0)
  case atStart => exact ⟨rfl, rfl⟩
  case round =>
    obtain ⟨rfl, rfl⟩ := hrel
    go_wp2
    go_ret
    exact ⟨rfl, by rw [GB.out]; exact B0.out⟩
def leastC : Con := ⟨[(0, 128, 0)], [[0]], [], [], 0⟩
def leastB : List Nat := [239, 0, 1, 1, 0, 4, 2, 0, 1, 0, 1, 255, 0, 0, 0, 0, 128, 0, 0, 0]
theorem least_may : May leastC := ⟨by decide, by decide, by decide, by decide, by decide, by decide, by decide, by decide, by decide⟩
theorem least_ser : ser leastC = leastB := by decide
theorem least_prs : prs leastB false = .ok leastC := by
  rw [← least_ser]
  exact prs_ser least_may false (fun _ => rfl)
theorem least_serR : serR leastC = leastB := by decide
theorem least_chk : chk leastC = 0 := by decide
theorem least_byt : Byt leastB := by unfold Byt; decide
set_option maxHeartbeats 4000000 in
set_option maxRecDepth 100000 in
theorem least_is (w : World) : Calls Try.prog 30 #[] w fun e w' => ∃ v, e = .returned v ∧ CW (fun g => w.heap.size ≤ g) w' v leastC ∧ Below w.heap.size w w' := by
  go_enter Try.func30, Try.ntmps30
  go_wp2
  have b1 := below_alloc w (.cells #[.slice (some ⟨w.heap.size + 1, 0, none⟩) 1 1, .slice (some ⟨w.heap.size + 1 + 1 + 1, 0, none⟩) 1 1, .slice none 0 0, .slice none 0 0, .int .i64 0] 28)
  have c1 := CBox.new w 28 [.slice (some ⟨w.heap.size + 1, 0, none⟩) 1 1, .slice (some ⟨w.heap.size + 1 + 1 + 1, 0, none⟩) 1 1, .slice none 0 0, .slice none 0 0, .int .i64 0]
  have s1 : (w.alloc (.cells #[.slice (some ⟨w.heap.size + 1, 0, none⟩) 1 1, .slice (some ⟨w.heap.size + 1 + 1 + 1, 0, none⟩) 1 1, .slice none 0 0, .slice none 0 0, .int .i64 0] 28)).heap.size = w.heap.size + 1 := by simp
  generalize w.alloc _ = W1 at b1 c1 s1 ⊢
  have b2 := below_alloc W1 (.cells #[.int .i64 0, .int .i64 128, .int .i64 0] 77)
  have c2 := CBox.new W1 77 [.int .i64 0, .int .i64 128, .int .i64 0]
  have s2 : (W1.alloc (.cells #[.int .i64 0, .int .i64 128, .int .i64 0] 77)).heap.size = w.heap.size + 1 + 1 := by simp [s1]
  rw [s1] at c2
  generalize W1.alloc _ = W2 at b2 c2 s2 ⊢
  have b3 := below_alloc W2 (.cells #[.int .u8 0] 5)
  have c3 := CBox.new W2 5 [.int .u8 0]
  have s3 : (W2.alloc (.cells #[.int .u8 0] 5)).heap.size = w.heap.size + 1 + 1 + 1 := by simp [s2]
  rw [s2] at c3
  generalize W2.alloc _ = W3 at b3 c3 s3 ⊢
  have b4 := below_alloc W3 (.cells #[.slice (some ⟨w.heap.size + 1 + 1, 0, none⟩) 1 1] 22)
  have c4 := CBox.new W3 22 [.slice (some ⟨w.heap.size + 1 + 1, 0, none⟩) 1 1]
  rw [s3] at c4
  generalize W3.alloc _ = W4 at b4 c4 ⊢
  have d1 := ((c1.past b2).past b3).past b4
  have d2 := (c2.past b3).past b4
  have d3 := c3.past b4
  refine bodyPost_ret (v := .agg #[.slice (some ⟨w.heap.size + 1, 0, none⟩) 1 1, .slice (some ⟨w.heap.size + 1 + 1 + 1, 0, none⟩) 1 1, .slice none 0 0, .slice none 0 0, .int .i64 0]) (results_c (p := 0) (ty := 28) Try.results30 _ _ _ ⟨w.heap.size, 0, none⟩ rfl (run_loadVar_mid W4 w.heap.size 0 28 [.slice (some ⟨w.heap.size + 1, 0, none⟩) 1 1, .slice (some ⟨w.heap.size + 1 + 1 + 1, 0, none⟩) 1 1, .slice none 0 0, .slice none 0 0, .int .i64 0] _ d1.range Try.underlying28 rfl (by kernel_rfl))) rfl ?_
  refine ⟨_, rfl, ⟨_, _, _, _, rfl, SL.box d2 rfl (by decide) (by omega), ⟨_, SL.box c4 rfl (by decide) (by omega), fun i l hi => ?_⟩, PL.nil _ _, BL.nil _ _⟩, ((b1.trans (b2.mono (by omega))).trans (b3.mono (by omega))).trans (b4.mono (by omega))⟩
  have hlt := (List.getElem?_eq_some_iff.1 hi).1
  have hi0 : i = 0 := by simp [leastC] at hlt; omega
  subst hi0
  have hl0 : l = [0] := by simp [leastC] at hi; exact hi.symm
  subst hl0
  exact ⟨_, rfl, SL.box d3 rfl (by decide) (by omega)⟩
theorem CO.cw {B : Nat} {W : World} {v : Value} {c : Con} (h : CO B W v c) (h1 : c.ts.length ≤ 1152921504606846976) (h2 : c.cs.length ≤ 1152921504606846976) (h3 : c.ss.length ≤ 1152921504606846976) (h4 : c.d.length ≤ 1152921504606846976) (hx : ∀ x ∈ c.cs, x.length ≤ 1152921504606846976) (hy : ∀ x ∈ c.ss, x.length ≤ 1152921504606846976) : CW (fun g => B ≤ g) W v c := by
  obtain ⟨tv, cv, sv, dv, e, k1, k2, k3, k4⟩ := h
  exact ⟨tv, cv, sv, dv, e, k1.tl h1, k2.pl h2 hx, k3.pl h3 hy, SL.own k4 h4 fun g hg => (k4.lt g hg).1⟩
theorem co_least {B : Nat} {W : World} {v : Value} (h : CO B W v leastC) : ∃ gt gc gs da dc, v = .agg #[.slice (some ⟨gt, 0, none⟩) 1 1, .slice (some ⟨gc, 0, none⟩) 1 1, .slice (some ⟨gs, 0, none⟩) 0 0, .slice da 0 dc, .int .i64 0] ∧ CW (fun _ => True) W v leastC := by
  have hw := h.cw (by decide) (by decide) (by decide) (by decide) (by decide) (by decide)
  obtain ⟨tv, cv, sv, dv, e, ⟨gt, rfl, _⟩, ⟨gc, _, rfl, _⟩, ⟨gs, _, rfl, _⟩, k4⟩ := h
  obtain ⟨da, dc, rfl⟩ := owns_sl k4
  exact ⟨gt, gc, gs, da, dc, e, hw.mono fun _ _ _ => trivial⟩
set_option maxHeartbeats 4000000 in
set_option maxRecDepth 100000 in
theorem able_is (w : World) : Calls Try.prog 16 #[] w fun e w' => e = .returned (.bool true) ∧ Below w.heap.size w w' := by
  have M0 : Hid (BL (fun _ => True) (w.alloc (.cells #[.int .u8 239, .int .u8 0, .int .u8 1, .int .u8 1, .int .u8 0, .int .u8 4, .int .u8 2, .int .u8 0, .int .u8 1, .int .u8 0, .int .u8 1, .int .u8 255, .int .u8 0, .int .u8 0, .int .u8 0, .int .u8 0, .int .u8 128, .int .u8 0, .int .u8 0, .int .u8 0] 5)) (.slice (some ⟨w.heap.size, 0, none⟩) 20 20) leastB ∧ Below w.heap.size w (w.alloc (.cells #[.int .u8 239, .int .u8 0, .int .u8 1, .int .u8 1, .int .u8 0, .int .u8 4, .int .u8 2, .int .u8 0, .int .u8 1, .int .u8 0, .int .u8 1, .int .u8 255, .int .u8 0, .int .u8 0, .int .u8 0, .int .u8 0, .int .u8 128, .int .u8 0, .int .u8 0, .int .u8 0] 5))) := ⟨(BL.new w leastB (by decide)).mono fun _ _ _ => trivial, below_alloc _ _⟩
  go_enter Try.func16, Try.ntmps16
  go_upto_region 2 with fail
  generalize hbw : w.heap.size = bw at M0 ⊢
  have GB : Hid (w.heap.size = bw) := hbw
  have GE : Hid (bw ≤ w.heap.size) := by unfold Hid; omega
  clear hbw
  generalize w.alloc _ = W1 at M0 ⊢
  have PA : Hid (∀ (W : World) (R : Nat → Prop) (v : Value), BL R W v leastB → Calls Try.prog 31 #[v, .bool false] W fun e w' => (∃ gt gc gs da dc, e = .returned (.tuple #[.agg #[.slice (some ⟨gt, 0, none⟩) 1 1, .slice (some ⟨gc, 0, none⟩) 1 1, .slice (some ⟨gs, 0, none⟩) 0 0, .slice da 0 dc, .int .i64 0], rejV 0 0]) ∧ CW (fun _ => True) w' (.agg #[.slice (some ⟨gt, 0, none⟩) 1 1, .slice (some ⟨gc, 0, none⟩) 1 1, .slice (some ⟨gs, 0, none⟩) 0 0, .slice da 0 dc, .int .i64 0]) leastC) ∧ Below W.heap.size W w') := fun W R v h => by
    refine (parse_is W v leastB false h least_byt (by decide)).mono ?_
    rintro e w' ⟨h1, h2⟩
    rw [least_prs] at h1
    obtain ⟨v9, e9, hco⟩ := h1
    obtain ⟨gt, gc, gs, da, dc, rfl, h9⟩ := co_least hco
    exact ⟨⟨gt, gc, gs, da, dc, e9, h9⟩, h2⟩
  have SZ : Hid (∀ (W : World) (R : Nat → Prop) (v : Value), CW R W v leastC → Calls Try.prog 35 #[v] W fun e w' => ∃ v', e = .returned (.tuple #[v', .int .i64 0]) ∧ BL (fun _ => True) w' v' leastB ∧ Below W.heap.size W w') := fun W R v h => by
    refine (serialize_is W v leastC h (by unfold Small; decide)).mono ?_
    rintro e w' ⟨v', e9, h1, h2⟩
    rw [least_chk] at e9
    rw [least_serR] at h1
    exact ⟨v', e9, SL.own h1 (by decide) fun _ _ => trivial, h2⟩
  unfold rejV at PA
  go_upto_region 3 with (first | (go_at_call 32; refine (own_is _ _ leastB M0.out.1 (by decide)).mono ?_; rintro e w2 ⟨v2, rfl, hO, hB⟩; (have M1 : Hid (BL (fun _ => True) w2 (.slice (some ⟨bw, 0, none⟩) 20 20) leastB ∧ Below bw w w2 ∧ BL (fun _ => True) w2 v2 leastB) := ⟨M0.out.1.past hB, M0.out.2.trans (hB.mono (Nat.le_trans GE.out M0.out.2.size)), SL.own hO (by decide) fun _ _ => trivial⟩); (clear hO hB)) | (go_at_call 31; refine (PA.out _ _ _ M1.out.2.2).mono ?_; rintro e w3 ⟨⟨gt, gc, gs, da, dc, rfl, hC⟩, hB⟩; (have M2 : Hid (BL (fun _ => True) w3 (.slice (some ⟨bw, 0, none⟩) 20 20) leastB ∧ Below bw w w3 ∧ CW (fun _ => True) w3 (.agg #[.slice (some ⟨gt, 0, none⟩) 1 1, .slice (some ⟨gc, 0, none⟩) 1 1, .slice (some ⟨gs, 0, none⟩) 0 0, .slice da 0 dc, .int .i64 0]) leastC) := ⟨M1.out.1.past hB, M1.out.2.1.trans (hB.mono (Nat.le_trans GE.out M1.out.2.1.size)), hC⟩); (clear hC hB)))
  have N2 : Hid (Below bw w ((w3.alloc (.cells #[.slice (some ⟨gt, 0, none⟩) 1 1, .slice (some ⟨gc, 0, none⟩) 1 1, .slice (some ⟨gs, 0, none⟩) 0 0, .slice da 0 dc, .int .i64 0] 28)).alloc (.cells #[.int .i64 0, .slice none 0 0, .int .i64 0, .int .i64 0] 47)) ∧ BL (fun _ => True) ((w3.alloc (.cells #[.slice (some ⟨gt, 0, none⟩) 1 1, .slice (some ⟨gc, 0, none⟩) 1 1, .slice (some ⟨gs, 0, none⟩) 0 0, .slice da 0 dc, .int .i64 0] 28)).alloc (.cells #[.int .i64 0, .slice none 0 0, .int .i64 0, .int .i64 0] 47)) (.slice (some ⟨bw, 0, none⟩) 20 20) leastB ∧ CBox ((w3.alloc (.cells #[.slice (some ⟨gt, 0, none⟩) 1 1, .slice (some ⟨gc, 0, none⟩) 1 1, .slice (some ⟨gs, 0, none⟩) 0 0, .slice da 0 dc, .int .i64 0] 28)).alloc (.cells #[.int .i64 0, .slice none 0 0, .int .i64 0, .int .i64 0] 47)) w3.heap.size 28 [.slice (some ⟨gt, 0, none⟩) 1 1, .slice (some ⟨gc, 0, none⟩) 1 1, .slice (some ⟨gs, 0, none⟩) 0 0, .slice da 0 dc, .int .i64 0] ∧ CBox ((w3.alloc (.cells #[.slice (some ⟨gt, 0, none⟩) 1 1, .slice (some ⟨gc, 0, none⟩) 1 1, .slice (some ⟨gs, 0, none⟩) 0 0, .slice da 0 dc, .int .i64 0] 28)).alloc (.cells #[.int .i64 0, .slice none 0 0, .int .i64 0, .int .i64 0] 47)) (w3.heap.size + 1) 47 rej0L ∧ CW (fun _ => True) ((w3.alloc (.cells #[.slice (some ⟨gt, 0, none⟩) 1 1, .slice (some ⟨gc, 0, none⟩) 1 1, .slice (some ⟨gs, 0, none⟩) 0 0, .slice da 0 dc, .int .i64 0] 28)).alloc (.cells #[.int .i64 0, .slice none 0 0, .int .i64 0, .int .i64 0] 47)) (.agg #[.slice (some ⟨gt, 0, none⟩) 1 1, .slice (some ⟨gc, 0, none⟩) 1 1, .slice (some ⟨gs, 0, none⟩) 0 0, .slice da 0 dc, .int .i64 0]) leastC) := by
    have b1 := below_alloc w3 (.cells #[.slice (some ⟨gt, 0, none⟩) 1 1, .slice (some ⟨gc, 0, none⟩) 1 1, .slice (some ⟨gs, 0, none⟩) 0 0, .slice da 0 dc, .int .i64 0] 28)
    have b2 := below_alloc (w3.alloc (.cells #[.slice (some ⟨gt, 0, none⟩) 1 1, .slice (some ⟨gc, 0, none⟩) 1 1, .slice (some ⟨gs, 0, none⟩) 0 0, .slice da 0 dc, .int .i64 0] 28)) (.cells #[.int .i64 0, .slice none 0 0, .int .i64 0, .int .i64 0] 47)
    have s1 : (w3.alloc (.cells #[.slice (some ⟨gt, 0, none⟩) 1 1, .slice (some ⟨gc, 0, none⟩) 1 1, .slice (some ⟨gs, 0, none⟩) 0 0, .slice da 0 dc, .int .i64 0] 28)).heap.size = w3.heap.size + 1 := by simp
    have c1 := CBox.new w3 28 [.slice (some ⟨gt, 0, none⟩) 1 1, .slice (some ⟨gc, 0, none⟩) 1 1, .slice (some ⟨gs, 0, none⟩) 0 0, .slice da 0 dc, .int .i64 0]
    have c2 := CBox.new (w3.alloc (.cells #[.slice (some ⟨gt, 0, none⟩) 1 1, .slice (some ⟨gc, 0, none⟩) 1 1, .slice (some ⟨gs, 0, none⟩) 0 0, .slice da 0 dc, .int .i64 0] 28)) 47 rej0L
    rw [s1] at c2
    have bb := b1.trans (b2.mono (by omega))
    exact ⟨M2.out.2.1.trans (bb.mono (Nat.le_trans GE.out M2.out.2.1.size)), M2.out.1.past bb, c1.past b2, c2, M2.out.2.2.past bb⟩
  clear M0 M1 M2 PA
  generalize w3.heap.size + 1 = b3 at N2 ⊢
  generalize w3.heap.size = b2 at N2 ⊢
  generalize (w3.alloc _).alloc _ = W2 at N2 ⊢
  refine wp_region_held_drew (S := fun V' => CBox V' b2 28 [.slice (some ⟨gt, 0, none⟩) 1 1, .slice (some ⟨gc, 0, none⟩) 1 1, .slice (some ⟨gs, 0, none⟩) 0 0, .slice da 0 dc, .int .i64 0] ∧ CBox V' b3 47 rej0L) (by kernel_rfl) ⟨N2.out.2.2.1.past below_drew, N2.out.2.2.2.1.past below_drew⟩ (fun hHeld => ?_)
  have B0 : Hid (Below bw w W2.drew ∧ BL (fun _ => True) W2.drew (.slice (some ⟨bw, 0, none⟩) 20 20) leastB ∧ CW (fun _ => True) W2.drew (.agg #[.slice (some ⟨gt, 0, none⟩) 1 1, .slice (some ⟨gc, 0, none⟩) 1 1, .slice (some ⟨gs, 0, none⟩) 0 0, .slice da 0 dc, .int .i64 0]) leastC) := ⟨N2.out.1.drew, N2.out.2.1.past below_drew, N2.out.2.2.2.2.past below_drew⟩
  clear N2
  generalize W2.drew = z0 at hHeld B0 ⊢
  refine wpAnyH_take (i := 0) (v := .pointer (some ⟨b3, 0, none⟩)) ov0 (by kernel_rfl) (by kernel_rfl) (by kernel_rfl) (fun _ _ _ h => h) (Or.inl ⟨by rfl, fun V' hS => ?_⟩) hHeld ?_
  · go_simp
  simp only [Act.put, List.setIfInBounds_toArray, List.set_cons_zero, List.set_cons_succ]
  refine wpAnyH_take (i := 1) (v := .int .i64 0) ov1 (by kernel_rfl) (by kernel_rfl) (by kernel_rfl) (fun _ _ _ h => h) (Or.inl ⟨by rfl, fun V' hS => ?_⟩) hHeld ?_
  · have c0 : V'.cell? ⟨b3, 0, none⟩ = some (.int .i64 0) := hS.2.cell 0
    go_simp
  simp only [Act.put, List.setIfInBounds_toArray, List.set_cons_zero, List.set_cons_succ]
  refine wpAnyH_take (i := 2) (v := .bool false) ov2 (by kernel_rfl) (by kernel_rfl) (by kernel_rfl) (fun _ _ _ h => h) (Or.inl ⟨by rfl, fun V' hS => ?_⟩) hHeld ?_
  · go_simp
  simp only [Act.put, List.setIfInBounds_toArray, List.set_cons_zero, List.set_cons_succ]
  refine wpAnyH_take (i := 3) (v := .bool false) ov3 (by kernel_rfl) (by kernel_rfl) (by kernel_rfl) (fun _ _ _ h => h) (Or.inl ⟨by rfl, fun V' hS => ?_⟩) hHeld ?_
  · go_simp
  simp only [Act.put, List.setIfInBounds_toArray, List.set_cons_zero, List.set_cons_succ]
  refine wpAnyH_take (i := 4) (v := .agg #[.slice (some ⟨gt, 0, none⟩) 1 1, .slice (some ⟨gc, 0, none⟩) 1 1, .slice (some ⟨gs, 0, none⟩) 0 0, .slice da 0 dc, .int .i64 0]) ov4 (by kernel_rfl) (by kernel_rfl) (by kernel_rfl) (fun _ _ _ h => h) (Or.inl ⟨by rfl, fun V' hS => ?_⟩) hHeld ?_
  · obtain ⟨hS1, _⟩ := hS; have c0 : V'.cell? ⟨b2, 0, none⟩ = some (.slice (some ⟨gt, 0, none⟩) 1 1) := hS1.cell 0; have c1 : V'.cell? ⟨b2, 1, none⟩ = some (.slice (some ⟨gc, 0, none⟩) 1 1) := hS1.cell 1; have c2 : V'.cell? ⟨b2, 2, none⟩ = some (.slice (some ⟨gs, 0, none⟩) 0 0) := hS1.cell 2; have c3 : V'.cell? ⟨b2, 3, none⟩ = some (.slice da 0 dc) := hS1.cell 3; have c4 : V'.cell? ⟨b2, 4, none⟩ = some (.int .i64 0) := hS1.cell 4
    go_simp
  simp only [Act.put, List.setIfInBounds_toArray, List.set_cons_zero, List.set_cons_succ]
  refine wpAnyH_ready (rs := [5]) (by kernel_rfl) (by simp) ?_
  refine AllReadyH.cons ov5 (fun K hK => ?_) AllReadyH.nil
  rw [if_pos (by rfl)]
  go_simp
  refine (least_is z0).mono ?_
  rintro e z1 ⟨vl, rfl, hL, hB1⟩
  have H1 := And.intro (hHeld.1.past hB1) (hHeld.2.past hB1)
  have B1 : Hid (Below bw w z1 ∧ BL (fun _ => True) z1 (.slice (some ⟨bw, 0, none⟩) 20 20) leastB ∧ CW (fun _ => True) z1 (.agg #[.slice (some ⟨gt, 0, none⟩) 1 1, .slice (some ⟨gc, 0, none⟩) 1 1, .slice (some ⟨gs, 0, none⟩) 0 0, .slice da 0 dc, .int .i64 0]) leastC ∧ CW (fun g => z0.heap.size ≤ g) z1 vl leastC) := ⟨B0.out.1.trans (hB1.mono (Nat.le_trans GE.out B0.out.1.size)), B0.out.2.1.past hB1, B0.out.2.2.past hB1, hL⟩
  clear hL hB1
  (try go_wp2_with fail)
  refine hK.out _ _ H1 (fun _ => ?_)
  clear hK K
  (try simp only [Act.put, List.setIfInBounds_toArray, List.set_cons_zero, List.set_cons_succ])
  refine wpAnyH_ready (rs := [6]) (by kernel_rfl) (by simp) ?_
  refine AllReadyH.cons ov6 (fun K hK => ?_) AllReadyH.nil
  rw [if_pos (by rfl)]
  go_simp
  refine (same_is z1 _ _ leastC B1.out.2.2.1 B1.out.2.2.2).mono ?_
  rintro e z2 ⟨rfl, hB2⟩
  have H2 := And.intro (H1.1.past hB2) (H1.2.past hB2)
  have B2 : Hid (Below bw w z2 ∧ BL (fun _ => True) z2 (.slice (some ⟨bw, 0, none⟩) 20 20) leastB) := ⟨B1.out.1.trans (hB2.mono (Nat.le_trans GE.out B1.out.1.size)), B1.out.2.1.past hB2⟩
  clear hB2
  (try go_wp2_with fail)
  refine hK.out _ _ H2 (fun _ => ?_)
  clear hK K
  (try simp only [Act.put, List.setIfInBounds_toArray, List.set_cons_zero, List.set_cons_succ])
  refine wpAnyH_take (i := 7) (v := .bool false) ov7 (by kernel_rfl) (by kernel_rfl) (by kernel_rfl) (fun _ _ _ h => h) (Or.inl ⟨by rfl, fun V' hS => ?_⟩) H2 ?_
  · go_simp
  simp only [Act.put, List.setIfInBounds_toArray, List.set_cons_zero, List.set_cons_succ]
  refine wpAnyH_take (i := 8) (v := .bool false) ov8 (by kernel_rfl) (by kernel_rfl) (by kernel_rfl) (fun _ _ _ h => h) (Or.inl ⟨by rfl, fun V' hS => ?_⟩) H2 ?_
  · go_simp
  simp only [Act.put, List.setIfInBounds_toArray, List.set_cons_zero, List.set_cons_succ]
  refine wpAnyH_done (by kernel_rfl) ?_ _
  clear hHeld H1 H2 B0 B1
  go_upto_region 6 with (first | (go_at_call 30; refine (least_is _).mono ?_; rintro e w6 ⟨v6, rfl, hL, hB⟩; (have M6 : Hid (Below bw w w6 ∧ BL (fun _ => True) w6 (.slice (some ⟨bw, 0, none⟩) 20 20) leastB ∧ CW _ w6 v6 leastC) := ⟨B2.out.1.trans (hB.mono (Nat.le_trans GE.out B2.out.1.size)), B2.out.2.past hB, hL⟩); (clear hL hB)) | (go_at_call 35; refine (SZ.out _ _ _ M6.out.2.2).mono ?_; rintro e w7 ⟨v7, rfl, hS, hB⟩; (have M7 : Hid (Below bw w w7 ∧ BL (fun _ => True) w7 (.slice (some ⟨bw, 0, none⟩) 20 20) leastB ∧ BL (fun _ => True) w7 v7 leastB) := ⟨M6.out.1.trans (hB.mono (Nat.le_trans GE.out M6.out.1.size)), M6.out.2.1.past hB, hS⟩); (clear hS hB)))
  go_wp2_with (go_at_call 37; refine (sameB_is _ _ _ leastB M7.out.2.2 M7.out.2.1).mono ?_; rintro e w8 ⟨rfl, hB⟩)
  go_ret
  exact ⟨rfl, by rw [GB.out]; exact M7.out.1.trans (hB.mono (Nat.le_trans GE.out M7.out.1.size))⟩
end Go.Proofs.Ytndhabhlajldeaa
