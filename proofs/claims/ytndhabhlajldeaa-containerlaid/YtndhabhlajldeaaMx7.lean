/- The laws' rejects, least, able. -/
import Derived.Test.YtndhabhlajldeaaMx6
import Derived.Laws.CopyOwn
import Derived.Laws.IdiomCopy
import Derived.Laws.CopyRow
namespace Go.Proofs.Ytndhabhlajldeaa
open Go.RowKit
def leastC : Con := ⟨[(0, 128, 0)], [[0]], [], [], 0⟩
def leastB : List Nat := [239, 0, 1, 1, 0, 4, 2, 0, 1, 0, 1, 255, 0, 0, 0, 0, 128, 0, 0, 0]
theorem least_may : May leastC := ⟨by decide, by decide, by decide, by decide, by decide, by decide, by decide, by decide, by decide⟩
theorem least_ser : ser leastC = leastB := by decide
theorem least_prs : prs leastB false = .ok leastC := by
  rw [← least_ser]
  exact prs_ser least_may false (fun _ => rfl)
theorem least_serR : serR leastC = leastB := by decide
theorem least_chk : chk leastC = 0 := by decide
theorem least_byt : Byt leastB := by unfold Byt; decide
set_option maxHeartbeats 4000000 in
set_option maxRecDepth 100000 in
theorem least_is (w : World) : Calls Try.prog 30 #[] w fun e w' => ∃ v, e = .returned v ∧ CW (fun g => w.heap.size ≤ g) w' v leastC ∧ Below w.heap.size w w' := by
  go_enter Try.func30, Try.ntmps30
  go_wp2
  have b1 := below_alloc w (.cells #[.slice (some ⟨w.heap.size + 1, 0, none⟩) 1 1, .slice (some ⟨w.heap.size + 1 + 1 + 1, 0, none⟩) 1 1, .slice none 0 0, .slice none 0 0, .int .i64 0] 28)
  have c1 := CBox.new w 28 [.slice (some ⟨w.heap.size + 1, 0, none⟩) 1 1, .slice (some ⟨w.heap.size + 1 + 1 + 1, 0, none⟩) 1 1, .slice none 0 0, .slice none 0 0, .int .i64 0]
  have s1 : (w.alloc (.cells #[.slice (some ⟨w.heap.size + 1, 0, none⟩) 1 1, .slice (some ⟨w.heap.size + 1 + 1 + 1, 0, none⟩) 1 1, .slice none 0 0, .slice none 0 0, .int .i64 0] 28)).heap.size = w.heap.size + 1 := by simp
  generalize w.alloc _ = W1 at b1 c1 s1 ⊢
  have b2 := below_alloc W1 (.cells #[.int .i64 0, .int .i64 128, .int .i64 0] 77)
  have c2 := CBox.new W1 77 [.int .i64 0, .int .i64 128, .int .i64 0]
  have s2 : (W1.alloc (.cells #[.int .i64 0, .int .i64 128, .int .i64 0] 77)).heap.size = w.heap.size + 1 + 1 := by simp [s1]
  rw [s1] at c2
  generalize W1.alloc _ = W2 at b2 c2 s2 ⊢
  have b3 := below_alloc W2 (.cells #[.int .u8 0] 5)
  have c3 := CBox.new W2 5 [.int .u8 0]
  have s3 : (W2.alloc (.cells #[.int .u8 0] 5)).heap.size = w.heap.size + 1 + 1 + 1 := by simp [s2]
  rw [s2] at c3
  generalize W2.alloc _ = W3 at b3 c3 s3 ⊢
  have b4 := below_alloc W3 (.cells #[.slice (some ⟨w.heap.size + 1 + 1, 0, none⟩) 1 1] 22)
  have c4 := CBox.new W3 22 [.slice (some ⟨w.heap.size + 1 + 1, 0, none⟩) 1 1]
  rw [s3] at c4
  generalize W3.alloc _ = W4 at b4 c4 ⊢
  have d1 := ((c1.past b2).past b3).past b4
  have d2 := (c2.past b3).past b4
  have d3 := c3.past b4
  refine bodyPost_ret (v := .agg #[.slice (some ⟨w.heap.size + 1, 0, none⟩) 1 1, .slice (some ⟨w.heap.size + 1 + 1 + 1, 0, none⟩) 1 1, .slice none 0 0, .slice none 0 0, .int .i64 0]) (results_c (p := 0) (ty := 28) Try.results30 _ _ _ ⟨w.heap.size, 0, none⟩ rfl (run_loadVar_mid W4 w.heap.size 0 28 [.slice (some ⟨w.heap.size + 1, 0, none⟩) 1 1, .slice (some ⟨w.heap.size + 1 + 1 + 1, 0, none⟩) 1 1, .slice none 0 0, .slice none 0 0, .int .i64 0] _ d1.range Try.underlying28 rfl (by kernel_rfl))) rfl ?_
  refine ⟨_, rfl, ⟨_, _, _, _, rfl, SL.box d2 rfl (by decide) (by omega), ⟨_, SL.box c4 rfl (by decide) (by omega), fun i l hi => ?_⟩, PL.nil _ _, BL.nil _ _⟩, ((b1.trans (b2.mono (by omega))).trans (b3.mono (by omega))).trans (b4.mono (by omega))⟩
  have hlt := (List.getElem?_eq_some_iff.1 hi).1
  have hi0 : i = 0 := by simp [leastC] at hlt; omega
  subst hi0
  have hl0 : l = [0] := by simp [leastC] at hi; exact hi.symm
  subst hl0
  exact ⟨_, rfl, SL.box d3 rfl (by decide) (by omega)⟩
theorem CO.cw {B : Nat} {W : World} {v : Value} {c : Con} (h : CO B W v c) (h1 : c.ts.length ≤ 1152921504606846976) (h2 : c.cs.length ≤ 1152921504606846976) (h3 : c.ss.length ≤ 1152921504606846976) (h4 : c.d.length ≤ 1152921504606846976) (hx : ∀ x ∈ c.cs, x.length ≤ 1152921504606846976) (hy : ∀ x ∈ c.ss, x.length ≤ 1152921504606846976) : CW (fun g => B ≤ g) W v c := by
  obtain ⟨tv, cv, sv, dv, e, k1, k2, k3, k4⟩ := h
  exact ⟨tv, cv, sv, dv, e, k1.tl h1, k2.pl h2 hx, k3.pl h3 hy, SL.own k4 h4 fun g hg => (k4.lt g hg).1⟩
theorem co_least {B : Nat} {W : World} {v : Value} (h : CO B W v leastC) : ∃ gt gc gs da dc, v = .agg #[.slice (some ⟨gt, 0, none⟩) 1 1, .slice (some ⟨gc, 0, none⟩) 1 1, .slice (some ⟨gs, 0, none⟩) 0 0, .slice da 0 dc, .int .i64 0] ∧ CW (fun _ => True) W v leastC := by
  have hw := h.cw (by decide) (by decide) (by decide) (by decide) (by decide) (by decide)
  obtain ⟨tv, cv, sv, dv, e, ⟨gt, rfl, _⟩, ⟨gc, _, rfl, _⟩, ⟨gs, _, rfl, _⟩, k4⟩ := h
  obtain ⟨da, dc, rfl⟩ := owns_sl k4
  exact ⟨gt, gc, gs, da, dc, e, hw.mono fun _ _ _ => trivial⟩
set_option maxHeartbeats 4000000 in
set_option maxRecDepth 100000 in
theorem able_is (w : World) : Calls Try.prog 16 #[] w fun e w' => e = .returned (.bool true) ∧ Below w.heap.size w w' := by
  have M0 : Hid (BL (fun _ => True) (w.alloc (.cells #[.int .u8 239, .int .u8 0, .int .u8 1, .int .u8 1, .int .u8 0, .int .u8 4, .int .u8 2, .int .u8 0, .int .u8 1, .int .u8 0, .int .u8 1, .int .u8 255, .int .u8 0, .int .u8 0, .int .u8 0, .int .u8 0, .int .u8 128, .int .u8 0, .int .u8 0, .int .u8 0] 5)) (.slice (some ⟨w.heap.size, 0, none⟩) 20 20) leastB ∧ Below w.heap.size w (w.alloc (.cells #[.int .u8 239, .int .u8 0, .int .u8 1, .int .u8 1, .int .u8 0, .int .u8 4, .int .u8 2, .int .u8 0, .int .u8 1, .int .u8 0, .int .u8 1, .int .u8 255, .int .u8 0, .int .u8 0, .int .u8 0, .int .u8 0, .int .u8 128, .int .u8 0, .int .u8 0, .int .u8 0] 5))) := ⟨(BL.new w leastB (by decide)).mono fun _ _ _ => trivial, below_alloc _ _⟩
  go_enter Try.func16, Try.ntmps16
  go_upto_region 2 with fail
  generalize hbw : w.heap.size = bw at M0 ⊢
  have GB : Hid (w.heap.size = bw) := hbw
  have GE : Hid (bw ≤ w.heap.size) := by unfold Hid; omega
  clear hbw
  generalize w.alloc _ = W1 at M0 ⊢
  have PA : Hid (∀ (W : World) (R : Nat → Prop) (v : Value), BL R W v leastB → Calls Try.prog 31 #[v, .bool false] W fun e w' => (∃ gt gc gs da dc, e = .returned (.tuple #[.agg #[.slice (some ⟨gt, 0, none⟩) 1 1, .slice (some ⟨gc, 0, none⟩) 1 1, .slice (some ⟨gs, 0, none⟩) 0 0, .slice da 0 dc, .int .i64 0], rejV 0 0]) ∧ CW (fun _ => True) w' (.agg #[.slice (some ⟨gt, 0, none⟩) 1 1, .slice (some ⟨gc, 0, none⟩) 1 1, .slice (some ⟨gs, 0, none⟩) 0 0, .slice da 0 dc, .int .i64 0]) leastC) ∧ Below W.heap.size W w') := fun W R v h => by
    refine (parse_is W v leastB false h least_byt (by decide)).mono ?_
    rintro e w' ⟨h1, h2⟩
    rw [least_prs] at h1
    obtain ⟨v9, e9, hco⟩ := h1
    obtain ⟨gt, gc, gs, da, dc, rfl, h9⟩ := co_least hco
    exact ⟨⟨gt, gc, gs, da, dc, e9, h9⟩, h2⟩
  have SZ : Hid (∀ (W : World) (R : Nat → Prop) (v : Value), CW R W v leastC → Calls Try.prog 35 #[v] W fun e w' => ∃ v', e = .returned (.tuple #[v', .int .i64 0]) ∧ BL (fun _ => True) w' v' leastB ∧ Below W.heap.size W w') := fun W R v h => by
    refine (serialize_is W v leastC h (by unfold Small; decide)).mono ?_
    rintro e w' ⟨v', e9, h1, h2⟩
    rw [least_chk] at e9
    rw [least_serR] at h1
    exact ⟨v', e9, SL.own h1 (by decide) fun _ _ => trivial, h2⟩
  unfold rejV at PA
  go_upto_region 3 with (first | (go_at_call 32; refine (own_is _ _ leastB M0.out.1 (by decide)).mono ?_; rintro e w2 ⟨v2, rfl, hO, hB⟩; (have M1 : Hid (BL (fun _ => True) w2 (.slice (some ⟨bw, 0, none⟩) 20 20) leastB ∧ Below bw w w2 ∧ BL (fun _ => True) w2 v2 leastB) := ⟨M0.out.1.past hB, M0.out.2.trans (hB.mono (Nat.le_trans GE.out M0.out.2.size)), SL.own hO (by decide) fun _ _ => trivial⟩); (clear hO hB)) | (go_at_call 31; refine (PA.out _ _ _ M1.out.2.2).mono ?_; rintro e w3 ⟨⟨gt, gc, gs, da, dc, rfl, hC⟩, hB⟩; (have M2 : Hid (BL (fun _ => True) w3 (.slice (some ⟨bw, 0, none⟩) 20 20) leastB ∧ Below bw w w3 ∧ CW (fun _ => True) w3 (.agg #[.slice (some ⟨gt, 0, none⟩) 1 1, .slice (some ⟨gc, 0, none⟩) 1 1, .slice (some ⟨gs, 0, none⟩) 0 0, .slice da 0 dc, .int .i64 0]) leastC) := ⟨M1.out.1.past hB, M1.out.2.1.trans (hB.mono (Nat.le_trans GE.out M1.out.2.1.size)), hC⟩); (clear hC hB)))
  have N2 : Hid (Below bw w ((w3.alloc (.cells #[.slice (some ⟨gt, 0, none⟩) 1 1, .slice (some ⟨gc, 0, none⟩) 1 1, .slice (some ⟨gs, 0, none⟩) 0 0, .slice da 0 dc, .int .i64 0] 28)).alloc (.cells #[.int .i64 0, .slice none 0 0, .int .i64 0, .int .i64 0] 47)) ∧ BL (fun _ => True) ((w3.alloc (.cells #[.slice (some ⟨gt, 0, none⟩) 1 1, .slice (some ⟨gc, 0, none⟩) 1 1, .slice (some ⟨gs, 0, none⟩) 0 0, .slice da 0 dc, .int .i64 0] 28)).alloc (.cells #[.int .i64 0, .slice none 0 0, .int .i64 0, .int .i64 0] 47)) (.slice (some ⟨bw, 0, none⟩) 20 20) leastB ∧ CBox ((w3.alloc (.cells #[.slice (some ⟨gt, 0, none⟩) 1 1, .slice (some ⟨gc, 0, none⟩) 1 1, .slice (some ⟨gs, 0, none⟩) 0 0, .slice da 0 dc, .int .i64 0] 28)).alloc (.cells #[.int .i64 0, .slice none 0 0, .int .i64 0, .int .i64 0] 47)) w3.heap.size 28 [.slice (some ⟨gt, 0, none⟩) 1 1, .slice (some ⟨gc, 0, none⟩) 1 1, .slice (some ⟨gs, 0, none⟩) 0 0, .slice da 0 dc, .int .i64 0] ∧ CBox ((w3.alloc (.cells #[.slice (some ⟨gt, 0, none⟩) 1 1, .slice (some ⟨gc, 0, none⟩) 1 1, .slice (some ⟨gs, 0, none⟩) 0 0, .slice da 0 dc, .int .i64 0] 28)).alloc (.cells #[.int .i64 0, .slice none 0 0, .int .i64 0, .int .i64 0] 47)) (w3.heap.size + 1) 47 rej0L ∧ CW (fun _ => True) ((w3.alloc (.cells #[.slice (some ⟨gt, 0, none⟩) 1 1, .slice (some ⟨gc, 0, none⟩) 1 1, .slice (some ⟨gs, 0, none⟩) 0 0, .slice da 0 dc, .int .i64 0] 28)).alloc (.cells #[.int .i64 0, .slice none 0 0, .int .i64 0, .int .i64 0] 47)) (.agg #[.slice (some ⟨gt, 0, none⟩) 1 1, .slice (some ⟨gc, 0, none⟩) 1 1, .slice (some ⟨gs, 0, none⟩) 0 0, .slice da 0 dc, .int .i64 0]) leastC) := by
    have b1 := below_alloc w3 (.cells #[.slice (some ⟨gt, 0, none⟩) 1 1, .slice (some ⟨gc, 0, none⟩) 1 1, .slice (some ⟨gs, 0, none⟩) 0 0, .slice da 0 dc, .int .i64 0] 28)
    have b2 := below_alloc (w3.alloc (.cells #[.slice (some ⟨gt, 0, none⟩) 1 1, .slice (some ⟨gc, 0, none⟩) 1 1, .slice (some ⟨gs, 0, none⟩) 0 0, .slice da 0 dc, .int .i64 0] 28)) (.cells #[.int .i64 0, .slice none 0 0, .int .i64 0, .int .i64 0] 47)
    have s1 : (w3.alloc (.cells #[.slice (some ⟨gt, 0, none⟩) 1 1, .slice (some ⟨gc, 0, none⟩) 1 1, .slice (some ⟨gs, 0, none⟩) 0 0, .slice da 0 dc, .int .i64 0] 28)).heap.size = w3.heap.size + 1 := by simp
    have c1 := CBox.new w3 28 [.slice (some ⟨gt, 0, none⟩) 1 1, .slice (some ⟨gc, 0, none⟩) 1 1, .slice (some ⟨gs, 0, none⟩) 0 0, .slice da 0 dc, .int .i64 0]
    have c2 := CBox.new (w3.alloc (.cells #[.slice (some ⟨gt, 0, none⟩) 1 1, .slice (some ⟨gc, 0, none⟩) 1 1, .slice (some ⟨gs, 0, none⟩) 0 0, .slice da 0 dc, .int .i64 0] 28)) 47 rej0L
    rw [s1] at c2
    have bb := b1.trans (b2.mono (by omega))
    exact ⟨M2.out.2.1.trans (bb.mono (Nat.le_trans GE.out M2.out.2.1.size)), M2.out.1.past bb, c1.past b2, c2, M2.out.2.2.past bb⟩
  clear M0 M1 M2 PA
  generalize w3.heap.size + 1 = b3 at N2 ⊢
  generalize w3.heap.size = b2 at N2 ⊢
  generalize (w3.alloc _).alloc _ = W2 at N2 ⊢
  refine wp_region_held_drew (S := fun V' => CBox V' b2 28 [.slice (some ⟨gt, 0, none⟩) 1 1, .slice (some ⟨gc, 0, none⟩) 1 1, .slice (some ⟨gs, 0, none⟩) 0 0, .slice da 0 dc, .int .i64 0] ∧ CBox V' b3 47 rej0L) (by kernel_rfl) ⟨N2.out.2.2.1.past below_drew, N2.out.2.2.2.1.past below_drew⟩ (fun hHeld => ?_)
  have B0 : Hid (Below bw w W2.drew ∧ BL (fun _ => True) W2.drew (.slice (some ⟨bw, 0, none⟩) 20 20) leastB ∧ CW (fun _ => True) W2.drew (.agg #[.slice (some ⟨gt, 0, none⟩) 1 1, .slice (some ⟨gc, 0, none⟩) 1 1, .slice (some ⟨gs, 0, none⟩) 0 0, .slice da 0 dc, .int .i64 0]) leastC) := ⟨N2.out.1.drew, N2.out.2.1.past below_drew, N2.out.2.2.2.2.past below_drew⟩
  clear N2
  generalize W2.drew = z0 at hHeld B0 ⊢
  refine wpAnyH_take (i := 0) (v := .pointer (some ⟨b3, 0, none⟩)) ov0 (by kernel_rfl) (by kernel_rfl) (by kernel_rfl) (fun _ _ _ h => h) (Or.inl ⟨by rfl, fun V' hS => ?_⟩) hHeld ?_
  · go_simp
  simp only [Act.put, List.setIfInBounds_toArray, List.set_cons_zero, List.set_cons_succ]
  refine wpAnyH_take (i := 1) (v := .int .i64 0) ov1 (by kernel_rfl) (by kernel_rfl) (by kernel_rfl) (fun _ _ _ h => h) (Or.inl ⟨by rfl, fun V' hS => ?_⟩) hHeld ?_
  · have c0 : V'.cell? ⟨b3, 0, none⟩ = some (.int .i64 0) := hS.2.cell 0
    go_simp
  simp only [Act.put, List.setIfInBounds_toArray, List.set_cons_zero, List.set_cons_succ]
  refine wpAnyH_take (i := 2) (v := .bool false) ov2 (by kernel_rfl) (by kernel_rfl) (by kernel_rfl) (fun _ _ _ h => h) (Or.inl ⟨by rfl, fun V' hS => ?_⟩) hHeld ?_
  · go_simp
  simp only [Act.put, List.setIfInBounds_toArray, List.set_cons_zero, List.set_cons_succ]
  refine wpAnyH_take (i := 3) (v := .bool false) ov3 (by kernel_rfl) (by kernel_rfl) (by kernel_rfl) (fun _ _ _ h => h) (Or.inl ⟨by rfl, fun V' hS => ?_⟩) hHeld ?_
  · go_simp
  simp only [Act.put, List.setIfInBounds_toArray, List.set_cons_zero, List.set_cons_succ]
  refine wpAnyH_take (i := 4) (v := .agg #[.slice (some ⟨gt, 0, none⟩) 1 1, .slice (some ⟨gc, 0, none⟩) 1 1, .slice (some ⟨gs, 0, none⟩) 0 0, .slice da 0 dc, .int .i64 0]) ov4 (by kernel_rfl) (by kernel_rfl) (by kernel_rfl) (fun _ _ _ h => h) (Or.inl ⟨by rfl, fun V' hS => ?_⟩) hHeld ?_
  · obtain ⟨hS1, _⟩ := hS; have c0 : V'.cell? ⟨b2, 0, none⟩ = some (.slice (some ⟨gt, 0, none⟩) 1 1) := hS1.cell 0; have c1 : V'.cell? ⟨b2, 1, none⟩ = some (.slice (some ⟨gc, 0, none⟩) 1 1) := hS1.cell 1; have c2 : V'.cell? ⟨b2, 2, none⟩ = some (.slice (some ⟨gs, 0, none⟩) 0 0) := hS1.cell 2; have c3 : V'.cell? ⟨b2, 3, none⟩ = some (.slice da 0 dc) := hS1.cell 3; have c4 : V'.cell? ⟨b2, 4, none⟩ = some (.int .i64 0) := hS1.cell 4
    go_simp
  simp only [Act.put, List.setIfInBounds_toArray, List.set_cons_zero, List.set_cons_succ]
  refine wpAnyH_ready (rs := [5]) (by kernel_rfl) (by simp) ?_
  refine AllReadyH.cons ov5 (fun K hK => ?_) AllReadyH.nil
  rw [if_pos (by rfl)]
  go_simp
  refine (least_is z0).mono ?_
  rintro e z1 ⟨vl, rfl, hL, hB1⟩
  have H1 := And.intro (hHeld.1.past hB1) (hHeld.2.past hB1)
  have B1 : Hid (Below bw w z1 ∧ BL (fun _ => True) z1 (.slice (some ⟨bw, 0, none⟩) 20 20) leastB ∧ CW (fun _ => True) z1 (.agg #[.slice (some ⟨gt, 0, none⟩) 1 1, .slice (some ⟨gc, 0, none⟩) 1 1, .slice (some ⟨gs, 0, none⟩) 0 0, .slice da 0 dc, .int .i64 0]) leastC ∧ CW (fun g => z0.heap.size ≤ g) z1 vl leastC) := ⟨B0.out.1.trans (hB1.mono (Nat.le_trans GE.out B0.out.1.size)), B0.out.2.1.past hB1, B0.out.2.2.past hB1, hL⟩
  clear hL hB1
  (try go_wp2_with fail)
  refine hK.out _ _ H1 (fun _ => ?_)
  clear hK K
  (try simp only [Act.put, List.setIfInBounds_toArray, List.set_cons_zero, List.set_cons_succ])
  refine wpAnyH_ready (rs := [6]) (by kernel_rfl) (by simp) ?_
  refine AllReadyH.cons ov6 (fun K hK => ?_) AllReadyH.nil
  rw [if_pos (by rfl)]
  go_simp
  refine (same_is z1 _ _ leastC B1.out.2.2.1 B1.out.2.2.2).mono ?_
  rintro e z2 ⟨rfl, hB2⟩
  have H2 := And.intro (H1.1.past hB2) (H1.2.past hB2)
  have B2 : Hid (Below bw w z2 ∧ BL (fun _ => True) z2 (.slice (some ⟨bw, 0, none⟩) 20 20) leastB) := ⟨B1.out.1.trans (hB2.mono (Nat.le_trans GE.out B1.out.1.size)), B1.out.2.1.past hB2⟩
  clear hB2
  (try go_wp2_with fail)
  refine hK.out _ _ H2 (fun _ => ?_)
  clear hK K
  (try simp only [Act.put, List.setIfInBounds_toArray, List.set_cons_zero, List.set_cons_succ])
  refine wpAnyH_take (i := 7) (v := .bool false) ov7 (by kernel_rfl) (by kernel_rfl) (by kernel_rfl) (fun _ _ _ h => h) (Or.inl ⟨by rfl, fun V' hS => ?_⟩) H2 ?_
  · go_simp
  simp only [Act.put, List.setIfInBounds_toArray, List.set_cons_zero, List.set_cons_succ]
  refine wpAnyH_take (i := 8) (v := .bool false) ov8 (by kernel_rfl) (by kernel_rfl) (by kernel_rfl) (fun _ _ _ h => h) (Or.inl ⟨by rfl, fun V' hS => ?_⟩) H2 ?_
  · go_simp
  simp only [Act.put, List.setIfInBounds_toArray, List.set_cons_zero, List.set_cons_succ]
  refine wpAnyH_done (by kernel_rfl) ?_ _
  clear hHeld H1 H2 B0 B1
  go_upto_region 6 with (first | (go_at_call 30; refine (least_is _).mono ?_; rintro e w6 ⟨v6, rfl, hL, hB⟩; (have M6 : Hid (Below bw w w6 ∧ BL (fun _ => True) w6 (.slice (some ⟨bw, 0, none⟩) 20 20) leastB ∧ CW _ w6 v6 leastC) := ⟨B2.out.1.trans (hB.mono (Nat.le_trans GE.out B2.out.1.size)), B2.out.2.past hB, hL⟩); (clear hL hB)) | (go_at_call 35; refine (SZ.out _ _ _ M6.out.2.2).mono ?_; rintro e w7 ⟨v7, rfl, hS, hB⟩; (have M7 : Hid (Below bw w w7 ∧ BL (fun _ => True) w7 (.slice (some ⟨bw, 0, none⟩) 20 20) leastB ∧ BL (fun _ => True) w7 v7 leastB) := ⟨M6.out.1.trans (hB.mono (Nat.le_trans GE.out M6.out.1.size)), M6.out.2.1.past hB, hS⟩); (clear hS hB)))
  go_wp2_with (go_at_call 37; refine (sameB_is _ _ _ leastB M7.out.2.2 M7.out.2.1).mono ?_; rintro e w8 ⟨rfl, hB⟩)
  go_ret
  exact ⟨rfl, by rw [GB.out]; exact M7.out.1.trans (hB.mono (Nat.le_trans GE.out M7.out.1.size))⟩
end Go.Proofs.Ytndhabhlajldeaa
/- The laws' lent: bytes with marks in the room behind them. -/
namespace Go.Proofs.Ytndhabhlajldeaa
open Go.RowKit
end Go.Proofs.Ytndhabhlajldeaa
/- The laws' kept: are the marks there? -/
namespace Go.Proofs.Ytndhabhlajldeaa
open Go.RowKit
end Go.Proofs.Ytndhabhlajldeaa
/- What both Parses answer, in one form; bytes of one's own that are written over. -/
namespace Go.Proofs.Ytndhabhlajldeaa
open Go.RowKit
theorem cw_form {P : Nat → Prop} {W : World} {v : Value} {c : Con} (h : CW P W v c) : ∃ ta tc ca cc sa sc da dc, v = .agg #[.slice ta c.ts.length tc, .slice ca c.cs.length cc, .slice sa c.ss.length sc, .slice da c.d.length dc, .int .i64 c.n] := by
  obtain ⟨tv, cv, sv, dv, rfl, h1, h2, h3, h4⟩ := h
  obtain ⟨ta, tc, rfl, _⟩ := h1.len
  obtain ⟨ca, cc, rfl, _⟩ := h2.len
  obtain ⟨sa, sc, rfl, _⟩ := h3.len
  obtain ⟨da, dc, rfl, _⟩ := h4.len
  exact ⟨ta, tc, ca, cc, sa, sc, da, dc, rfl⟩
theorem slice_j (g n cap j : Nat) (hj : j ≤ cap) (W : World) : Sem.run Try.prog (Instr.slice 22 (.slice (some ⟨g, 0, none⟩) n cap) none (some (.int .i64 (j : Int))) none) W = .ok (.slice (some ⟨g, 0, none⟩) j cap) W := by
  simp [Instr.slice, Instr.sliceBounds, run_underlying Try.underlying22, run_sliceBound W .i64 (j : Int) cap _ (by omega) (by omega), Addr.add_mid]
end Go.Proofs.Ytndhabhlajldeaa
/- The laws' twin: a container with lists of its own. -/
namespace Go.Proofs.Ytndhabhlajldeaa
open Go.RowKit
theorem tV_one (l : List Ty) : ∀ u ∈ tV l, u.oneCell' = true := fun u hu => by
  obtain ⟨p, _, hp⟩ := List.mem_flatMap.1 hu
  simp at hp
  rcases hp with rfl | rfl | rfl <;> rfl
/-- append(v, u...) of types -/
theorem wp_appTs {P : Nat → Prop} {w : World} {o : Oper} {a : Act} {K : Act → World → Prop} {Q : Exit → Act → World → Prop} (s x : Operand)
    (ho : o.op = .call { callee := .builtin .append, args := #[s, x], argTypes := #[25, 25] }) (B : Nat) (hB : B ≤ w.heap.size) (v : Value) (l : List Ty) (hs : a.eval s = v) (hown : w.ownsRow B 77 3 v l.length (tV l))
    (u : Value) (m : List Ty) (hx : a.eval x = u) (hu : TL P w u m) (hn : l.length + m.length ≤ 2199023255552)
    (h : ∀ v' w', App B 77 3 w w' v v' (l ++ m).length (tV (l ++ m)) → K (a.put o.dst v') w') : o.wp Try.prog a w K Q := by
  obtain ⟨ad, cap, rfl⟩ := owns_sl hown
  obtain ⟨_, ad2, cap2, rfl, h0, h1, hz, h2⟩ := hu
  cases ad2 with
  | none =>
    have e0 : cap2 = 0 := hz rfl
    have e1 : m.length = 0 := by omega
    obtain rfl := List.eq_nil_of_length_eq_zero e1
    subst e0
    have hrun := run_append_owned_none (P := Try.prog) (w := w) B 25 o.type 77 (info_parts Try.infoT).choose 3 Try.underlying25 (info_parts Try.infoT).choose_spec.1 _ _ _ hown
    unfold Oper.wp
    simp [execOp, ho, resolve, invoke, builtin, hs, hx, hrun, Result.andThen]
    refine h _ _ ?_
    rw [List.append_nil]
    exact App.refl hown
  | some a2 =>
    refine wp_apps s x 25 77 ho (.agg #[.int .i64 0, .int .i64 0, .int .i64 0]) 3 24 Try.underlying25 Try.infoT rfl (by omega) (by omega) B hB ad l.length cap (tV l) hs hown a2 m.length cap2 (tV m) hx (tV_len m) (fun j c hj => ?_) (tV_one m) hn (fun ad' cap' w' q1 q2 q3 => h _ _ ⟨?_, ?_, fun k hk => ?_⟩)
    · have hm : 0 < m.length := by have := (List.getElem?_eq_some_iff.1 hj).1; rw [tV_len] at this; omega
      obtain ⟨g, b, e, _, _, h3⟩ := h2 hm
      injection e with e
      subst e
      rw [Addr.add_mid]
      exact h3 j c hj
    · rw [List.length_append, tV_app]; exact q1
    · exact q2.mono fun k hk => own_iff.1 hk
    · rcases q3.own (own_iff.2 hk) with e | e
      · exact Or.inl (own_iff.1 e)
      · exact Or.inr e
/-- a container in lists of its own, those of sections and of nested containers in unlike blocks -/
def DO (B : Nat) (W : World) (v : Value) (c : Con) : Prop := ∃ ta tc ca cc sa sc da dc, v = .agg #[.slice ta c.ts.length tc, .slice ca c.cs.length cc, .slice sa c.ss.length sc, .slice da c.d.length dc, .int .i64 c.n] ∧ W.ownsRow B 77 3 (.slice ta c.ts.length tc) c.ts.length (tV c.ts) ∧ PO B W (.slice ca c.cs.length cc) c.cs ∧ PO B W (.slice sa c.ss.length sc) c.ss ∧ W.ownsRow B 5 1 (.slice da c.d.length dc) c.d.length (bV c.d) ∧ ∀ g, OwnV (.slice sa c.ss.length sc) g → ¬ OwnV (.slice ca c.cs.length cc) g
theorem flat_each {ll : List (List Nat)} {n : Nat} (h : ll.flatten.length ≤ n) : ∀ x ∈ ll, x.length ≤ n := fun _ hx => Nat.le_trans (List.sublist_flatten_of_mem hx).length_le h
theorem DO.cw {B : Nat} {W : World} {v : Value} {c : Con} (h : DO B W v c) (hs : Small c) : CW (fun g => B ≤ g) W v c := by
  obtain ⟨ta, tc, ca, cc, sa, sc, da, dc, rfl, k1, k2, k3, k4, _⟩ := h
  unfold Small at hs
  exact ⟨_, _, _, _, rfl, SL.own k1 (by omega) fun g hg => (k1.lt g hg).1, k2.pl (by omega) (flat_each (by omega)), k3.pl (by omega) (flat_each (by omega)), SL.own k4 (by omega) fun g hg => (k4.lt g hg).1⟩
theorem DO.past {B : Nat} {W W' : World} {v : Value} {c : Con} (h : DO B W v c) (k : Below W.heap.size W W') : DO B W' v c := by
  obtain ⟨ta, tc, ca, cc, sa, sc, da, dc, e, k1, k2, k3, k4, k5⟩ := h
  exact ⟨ta, tc, ca, cc, sa, sc, da, dc, e, owns_past k1 k, k2.past k, k3.past k, owns_past k4 k, k5⟩
theorem PO.lt {B : Nat} {W : World} {v : Value} {ll : List (List Nat)} (h : PO B W v ll) : ∀ g, OwnV v g → B ≤ g ∧ g < W.heap.size := by
  obtain ⟨us, _, h2, _⟩ := h
  exact fun g hg => h2.lt g hg
theorem row_alienT {B q n : Nat} {W W' : World} {v : Value} {cs : List Value} (h : W.ownsRow B 77 3 v n cs) (k : But (fun y => y = q) W W') (a : Alien W q) : W'.ownsRow B 77 3 v n cs := owns_row_blockB h fun g hg => k.block g (h.lt g hg).2 fun e => by
  obtain ⟨t, m, c, n1, _, _⟩ := a
  exact own_box h c (Ne.symm n1) hg e
theorem PO.alien {B q : Nat} {W W' : World} {v : Value} {ll : List (List Nat)} (h : PO B W v ll) (k : But (fun y => y = q) W W') (a : Alien W q) : PO B W' v ll := by
  obtain ⟨us, h1, h2, h3⟩ := h
  obtain ⟨t, m, c, _, n2, n3⟩ := a
  exact ⟨us, h1, owns_row_blockB h2 fun g hg => k.block g (h2.lt g hg).2 fun e => own_box h2 c (Ne.symm n2) hg e, h3.butT k c n3⟩
/-- the lists of a container -/
structure SrC (P : Nat → Prop) (W : World) (tv cv sv dv : Value) (c : Con) : Prop where
  t : TL P W tv c.ts
  p : PL P W cv c.cs
  s : PL P W sv c.ss
  d : BL P W dv c.d
theorem SrC.past {P : Nat → Prop} {W W' : World} {tv cv sv dv : Value} {c : Con} (h : SrC P W tv cv sv dv c) (k : Below W.heap.size W W') : SrC P W' tv cv sv dv c := ⟨h.t.past k, h.p.past k, h.s.past k, h.d.past k⟩
set_option maxHeartbeats 8000000 in
set_option maxRecDepth 100000 in
theorem twin_is {P : Nat → Prop} (w : World) (v : Value) (c : Con) (h : CW P w v c) (hs : Small c) : Calls Try.prog 19 #[v] w fun e w' => ∃ v', e = .returned v' ∧ DO w.heap.size w' v' c ∧ Below w.heap.size w w' := by
  obtain ⟨tv, cv, sv, dv, rfl, h1, h2, h3, h4⟩ := h
  obtain ⟨ta, tc, rfl, _⟩ := h1.len
  obtain ⟨ca, cc, rfl, _⟩ := h2.len
  obtain ⟨sa, sc, rfl, _⟩ := h3.len
  obtain ⟨da, dc, rfl, _⟩ := h4.len
  have HSM : Hid (Small c) := hs
  have b1 := below_alloc w (.cells #[.slice ta c.ts.length tc, .slice ca c.cs.length cc, .slice sa c.ss.length sc, .slice da c.d.length dc, .int .i64 c.n] 28)
  have b2 := below_alloc (w.alloc (.cells #[.slice ta c.ts.length tc, .slice ca c.cs.length cc, .slice sa c.ss.length sc, .slice da c.d.length dc, .int .i64 c.n] 28)) (.cells #[.slice none 0 0, .slice none 0 0, .slice none 0 0, .slice none 0 0, .int .i64 0] 28)
  have s1 : (w.alloc (.cells #[.slice ta c.ts.length tc, .slice ca c.cs.length cc, .slice sa c.ss.length sc, .slice da c.d.length dc, .int .i64 c.n] 28)).heap.size = w.heap.size + 1 := by simp
  have bb : Below w.heap.size w ((w.alloc (.cells #[.slice ta c.ts.length tc, .slice ca c.cs.length cc, .slice sa c.ss.length sc, .slice da c.d.length dc, .int .i64 c.n] 28)).alloc (.cells #[.slice none 0 0, .slice none 0 0, .slice none 0 0, .slice none 0 0, .int .i64 0] 28)) := b1.trans (b2.mono (by omega))
  have c2 := CBox.new (w.alloc (.cells #[.slice ta c.ts.length tc, .slice ca c.cs.length cc, .slice sa c.ss.length sc, .slice da c.d.length dc, .int .i64 c.n] 28)) 28 [.slice none 0 0, .slice none 0 0, .slice none 0 0, .slice none 0 0, .int .i64 0]
  rw [s1] at c2
  have N0 : Hid (CBox ((w.alloc (.cells #[.slice ta c.ts.length tc, .slice ca c.cs.length cc, .slice sa c.ss.length sc, .slice da c.d.length dc, .int .i64 c.n] 28)).alloc (.cells #[.slice none 0 0, .slice none 0 0, .slice none 0 0, .slice none 0 0, .int .i64 0] 28)) w.heap.size 28 [.slice ta c.ts.length tc, .slice ca c.cs.length cc, .slice sa c.ss.length sc, .slice da c.d.length dc, .int .i64 c.n] ∧ CBox ((w.alloc (.cells #[.slice ta c.ts.length tc, .slice ca c.cs.length cc, .slice sa c.ss.length sc, .slice da c.d.length dc, .int .i64 c.n] 28)).alloc (.cells #[.slice none 0 0, .slice none 0 0, .slice none 0 0, .slice none 0 0, .int .i64 0] 28)) (w.heap.size + 1) 28 [.slice none 0 0, .slice none 0 0, .slice none 0 0, .slice none 0 0, .int .i64 0] ∧ Below w.heap.size w ((w.alloc (.cells #[.slice ta c.ts.length tc, .slice ca c.cs.length cc, .slice sa c.ss.length sc, .slice da c.d.length dc, .int .i64 c.n] 28)).alloc (.cells #[.slice none 0 0, .slice none 0 0, .slice none 0 0, .slice none 0 0, .int .i64 0] 28))) := ⟨(CBox.new w 28 [.slice ta c.ts.length tc, .slice ca c.cs.length cc, .slice sa c.ss.length sc, .slice da c.d.length dc, .int .i64 c.n]).past b2, c2, bb⟩
  have SR0 : Hid (SrC P ((w.alloc (.cells #[.slice ta c.ts.length tc, .slice ca c.cs.length cc, .slice sa c.ss.length sc, .slice da c.d.length dc, .int .i64 c.n] 28)).alloc (.cells #[.slice none 0 0, .slice none 0 0, .slice none 0 0, .slice none 0 0, .int .i64 0] 28)) (.slice ta c.ts.length tc) (.slice ca c.cs.length cc) (.slice sa c.ss.length sc) (.slice da c.d.length dc) c) := ⟨h1.past bb, h2.past bb, h3.past bb, h4.past bb⟩
  clear h1 h2 h3 h4 b1 b2 s1 bb c2 hs
  have GL0 : Hid (w.heap.size < w.heap.size + 1) := by unfold Hid; omega
  go_enter Try.func19, Try.ntmps19
  go_upto_region 1 with fail
  generalize w.heap.size + 1 = b2 at N0 GL0 ⊢
  generalize hbw : w.heap.size = b1 at N0 GL0 ⊢
  have GB : Hid (w.heap.size = b1) := hbw
  have GE : Hid (b1 ≤ w.heap.size) := by unfold Hid; omega
  have GL : Hid (b1 < b2) := GL0.out
  clear hbw GL0
  generalize (w.alloc _).alloc _ = W0 at N0 SR0 ⊢
  refine wp_region_held_drew (S := fun V' => CBox V' b1 28 [.slice ta c.ts.length tc, .slice ca c.cs.length cc, .slice sa c.ss.length sc, .slice da c.d.length dc, .int .i64 c.n]) (by kernel_rfl) (N0.out.1.past below_drew) (fun HH => ?_)
  have BX : Hid (CBox W0.drew b2 28 [.slice none 0 0, .slice none 0 0, .slice none 0 0, .slice none 0 0, .int .i64 0]) := N0.out.2.1.past below_drew
  have B : Hid (Below b1 w W0.drew) := N0.out.2.2.drew
  have SRC : Hid (SrC P W0.drew (.slice ta c.ts.length tc) (.slice ca c.cs.length cc) (.slice sa c.ss.length sc) (.slice da c.d.length dc) c) := SR0.out.past below_drew
  clear N0 SR0
  generalize W0.drew = z0 at HH BX B SRC ⊢
  refine wpAnyH_take (i := 0) (v := .pointer (some ⟨b1, 0, none⟩)) ov0 (by kernel_rfl) (by kernel_rfl) (by kernel_rfl) (fun _ _ _ h => h) (Or.inl ⟨by rfl, fun V' hS => ?_⟩) HH ?_
  · go_simp
  simp only [Act.put, List.setIfInBounds_toArray, List.set_cons_zero, List.set_cons_succ]
  refine wpAnyH_take (i := 1) (v := .slice ta c.ts.length tc) ov1 (by kernel_rfl) (by kernel_rfl) (by kernel_rfl) (fun _ _ _ h => h) (Or.inl ⟨by rfl, fun V' hS => ?_⟩) HH ?_
  · have c0 := hS.cell 0
    go_simp
  simp only [Act.put, List.setIfInBounds_toArray, List.set_cons_zero, List.set_cons_succ]
  refine wpAnyH_take (i := 3) (v := .pointer (some ⟨b1, 1, none⟩)) ov3 (by kernel_rfl) (by kernel_rfl) (by kernel_rfl) (fun _ _ _ h => h) (Or.inl ⟨by rfl, fun V' hS => ?_⟩) HH ?_
  · go_simp
  simp only [Act.put, List.setIfInBounds_toArray, List.set_cons_zero, List.set_cons_succ]
  refine wpAnyH_take (i := 4) (v := .slice ca c.cs.length cc) ov4 (by kernel_rfl) (by kernel_rfl) (by kernel_rfl) (fun _ _ _ h => h) (Or.inl ⟨by rfl, fun V' hS => ?_⟩) HH ?_
  · have c0 := hS.cell 1
    go_simp
  simp only [Act.put, List.setIfInBounds_toArray, List.set_cons_zero, List.set_cons_succ]
  refine wpAnyH_take (i := 6) (v := .pointer (some ⟨b1, 2, none⟩)) ov6 (by kernel_rfl) (by kernel_rfl) (by kernel_rfl) (fun _ _ _ h => h) (Or.inl ⟨by rfl, fun V' hS => ?_⟩) HH ?_
  · go_simp
  simp only [Act.put, List.setIfInBounds_toArray, List.set_cons_zero, List.set_cons_succ]
  refine wpAnyH_take (i := 7) (v := .slice sa c.ss.length sc) ov7 (by kernel_rfl) (by kernel_rfl) (by kernel_rfl) (fun _ _ _ h => h) (Or.inl ⟨by rfl, fun V' hS => ?_⟩) HH ?_
  · have c0 := hS.cell 2
    go_simp
  simp only [Act.put, List.setIfInBounds_toArray, List.set_cons_zero, List.set_cons_succ]
  refine wpAnyH_take (i := 9) (v := .pointer (some ⟨b1, 3, none⟩)) ov9 (by kernel_rfl) (by kernel_rfl) (by kernel_rfl) (fun _ _ _ h => h) (Or.inl ⟨by rfl, fun V' hS => ?_⟩) HH ?_
  · go_simp
  simp only [Act.put, List.setIfInBounds_toArray, List.set_cons_zero, List.set_cons_succ]
  refine wpAnyH_take (i := 10) (v := .slice da c.d.length dc) ov10 (by kernel_rfl) (by kernel_rfl) (by kernel_rfl) (fun _ _ _ h => h) (Or.inl ⟨by rfl, fun V' hS => ?_⟩) HH ?_
  · have c0 := hS.cell 3
    go_simp
  simp only [Act.put, List.setIfInBounds_toArray, List.set_cons_zero, List.set_cons_succ]
  refine wpAnyH_take (i := 12) (v := .pointer (some ⟨b1, 4, none⟩)) ov12 (by kernel_rfl) (by kernel_rfl) (by kernel_rfl) (fun _ _ _ h => h) (Or.inl ⟨by rfl, fun V' hS => ?_⟩) HH ?_
  · go_simp
  simp only [Act.put, List.setIfInBounds_toArray, List.set_cons_zero, List.set_cons_succ]
  refine wpAnyH_take (i := 13) (v := .int .i64 c.n) ov13 (by kernel_rfl) (by kernel_rfl) (by kernel_rfl) (fun _ _ _ h => h) (Or.inl ⟨by rfl, fun V' hS => ?_⟩) HH ?_
  · have c0 := hS.cell 4
    go_simp
  simp only [Act.put, List.setIfInBounds_toArray, List.set_cons_zero, List.set_cons_succ]
  refine wpAnyH_ready (rs := [2]) (by kernel_rfl) (by simp) ?_
  refine AllReadyH.cons ov2 (fun K hK => ?_) AllReadyH.nil
  rw [if_pos (by rfl)]
  refine wp_appTs _ _ rfl b1 (Nat.le_trans GE.out B.out.size) (.slice none 0 0) [] rfl (World.ownsRow_nil _ _ _ _) (.slice ta c.ts.length tc) c.ts rfl SRC.out.t (by have := HSM.out; unfold Small at this; simp only [List.length_nil]; omega) ?_
  intro v9 z1 hA
  obtain ⟨qa, qc, e9⟩ := owns_sl hA.row
  rw [List.nil_append] at e9
  subst e9
  have hB := hA.nil_below
  have FT9 : Hid (z1.ownsRow b1 77 3 (.slice qa c.ts.length qc) c.ts.length (tV c.ts)) := hA.row
  clear hA
  have B9 := B.out.trans (hB.mono (Nat.le_trans GE.out B.out.size))
  clear B
  have B : Hid (Below b1 w z1) := B9
  clear B9
  have S9 := SRC.out.past hB
  clear SRC
  have SRC : Hid _ := S9
  clear S9
  have T9 := BX.out.past hB
  clear BX
  have BX : Hid (CBox z1 b2 28 [.slice none 0 0, .slice none 0 0, .slice none 0 0, .slice none 0 0, .int .i64 0]) := T9
  clear T9
  have H9 := HH.past hB
  clear HH
  have HH := H9
  clear H9
  (try (have q9 := FT.out; clear FT; have FT : Hid _ := owns_past q9 hB; clear q9))
  (try (have q9 := FC.out; clear FC; have FC : Hid _ := PO.past q9 hB; clear q9))
  (try (have q9 := FZ.out; clear FZ; have FZ : Hid _ := PO.past q9 hB; clear q9))
  (try (have q9 := FD.out; clear FD; have FD : Hid _ := owns_past q9 hB; clear q9))
  have FT := FT9
  clear FT9 hB
  refine hK.out _ z1 HH (fun _ => ?_)
  clear hK K
  (try simp only [Act.put, List.setIfInBounds_toArray, List.set_cons_zero, List.set_cons_succ])
  refine wpAnyH_ready (rs := [5]) (by kernel_rfl) (by simp) ?_
  refine AllReadyH.cons ov5 (fun K hK => ?_) AllReadyH.nil
  rw [if_pos (by rfl)]
  go_simp
  refine (ownParts_is _ _ c.cs SRC.out.p (by have := HSM.out; unfold Small at this; omega)).mono ?_
  rintro e z1 ⟨v9, rfl, hP, hB⟩
  obtain ⟨xa, xc, rfl⟩ := PO.sl hP
  have FC9 : Hid (PO b1 z1 (.slice xa c.cs.length xc) c.cs) := hP.base (Nat.le_trans GE.out B.out.size)
  clear hP
  have B9 := B.out.trans (hB.mono (Nat.le_trans GE.out B.out.size))
  clear B
  have B : Hid (Below b1 w z1) := B9
  clear B9
  have S9 := SRC.out.past hB
  clear SRC
  have SRC : Hid _ := S9
  clear S9
  have T9 := BX.out.past hB
  clear BX
  have BX : Hid (CBox z1 b2 28 [.slice none 0 0, .slice none 0 0, .slice none 0 0, .slice none 0 0, .int .i64 0]) := T9
  clear T9
  have H9 := HH.past hB
  clear HH
  have HH := H9
  clear H9
  (try (have q9 := FT.out; clear FT; have FT : Hid _ := owns_past q9 hB; clear q9))
  (try (have q9 := FC.out; clear FC; have FC : Hid _ := PO.past q9 hB; clear q9))
  (try (have q9 := FZ.out; clear FZ; have FZ : Hid _ := PO.past q9 hB; clear q9))
  (try (have q9 := FD.out; clear FD; have FD : Hid _ := owns_past q9 hB; clear q9))
  have FC := FC9
  clear FC9 hB
  (try go_wp2_with fail)
  refine hK.out _ _ HH (fun _ => ?_)
  clear hK K
  (try simp only [Act.put, List.setIfInBounds_toArray, List.set_cons_zero, List.set_cons_succ])
  refine wpAnyH_ready (rs := [8]) (by kernel_rfl) (by simp) ?_
  refine AllReadyH.cons ov8 (fun K hK => ?_) AllReadyH.nil
  rw [if_pos (by rfl)]
  go_simp
  refine (ownParts_is _ _ c.ss SRC.out.s (by have := HSM.out; unfold Small at this; omega)).mono ?_
  rintro e z1 ⟨v9, rfl, hP, hB⟩
  obtain ⟨ya, yc, rfl⟩ := PO.sl hP
  have FAP : Hid (∀ g, OwnV (.slice ya c.ss.length yc) g → ¬ OwnV (.slice xa c.cs.length xc) g) := fun g h1 h2 => by have q1 := (PO.lt hP g h1).1; have q2 := (PO.lt FC.out g h2).2; omega
  have FZ9 : Hid (PO b1 z1 (.slice ya c.ss.length yc) c.ss) := hP.base (Nat.le_trans GE.out B.out.size)
  clear hP
  have B9 := B.out.trans (hB.mono (Nat.le_trans GE.out B.out.size))
  clear B
  have B : Hid (Below b1 w z1) := B9
  clear B9
  have S9 := SRC.out.past hB
  clear SRC
  have SRC : Hid _ := S9
  clear S9
  have T9 := BX.out.past hB
  clear BX
  have BX : Hid (CBox z1 b2 28 [.slice none 0 0, .slice none 0 0, .slice none 0 0, .slice none 0 0, .int .i64 0]) := T9
  clear T9
  have H9 := HH.past hB
  clear HH
  have HH := H9
  clear H9
  (try (have q9 := FT.out; clear FT; have FT : Hid _ := owns_past q9 hB; clear q9))
  (try (have q9 := FC.out; clear FC; have FC : Hid _ := PO.past q9 hB; clear q9))
  (try (have q9 := FZ.out; clear FZ; have FZ : Hid _ := PO.past q9 hB; clear q9))
  (try (have q9 := FD.out; clear FD; have FD : Hid _ := owns_past q9 hB; clear q9))
  have FZ := FZ9
  clear FZ9 hB
  (try go_wp2_with fail)
  refine hK.out _ _ HH (fun _ => ?_)
  clear hK K
  (try simp only [Act.put, List.setIfInBounds_toArray, List.set_cons_zero, List.set_cons_succ])
  refine wpAnyH_ready (rs := [11]) (by kernel_rfl) (by simp) ?_
  refine AllReadyH.cons ov11 (fun K hK => ?_) AllReadyH.nil
  rw [if_pos (by rfl)]
  go_simp
  refine (own_is _ _ c.d SRC.out.d (by have := HSM.out; unfold Small at this; omega)).mono ?_
  rintro e z1 ⟨v9, rfl, hP, hB⟩
  obtain ⟨ea, ec, rfl⟩ := owns_sl hP
  have FD9 : Hid (z1.ownsRow b1 5 1 (.slice ea c.d.length ec) c.d.length (bV c.d)) := owns_base hP (Nat.le_trans GE.out B.out.size)
  clear hP
  have B9 := B.out.trans (hB.mono (Nat.le_trans GE.out B.out.size))
  clear B
  have B : Hid (Below b1 w z1) := B9
  clear B9
  have S9 := SRC.out.past hB
  clear SRC
  have SRC : Hid _ := S9
  clear S9
  have T9 := BX.out.past hB
  clear BX
  have BX : Hid (CBox z1 b2 28 [.slice none 0 0, .slice none 0 0, .slice none 0 0, .slice none 0 0, .int .i64 0]) := T9
  clear T9
  have H9 := HH.past hB
  clear HH
  have HH := H9
  clear H9
  (try (have q9 := FT.out; clear FT; have FT : Hid _ := owns_past q9 hB; clear q9))
  (try (have q9 := FC.out; clear FC; have FC : Hid _ := PO.past q9 hB; clear q9))
  (try (have q9 := FZ.out; clear FZ; have FZ : Hid _ := PO.past q9 hB; clear q9))
  (try (have q9 := FD.out; clear FD; have FD : Hid _ := owns_past q9 hB; clear q9))
  have FD := FD9
  clear FD9 hB
  (try go_wp2_with fail)
  refine hK.out _ _ HH (fun _ => ?_)
  clear hK K
  (try simp only [Act.put, List.setIfInBounds_toArray, List.set_cons_zero, List.set_cons_succ])
  refine wpAnyH_take (i := 14) (v := .agg #[.slice qa c.ts.length qc, .slice xa c.cs.length xc, .slice ya c.ss.length yc, .slice ea c.d.length ec, .int .i64 c.n]) ov14 (by kernel_rfl) (by kernel_rfl) (by kernel_rfl) (fun _ _ _ h => h) (Or.inl ⟨by rfl, fun V' hS => ?_⟩) HH ?_
  · go_simp
  simp only [Act.put, List.setIfInBounds_toArray, List.set_cons_zero, List.set_cons_succ]
  refine wpAnyH_ready (rs := [15]) (by kernel_rfl) (by simp) ?_
  refine AllReadyH.cons ov15 (fun K hK => ?_) AllReadyH.nil
  rw [if_pos (by rfl)]
  have k0 : z1.cell? ⟨b2, 0, none⟩ = some (.slice none 0 0) := BX.out.cell 0
  have k1 : z1.cell? ⟨b2, 1, none⟩ = some (.slice none 0 0) := BX.out.cell 1
  have k2 : z1.cell? ⟨b2, 2, none⟩ = some (.slice none 0 0) := BX.out.cell 2
  have k3 : z1.cell? ⟨b2, 3, none⟩ = some (.slice none 0 0) := BX.out.cell 3
  have k4 : z1.cell? ⟨b2, 4, none⟩ = some (.int .i64 0) := BX.out.cell 4
  have f0 := CBox.frozen BX.out 0
  have f1 := CBox.frozen BX.out 1
  have f2 := CBox.frozen BX.out 2
  have f3 := CBox.frozen BX.out 3
  have f4 := CBox.frozen BX.out 4
  go_simp
  clear k0 k1 k2 k3 k4 f0 f1 f2 f3 f4
  have hs : But (fun y => y = b2) z1 (((((z1.setCell ⟨b2, 0, none⟩ (.slice qa c.ts.length qc)).setCell ⟨b2, 1, none⟩ (.slice xa c.cs.length xc)).setCell ⟨b2, 2, none⟩ (.slice ya c.ss.length yc)).setCell ⟨b2, 3, none⟩ (.slice ea c.d.length ec)).setCell ⟨b2, 4, none⟩ (.int .i64 c.n)) := ((((((But.refl (fun y => y = b2) z1).setCell ⟨b2, 0, none⟩ _ (Or.inl rfl)).setCell ⟨b2, 1, none⟩ _ (Or.inl rfl)).setCell ⟨b2, 2, none⟩ _ (Or.inl rfl)).setCell ⟨b2, 3, none⟩ _ (Or.inl rfl)).setCell ⟨b2, 4, none⟩ _ (Or.inl rfl))
  have ra : Alien z1 b2 := ⟨_, _, BX.out, by decide, by decide, by decide⟩
  have cb : CBox (((((z1.setCell ⟨b2, 0, none⟩ (.slice qa c.ts.length qc)).setCell ⟨b2, 1, none⟩ (.slice xa c.cs.length xc)).setCell ⟨b2, 2, none⟩ (.slice ya c.ss.length yc)).setCell ⟨b2, 3, none⟩ (.slice ea c.d.length ec)).setCell ⟨b2, 4, none⟩ (.int .i64 c.n)) b2 28 [.slice qa c.ts.length qc, .slice xa c.cs.length xc, .slice ya c.ss.length yc, .slice ea c.d.length ec, .int .i64 c.n] := (((((BX.out.set 0 _).set 1 _).set 2 _).set 3 _).set 4 _)
  have HF : Hid (CBox (((((z1.setCell ⟨b2, 0, none⟩ (.slice qa c.ts.length qc)).setCell ⟨b2, 1, none⟩ (.slice xa c.cs.length xc)).setCell ⟨b2, 2, none⟩ (.slice ya c.ss.length yc)).setCell ⟨b2, 3, none⟩ (.slice ea c.d.length ec)).setCell ⟨b2, 4, none⟩ (.int .i64 c.n)) b2 28 [.slice qa c.ts.length qc, .slice xa c.cs.length xc, .slice ya c.ss.length yc, .slice ea c.d.length ec, .int .i64 c.n] ∧ DO b1 (((((z1.setCell ⟨b2, 0, none⟩ (.slice qa c.ts.length qc)).setCell ⟨b2, 1, none⟩ (.slice xa c.cs.length xc)).setCell ⟨b2, 2, none⟩ (.slice ya c.ss.length yc)).setCell ⟨b2, 3, none⟩ (.slice ea c.d.length ec)).setCell ⟨b2, 4, none⟩ (.int .i64 c.n)) (.agg #[.slice qa c.ts.length qc, .slice xa c.cs.length xc, .slice ya c.ss.length yc, .slice ea c.d.length ec, .int .i64 c.n]) c ∧ Below b1 w (((((z1.setCell ⟨b2, 0, none⟩ (.slice qa c.ts.length qc)).setCell ⟨b2, 1, none⟩ (.slice xa c.cs.length xc)).setCell ⟨b2, 2, none⟩ (.slice ya c.ss.length yc)).setCell ⟨b2, 3, none⟩ (.slice ea c.d.length ec)).setCell ⟨b2, 4, none⟩ (.int .i64 c.n))) := ⟨cb, ⟨_, _, _, _, _, _, _, _, rfl, row_alienT FT.out hs ra, PO.alien FC.out hs ra, PO.alien FZ.out hs ra, row_alien FD.out hs ra, FAP.out⟩, B.out.trans (hs.below (fun g e => by have := GL.out; omega) (Nat.le_trans GE.out B.out.size))⟩
  have HHN := HH.but hs (by have := GL.out; omega)
  clear hs ra cb HH
  refine hK.out _ (((((z1.setCell ⟨b2, 0, none⟩ (.slice qa c.ts.length qc)).setCell ⟨b2, 1, none⟩ (.slice xa c.cs.length xc)).setCell ⟨b2, 2, none⟩ (.slice ya c.ss.length yc)).setCell ⟨b2, 3, none⟩ (.slice ea c.d.length ec)).setCell ⟨b2, 4, none⟩ (.int .i64 c.n)) HHN (fun _ => ?_)
  clear hK K
  (try simp only [Act.put, List.setIfInBounds_toArray, List.set_cons_zero, List.set_cons_succ])
  generalize (((((z1.setCell ⟨b2, 0, none⟩ (.slice qa c.ts.length qc)).setCell ⟨b2, 1, none⟩ (.slice xa c.cs.length xc)).setCell ⟨b2, 2, none⟩ (.slice ya c.ss.length yc)).setCell ⟨b2, 3, none⟩ (.slice ea c.d.length ec)).setCell ⟨b2, 4, none⟩ (.int .i64 c.n)) = Z9 at HF HHN ⊢
  refine wpAnyH_done (by kernel_rfl) ?_ _
  clear HHN
  go_wp2
  refine bodyPost_ret (v := .agg #[.slice qa c.ts.length qc, .slice xa c.cs.length xc, .slice ya c.ss.length yc, .slice ea c.d.length ec, .int .i64 c.n]) (results_c (p := 2) (ty := 28) Try.results19 _ _ _ ⟨b2, 0, none⟩ rfl (run_loadVar_mid Z9 b2 0 28 [.slice qa c.ts.length qc, .slice xa c.cs.length xc, .slice ya c.ss.length yc, .slice ea c.d.length ec, .int .i64 c.n] _ HF.out.1.range Try.underlying28 rfl (by kernel_rfl))) rfl ?_
  exact ⟨_, rfl, by rw [GB.out]; exact HF.out.2.1, by rw [GB.out]; exact HF.out.2.2⟩
end Go.Proofs.Ytndhabhlajldeaa
/- The laws' weight: how many bytes, types and lists a container has. -/
namespace Go.Proofs.Ytndhabhlajldeaa
open Go.RowKit
def fourOf (c : Con) : Nat := c.ts.length + c.cs.length + c.ss.length + c.d.length
def total (c : Con) : Nat := fourOf c + c.cs.flatten.length + c.ss.flatten.length
theorem total_small {c : Con} (h : total c ≤ 2097152) : Small c := by
  unfold total fourOf at h
  unfold Small
  omega
set_option maxHeartbeats 8000000 in
set_option maxRecDepth 100000 in
theorem weight_is {P : Nat → Prop} (w : World) (v : Value) (c : Con) (h : CW P w v c) : Calls Try.prog 18 #[v] w fun e w' => (∃ n : Nat, e = .returned (.int .i64 (n : Int)) ∧ (n ≤ 2097152 → total c = n)) ∧ Below w.heap.size w w' := by
  obtain ⟨tv, cv, sv, dv, rfl, h1, h2, h3, h4⟩ := h
  obtain ⟨ta, tc, rfl, _, l1⟩ := h1.len
  obtain ⟨ca, cc, rfl, _, l2⟩ := h2.len
  obtain ⟨sa, sc, rfl, _, l3⟩ := h3.len
  obtain ⟨da, dc, rfl, _, l4⟩ := h4.len
  have b1 := below_alloc w (.cells #[.slice ta c.ts.length tc, .slice ca c.cs.length cc, .slice sa c.ss.length sc, .slice da c.d.length dc, .int .i64 c.n] 28)
  have HX : Hid (CBox (w.alloc (.cells #[.slice ta c.ts.length tc, .slice ca c.cs.length cc, .slice sa c.ss.length sc, .slice da c.d.length dc, .int .i64 c.n] 28)) w.heap.size 28 [.slice ta c.ts.length tc, .slice ca c.cs.length cc, .slice sa c.ss.length sc, .slice da c.d.length dc, .int .i64 c.n] ∧ Below w.heap.size w (w.alloc (.cells #[.slice ta c.ts.length tc, .slice ca c.cs.length cc, .slice sa c.ss.length sc, .slice da c.d.length dc, .int .i64 c.n] 28))) := ⟨CBox.new w _ [_, _, _, _, _], b1⟩
  have HS : Hid (PL P (w.alloc (.cells #[.slice ta c.ts.length tc, .slice ca c.cs.length cc, .slice sa c.ss.length sc, .slice da c.d.length dc, .int .i64 c.n] 28)) (.slice ca c.cs.length cc) c.cs ∧ PL P (w.alloc (.cells #[.slice ta c.ts.length tc, .slice ca c.cs.length cc, .slice sa c.ss.length sc, .slice da c.d.length dc, .int .i64 c.n] 28)) (.slice sa c.ss.length sc) c.ss) := ⟨h2.past b1, h3.past b1⟩
  obtain ⟨x1, hx1⟩ : ∃ x, x = c.ts.length + c.cs.length := ⟨_, rfl⟩
  obtain ⟨x2, hx2⟩ : ∃ x, x = x1 + c.ss.length := ⟨_, rfl⟩
  obtain ⟨x3, hx3⟩ : ∃ x, x = x2 + c.d.length := ⟨_, rfl⟩
  have r1 : (c.ts.length : Int) + (c.cs.length : Int) = (x1 : Int) := by omega
  have r2 : (x1 : Int) + (c.ss.length : Int) = (x2 : Int) := by omega
  have r3 : (x2 : Int) + (c.d.length : Int) = (x3 : Int) := by omega
  have w1 : IntKind.i64.wrap (x1 : Int) = (x1 : Int) := by rw [IntKind.wrap_i64]; omega
  have w2 : IntKind.i64.wrap (x2 : Int) = (x2 : Int) := by rw [IntKind.wrap_i64]; omega
  have w3 : IntKind.i64.wrap (x3 : Int) = (x3 : Int) := by rw [IntKind.wrap_i64]; omega
  have H4 : Hid (x3 = fourOf c) := by unfold Hid fourOf; omega
  have HLL : Hid (c.cs.length ≤ 1152921504606846976 ∧ c.ss.length ≤ 1152921504606846976) := ⟨l2, l3⟩
  clear h1 h2 h3 h4 b1 hx1 hx2 hx3 l1 l2 l3 l4
  go_enter Try.func18, Try.ntmps18
  go_upto_region 1 with fail
  generalize hbx : w.heap.size = bx at HX ⊢
  have GB : Hid (w.heap.size = bx) := hbx
  clear hbx
  generalize w.alloc _ = W0 at HX HS ⊢
  have a0 : W0.cell? ⟨bx, 0, none⟩ = some (.slice ta c.ts.length tc) := HX.out.1.cell 0
  have a1 : W0.cell? ⟨bx, 1, none⟩ = some (.slice ca c.cs.length cc) := HX.out.1.cell 1
  have a2 : W0.cell? ⟨bx, 2, none⟩ = some (.slice sa c.ss.length sc) := HX.out.1.cell 2
  have a3 : W0.cell? ⟨bx, 3, none⟩ = some (.slice da c.d.length dc) := HX.out.1.cell 3
  have a4 : W0.cell? ⟨bx, 4, none⟩ = some (.int .i64 c.n) := HX.out.1.cell 4
  go_upto_region 2 with fail
  clear r1 r2 r3 w1 w2 w3 a0 a3 a4
  go_wp2
  go_loopw [3, 4] (fun s3 s4 wr => ∃ (k m : Nat), s4 = .int .i64 (k : Int) ∧ s3 = .int .i64 (m : Int) ∧ k ≤ c.cs.length ∧ m = x3 + (c.cs.take k).flatten.length ∧ wr = W0) (fun _ s4 _ => c.cs.length - (intOf s4).toNat)
  case atStart => exact ⟨0, x3, rfl, rfl, by omega, by simp, rfl⟩
  case round =>
    obtain ⟨k, m, rfl, rfl, hk, hn, hw⟩ := hrel
    have hw2 := hw.symm
    clear hw
    subst hw2
    have HN : Hid (m = x3 + (c.cs.take k).flatten.length) := hn
    clear hn
    by_cases e : k = c.cs.length
    · have q1 : ¬ (k : Int) < (c.cs.length : Int) := by omega
      have HT : Hid (m = fourOf c + c.cs.flatten.length ∨ 2097152 < m) := Or.inl (by have h9 := HN.out; rw [List.take_of_length_le (by omega)] at h9; rw [← H4.out]; exact h9)
      go_wp2
      go_loopw [3, 5] (fun s3 s5 wr => ∃ (k n : Nat), s5 = .int .i64 (k : Int) ∧ s3 = .int .i64 (n : Int) ∧ k ≤ c.ss.length ∧ (n = m + (c.ss.take k).flatten.length ∨ 2097152 < n) ∧ wr = W0) (fun _ s5 _ => c.ss.length - (intOf s5).toNat)
      case atStart => exact ⟨0, m, rfl, rfl, by omega, Or.inl (by simp), rfl⟩
      case round =>
        obtain ⟨k, n, rfl, rfl, hk, hn, hw⟩ := hrel
        have hw2 := hw.symm
        clear hw
        subst hw2
        have HN : Hid ((n = m + (c.ss.take k).flatten.length ∨ 2097152 < n)) := hn
        clear hn
        by_cases e : k = c.ss.length
        · have q1 : ¬ (k : Int) < (c.ss.length : Int) := by omega
          have HF : Hid (total c = n ∨ (2097152 < n)) := by
            have h9 := HN.out
            have h8 := HT.out
            unfold Hid total
            rw [List.take_of_length_le (by omega)] at h9; omega
          clear e
          go_wp2
          go_ret
          exact ⟨⟨n, rfl, by have := HF.out; omega⟩, by rw [GB.out]; exact HX.out.2⟩
        · have q1 : (k : Int) < (c.ss.length : Int) := by omega
          by_cases en : n ≤ 2097152
          · have q2 : (n : Int) ≤ 2097152 := by omega
            obtain ⟨x, hx⟩ : ∃ x, c.ss[k]? = some x := ⟨c.ss[k]'(by omega), List.getElem?_eq_getElem _⟩
            obtain ⟨g, a, u, eg, hcell, hb⟩ := (HS.out.2).get hx
            subst eg
            obtain ⟨ad2, cap2, rfl, _, hl2⟩ := hb.len
            obtain ⟨n2, hn2⟩ : ∃ n2, n2 = n + x.length := ⟨_, rfl⟩
            have r1 : (n : Int) + (x.length : Int) = (n2 : Int) := by omega
            have w1 : IntKind.i64.wrap (n2 : Int) = (n2 : Int) := by rw [IntKind.wrap_i64]; omega
            have HN2 : Hid ((n2 = m + (c.ss.take (k + 1)).flatten.length ∨ 2097152 < n2)) := by
              have h9 := HN.out
              unfold Hid
              rw [flatten_snoc hx, List.length_append]
              omega
            have HK : Hid (k + 1 ≤ c.ss.length) := by unfold Hid; omega
            have kB : (k : Int) < 1152921504606846976 := by have := HLL.out; omega
            clear hx hb e en hn2 hl2 hk
            go_wp2
            go_roundw
            case rel => exact ⟨k + 1, n2, by first | rfl | go_num, rfl, HK.out, HN2.out, by first | rfl | trivial⟩
            case measure => simp [intOf]; omega
          · have q2 : ¬ (n : Int) ≤ 2097152 := by omega
            have HF : Hid (total c = n ∨ (2097152 < n)) := by
              have h9 := HN.out
              have h8 := HT.out
              unfold Hid total
              omega
            clear e en
            go_wp2
            go_ret
            exact ⟨⟨n, rfl, by have := HF.out; omega⟩, by rw [GB.out]; exact HX.out.2⟩
    · have q1 : (k : Int) < (c.cs.length : Int) := by omega
      by_cases en : m ≤ 2097152
      · have q2 : (m : Int) ≤ 2097152 := by omega
        obtain ⟨x, hx⟩ : ∃ x, c.cs[k]? = some x := ⟨c.cs[k]'(by omega), List.getElem?_eq_getElem _⟩
        obtain ⟨g, a, u, eg, hcell, hb⟩ := (HS.out.1).get hx
        subst eg
        obtain ⟨ad2, cap2, rfl, _, hl2⟩ := hb.len
        obtain ⟨m2, hn2⟩ : ∃ m2, m2 = m + x.length := ⟨_, rfl⟩
        have r1 : (m : Int) + (x.length : Int) = (m2 : Int) := by omega
        have w1 : IntKind.i64.wrap (m2 : Int) = (m2 : Int) := by rw [IntKind.wrap_i64]; omega
        have HN2 : Hid (m2 = x3 + (c.cs.take (k + 1)).flatten.length) := by
          have h9 := HN.out
          unfold Hid
          rw [flatten_snoc hx, List.length_append]
          omega
        have HK : Hid (k + 1 ≤ c.cs.length) := by unfold Hid; omega
        have kB : (k : Int) < 1152921504606846976 := by have := HLL.out; omega
        clear hx hb e en hn2 hl2 hk
        go_wp2
        go_roundw
        case rel => exact ⟨k + 1, m2, by first | rfl | go_num, rfl, HK.out, HN2.out, by first | rfl | trivial⟩
        case measure => simp [intOf]; omega
      · have q2 : ¬ (m : Int) ≤ 2097152 := by omega
        have HT : Hid (m = fourOf c + c.cs.flatten.length ∨ 2097152 < m) := Or.inr (by omega)
        go_wp2
        go_loopw [3, 5] (fun s3 s5 wr => ∃ (k n : Nat), s5 = .int .i64 (k : Int) ∧ s3 = .int .i64 (n : Int) ∧ k ≤ c.ss.length ∧ (n = m + (c.ss.take k).flatten.length ∨ 2097152 < n) ∧ wr = W0) (fun _ s5 _ => c.ss.length - (intOf s5).toNat)
        case atStart => exact ⟨0, m, rfl, rfl, by omega, Or.inl (by simp), rfl⟩
        case round =>
          obtain ⟨k, n, rfl, rfl, hk, hn, hw⟩ := hrel
          have hw2 := hw.symm
          clear hw
          subst hw2
          have HN : Hid ((n = m + (c.ss.take k).flatten.length ∨ 2097152 < n)) := hn
          clear hn
          by_cases e : k = c.ss.length
          · have q1 : ¬ (k : Int) < (c.ss.length : Int) := by omega
            have HF : Hid (total c = n ∨ (2097152 < n)) := by
              have h9 := HN.out
              have h8 := HT.out
              unfold Hid total
              rw [List.take_of_length_le (by omega)] at h9; omega
            clear e
            go_wp2
            go_ret
            exact ⟨⟨n, rfl, by have := HF.out; omega⟩, by rw [GB.out]; exact HX.out.2⟩
          · have q1 : (k : Int) < (c.ss.length : Int) := by omega
            by_cases en : n ≤ 2097152
            · have q2 : (n : Int) ≤ 2097152 := by omega
              obtain ⟨x, hx⟩ : ∃ x, c.ss[k]? = some x := ⟨c.ss[k]'(by omega), List.getElem?_eq_getElem _⟩
              obtain ⟨g, a, u, eg, hcell, hb⟩ := (HS.out.2).get hx
              subst eg
              obtain ⟨ad2, cap2, rfl, _, hl2⟩ := hb.len
              obtain ⟨n2, hn2⟩ : ∃ n2, n2 = n + x.length := ⟨_, rfl⟩
              have r1 : (n : Int) + (x.length : Int) = (n2 : Int) := by omega
              have w1 : IntKind.i64.wrap (n2 : Int) = (n2 : Int) := by rw [IntKind.wrap_i64]; omega
              have HN2 : Hid ((n2 = m + (c.ss.take (k + 1)).flatten.length ∨ 2097152 < n2)) := by
                have h9 := HN.out
                unfold Hid
                rw [flatten_snoc hx, List.length_append]
                omega
              have HK : Hid (k + 1 ≤ c.ss.length) := by unfold Hid; omega
              have kB : (k : Int) < 1152921504606846976 := by have := HLL.out; omega
              clear hx hb e en hn2 hl2 hk
              go_wp2
              go_roundw
              case rel => exact ⟨k + 1, n2, by first | rfl | go_num, rfl, HK.out, HN2.out, by first | rfl | trivial⟩
              case measure => simp [intOf]; omega
            · have q2 : ¬ (n : Int) ≤ 2097152 := by omega
              have HF : Hid (total c = n ∨ (2097152 < n)) := by
                have h9 := HN.out
                have h8 := HT.out
                unfold Hid total
                omega
              clear e en
              go_wp2
              go_ret
              exact ⟨⟨n, rfl, by have := HF.out; omega⟩, by rw [GB.out]; exact HX.out.2⟩
end Go.Proofs.Ytndhabhlajldeaa
/- What is refused: why and where; whole and open. -/
namespace Go.Proofs.Ytndhabhlajldeaa
end Go.Proofs.Ytndhabhlajldeaa
/- The law's may: of a container that may be it is true. -/
namespace Go.Proofs.Ytndhabhlajldeaa
open Go.RowKit
theorem chkT_num : ∀ (l : List Ty) (i : Nat), chkT i l = 0 → ∀ t ∈ l, (0 ≤ t.1 ∧ t.1 ≤ 127) ∧ (0 ≤ t.2.1 ∧ t.2.1 ≤ 128) ∧ (0 ≤ t.2.2 ∧ t.2.2 ≤ 1023)
  | [], _, _ => fun t ht => by cases ht
  | x :: l, i, h => by
    unfold chkT at h
    split at h
    · exact absurd h (by decide)
    · rename_i hb
      intro t ht
      rcases List.mem_cons.1 ht with rfl | ht
      · have h0 : okIn i t.1 = true := by
          cases e : okIn i t.1
          · exact absurd (by unfold tyBad; rw [if_pos e]; omega) hb
          · rfl
        have h1 : okOut i t.2.1 = true := by
          cases e : okOut i t.2.1
          · exact absurd (by unfold tyBad; rw [if_neg (by rw [h0]; decide), if_pos e]; omega) hb
          · rfl
        have h2 : okMost t.2.2 = true := by
          cases e : okMost t.2.2
          · exact absurd (by unfold tyBad; rw [if_neg (by rw [h0]; decide), if_neg (by rw [h1]; decide), if_pos e]; omega) hb
          · rfl
        unfold okIn at h0
        unfold okOut at h1
        unfold okMost at h2
        simp at h0 h1 h2
        omega
      · exact chkT_num l (i + 1) h t ht
theorem chkT_first {x : Ty} {l : List Ty} (h : chkT 0 (x :: l) = 0) : x.1 = 0 ∧ x.2.1 = 128 := by
  unfold chkT at h
  split at h
  · exact absurd h (by decide)
  · rename_i hb
    have h0 : okIn 0 x.1 = true := by
      cases e : okIn 0 x.1
      · exact absurd (by unfold tyBad; rw [if_pos e]; omega) hb
      · rfl
    have h1 : okOut 0 x.2.1 = true := by
      cases e : okOut 0 x.2.1
      · exact absurd (by unfold tyBad; rw [if_neg (by rw [h0]; decide), if_pos e]; omega) hb
      · rfl
    unfold okIn at h0
    unfold okOut at h1
    simp at h0 h1
    omega
set_option maxHeartbeats 8000000 in
set_option maxRecDepth 100000 in
theorem may_yes {P : Nat → Prop} (w : World) (v : Value) (c : Con) (h : CW P w v c) (hm : May c) : Calls Try.prog 40 #[v] w fun e w' => e = .returned (.bool true) ∧ Below w.heap.size w w' := by
  obtain ⟨tv, cv, sv, dv, rfl, h1, h2, h3, h4⟩ := h
  obtain ⟨ta, tc, rfl, _, _⟩ := h1.len
  obtain ⟨ca, cc, rfl, _, l2⟩ := h2.len
  obtain ⟨sa, sc, rfl, _, l3⟩ := h3.len
  obtain ⟨da, dc, rfl, _, _⟩ := h4.len
  have e0 := hm.nt
  rw [e0] at h1 ⊢
  have b1 := below_alloc w (.cells #[.slice ta c.cs.length tc, .slice ca c.cs.length cc, .slice sa c.ss.length sc, .slice da c.d.length dc, .int .i64 c.n] 28)
  have HX : Hid (CBox (w.alloc (.cells #[.slice ta c.cs.length tc, .slice ca c.cs.length cc, .slice sa c.ss.length sc, .slice da c.d.length dc, .int .i64 c.n] 28)) w.heap.size 28 [.slice ta c.cs.length tc, .slice ca c.cs.length cc, .slice sa c.ss.length sc, .slice da c.d.length dc, .int .i64 c.n] ∧ Below w.heap.size w (w.alloc (.cells #[.slice ta c.cs.length tc, .slice ca c.cs.length cc, .slice sa c.ss.length sc, .slice da c.d.length dc, .int .i64 c.n] 28))) := ⟨CBox.new w _ [_, _, _, _, _], b1⟩
  have q1 : ¬ (c.cs.length : Int) < 1 := by have := hm.n1; omega
  have q2 : ¬ (1024 : Int) < (c.cs.length : Int) := by have := hm.n2; omega
  have q3 : ¬ (256 : Int) < (c.ss.length : Int) := by have := hm.ns; omega
  have q4 : ¬ c.n < (c.d.length : Int) := by have := hm.z2; omega
  have q5 : ¬ (65535 : Int) < c.n := by have := hm.z1; omega
  have HT : Hid (TL P w (.slice ta c.cs.length tc) c.ts) := h1
  have HC : Hid (PL P w (.slice ca c.cs.length cc) c.cs) := h2
  have HS : Hid (PL P w (.slice sa c.ss.length sc) c.ss) := h3
  have HM : Hid (May c) := hm
  clear h1 h2 h3 h4 b1 e0 hm
  go_enter Try.func40, Try.ntmps40
  go_upto_region 1 with fail
  generalize hbx : w.heap.size = bx at HX ⊢
  have GB : Hid (w.heap.size = bx) := hbx
  clear hbx
  generalize w.alloc _ = W0 at HX ⊢
  refine wp_region_lit ?_
  refine lst_val (v := .pointer (some ⟨bx, 1, none⟩)) (by kernel_rfl) ?_ ?_
  · go_simp
  simp only [Act.put, List.setIfInBounds_toArray, List.set_cons_zero, List.set_cons_succ]
  refine lst_val (v := .slice ca c.cs.length cc) (by kernel_rfl) ?_ ?_
  · have c0 := HX.out.1.cell 1
    go_simp
  simp only [Act.put, List.setIfInBounds_toArray, List.set_cons_zero, List.set_cons_succ]
  refine lst_val (v := .int .i64 (c.cs.length : Int)) (by kernel_rfl) ?_ ?_
  · go_simp
  simp only [Act.put, List.setIfInBounds_toArray, List.set_cons_zero, List.set_cons_succ]
  refine lst_val (v := .bool false) (by kernel_rfl) ?_ ?_
  · go_simp
  simp only [Act.put, List.setIfInBounds_toArray, List.set_cons_zero, List.set_cons_succ]
  refine lst_val (v := .bool false) (by kernel_rfl) ?_ ?_
  · go_simp
  simp only [Act.put, List.setIfInBounds_toArray, List.set_cons_zero, List.set_cons_succ]
  refine lst_val (v := .pointer (some ⟨bx, 1, none⟩)) (by kernel_rfl) ?_ ?_
  · go_simp
  simp only [Act.put, List.setIfInBounds_toArray, List.set_cons_zero, List.set_cons_succ]
  refine lst_val (v := .slice ca c.cs.length cc) (by kernel_rfl) ?_ ?_
  · have c0 := HX.out.1.cell 1
    go_simp
  simp only [Act.put, List.setIfInBounds_toArray, List.set_cons_zero, List.set_cons_succ]
  refine lst_val (v := .int .i64 (c.cs.length : Int)) (by kernel_rfl) ?_ ?_
  · go_simp
  simp only [Act.put, List.setIfInBounds_toArray, List.set_cons_zero, List.set_cons_succ]
  refine lst_val (v := .bool false) (by kernel_rfl) ?_ ?_
  · go_simp
  simp only [Act.put, List.setIfInBounds_toArray, List.set_cons_zero, List.set_cons_succ]
  refine lst_val (v := .bool false) (by kernel_rfl) ?_ ?_
  · go_simp
  simp only [Act.put, List.setIfInBounds_toArray, List.set_cons_zero, List.set_cons_succ]
  refine lst_val (v := .bool false) (by kernel_rfl) ?_ ?_
  · go_simp
  simp only [Act.put, List.setIfInBounds_toArray, List.set_cons_zero, List.set_cons_succ]
  refine lst_val (v := .pointer (some ⟨bx, 0, none⟩)) (by kernel_rfl) ?_ ?_
  · go_simp
  simp only [Act.put, List.setIfInBounds_toArray, List.set_cons_zero, List.set_cons_succ]
  refine lst_val (v := .slice ta c.cs.length tc) (by kernel_rfl) ?_ ?_
  · have c0 := HX.out.1.cell 0
    go_simp
  simp only [Act.put, List.setIfInBounds_toArray, List.set_cons_zero, List.set_cons_succ]
  refine lst_val (v := .int .i64 (c.cs.length : Int)) (by kernel_rfl) ?_ ?_
  · go_simp
  simp only [Act.put, List.setIfInBounds_toArray, List.set_cons_zero, List.set_cons_succ]
  refine lst_val (v := .pointer (some ⟨bx, 1, none⟩)) (by kernel_rfl) ?_ ?_
  · go_simp
  simp only [Act.put, List.setIfInBounds_toArray, List.set_cons_zero, List.set_cons_succ]
  refine lst_val (v := .slice ca c.cs.length cc) (by kernel_rfl) ?_ ?_
  · have c0 := HX.out.1.cell 1
    go_simp
  simp only [Act.put, List.setIfInBounds_toArray, List.set_cons_zero, List.set_cons_succ]
  refine lst_val (v := .int .i64 (c.cs.length : Int)) (by kernel_rfl) ?_ ?_
  · go_simp
  simp only [Act.put, List.setIfInBounds_toArray, List.set_cons_zero, List.set_cons_succ]
  refine lst_val (v := .bool false) (by kernel_rfl) ?_ ?_
  · go_simp
  simp only [Act.put, List.setIfInBounds_toArray, List.set_cons_zero, List.set_cons_succ]
  refine lst_val (v := .bool false) (by kernel_rfl) ?_ ?_
  · go_simp
  simp only [Act.put, List.setIfInBounds_toArray, List.set_cons_zero, List.set_cons_succ]
  refine lst_val (v := .bool false) (by kernel_rfl) ?_ ?_
  · go_simp
  simp only [Act.put, List.setIfInBounds_toArray, List.set_cons_zero, List.set_cons_succ]
  refine lst_val (v := .pointer (some ⟨bx, 2, none⟩)) (by kernel_rfl) ?_ ?_
  · go_simp
  simp only [Act.put, List.setIfInBounds_toArray, List.set_cons_zero, List.set_cons_succ]
  refine lst_val (v := .slice sa c.ss.length sc) (by kernel_rfl) ?_ ?_
  · have c0 := HX.out.1.cell 2
    go_simp
  simp only [Act.put, List.setIfInBounds_toArray, List.set_cons_zero, List.set_cons_succ]
  refine lst_val (v := .int .i64 (c.ss.length : Int)) (by kernel_rfl) ?_ ?_
  · go_simp
  simp only [Act.put, List.setIfInBounds_toArray, List.set_cons_zero, List.set_cons_succ]
  refine lst_val (v := .bool false) (by kernel_rfl) ?_ ?_
  · go_simp
  simp only [Act.put, List.setIfInBounds_toArray, List.set_cons_zero, List.set_cons_succ]
  refine lst_val (v := .bool false) (by kernel_rfl) ?_ ?_
  · go_simp
  simp only [Act.put, List.setIfInBounds_toArray, List.set_cons_zero, List.set_cons_succ]
  refine lst_val (v := .bool false) (by kernel_rfl) ?_ ?_
  · go_simp
  simp only [Act.put, List.setIfInBounds_toArray, List.set_cons_zero, List.set_cons_succ]
  refine lst_val (v := .pointer (some ⟨bx, 4, none⟩)) (by kernel_rfl) ?_ ?_
  · go_simp
  simp only [Act.put, List.setIfInBounds_toArray, List.set_cons_zero, List.set_cons_succ]
  refine lst_val (v := .int .i64 c.n) (by kernel_rfl) ?_ ?_
  · have c0 := HX.out.1.cell 4
    go_simp
  simp only [Act.put, List.setIfInBounds_toArray, List.set_cons_zero, List.set_cons_succ]
  refine lst_val (v := .pointer (some ⟨bx, 3, none⟩)) (by kernel_rfl) ?_ ?_
  · go_simp
  simp only [Act.put, List.setIfInBounds_toArray, List.set_cons_zero, List.set_cons_succ]
  refine lst_val (v := .slice da c.d.length dc) (by kernel_rfl) ?_ ?_
  · have c0 := HX.out.1.cell 3
    go_simp
  simp only [Act.put, List.setIfInBounds_toArray, List.set_cons_zero, List.set_cons_succ]
  refine lst_val (v := .int .i64 (c.d.length : Int)) (by kernel_rfl) ?_ ?_
  · go_simp
  simp only [Act.put, List.setIfInBounds_toArray, List.set_cons_zero, List.set_cons_succ]
  refine lst_val (v := .bool false) (by kernel_rfl) ?_ ?_
  · go_simp
  simp only [Act.put, List.setIfInBounds_toArray, List.set_cons_zero, List.set_cons_succ]
  refine lst_val (v := .bool false) (by kernel_rfl) ?_ ?_
  · go_simp
  simp only [Act.put, List.setIfInBounds_toArray, List.set_cons_zero, List.set_cons_succ]
  refine lst_val (v := .bool false) (by kernel_rfl) ?_ ?_
  · go_simp
  simp only [Act.put, List.setIfInBounds_toArray, List.set_cons_zero, List.set_cons_succ]
  refine lst_val (v := .pointer (some ⟨bx, 4, none⟩)) (by kernel_rfl) ?_ ?_
  · go_simp
  simp only [Act.put, List.setIfInBounds_toArray, List.set_cons_zero, List.set_cons_succ]
  refine lst_val (v := .int .i64 c.n) (by kernel_rfl) ?_ ?_
  · have c0 := HX.out.1.cell 4
    go_simp
  simp only [Act.put, List.setIfInBounds_toArray, List.set_cons_zero, List.set_cons_succ]
  refine lst_val (v := .bool false) (by kernel_rfl) ?_ ?_
  · go_simp
  simp only [Act.put, List.setIfInBounds_toArray, List.set_cons_zero, List.set_cons_succ]
  refine lst_val (v := .bool false) (by kernel_rfl) ?_ ?_
  · go_simp
  simp only [Act.put, List.setIfInBounds_toArray, List.set_cons_zero, List.set_cons_succ]
  refine wpList_nil ?_
  clear q1 q2 q3 q4 q5
  go_wp2
  go_loopw [3] (fun s3 wr => ∃ k : Nat, s3 = .int .i64 (k : Int) ∧ k ≤ c.cs.length ∧ CBox wr bx 28 [.slice ta c.cs.length tc, .slice ca c.cs.length cc, .slice sa c.ss.length sc, .slice da c.d.length dc, .int .i64 c.n] ∧ Below bx w wr) (fun s3 _ => c.cs.length - (intOf s3).toNat)
  case atStart => exact ⟨0, rfl, by omega, HX.out⟩
  case round =>
    obtain ⟨k, rfl, hk, hX⟩ := hrel
    clear HX
    have HX : Hid (CBox wr bx 28 [.slice ta c.cs.length tc, .slice ca c.cs.length cc, .slice sa c.ss.length sc, .slice da c.d.length dc, .int .i64 c.n] ∧ Below bx w wr) := hX
    clear hX
    have a1 : wr.cell? ⟨bx, 1, none⟩ = some (.slice ca c.cs.length cc) := HX.out.1.cell 1
    by_cases e : k = c.cs.length
    · have q1 : ¬ (k : Int) < (c.cs.length : Int) := by omega
      clear e hk
      go_upto_region 9 with fail
      clear a1 q1
      go_wp2
      go_loopw [5] (fun s5 wq => ∃ k : Nat, s5 = .int .i64 (k : Int) ∧ k ≤ c.ss.length ∧ wq = wr) (fun s5 _ => c.ss.length - (intOf s5).toNat)
      case atStart => exact ⟨0, rfl, by omega, rfl⟩
      case round =>
        obtain ⟨k, rfl, hk, hw⟩ := hrel
        have hw2 := hw.symm
        clear hw
        subst hw2
        have a2 : wr.cell? ⟨bx, 2, none⟩ = some (.slice sa c.ss.length sc) := HX.out.1.cell 2
        by_cases e : k = c.ss.length
        · have q1 : ¬ (k : Int) < (c.ss.length : Int) := by omega
          obtain ⟨⟨t1, t2, t3⟩, hl⟩ : ∃ t, c.ts[0]? = some t := ⟨c.ts[0]'(by have := HM.out.nt; have := HM.out.n1; omega), List.getElem?_eq_getElem _⟩
          obtain ⟨g3, a3, eg, d0, d1, d2⟩ := HT.out.get hl
          subst eg
          have TF : t1 = 0 ∧ t2 = 128 := by
            have h9 := HM.out.ty
            cases ht : c.ts with
            | nil => rw [ht] at hl; cases hl
            | cons y l =>
              rw [ht] at hl h9
              injection hl with hl
              subst hl
              exact chkT_first h9
          obtain ⟨rfl, rfl⟩ := TF
          rw [Nat.zero_mul, Nat.add_zero] at d0 d1
          have F0 : Hid (wr.cell? ⟨g3, a3, none⟩ = some (.int .i64 0) ∧ wr.cell? ⟨g3, a3 + 1, none⟩ = some (.int .i64 128)) := ⟨((HX.out.2.cell (p := ⟨g3, a3, none⟩) (by rw [← GB.out]; exact World.block_lt_of_cell? w _ d0)).trans d0), ((HX.out.2.cell (p := ⟨g3, a3 + 1, none⟩) (by rw [← GB.out]; exact World.block_lt_of_cell? w _ d1)).trans d1)⟩
          have nI : (0 : Int) < (c.cs.length : Int) := by have := HM.out.n1; omega
          have nN : 0 < c.cs.length := HM.out.n1
          clear e hk hl d0 d1 d2
          go_upto_region 14 with fail
          clear q1 a2
          refine wp_region_lit ?_
          refine lst_val (v := .pointer (some ⟨bx, 0, none⟩)) (by kernel_rfl) ?_ ?_
          · go_simp
          simp only [Act.put, List.setIfInBounds_toArray, List.set_cons_zero, List.set_cons_succ]
          refine lst_val (v := .slice (some ⟨g3, a3, none⟩) c.cs.length tc) (by kernel_rfl) ?_ ?_
          · have c0 := HX.out.1.cell 0
            go_simp
          simp only [Act.put, List.setIfInBounds_toArray, List.set_cons_zero, List.set_cons_succ]
          refine lst_val (v := .pointer (some ⟨g3, a3, none⟩)) (by kernel_rfl) ?_ ?_
          · go_simp
          simp only [Act.put, List.setIfInBounds_toArray, List.set_cons_zero, List.set_cons_succ]
          refine lst_val (v := .pointer (some ⟨g3, a3, none⟩)) (by kernel_rfl) ?_ ?_
          · go_simp
          simp only [Act.put, List.setIfInBounds_toArray, List.set_cons_zero, List.set_cons_succ]
          refine lst_val (v := .int .i64 0) (by kernel_rfl) ?_ ?_
          · have c0 := F0.out.1
            go_simp
          simp only [Act.put, List.setIfInBounds_toArray, List.set_cons_zero, List.set_cons_succ]
          refine lst_val (v := .bool true) (by kernel_rfl) ?_ ?_
          · go_simp
          simp only [Act.put, List.setIfInBounds_toArray, List.set_cons_zero, List.set_cons_succ]
          refine lst_val (v := .bool true) (by kernel_rfl) ?_ ?_
          · go_simp
          simp only [Act.put, List.setIfInBounds_toArray, List.set_cons_zero, List.set_cons_succ]
          refine lst_val (v := .pointer (some ⟨bx, 0, none⟩)) (by kernel_rfl) ?_ ?_
          · go_simp
          simp only [Act.put, List.setIfInBounds_toArray, List.set_cons_zero, List.set_cons_succ]
          refine lst_val (v := .slice (some ⟨g3, a3, none⟩) c.cs.length tc) (by kernel_rfl) ?_ ?_
          · have c0 := HX.out.1.cell 0
            go_simp
          simp only [Act.put, List.setIfInBounds_toArray, List.set_cons_zero, List.set_cons_succ]
          refine lst_val (v := .pointer (some ⟨g3, a3, none⟩)) (by kernel_rfl) ?_ ?_
          · go_simp
          simp only [Act.put, List.setIfInBounds_toArray, List.set_cons_zero, List.set_cons_succ]
          refine lst_val (v := .pointer (some ⟨g3, a3 + 1, none⟩)) (by kernel_rfl) ?_ ?_
          · go_simp
          simp only [Act.put, List.setIfInBounds_toArray, List.set_cons_zero, List.set_cons_succ]
          refine lst_val (v := .int .i64 128) (by kernel_rfl) ?_ ?_
          · have c0 := F0.out.2
            go_simp
          simp only [Act.put, List.setIfInBounds_toArray, List.set_cons_zero, List.set_cons_succ]
          refine lst_val (v := .bool true) (by kernel_rfl) ?_ ?_
          · go_simp
          simp only [Act.put, List.setIfInBounds_toArray, List.set_cons_zero, List.set_cons_succ]
          refine lst_val (v := .bool true) (by kernel_rfl) ?_ ?_
          · go_simp
          simp only [Act.put, List.setIfInBounds_toArray, List.set_cons_zero, List.set_cons_succ]
          refine lst_val (v := .bool true) (by kernel_rfl) ?_ ?_
          · go_simp
          simp only [Act.put, List.setIfInBounds_toArray, List.set_cons_zero, List.set_cons_succ]
          refine wpList_nil ?_
          go_wp2
          go_ret
          exact ⟨rfl, by rw [GB.out]; exact HX.out.2⟩
        · have kn : k < c.ss.length := by omega
          have knI : (k : Int) < (c.ss.length : Int) := by omega
          have kB : (k : Int) < 1152921504606846976 := by omega
          obtain ⟨x, hx⟩ : ∃ x, c.ss[k]? = some x := ⟨c.ss[k]'kn, List.getElem?_eq_getElem _⟩
          obtain ⟨g2, a2', u, eg, hcell, hb⟩ := HS.out.get hx
          subst eg
          obtain ⟨xa, xc, rfl, _, lx⟩ := hb.len
          have XN := chkP_ok 4294967295 c.ss HM.out.ps _ (List.mem_of_getElem? hx)
          have PX : Hid (wr.cell? ⟨g2, a2' + k, none⟩ = some (.slice xa x.length xc)) := ((HX.out.2.cell (p := ⟨g2, a2' + k, none⟩) (by rw [← GB.out]; exact World.block_lt_of_cell? w _ hcell)).trans hcell)
          have q1 : ¬ (x.length : Int) < 1 := by omega
          have q2 : ¬ (4294967295 : Int) < (x.length : Int) := by omega
          clear hx hcell hb e XN
          go_upto_region 12 with fail
          clear a2
          refine wp_region_lit ?_
          refine lst_val (v := .pointer (some ⟨bx, 2, none⟩)) (by kernel_rfl) ?_ ?_
          · go_simp
          simp only [Act.put, List.setIfInBounds_toArray, List.set_cons_zero, List.set_cons_succ]
          refine lst_val (v := .slice (some ⟨g2, a2', none⟩) c.ss.length sc) (by kernel_rfl) ?_ ?_
          · have c0 := HX.out.1.cell 2
            go_simp
          simp only [Act.put, List.setIfInBounds_toArray, List.set_cons_zero, List.set_cons_succ]
          refine lst_val (v := .int .i64 (k : Int)) (by kernel_rfl) ?_ ?_
          · go_simp
          simp only [Act.put, List.setIfInBounds_toArray, List.set_cons_zero, List.set_cons_succ]
          refine lst_val (v := .pointer (some ⟨g2, a2' + k, none⟩)) (by kernel_rfl) ?_ ?_
          · go_simp
          simp only [Act.put, List.setIfInBounds_toArray, List.set_cons_zero, List.set_cons_succ]
          refine lst_val (v := .slice xa x.length xc) (by kernel_rfl) ?_ ?_
          · have c0 := PX.out
            go_simp
          simp only [Act.put, List.setIfInBounds_toArray, List.set_cons_zero, List.set_cons_succ]
          refine lst_val (v := .int .i64 (x.length : Int)) (by kernel_rfl) ?_ ?_
          · go_simp
          simp only [Act.put, List.setIfInBounds_toArray, List.set_cons_zero, List.set_cons_succ]
          refine lst_val (v := .bool false) (by kernel_rfl) ?_ ?_
          · go_simp
          simp only [Act.put, List.setIfInBounds_toArray, List.set_cons_zero, List.set_cons_succ]
          refine lst_val (v := .bool false) (by kernel_rfl) ?_ ?_
          · go_simp
          simp only [Act.put, List.setIfInBounds_toArray, List.set_cons_zero, List.set_cons_succ]
          refine lst_val (v := .pointer (some ⟨bx, 2, none⟩)) (by kernel_rfl) ?_ ?_
          · go_simp
          simp only [Act.put, List.setIfInBounds_toArray, List.set_cons_zero, List.set_cons_succ]
          refine lst_val (v := .slice (some ⟨g2, a2', none⟩) c.ss.length sc) (by kernel_rfl) ?_ ?_
          · have c0 := HX.out.1.cell 2
            go_simp
          simp only [Act.put, List.setIfInBounds_toArray, List.set_cons_zero, List.set_cons_succ]
          refine lst_val (v := .int .i64 (k : Int)) (by kernel_rfl) ?_ ?_
          · go_simp
          simp only [Act.put, List.setIfInBounds_toArray, List.set_cons_zero, List.set_cons_succ]
          refine lst_val (v := .pointer (some ⟨g2, a2' + k, none⟩)) (by kernel_rfl) ?_ ?_
          · go_simp
          simp only [Act.put, List.setIfInBounds_toArray, List.set_cons_zero, List.set_cons_succ]
          refine lst_val (v := .slice xa x.length xc) (by kernel_rfl) ?_ ?_
          · have c0 := PX.out
            go_simp
          simp only [Act.put, List.setIfInBounds_toArray, List.set_cons_zero, List.set_cons_succ]
          refine lst_val (v := .int .i64 (x.length : Int)) (by kernel_rfl) ?_ ?_
          · go_simp
          simp only [Act.put, List.setIfInBounds_toArray, List.set_cons_zero, List.set_cons_succ]
          refine lst_val (v := .bool false) (by kernel_rfl) ?_ ?_
          · go_simp
          simp only [Act.put, List.setIfInBounds_toArray, List.set_cons_zero, List.set_cons_succ]
          refine lst_val (v := .bool false) (by kernel_rfl) ?_ ?_
          · go_simp
          simp only [Act.put, List.setIfInBounds_toArray, List.set_cons_zero, List.set_cons_succ]
          refine wpList_nil ?_
          clear q1 q2 PX
          go_wp2
          go_roundw
          case rel => exact ⟨k + 1, by first | rfl | go_num, by omega, by first | rfl | trivial⟩
          case measure => simp [intOf]; omega
    · have kn : k < c.cs.length := by omega
      have knI : (k : Int) < (c.cs.length : Int) := by omega
      have kB : (k : Int) < 1152921504606846976 := by omega
      obtain ⟨x, hx⟩ : ∃ x, c.cs[k]? = some x := ⟨c.cs[k]'kn, List.getElem?_eq_getElem _⟩
      have PB : Hid (∀ {p : Addr} {u : Value}, w.cell? p = some u → wr.cell? p = some u) := fun {p u} hp => ((HX.out.2.cell (p := p) (by rw [← GB.out]; exact World.block_lt_of_cell? w _ hp)).trans hp)
      obtain ⟨g2, a2, u, eg, hcell, hb⟩ := HC.out.get hx
      subst eg
      obtain ⟨xa, xc, rfl, _, lx⟩ := hb.len
      obtain ⟨⟨t1, t2, t3⟩, hl⟩ : ∃ t, c.ts[k]? = some t := ⟨c.ts[k]'(by have := HM.out.nt; omega), List.getElem?_eq_getElem _⟩
      obtain ⟨g, a, eg, d0, d1, d2⟩ := HT.out.get hl
      subst eg
      have TN := chkT_num c.ts 0 HM.out.ty _ (List.mem_of_getElem? hl)
      have XN := chkP_ok 65535 c.cs HM.out.pc _ (List.mem_of_getElem? hx)
      obtain ⟨⟨n1, n2⟩, ⟨n3, n4⟩, n5, n6⟩ := TN
      have n1 : 0 ≤ t1 := n1
      have n2 : t1 ≤ 127 := n2
      have n3 : 0 ≤ t2 := n3
      have n4 : t2 ≤ 128 := n4
      have n5 : 0 ≤ t3 := n5
      have n6 : t3 ≤ 1023 := n6
      have a0 : wr.cell? ⟨bx, 0, none⟩ = some (.slice (some ⟨g, a, none⟩) c.cs.length tc) := HX.out.1.cell 0
      have f0 := PB.out d0
      have f1 := PB.out d1
      have f2 := PB.out d2
      have NT : Hid (k < c.cs.length ∧ (x.length : Int) ≤ 65535) := ⟨kn, by omega⟩
      have HY : Hid (CBox (wr.alloc (.cells #[.int .i64 t1, .int .i64 t2, .int .i64 t3] 77)) bx 28 [.slice (some ⟨g, a, none⟩) c.cs.length tc, .slice (some ⟨g2, a2, none⟩) c.cs.length cc, .slice sa c.ss.length sc, .slice da c.d.length dc, .int .i64 c.n] ∧ Below bx w (wr.alloc (.cells #[.int .i64 t1, .int .i64 t2, .int .i64 t3] 77)) ∧ CBox (wr.alloc (.cells #[.int .i64 t1, .int .i64 t2, .int .i64 t3] 77)) wr.heap.size 77 [.int .i64 t1, .int .i64 t2, .int .i64 t3]) := ⟨HX.out.1.past (below_alloc _ _), HX.out.2.trans ((below_alloc _ _).mono (by have := HX.out.2.size; have := GB.out; omega)), CBox.new _ _ [_, _, _]⟩
      have PX : Hid ((wr.alloc (.cells #[.int .i64 t1, .int .i64 t2, .int .i64 t3] 77)).cell? ⟨g2, a2 + k, none⟩ = some (.slice xa x.length xc)) := ((below_alloc wr (.cells #[.int .i64 t1, .int .i64 t2, .int .i64 t3] 77)).cell (p := ⟨g2, a2 + k, none⟩) (World.block_lt_of_cell? wr _ (PB.out hcell))).trans (PB.out hcell)
      clear hx hl d0 d1 d2 hcell hb PB e
      go_upto_region 7 with fail
      clear f0 f1 f2 a0 a1 HX
      generalize wr.alloc _ = W1 at HY PX ⊢
      generalize wr.heap.size = bt at HY ⊢
      have q1 : ¬ (x.length : Int) < 1 := by omega
      have q2 : ¬ (65535 : Int) < (x.length : Int) := by omega
      have q3 : ¬ t1 < 0 := by omega
      have q4 : ¬ 127 < t1 := by omega
      have q5 : ¬ t2 < 0 := by omega
      have q6 : ¬ 128 < t2 := by omega
      have q7 : ¬ t3 < 0 := by omega
      have q8 : ¬ 1023 < t3 := by omega
      clear XN n1 n2 n3 n4 n5 n6
      refine wp_region_lit ?_
      refine lst_val (v := .pointer (some ⟨bx, 1, none⟩)) (by kernel_rfl) ?_ ?_
      · go_simp
      simp only [Act.put, List.setIfInBounds_toArray, List.set_cons_zero, List.set_cons_succ]
      refine lst_val (v := .slice (some ⟨g2, a2, none⟩) c.cs.length cc) (by kernel_rfl) ?_ ?_
      · have c0 := HY.out.1.cell 1
        go_simp
      simp only [Act.put, List.setIfInBounds_toArray, List.set_cons_zero, List.set_cons_succ]
      refine lst_val (v := .int .i64 (k : Int)) (by kernel_rfl) ?_ ?_
      · go_simp
      simp only [Act.put, List.setIfInBounds_toArray, List.set_cons_zero, List.set_cons_succ]
      refine lst_val (v := .pointer (some ⟨g2, a2 + k, none⟩)) (by kernel_rfl) ?_ ?_
      · go_simp
      simp only [Act.put, List.setIfInBounds_toArray, List.set_cons_zero, List.set_cons_succ]
      refine lst_val (v := .slice xa x.length xc) (by kernel_rfl) ?_ ?_
      · have c0 := PX.out
        go_simp
      simp only [Act.put, List.setIfInBounds_toArray, List.set_cons_zero, List.set_cons_succ]
      refine lst_val (v := .int .i64 (x.length : Int)) (by kernel_rfl) ?_ ?_
      · go_simp
      simp only [Act.put, List.setIfInBounds_toArray, List.set_cons_zero, List.set_cons_succ]
      refine lst_val (v := .bool false) (by kernel_rfl) ?_ ?_
      · go_simp
      simp only [Act.put, List.setIfInBounds_toArray, List.set_cons_zero, List.set_cons_succ]
      refine lst_val (v := .bool false) (by kernel_rfl) ?_ ?_
      · go_simp
      simp only [Act.put, List.setIfInBounds_toArray, List.set_cons_zero, List.set_cons_succ]
      refine lst_val (v := .pointer (some ⟨bx, 1, none⟩)) (by kernel_rfl) ?_ ?_
      · go_simp
      simp only [Act.put, List.setIfInBounds_toArray, List.set_cons_zero, List.set_cons_succ]
      refine lst_val (v := .slice (some ⟨g2, a2, none⟩) c.cs.length cc) (by kernel_rfl) ?_ ?_
      · have c0 := HY.out.1.cell 1
        go_simp
      simp only [Act.put, List.setIfInBounds_toArray, List.set_cons_zero, List.set_cons_succ]
      refine lst_val (v := .int .i64 (k : Int)) (by kernel_rfl) ?_ ?_
      · go_simp
      simp only [Act.put, List.setIfInBounds_toArray, List.set_cons_zero, List.set_cons_succ]
      refine lst_val (v := .pointer (some ⟨g2, a2 + k, none⟩)) (by kernel_rfl) ?_ ?_
      · go_simp
      simp only [Act.put, List.setIfInBounds_toArray, List.set_cons_zero, List.set_cons_succ]
      refine lst_val (v := .slice xa x.length xc) (by kernel_rfl) ?_ ?_
      · have c0 := PX.out
        go_simp
      simp only [Act.put, List.setIfInBounds_toArray, List.set_cons_zero, List.set_cons_succ]
      refine lst_val (v := .int .i64 (x.length : Int)) (by kernel_rfl) ?_ ?_
      · go_simp
      simp only [Act.put, List.setIfInBounds_toArray, List.set_cons_zero, List.set_cons_succ]
      refine lst_val (v := .bool false) (by kernel_rfl) ?_ ?_
      · go_simp
      simp only [Act.put, List.setIfInBounds_toArray, List.set_cons_zero, List.set_cons_succ]
      refine lst_val (v := .bool false) (by kernel_rfl) ?_ ?_
      · go_simp
      simp only [Act.put, List.setIfInBounds_toArray, List.set_cons_zero, List.set_cons_succ]
      refine lst_val (v := .bool false) (by kernel_rfl) ?_ ?_
      · go_simp
      simp only [Act.put, List.setIfInBounds_toArray, List.set_cons_zero, List.set_cons_succ]
      refine lst_val (v := .pointer (some ⟨bt, 0, none⟩)) (by kernel_rfl) ?_ ?_
      · go_simp
      simp only [Act.put, List.setIfInBounds_toArray, List.set_cons_zero, List.set_cons_succ]
      refine lst_val (v := .int .i64 t1) (by kernel_rfl) ?_ ?_
      · have c0 := HY.out.2.2.cell 0
        go_simp
      simp only [Act.put, List.setIfInBounds_toArray, List.set_cons_zero, List.set_cons_succ]
      refine lst_val (v := .bool false) (by kernel_rfl) ?_ ?_
      · go_simp
      simp only [Act.put, List.setIfInBounds_toArray, List.set_cons_zero, List.set_cons_succ]
      refine lst_val (v := .bool false) (by kernel_rfl) ?_ ?_
      · go_simp
      simp only [Act.put, List.setIfInBounds_toArray, List.set_cons_zero, List.set_cons_succ]
      refine lst_val (v := .bool false) (by kernel_rfl) ?_ ?_
      · go_simp
      simp only [Act.put, List.setIfInBounds_toArray, List.set_cons_zero, List.set_cons_succ]
      refine lst_val (v := .pointer (some ⟨bt, 0, none⟩)) (by kernel_rfl) ?_ ?_
      · go_simp
      simp only [Act.put, List.setIfInBounds_toArray, List.set_cons_zero, List.set_cons_succ]
      refine lst_val (v := .int .i64 t1) (by kernel_rfl) ?_ ?_
      · have c0 := HY.out.2.2.cell 0
        go_simp
      simp only [Act.put, List.setIfInBounds_toArray, List.set_cons_zero, List.set_cons_succ]
      refine lst_val (v := .bool false) (by kernel_rfl) ?_ ?_
      · go_simp
      simp only [Act.put, List.setIfInBounds_toArray, List.set_cons_zero, List.set_cons_succ]
      refine lst_val (v := .bool false) (by kernel_rfl) ?_ ?_
      · go_simp
      simp only [Act.put, List.setIfInBounds_toArray, List.set_cons_zero, List.set_cons_succ]
      refine lst_val (v := .bool false) (by kernel_rfl) ?_ ?_
      · go_simp
      simp only [Act.put, List.setIfInBounds_toArray, List.set_cons_zero, List.set_cons_succ]
      refine lst_val (v := .pointer (some ⟨bt, 1, none⟩)) (by kernel_rfl) ?_ ?_
      · go_simp
      simp only [Act.put, List.setIfInBounds_toArray, List.set_cons_zero, List.set_cons_succ]
      refine lst_val (v := .int .i64 t2) (by kernel_rfl) ?_ ?_
      · have c0 := HY.out.2.2.cell 1
        go_simp
      simp only [Act.put, List.setIfInBounds_toArray, List.set_cons_zero, List.set_cons_succ]
      refine lst_val (v := .bool false) (by kernel_rfl) ?_ ?_
      · go_simp
      simp only [Act.put, List.setIfInBounds_toArray, List.set_cons_zero, List.set_cons_succ]
      refine lst_val (v := .bool false) (by kernel_rfl) ?_ ?_
      · go_simp
      simp only [Act.put, List.setIfInBounds_toArray, List.set_cons_zero, List.set_cons_succ]
      refine lst_val (v := .bool false) (by kernel_rfl) ?_ ?_
      · go_simp
      simp only [Act.put, List.setIfInBounds_toArray, List.set_cons_zero, List.set_cons_succ]
      refine lst_val (v := .pointer (some ⟨bt, 1, none⟩)) (by kernel_rfl) ?_ ?_
      · go_simp
      simp only [Act.put, List.setIfInBounds_toArray, List.set_cons_zero, List.set_cons_succ]
      refine lst_val (v := .int .i64 t2) (by kernel_rfl) ?_ ?_
      · have c0 := HY.out.2.2.cell 1
        go_simp
      simp only [Act.put, List.setIfInBounds_toArray, List.set_cons_zero, List.set_cons_succ]
      refine lst_val (v := .bool false) (by kernel_rfl) ?_ ?_
      · go_simp
      simp only [Act.put, List.setIfInBounds_toArray, List.set_cons_zero, List.set_cons_succ]
      refine lst_val (v := .bool false) (by kernel_rfl) ?_ ?_
      · go_simp
      simp only [Act.put, List.setIfInBounds_toArray, List.set_cons_zero, List.set_cons_succ]
      refine lst_val (v := .bool false) (by kernel_rfl) ?_ ?_
      · go_simp
      simp only [Act.put, List.setIfInBounds_toArray, List.set_cons_zero, List.set_cons_succ]
      refine lst_val (v := .pointer (some ⟨bt, 2, none⟩)) (by kernel_rfl) ?_ ?_
      · go_simp
      simp only [Act.put, List.setIfInBounds_toArray, List.set_cons_zero, List.set_cons_succ]
      refine lst_val (v := .int .i64 t3) (by kernel_rfl) ?_ ?_
      · have c0 := HY.out.2.2.cell 2
        go_simp
      simp only [Act.put, List.setIfInBounds_toArray, List.set_cons_zero, List.set_cons_succ]
      refine lst_val (v := .bool false) (by kernel_rfl) ?_ ?_
      · go_simp
      simp only [Act.put, List.setIfInBounds_toArray, List.set_cons_zero, List.set_cons_succ]
      refine lst_val (v := .bool false) (by kernel_rfl) ?_ ?_
      · go_simp
      simp only [Act.put, List.setIfInBounds_toArray, List.set_cons_zero, List.set_cons_succ]
      refine lst_val (v := .bool false) (by kernel_rfl) ?_ ?_
      · go_simp
      simp only [Act.put, List.setIfInBounds_toArray, List.set_cons_zero, List.set_cons_succ]
      refine lst_val (v := .pointer (some ⟨bt, 2, none⟩)) (by kernel_rfl) ?_ ?_
      · go_simp
      simp only [Act.put, List.setIfInBounds_toArray, List.set_cons_zero, List.set_cons_succ]
      refine lst_val (v := .int .i64 t3) (by kernel_rfl) ?_ ?_
      · have c0 := HY.out.2.2.cell 2
        go_simp
      simp only [Act.put, List.setIfInBounds_toArray, List.set_cons_zero, List.set_cons_succ]
      refine lst_val (v := .bool false) (by kernel_rfl) ?_ ?_
      · go_simp
      simp only [Act.put, List.setIfInBounds_toArray, List.set_cons_zero, List.set_cons_succ]
      refine lst_val (v := .bool false) (by kernel_rfl) ?_ ?_
      · go_simp
      simp only [Act.put, List.setIfInBounds_toArray, List.set_cons_zero, List.set_cons_succ]
      refine wpList_nil ?_
      clear q1 q2 q3 q4 q5 q6 q7 q8 PX
      go_wp2
      go_roundw
      case rel => exact ⟨k + 1, by first | rfl | go_num, by omega, HY.out.1, HY.out.2.1⟩
      case measure => simp [intOf]; omega
end Go.Proofs.Ytndhabhlajldeaa
