/- Package code: Leads of a table of jumps. -/
import Derived.Test.YtcjmbpchdeapiaaDoorCdg
namespace Go.Proofs.YtcjmbpchdeapiaaDoor
open Go.RowKit
theorem slice_one (a : Addr) (m cap n : Nat) (hm : m = 1 + n) (hc : m ≤ cap) : ∃ a' : Addr, (n ≠ 0 → ∀ g o, a = ⟨g, o, none⟩ → a' = ⟨g, o + 1, none⟩) ∧ ∀ W : World, Sem.run Tryd.prog (Instr.slice 22 (.slice (some a) m cap) (some (.int .i64 1)) none none) W = .ok (.slice (some a') n (cap - 1)) W := by
  refine ⟨if cap - 1 = 0 then a else a.add 1, fun h g o e => by rw [if_neg (by omega), e, Addr.add_mid], fun W => ?_⟩
  simp [Instr.slice, Instr.sliceBounds, run_underlying Tryd.underlying22, run_sliceBound W .i64 1 m _ (by omega) (by omega)]
  refine ⟨?_, by omega⟩
  split
  · rw [if_pos (by omega)]
  · rw [if_neg (by omega)]
set_option maxHeartbeats 1000000 in
set_option maxRecDepth 100000 in
theorem leads_v (w : World) (hN : Nms w) (x0 x3 : Int) (v : Value) (m : Nat) (b : Nat → Nat) (hm : m ≤ 140737488355328) (hv : BytesOf w v m b) (hcp : ∀ ad cap, v = .slice ad m cap → m ≤ cap) (hs : standsV x0 226 x3 m (b 0) = true) : Calls Tryd.prog 39 #[.agg #[.int .i64 x0, .int .i64 226, v, .int .i64 x3]] w fun e w' => ∃ pl, e = .returned pl ∧ w'.ownsRow w.heap.size 3 1 pl (b 0 + 1) (tgL x3 (fun j => b (j + 1)) (b 0 + 1)) ∧ Below w.heap.size w w' := by
  have HS : Hid (∀ W : World, Below w.heap.size w W → Calls Tryd.prog 52 #[.agg #[.int .i64 x0, .int .i64 226, v, .int .i64 x3]] W fun e w' => e = .returned (.bool true) ∧ Below W.heap.size W w') := fun W hB => by have := stands_is W (hN.past hB) x0 226 x3 v m b hm (hv.below rfl hB); rw [hs] at this; exact this
  obtain ⟨p0, p1, p2, _, p4⟩ := stands_parts hs
  unfold fitsB at p4
  rw [show (226 : Int).toNat = 226 from rfl, imm_jumps.2.2, if_pos rfl, decide_eq_true_eq] at p4
  obtain ⟨ad, cap, rfl, hb, _, hc⟩ := hv
  obtain ⟨g, o, rfl, hcc⟩ := hc (by omega)
  have hcap := hcp _ _ rfl
  have gl := World.block_lt_of_cell? w _ (hcc 0 (by omega))
  have hb0 := hb 0
  obtain ⟨t, et⟩ : ∃ t, t = b 0 + 1 := ⟨_, rfl⟩
  rw [← et] at p4 ⊢
  obtain ⟨a', ha', hst⟩ := slice_one ⟨g, o, none⟩ m cap (2 * t) (by omega) hcap
  have ST : Hid _ := hst
  have HT : Hid (∀ W : World, Below w.heap.size w W → Calls Tryd.prog 53 #[.int .i64 x3, .slice (some a') (2 * t) (cap - 1)] W fun e w' => ∃ pl, e = .returned pl ∧ w'.ownsRow w.heap.size 3 1 pl t (tgL x3 (fun j => b (j + 1)) t) ∧ Below W.heap.size W w' ∧ Below w.heap.size w w') := fun W hB => (targets_is W x3 ⟨by omega, by omega⟩ g (o + 1) t (cap - 1) (fun j => b (j + 1)) (by omega) (by omega) (fun j => hb _) (fun j hj => (by have := (hB.cell (p := ⟨g, o + (j + 1), none⟩) gl).trans (hcc (j + 1) (by omega)); rw [show o + 1 + j = o + (j + 1) by omega]; exact this)) a' (fun h => ha' (by omega) g o rfl)).mono fun e w' ⟨pl, he, ho, hb2⟩ => ⟨pl, he, owns_lower ho hB.size, hb2, hB.trans (hb2.mono hB.size)⟩
  have B0 : Hid (Below w.heap.size w (w.alloc (.cells #[.int .i64 x0, .int .i64 226, .slice (some ⟨g, o, none⟩) m cap, .int .i64 x3] 40))) := (Below.refl _ w).alloc (Nat.le_refl _) _
  have I0 : Hid (Ins4 (w.alloc (.cells #[.int .i64 x0, .int .i64 226, .slice (some ⟨g, o, none⟩) m cap, .int .i64 x3] 40)) w.heap.size x0 226 (.slice (some ⟨g, o, none⟩) m cap) x3) := Ins4.new w x0 226 _ m cap x3
  clear hs p0 p1 p2 p4 hc hcc hb hcp hst ha' et hb0
  obtain ⟨c0, c1, c2, c3⟩ := I0.out
  go_enter Tryd.func39, Tryd.ntmps39
  go_upto_region 3 with (go_at_call 52; refine (HS.out _ B0.out).mono ?_; rintro e w1 ⟨rfl, hB⟩; (have B1 : Hid (Below w.heap.size w w1) := B0.out.trans (hB.mono B0.out.size)); (have I1 : Hid (Ins4 w1 w.heap.size x0 226 (.slice (some ⟨g, o, none⟩) m cap) x3) := I0.out.past hB); clear hB)
  clear c0 c1 c2 c3
  obtain ⟨c0, c1, c2, c3⟩ := I1.out
  go_upto_region 8 with fail
  clear c0 c1 c2 c3
  refine wp_region_held_drew (S := fun V' => Below w.heap.size w V' ∧ Ins4 V' w.heap.size x0 226 (.slice (some ⟨g, o, none⟩) m cap) x3) (by kernel_rfl) ⟨B1.out.drew, I1.out⟩ (fun hHeld => ?_)
  generalize w1.drew = z0 at hHeld ⊢
  refine wpAnyH_take (i := 0) (v := .pointer (some ⟨w.heap.size, 3, none⟩)) op0 (by kernel_rfl) (by kernel_rfl) (by kernel_rfl) (fun _ _ _ h => h) (Or.inl ⟨by rfl, fun V' hS => ?_⟩) hHeld ?_
  · go_simp
  simp only [Act.put, List.setIfInBounds_toArray, List.set_cons_zero, List.set_cons_succ]
  refine wpAnyH_take (i := 1) (v := .int .i64 x3) op1 (by kernel_rfl) (by kernel_rfl) (by kernel_rfl) (fun _ _ _ h => h) (Or.inl ⟨by rfl, fun V' hS => ?_⟩) hHeld ?_
  · have k3 := hS.2.2.2.2
    go_simp
  simp only [Act.put, List.setIfInBounds_toArray, List.set_cons_zero, List.set_cons_succ]
  refine wpAnyH_take (i := 2) (v := .pointer (some ⟨w.heap.size, 2, none⟩)) op2 (by kernel_rfl) (by kernel_rfl) (by kernel_rfl) (fun _ _ _ h => h) (Or.inl ⟨by rfl, fun V' hS => ?_⟩) hHeld ?_
  · go_simp
  simp only [Act.put, List.setIfInBounds_toArray, List.set_cons_zero, List.set_cons_succ]
  refine wpAnyH_take (i := 3) (v := .slice (some ⟨g, o, none⟩) m cap) op3 (by kernel_rfl) (by kernel_rfl) (by kernel_rfl) (fun _ _ _ h => h) (Or.inl ⟨by rfl, fun V' hS => ?_⟩) hHeld ?_
  · have k2 := hS.2.2.2.1
    go_simp
  simp only [Act.put, List.setIfInBounds_toArray, List.set_cons_zero, List.set_cons_succ]
  refine wpAnyH_take (i := 4) (v := .slice (some a') (2 * t) (cap - 1)) op4 (by kernel_rfl) (by kernel_rfl) (by kernel_rfl) (fun _ _ _ h => h) (Or.inl ⟨by rfl, fun V' hS => ?_⟩) hHeld ?_
  · have st := ST.out V'
    go_simp
  simp only [Act.put, List.setIfInBounds_toArray, List.set_cons_zero, List.set_cons_succ]
  refine wpAnyH_ready (rs := [5]) (by kernel_rfl) (by simp) ?_
  refine AllReadyH.cons op5 (fun K hK => ?_) AllReadyH.nil
  rw [if_pos (by rfl)]
  go_simp
  refine (HT.out _ hHeld.1).mono ?_
  rintro e z1 ⟨pl, rfl, ho, hb2, hb3⟩
  have hF : Below w.heap.size w z1 ∧ Ins4 z1 w.heap.size x0 226 (.slice (some ⟨g, o, none⟩) m cap) x3 := ⟨hb3, hHeld.2.past hb2⟩
  have RR : Hid (z1.ownsRow w.heap.size 3 1 pl t (tgL x3 (fun j => b (j + 1)) t) ∧ Below w.heap.size w z1) := ⟨ho, hb3⟩
  clear ho hb2 hb3 hHeld
  (try go_wp2_with fail)
  refine hK.out _ _ hF (fun _ => ?_)
  clear hK K
  (try simp only [Act.put, List.setIfInBounds_toArray, List.set_cons_zero, List.set_cons_succ])
  refine wpAnyH_take (i := 6) (v := pl) op6 (by kernel_rfl) (by kernel_rfl) (by kernel_rfl) (fun _ _ _ h => h) (Or.inl ⟨by rfl, fun V' hS => ?_⟩) hF ?_
  · go_simp
  simp only [Act.put, List.setIfInBounds_toArray, List.set_cons_zero, List.set_cons_succ]
  refine wpAnyH_done (by kernel_rfl) ?_ _
  go_wp2
  go_ret
  exact ⟨_, rfl, RR.out⟩
end Go.Proofs.YtcjmbpchdeapiaaDoor
