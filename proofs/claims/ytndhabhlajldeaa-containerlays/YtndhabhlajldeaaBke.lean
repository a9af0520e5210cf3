/- Package container: Check. -/
import Derived.Test.YtndhabhlajldeaaBkd
namespace Go.Proofs.Ytndhabhlajldeaa
open Go.RowKit
theorem chkP_cases (m : Nat) : ∀ ll, chkP m ll = 0 ∨ chkP m ll = 56 ∨ chkP m ll = 2
  | [] => Or.inl rfl
  | l :: r => by
    unfold chkP
    split
    · exact Or.inr (Or.inl rfl)
    · split
      · exact Or.inr (Or.inr rfl)
      · exact chkP_cases m r
set_option maxHeartbeats 4000000 in
set_option maxRecDepth 100000 in
theorem check_is {P : Nat → Prop} (w : World) (v : Value) (c : Con) (h : CW P w v c) : Calls Try.prog 20 #[v] w fun e w' => e = .returned (.int .i64 (chk c)) ∧ Below w.heap.size w w' := by
  obtain ⟨tv, cv, sv, dv, rfl, hT, hC, hS, hD⟩ := h
  have CT : Hid (∀ W, Below w.heap.size w W → Calls Try.prog 57 #[tv] W fun e w' => e = .returned (.int .i64 (chkT 0 c.ts)) ∧ Below W.heap.size W w') := fun W hW => checkTypes_is W tv c.ts (hT.past hW)
  have CC : Hid (∀ W, Below w.heap.size w W → Calls Try.prog 56 #[cv, .int .u64 65535] W fun e w' => e = .returned (.int .i64 (chkP 65535 c.cs)) ∧ w' = W) := fun W hW => checkPieces_is W cv c.cs 65535 (hC.past hW) (by omega)
  have CS : Hid (∀ W, Below w.heap.size w W → Calls Try.prog 56 #[sv, .int .u64 4294967295] W fun e w' => e = .returned (.int .i64 (chkP 4294967295 c.ss)) ∧ w' = W) := fun W hW => checkPieces_is W sv c.ss 4294967295 (hS.past hW) (by omega)
  obtain ⟨ta, tc, rfl, _, ht1⟩ := hT.len
  obtain ⟨ca, cc, rfl, _, hc1⟩ := hC.len
  obtain ⟨sa, sc, rfl, _, hs1⟩ := hS.len
  obtain ⟨da, dc, rfl, _, hd1⟩ := hD.len
  have EK : Hid (chk c = if c.cs.length = 0 ∨ 1024 < c.cs.length then 55 else if c.ts.length ≠ c.cs.length then 54 else if chkP 65535 c.cs ≠ 0 then chkP 65535 c.cs else if 256 < c.ss.length then 57 else if chkP 4294967295 c.ss ≠ 0 then chkP 4294967295 c.ss else if 65535 < c.n then 2 else if c.n < (c.d.length : Int) then 1 else chkT 0 c.ts) := rfl
  have p1 := chkP_cases 65535 c.cs
  have p2 := chkP_cases 4294967295 c.ss
  clear hT hC hS hD
  generalize chk c = r at *
  generalize chkT 0 c.ts = rt at *
  generalize chkP 65535 c.cs = rc at *
  generalize chkP 4294967295 c.ss = rs at *
  generalize c.ts.length = nt at *
  generalize c.cs.length = nc at *
  generalize c.ss.length = ns at *
  generalize c.d.length = nd at *
  generalize c.n = z at *
  have tI : (nt : Int) ≤ 1152921504606846976 := by omega
  have cI : (nc : Int) ≤ 1152921504606846976 := by omega
  have sI : (ns : Int) ≤ 1152921504606846976 := by omega
  have dI : (nd : Int) ≤ 1152921504606846976 := by omega
  have B0 : Hid (Below w.heap.size w (w.alloc (.cells #[.slice ta nt tc, .slice ca nc cc, .slice sa ns sc, .slice da nd dc, .int .i64 z] 28)) ∧ CBox (w.alloc (.cells #[.slice ta nt tc, .slice ca nc cc, .slice sa ns sc, .slice da nd dc, .int .i64 z] 28)) w.heap.size 28 [.slice ta nt tc, .slice ca nc cc, .slice sa ns sc, .slice da nd dc, .int .i64 z]) := ⟨below_alloc _ _, CBox.new _ _ [_, _, _, _, _]⟩
  clear ht1 hc1 hs1 hd1
  go_enter Try.func20, Try.ntmps20
  go_upto_region 1 with fail
  generalize w.alloc _ = W0 at B0 ⊢
  generalize hbx : w.heap.size = bx at B0 ⊢
  have B1 : Hid (Below w.heap.size w W0) := hbx ▸ B0.out.1
  have c0 : W0.cell? ⟨bx, 0, none⟩ = some (.slice ta nt tc) := B0.out.2.cell 0
  have c1 : W0.cell? ⟨bx, 1, none⟩ = some (.slice ca nc cc) := B0.out.2.cell 1
  have c2 : W0.cell? ⟨bx, 2, none⟩ = some (.slice sa ns sc) := B0.out.2.cell 2
  have c3 : W0.cell? ⟨bx, 3, none⟩ = some (.slice da nd dc) := B0.out.2.cell 3
  have c4 : W0.cell? ⟨bx, 4, none⟩ = some (.int .i64 z) := B0.out.2.cell 4
  clear B0
  rw [hbx] at B1
  have B1 : Hid (Below w.heap.size w W0) := hbx ▸ B1
  by_cases e0 : nc = 0
  · subst e0
    have E0 : Hid (r = 55) := by unfold Hid; rw [EK.out, if_pos (Or.inl rfl)]
    clear hbx
    go_wp2
    go_ret
    exact ⟨by rw [E0.out]; rfl, B1.out⟩
  have q0 : ((nc : Int) == 0) = false := by simp; omega
  by_cases e1 : 1024 < nc
  · have E0 : Hid (r = 55) := by unfold Hid; rw [EK.out, if_pos (Or.inr e1)]
    have q1 : (1024 : Int) < (nc : Int) := by omega
    clear hbx e0 e1
    go_wp2
    go_ret
    exact ⟨by rw [E0.out]; rfl, B1.out⟩
  have q1 : ¬ (1024 : Int) < (nc : Int) := by omega
  have EK : Hid (r = if nt ≠ nc then 54 else if rc ≠ 0 then rc else if 256 < ns then 57 else if rs ≠ 0 then rs else if 65535 < z then 2 else if z < (nd : Int) then 1 else rt) := by unfold Hid; rw [EK.out, if_neg (by omega)]
  clear e0 e1 hbx
  go_upto_region 3 with fail
  by_cases e2 : nt = nc
  rotate_left
  · have E0 : Hid (r = 54) := by unfold Hid; rw [EK.out, if_pos e2]
    have q2 : ((nt : Int) == (nc : Int)) = false := by simp; omega
    have q3 : ((nt : Int) != (nc : Int)) = true := by simp; omega
    clear e2
    go_wp2
    go_ret
    exact ⟨by rw [E0.out]; rfl, B1.out⟩
  subst e2
  have EK : Hid (r = if rc ≠ 0 then rc else if 256 < ns then 57 else if rs ≠ 0 then rs else if 65535 < z then 2 else if z < (nd : Int) then 1 else rt) := by unfold Hid; rw [EK.out, if_neg (by simp)]
  go_upto_region 6 with (go_at_call 56; refine (CC.out _ B1.out).mono ?_; rintro e w' ⟨rfl, hw⟩; (have hw2 := hw.symm); clear hw; subst hw2)
  by_cases e3 : rc = 0
  rotate_left
  · have E0 : Hid (r = rc) := by unfold Hid; rw [EK.out, if_pos e3]
    have q2 : (rc == 0) = false := by simpa using e3
    have q3 : (rc != 0) = true := by simpa using e3
    clear e3 p1
    go_wp2
    go_ret
    exact ⟨by rw [E0.out]; rfl, B1.out⟩
  subst e3
  have EK : Hid (r = if 256 < ns then 57 else if rs ≠ 0 then rs else if 65535 < z then 2 else if z < (nd : Int) then 1 else rt) := by unfold Hid; rw [EK.out, if_neg (by simp)]
  clear p1
  go_upto_region 8 with fail
  by_cases e4 : 256 < ns
  · have E0 : Hid (r = 57) := by unfold Hid; rw [EK.out, if_pos e4]
    have q2 : (256 : Int) < (ns : Int) := by omega
    clear e4
    go_wp2
    go_ret
    exact ⟨by rw [E0.out]; rfl, B1.out⟩
  have q4 : ¬ (256 : Int) < (ns : Int) := by omega
  have EK : Hid (r = if rs ≠ 0 then rs else if 65535 < z then 2 else if z < (nd : Int) then 1 else rt) := by unfold Hid; rw [EK.out, if_neg e4]
  clear e4
  go_upto_region 11 with (go_at_call 56; refine (CS.out _ B1.out).mono ?_; rintro e w' ⟨rfl, hw⟩; (have hw2 := hw.symm); clear hw; subst hw2)
  by_cases e5 : rs = 0
  rotate_left
  · have E0 : Hid (r = rs) := by unfold Hid; rw [EK.out, if_pos e5]
    have q2 : (rs == 0) = false := by simpa using e5
    have q3 : (rs != 0) = true := by simpa using e5
    clear e5 p2
    go_wp2
    go_ret
    exact ⟨by rw [E0.out]; rfl, B1.out⟩
  subst e5
  have EK : Hid (r = if 65535 < z then 2 else if z < (nd : Int) then 1 else rt) := by unfold Hid; rw [EK.out, if_neg (by simp)]
  clear p2
  go_upto_region 13 with fail
  by_cases e6 : 65535 < z
  · have E0 : Hid (r = 2) := by unfold Hid; rw [EK.out, if_pos e6]
    go_wp2
    go_ret
    exact ⟨by rw [E0.out]; rfl, B1.out⟩
  by_cases e7 : z < (nd : Int)
  · have E0 : Hid (r = 1) := by unfold Hid; rw [EK.out, if_neg e6, if_pos e7]
    go_wp2
    go_ret
    exact ⟨by rw [E0.out]; rfl, B1.out⟩
  have E0 : Hid (r = rt) := by unfold Hid; rw [EK.out, if_neg e6, if_neg e7]
  go_wp2_with (go_at_call 57; refine (CT.out _ B1.out).mono ?_; rintro e w1 ⟨rfl, hB⟩)
  go_ret
  exact ⟨by rw [E0.out]; rfl, B1.out.trans (hB.mono B1.out.size)⟩
end Go.Proofs.Ytndhabhlajldeaa
