/- The document's containers: Check. -/
import Derived.Test.YtndhabhlajldeaaBrc
namespace Go.Proofs.Ytndhabhlajldeaa
open Go.RowKit
set_option maxHeartbeats 4000000 in
set_option maxRecDepth 100000 in
theorem rcheck_is {P : Nat → Prop} (w : World) (v : Value) (c : Con) (h : CW P w v c) : Calls Try.prog 58 #[v] w fun e w' => e = .returned (.int .i64 (chk c)) ∧ Below w.heap.size w w' := by
  obtain ⟨tv, cv, sv, dv, rfl, hT, hC, hS, hD⟩ := h
  obtain ⟨ta, tc, rfl, _, ht1⟩ := hT.len
  obtain ⟨ca, cc, rfl, _, hc1⟩ := hC.len
  obtain ⟨sa, sc, rfl, _, hs1⟩ := hS.len
  obtain ⟨da, dc, rfl, _, hd1⟩ := hD.len
  have EK : Hid (chk c = if c.cs.length = 0 ∨ 1024 < c.cs.length then 55 else if c.ts.length ≠ c.cs.length then 54 else if chkP 65535 c.cs ≠ 0 then chkP 65535 c.cs else if 256 < c.ss.length then 57 else if chkP 4294967295 c.ss ≠ 0 then chkP 4294967295 c.ss else if 65535 < c.n then 2 else if c.n < (c.d.length : Int) then 1 else chkT 0 c.ts) := rfl
  have B0 : Hid (Below w.heap.size w (w.alloc (.cells #[.slice ta c.ts.length tc, .slice ca c.cs.length cc, .slice sa c.ss.length sc, .slice da c.d.length dc, .int .i64 c.n] 28)) ∧ CBox (w.alloc (.cells #[.slice ta c.ts.length tc, .slice ca c.cs.length cc, .slice sa c.ss.length sc, .slice da c.d.length dc, .int .i64 c.n] 28)) w.heap.size 28 [.slice ta c.ts.length tc, .slice ca c.cs.length cc, .slice sa c.ss.length sc, .slice da c.d.length dc, .int .i64 c.n]) := ⟨below_alloc _ _, CBox.new _ _ [_, _, _, _, _]⟩
  have HT0 : Hid (∀ W, Below w.heap.size w W → TL P W (.slice ta c.ts.length tc) c.ts) := fun W q => hT.past q
  have HC0 : Hid (∀ W, Below w.heap.size w W → PL P W (.slice ca c.cs.length cc) c.cs) := fun W q => hC.past q
  have HS0 : Hid (∀ W, Below w.heap.size w W → PL P W (.slice sa c.ss.length sc) c.ss) := fun W q => hS.past q
  clear hT hC hS hD
  generalize chk c = r at *
  generalize hnt : c.ts.length = nt at *
  generalize hnc : c.cs.length = nc at *
  generalize hns : c.ss.length = ns at *
  generalize c.d.length = nd at *
  generalize c.n = z at *
  generalize c.ts = TT at *
  generalize c.cs = CC at *
  generalize c.ss = SS at *
  have HN : Hid (TT.length = nt ∧ CC.length = nc ∧ SS.length = ns) := ⟨hnt, hnc, hns⟩
  have tI : (nt : Int) ≤ 1152921504606846976 := by omega
  have cI : (nc : Int) ≤ 1152921504606846976 := by omega
  have sI : (ns : Int) ≤ 1152921504606846976 := by omega
  have dI : (nd : Int) ≤ 1152921504606846976 := by omega
  clear ht1 hc1 hs1 hd1 hnt hnc hns
  go_enter Try.func58, Try.ntmps58
  go_upto_region 1 with fail
  generalize w.alloc _ = W0 at B0 ⊢
  generalize hbx : w.heap.size = bx at *
  have GB : Hid (bx = w.heap.size) := hbx.symm
  have B1 : Hid (Below bx w W0) := B0.out.1
  have c0 : W0.cell? ⟨bx, 0, none⟩ = some (.slice ta nt tc) := B0.out.2.cell 0
  have c1 : W0.cell? ⟨bx, 1, none⟩ = some (.slice ca nc cc) := B0.out.2.cell 1
  have c2 : W0.cell? ⟨bx, 2, none⟩ = some (.slice sa ns sc) := B0.out.2.cell 2
  have c3 : W0.cell? ⟨bx, 3, none⟩ = some (.slice da nd dc) := B0.out.2.cell 3
  have c4 : W0.cell? ⟨bx, 4, none⟩ = some (.int .i64 z) := B0.out.2.cell 4
  have CB : Hid (CBox W0 bx 28 [.slice ta nt tc, .slice ca nc cc, .slice sa ns sc, .slice da nd dc, .int .i64 z]) := B0.out.2
  have HT : Hid (TL P W0 (.slice ta nt tc) TT) := HT0.out W0 B1.out
  have HC : Hid (PL P W0 (.slice ca nc cc) CC) := HC0.out W0 B1.out
  have HS : Hid (PL P W0 (.slice sa ns sc) SS) := HS0.out W0 B1.out
  clear B0 hbx HT0 HC0 HS0
  by_cases e0 : nc = 0
  · have E0 : Hid (r = 55) := by unfold Hid; rw [EK.out, if_pos (Or.inl e0)]
    have q1 : (nc : Int) < 1 := by omega
    clear e0
    go_wp2
    go_ret
    exact ⟨by rw [E0.out]; rfl, GB.out ▸ B1.out⟩
  have q0 : ¬ (nc : Int) < 1 := by omega
  by_cases e1 : 1024 < nc
  · have E0 : Hid (r = 55) := by unfold Hid; rw [EK.out, if_pos (Or.inr e1)]
    have q1 : (1024 : Int) < (nc : Int) := by omega
    clear e0 e1
    go_wp2
    go_ret
    exact ⟨by rw [E0.out]; rfl, GB.out ▸ B1.out⟩
  have q1 : ¬ (1024 : Int) < (nc : Int) := by omega
  generalize hrt : chkT 0 TT = rt at *
  have HRT : Hid (chkT 0 TT = rt) := hrt
  clear hrt
  have EK : Hid (r = if nt ≠ nc then 54 else if chkP 65535 CC ≠ 0 then chkP 65535 CC else (if 256 < ns then 57 else if chkP 4294967295 SS ≠ 0 then chkP 4294967295 SS else if 65535 < z then 2 else if z < (nd : Int) then 1 else rt)) := by unfold Hid; rw [EK.out, if_neg (by omega)]
  clear e0 e1
  go_upto_region 3 with fail
  by_cases e2 : nt = nc
  rotate_left
  · have E0 : Hid (r = 54) := by unfold Hid; rw [EK.out, if_pos e2]
    have q2 : ((nt : Int) == (nc : Int)) = false := by simp; omega
    have q3 : ((nt : Int) != (nc : Int)) = true := by simp; omega
    clear e2
    go_wp2
    go_ret
    exact ⟨by rw [E0.out]; rfl, GB.out ▸ B1.out⟩
  subst e2
  have EK : Hid (r = if chkP 65535 CC ≠ 0 then chkP 65535 CC else (if 256 < ns then 57 else if chkP 4294967295 SS ≠ 0 then chkP 4294967295 SS else if 65535 < z then 2 else if z < (nd : Int) then 1 else rt)) := by unfold Hid; rw [EK.out, if_neg (by simp)]
  clear q0 q1
  go_wp2
  go_loopw [3] (fun s wr => ∃ k : Nat, s = .int .i64 (k : Int) ∧ k ≤ nt ∧ wr = W0 ∧ r = if chkP 65535 (CC.drop k) ≠ 0 then chkP 65535 (CC.drop k) else (if 256 < ns then 57 else if chkP 4294967295 SS ≠ 0 then chkP 4294967295 SS else if 65535 < z then 2 else if z < (nd : Int) then 1 else rt)) (fun s _ => nt - (intOf s).toNat)
  case atStart => exact ⟨0, rfl, by omega, rfl, by rw [List.drop_zero]; exact EK.out⟩
  case round =>
    obtain ⟨k, rfl, hk, hwr, hr⟩ := hrel
    have hwr2 := hwr.symm
    clear hwr
    subst hwr2
    have HR : Hid (r = if chkP 65535 (CC.drop k) ≠ 0 then chkP 65535 (CC.drop k) else (if 256 < ns then 57 else if chkP 4294967295 SS ≠ 0 then chkP 4294967295 SS else if 65535 < z then 2 else if z < (nd : Int) then 1 else rt)) := hr
    clear hr EK
    by_cases e : k = nt
    rotate_left
    · have kn : (k : Int) < (nt : Int) := by omega
      obtain ⟨l, hl⟩ : ∃ l, CC[k]? = some l := ⟨CC[k]'(by have := HN.out; omega), List.getElem?_eq_getElem _⟩
      obtain ⟨g, a, u, rfl, hcell, hb⟩ := HC.out.get hl
      obtain ⟨ad2, cap2, rfl, _, hl1⟩ := hb.len
      have mI : (l.length : Int) ≤ 1152921504606846976 := by omega
      have EL : Hid (chkP 65535 (CC.drop k) = if l.length = 0 then 56 else if 65535 < l.length then 2 else chkP 65535 (CC.drop (k + 1))) := by unfold Hid; rw [drop_at hl]; rfl
      clear hl hb hl1
      generalize l.length = q at *
      by_cases e0 : q = 0
      · subst e0
        have E0 : Hid (r = 56) := by unfold Hid; rw [HR.out, EL.out, if_pos rfl]; rfl
        go_wp2
        go_ret
        exact ⟨by rw [E0.out]; rfl, GB.out ▸ B1.out⟩
      have q0 : ((q : Int) == 0) = false := by simp; omega
      by_cases e1 : 65535 < q
      · have E0 : Hid (r = 2) := by unfold Hid; rw [HR.out, EL.out, if_neg e0, if_pos e1]; rfl
        have c1 : (65535 : Int) < (q : Int) := by omega
        clear e0
        go_wp2
        go_ret
        exact ⟨by rw [E0.out]; rfl, GB.out ▸ B1.out⟩
      have E0 : Hid (r = if chkP 65535 (CC.drop (k + 1)) ≠ 0 then chkP 65535 (CC.drop (k + 1)) else (if 256 < ns then 57 else if chkP 4294967295 SS ≠ 0 then chkP 4294967295 SS else if 65535 < z then 2 else if z < (nd : Int) then 1 else rt)) := by unfold Hid; rw [HR.out, EL.out, if_neg e0, if_neg e1]
      have c1 : ¬ (65535 : Int) < (q : Int) := by omega
      clear e0 e1
      go_wp2
      go_roundw
      case rel => exact ⟨k + 1, by first | rfl | go_num, by omega, by first | rfl | trivial, E0.out⟩
      case measure => simp [intOf]; omega
    have e9 := e.symm
    clear e
    subst e9
    have EK : Hid (r = (if 256 < ns then 57 else if chkP 4294967295 SS ≠ 0 then chkP 4294967295 SS else if 65535 < z then 2 else if z < (nd : Int) then 1 else rt)) := by unfold Hid; rw [HR.out, List.drop_eq_nil_of_le (by have := HN.out; omega)]; rfl
    clear HR
    go_upto_region 12 with fail
    by_cases e4 : 256 < ns
    · have E0 : Hid (r = 57) := by unfold Hid; rw [EK.out, if_pos e4]
      have q2 : (256 : Int) < (ns : Int) := by omega
      clear e4
      go_wp2
      go_ret
      exact ⟨by rw [E0.out]; rfl, GB.out ▸ B1.out⟩
    have q4 : ¬ (256 : Int) < (ns : Int) := by omega
    have EK : Hid (r = if chkP 4294967295 SS ≠ 0 then chkP 4294967295 SS else (if 65535 < z then 2 else if z < (nd : Int) then 1 else rt)) := by unfold Hid; rw [EK.out, if_neg e4]
    clear e4
    go_wp2
    go_loopw [4] (fun s wr => ∃ k : Nat, s = .int .i64 (k : Int) ∧ k ≤ ns ∧ wr = W0 ∧ r = if chkP 4294967295 (SS.drop k) ≠ 0 then chkP 4294967295 (SS.drop k) else (if 65535 < z then 2 else if z < (nd : Int) then 1 else rt)) (fun s _ => ns - (intOf s).toNat)
    case atStart => exact ⟨0, rfl, by omega, rfl, by rw [List.drop_zero]; exact EK.out⟩
    case round =>
      obtain ⟨k, rfl, hk, hwr, hr⟩ := hrel
      have hwr2 := hwr.symm
      clear hwr
      subst hwr2
      have HR : Hid (r = if chkP 4294967295 (SS.drop k) ≠ 0 then chkP 4294967295 (SS.drop k) else (if 65535 < z then 2 else if z < (nd : Int) then 1 else rt)) := hr
      clear hr EK
      by_cases e : k = ns
      rotate_left
      · have kn : (k : Int) < (ns : Int) := by omega
        obtain ⟨l, hl⟩ : ∃ l, SS[k]? = some l := ⟨SS[k]'(by have := HN.out; omega), List.getElem?_eq_getElem _⟩
        obtain ⟨g, a, u, rfl, hcell, hb⟩ := HS.out.get hl
        obtain ⟨ad2, cap2, rfl, _, hl1⟩ := hb.len
        have mI : (l.length : Int) ≤ 1152921504606846976 := by omega
        have EL : Hid (chkP 4294967295 (SS.drop k) = if l.length = 0 then 56 else if 4294967295 < l.length then 2 else chkP 4294967295 (SS.drop (k + 1))) := by unfold Hid; rw [drop_at hl]; rfl
        clear hl hb hl1
        generalize l.length = q at *
        by_cases e0 : q = 0
        · subst e0
          have E0 : Hid (r = 56) := by unfold Hid; rw [HR.out, EL.out, if_pos rfl]; rfl
          go_wp2
          go_ret
          exact ⟨by rw [E0.out]; rfl, GB.out ▸ B1.out⟩
        have q0 : ((q : Int) == 0) = false := by simp; omega
        by_cases e1 : 4294967295 < q
        · have E0 : Hid (r = 2) := by unfold Hid; rw [HR.out, EL.out, if_neg e0, if_pos e1]; rfl
          have c1 : (4294967295 : Int) < (q : Int) := by omega
          clear e0
          go_wp2
          go_ret
          exact ⟨by rw [E0.out]; rfl, GB.out ▸ B1.out⟩
        have E0 : Hid (r = if chkP 4294967295 (SS.drop (k + 1)) ≠ 0 then chkP 4294967295 (SS.drop (k + 1)) else (if 65535 < z then 2 else if z < (nd : Int) then 1 else rt)) := by unfold Hid; rw [HR.out, EL.out, if_neg e0, if_neg e1]
        have c1 : ¬ (4294967295 : Int) < (q : Int) := by omega
        clear e0 e1
        go_wp2
        go_roundw
        case rel => exact ⟨k + 1, by first | rfl | go_num, by omega, by first | rfl | trivial, E0.out⟩
        case measure => simp [intOf]; omega
      have e9 := e.symm
      clear e
      subst e9
      have EK : Hid (r = (if 65535 < z then 2 else if z < (nd : Int) then 1 else rt)) := by unfold Hid; rw [HR.out, List.drop_eq_nil_of_le (by have := HN.out; omega)]; rfl
      clear HR
      go_upto_region 21 with fail
      by_cases e6 : 65535 < z
      · have E0 : Hid (r = 2) := by unfold Hid; rw [EK.out, if_pos e6]
        go_wp2
        go_ret
        exact ⟨by rw [E0.out]; rfl, GB.out ▸ B1.out⟩
      by_cases e7 : z < (nd : Int)
      · have E0 : Hid (r = 1) := by unfold Hid; rw [EK.out, if_neg e6, if_pos e7]
        go_wp2
        go_ret
        exact ⟨by rw [E0.out]; rfl, GB.out ▸ B1.out⟩
      have EK : Hid (r = rt) := by unfold Hid; rw [EK.out, if_neg e6, if_neg e7]
      have EK : Hid (r = chkT 0 (TT.drop 0)) := by unfold Hid; rw [List.drop_zero, HRT.out]; exact EK.out
      go_wp2
      clear e6 e7
      go_loopw [5] (fun s wr => ∃ k : Nat, s = .int .i64 (k : Int) ∧ k ≤ nt ∧ Below bx w wr ∧ CBox wr bx 28 [.slice ta nt tc, .slice ca nt cc, .slice sa ns sc, .slice da nd dc, .int .i64 z] ∧ TL P wr (.slice ta nt tc) TT ∧ r = chkT k (TT.drop k)) (fun s _ => nt - (intOf s).toNat)
      case atStart => exact ⟨0, rfl, by omega, B1.out, CB.out, HT.out, EK.out⟩
      case round =>
        obtain ⟨k, rfl, hk, hB, hC, hT, hr⟩ := hrel
        have HM : Hid (Below bx w wr ∧ CBox wr bx 28 [.slice ta nt tc, .slice ca nt cc, .slice sa ns sc, .slice da nd dc, .int .i64 z] ∧ TL P wr (.slice ta nt tc) TT) := ⟨hB, hC, hT⟩
        have HR : Hid (r = chkT k (TT.drop k)) := hr
        clear hB hC hT hr EK c0 c1 c2 c3 c4
        have c0 : wr.cell? ⟨bx, 0, none⟩ = some (.slice ta nt tc) := HM.out.2.1.cell 0
        by_cases e : k = nt
        · subst e
          have E0 : Hid (r = 0) := by unfold Hid; rw [HR.out, List.drop_eq_nil_of_le (by have := HN.out; omega)]; rfl
          go_wp2
          go_ret
          exact ⟨by rw [E0.out]; rfl, GB.out ▸ HM.out.1⟩
        · have kn : (k : Int) < (nt : Int) := by omega
          obtain ⟨⟨y1, y2, y3⟩, hl⟩ : ∃ t, TT[k]? = some t := ⟨TT[k]'(by have := HN.out; omega), List.getElem?_eq_getElem _⟩
          obtain ⟨g, a, rfl, f0, f1, f2⟩ := HM.out.2.2.get hl
          have EL : Hid (chkT k (TT.drop k) = if tyBad k (y1, y2, y3) < 3 then 59 else chkT (k + 1) (TT.drop (k + 1))) := by unfold Hid; rw [drop_at hl]; rfl
          have TW : Hid (Calls Try.prog 73 #[.int .i64 (k : Int), .agg #[.int .i64 y1, .int .i64 y2, .int .i64 y3]] wr fun e w' => e = .returned (.int .i64 (tyBad k (y1, y2, y3) : Int)) ∧ Below wr.heap.size wr w') := typeWrong_is wr k y1 y2 y3
          generalize tyBad k (y1, y2, y3) = tb at *
          clear hl
          by_cases e3 : tb < 3
          · have E0 : Hid (r = 59) := by unfold Hid; rw [HR.out, EL.out, if_pos e3]
            have q3 : (tb : Int) < 3 := by omega
            clear e3
            go_wp2_with (go_at_call 73; refine TW.out.mono ?_; rintro e w' ⟨rfl, hB⟩)
            go_ret
            exact ⟨by rw [E0.out]; rfl, GB.out ▸ HM.out.1.trans (hB.mono (Nat.le_trans (by rw [GB.out]; exact Nat.le_refl _) HM.out.1.size))⟩
          · have E0 : Hid (r = chkT (k + 1) (TT.drop (k + 1))) := by unfold Hid; rw [HR.out, EL.out, if_neg e3]
            have q3 : ¬ (tb : Int) < 3 := by omega
            clear e3
            go_wp2_with (go_at_call 73; refine TW.out.mono ?_; rintro e w' ⟨rfl, hB⟩)
            have HM2 : Hid (Below bx w w' ∧ CBox w' bx 28 [.slice (some ⟨g, a, none⟩) nt tc, .slice ca nt cc, .slice sa ns sc, .slice da nd dc, .int .i64 z] ∧ TL P w' (.slice (some ⟨g, a, none⟩) nt tc) TT) := ⟨HM.out.1.trans (hB.mono (Nat.le_trans (by rw [GB.out]; exact Nat.le_refl _) HM.out.1.size)), HM.out.2.1.past hB, HM.out.2.2.past hB⟩
            clear hB HM f0 f1 f2 c0 TW
            go_roundw
            case rel => exact ⟨k + 1, by first | rfl | go_num, by omega, HM2.out.1, HM2.out.2.1, HM2.out.2.2, E0.out⟩
            case measure => simp [intOf]; omega
theorem chkT_small : ∀ (l : List Ty) (i : Nat), chkT i l = 0 ∨ chkT i l = 59
  | [], _ => Or.inl rfl
  | t :: r, i => by
    unfold chkT
    split
    · exact Or.inr rfl
    · exact chkT_small r (i + 1)
theorem chk_small (c : Con) : chk c < 1000 ∧ -1000 < chk c := by
  have h1 := chkP_cases 65535 c.cs
  have h2 := chkP_cases 4294967295 c.ss
  have h3 := chkT_small c.ts 0
  unfold chk
  repeat' split
  all_goals omega
set_option maxHeartbeats 4000000 in
set_option maxRecDepth 100000 in
theorem rCheck_is {P : Nat → Prop} (w : World) (v : Value) (c : Con) (h : CW P w v c) : Calls Try.prog 21 #[v] w fun e w' => e = .returned (.int .i64 (chk c)) ∧ Below w.heap.size w w' := by
  obtain ⟨tv, cv, sv, dv, rfl, hT, hC, hS, hD⟩ := id h
  obtain ⟨ta, tc, rfl, _⟩ := hT.len
  obtain ⟨ca, cc, rfl, _⟩ := hC.len
  obtain ⟨sa, sc, rfl, _⟩ := hS.len
  obtain ⟨da, dc, rfl, _⟩ := hD.len
  have CK : Hid (∀ W, Below w.heap.size w W → Calls Try.prog 58 #[.agg #[.slice ta c.ts.length tc, .slice ca c.cs.length cc, .slice sa c.ss.length sc, .slice da c.d.length dc, .int .i64 c.n]] W fun e w' => e = .returned (.int .i64 (chk c)) ∧ Below W.heap.size W w') := fun W hW => rcheck_is W _ c (h.past hW)
  have B0 : Hid (Below w.heap.size w (w.alloc (.cells #[.slice ta c.ts.length tc, .slice ca c.cs.length cc, .slice sa c.ss.length sc, .slice da c.d.length dc, .int .i64 c.n] 28)) ∧ CBox (w.alloc (.cells #[.slice ta c.ts.length tc, .slice ca c.cs.length cc, .slice sa c.ss.length sc, .slice da c.d.length dc, .int .i64 c.n] 28)) w.heap.size 28 [.slice ta c.ts.length tc, .slice ca c.cs.length cc, .slice sa c.ss.length sc, .slice da c.d.length dc, .int .i64 c.n]) := ⟨below_alloc _ _, CBox.new _ _ [_, _, _, _, _]⟩
  have WR : Hid (chk c < 1000 ∧ -1000 < chk c) := chk_small c
  clear h hT hC hS hD
  generalize chk c = r at *
  generalize c.ts.length = nt at *
  generalize c.cs.length = nc at *
  generalize c.ss.length = ns at *
  generalize c.d.length = nd at *
  generalize c.n = z at *
  have wr : IntKind.i64.wrap r = r := by rw [IntKind.wrap_i64]; have := WR.out; omega
  generalize hbx : w.heap.size = bx at *
  have GE : Hid (bx ≤ w.heap.size) := by unfold Hid; omega
  go_enter Try.func21, Try.ntmps21
  go_upto_region 1 with fail
  generalize w.alloc _ = W0 at B0 ⊢
  have c0 : W0.cell? ⟨bx, 0, none⟩ = some (.slice ta nt tc) := B0.out.2.cell 0
  have c1 : W0.cell? ⟨bx, 1, none⟩ = some (.slice ca nc cc) := B0.out.2.cell 1
  have c2 : W0.cell? ⟨bx, 2, none⟩ = some (.slice sa ns sc) := B0.out.2.cell 2
  have c3 : W0.cell? ⟨bx, 3, none⟩ = some (.slice da nd dc) := B0.out.2.cell 3
  have c4 : W0.cell? ⟨bx, 4, none⟩ = some (.int .i64 z) := B0.out.2.cell 4
  clear hbx
  go_wp2_with (go_at_call 58; refine (CK.out _ B0.out.1).mono ?_; rintro e w1 ⟨rfl, hB⟩)
  go_ret
  exact ⟨rfl, B0.out.1.trans (hB.mono (Nat.le_trans GE.out B0.out.1.size))⟩
end Go.Proofs.Ytndhabhlajldeaa
