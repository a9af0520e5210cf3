/- CodeTargets. -/
import Derived.Test.YtbhldmfnhlifpaaDoorCdo
namespace Go.Proofs.YtbhldmfnhlifpaaDoor
open Go.RowKit
set_option maxHeartbeats 4000000 in
set_option maxRecDepth 100000 in
theorem codeTargets_walk (w : World) (hN : Nms w) (v : Value) (L0 : Nat) (b : Nat → Nat) (hL0 : L0 ≤ 9223372036854775807) (hv : BytesOf w v L0 b) (hcp : ∀ ad cap, v = .slice ad L0 cap → L0 ≤ cap) : Calls Tryd.prog 10 #[v] w fun e w' => e = .returned (.bool true) ∧ Below w.heap.size w w' := by
  have HB : Hid (∀ j, b j < 256) := by obtain ⟨_, _, _, h, _⟩ := hv; exact h
  have HCU : Hid (Calls Tryd.prog 46 #[v] w fun e w' => ∃ g cap, e = .returned (.slice (some ⟨g, 0, none⟩) (cutN L0) cap) ∧ w'.ownsRow w.heap.size 5 1 (.slice (some ⟨g, 0, none⟩) (cutN L0) cap) (cutN L0) (bsL (cutN L0) b) ∧ Below w.heap.size w w') := cut_at w v L0 b hL0 hv hcp
  have hm := (cutN_le L0).2
  generalize cutN L0 = L at HCU hm
  have HAW : Hid (∀ W, Below w.heap.size w W → Calls Tryd.prog 32 #[] W fun e w' => e = .returned (.bool true) ∧ Below W.heap.size W w') := fun W hB => awake_is W (hN.past hB)
  clear hv hcp
  have lI : (L : Int) ≤ 70000 := by omega
  go_enter Tryd.func10, Tryd.ntmps10
  go_upto_region 4 with (first
    | (go_at_call 46; refine HCU.out.mono ?_; rintro e w1 ⟨g1, c1, rfl, ho1, hB1⟩; (have OB1 : Hid (BytesOf w1 (.slice (some ⟨g1, 0, none⟩) L c1) L b ∧ (∀ ad cap, Value.slice (some ⟨g1, 0, none⟩) L c1 = .slice ad L cap → L ≤ cap) ∧ Below w.heap.size w w1) := ⟨(own_bytes ho1 HB.out).1, (own_bytes ho1 HB.out).2, hB1⟩); clear ho1 hB1 HCU)
    | (go_at_call 39; refine Calls.mono (scan_is w1 _ L b (hN.past OB1.out.2.2) OB1.out.1 OB1.out.2.1 (by omega)) ?_; rintro e w2 ⟨k, fv, hFu, rfl, hB2, hno, hyes⟩; (have B2 : Hid (Below w1.heap.size w1 w2 ∧ Below w.heap.size w w2) := ⟨hB2, OB1.out.2.2.trans (hB2.mono OB1.out.2.2.size)⟩); (have HF : Hid (FullA b L k) := hFu); clear hB2 hFu)
    | (go_at_call 37; refine Calls.mono (check_is w2 _ L b (hN.past B2.out.2) (OB1.out.1.below rfl B2.out.1) OB1.out.2.1 (by omega)) ?_; rintro e w3 ⟨k3, er, pl, hF3, hch, rfl, hB3⟩; (have B3 : Hid (Below w2.heap.size w2 w3 ∧ Below w.heap.size w w3 ∧ ChRes b L k er pl) := ⟨hB3, B2.out.2.trans (hB3.mono B2.out.2.size), (by rw [fullA_one HF.out hF3]; exact hch)⟩); clear hB3 hF3 hch))
  by_cases hE : scE b L k = 0
  · have HC2 : Hid (∀ i, i < k → asA b L k (posA b i) = true → (∀ j, j < i → asA b L k (posA b j) = false) → er = 63 ∧ pl = posA b i) := fun i hi h1 h2 => chRes_one B3.out.2.2 (Or.inr (Or.inl ⟨hE, i, hi, h1, h2, rfl, rfl⟩))
    have HC3 : Hid ((∀ j, j < k → asA b L k (posA b j) = false) → er = 0 ∧ pl = 0) := fun h => chRes_one B3.out.2.2 (Or.inr (Or.inr ⟨hE, h, rfl, rfl⟩))
    obtain ⟨hm0, hpm, hk0, _⟩ := sc_ok hE HF.out
    obtain ⟨xs, xl, xf, xr, xq⟩ := hyes hE
    rw [hE]
    clear hno hyes hE
    generalize scP b L k = sp
    obtain ⟨g, cap, rfl⟩ : ∃ g cap, fv = .slice (some ⟨g, 0, none⟩) k cap := by
      obtain ⟨k', rfl⟩ : ∃ k', k = k' + 1 := ⟨k - 1, by omega⟩
      exact ownsRow_succ xr
    have km : k ≤ L := HF.out.1.count
    have kM : (k : Int) ≤ 1000000 := by omega
    have HX : Hid (xs.length = k ∧ FitA b xs ∧ w2.ownsRow w1.heap.size 25 4 (.slice (some ⟨g, 0, none⟩) k cap) k (insL b xs) ∧ InsQ w1.heap.size b xs w2) := ⟨xl, xf, xr, xq⟩
    have HST : Hid (Calls Tryd.prog 41 #[.slice (some ⟨g1, 0, none⟩) L c1] w3 fun e w' => ∃ k, FullA b L k ∧ e = .returned (.slice (some ⟨w3.heap.size, 0, none⟩) L L) ∧ Below w3.heap.size w3 w' ∧ CBox w' w3.heap.size 4 (stL b L k)) := starts_is w3 _ L b (hN.past B3.out.2.1) ((OB1.out.1.below rfl B2.out.1).below rfl B3.out.1) OB1.out.2.1 (by omega)
    clear xl xf xr xq hpm hk0 hm0
    go_wp2_with (go_at_call 41; refine HST.out.mono ?_; rintro e w4 ⟨k2, hF2, rfl, hB2, hS2⟩; (have R2 : Hid (Below w3.heap.size w3 w4 ∧ CBox w4 w3.heap.size 4 (stL b L k)) := ⟨hB2, (by rw [fullA_one HF.out hF2]; exact hS2)⟩); clear hB2 hF2 hS2 HST)
    have B4 : Hid (Below w.heap.size w w4 ∧ Below w2.heap.size w2 w4) := ⟨B3.out.2.1.trans (R2.out.1.mono B3.out.2.1.size), B3.out.1.trans (R2.out.1.mono B3.out.1.size)⟩
    go_loopw [9] (fun si wr => ∃ j : Nat, j ≤ k ∧ si = .int .i64 (j : Int) ∧ (∀ i, i < j → asA b L k (posA b i) = false) ∧ Below w4.heap.size w4 wr) (fun si _ => k - (intOf si).toNat)
    case atStart => exact ⟨0, by omega, rfl, fun i hi => by omega, Below.refl _ _⟩
    case round =>
      obtain ⟨j, hj, rfl, hbad, hBr⟩ := hrel
      have HBJ : Hid (∀ i, i < j → asA b L k (posA b i) = false) := hbad
      clear hbad
      by_cases hlt : j < k
      · have jI : (j : Int) < (k : Int) := by omega
        obtain ⟨q, r0, r1, r2, r3, rq, rI⟩ := row_at HX.out.1 HX.out.2.1 HX.out.2.2.1 HX.out.2.2.2 j hlt
        have gl := World.block_lt_of_cell? w2 _ r0
        have okj := HF.out.1 j hlt
        have hBr2 : Below w2.heap.size w2 wr := B4.out.2.trans (hBr.mono B4.out.2.size)
        have HLD : Hid (Calls Tryd.prog 33 #[.agg #[.int .i64 (posA b j : Int), .int .i64 (b (posA b j) : Int), .slice (some ⟨q, 0, none⟩) (immA b (posA b j)) (immA b (posA b j)), .int .i64 (nxA b (posA b j) : Int)]] wr fun e w' => ∃ pl, e = .returned pl ∧ w'.ownsRow wr.heap.size 3 1 pl (ldN b (posA b j)) (ldL b (posA b j)) ∧ Below wr.heap.size wr w') := leads_at wr ((hN.past B4.out.1).past hBr) b (posA b j) q L HB.out okj (by omega) ((rI.past B4.out.2).past hBr)
        have d0 := (hBr2.cell (p := ⟨g, j * 4, none⟩) gl).trans r0
        have d1 := (hBr2.cell (p := ⟨g, j * 4 + 1, none⟩) gl).trans r1
        have d2 := (hBr2.cell (p := ⟨g, j * 4 + 2, none⟩) gl).trans r2
        have d3 := (hBr2.cell (p := ⟨g, j * 4 + 3, none⟩) gl).trans r3
        have HC2j : Hid (asA b L k (posA b j) = true → er = 63 ∧ pl = posA b j) := fun h => HC2.out j hlt h HBJ.out
        have BR : Hid (Below w4.heap.size w4 wr) := hBr
        have D0 : Hid (∀ W, Below wr.heap.size wr W → W.cell? ⟨g, j * 4, none⟩ = some (.int .i64 (posA b j : Int))) := fun W hW => (hW.cell (p := ⟨g, j * 4, none⟩) (World.block_lt_of_cell? wr _ d0)).trans d0
        have hnn : ldN b (posA b j) ≤ 300 := by unfold ldN; split; omega; split; (have := HB.out (posA b j + 1); omega); omega
        have HV : Hid (∀ t, -100000 ≤ ldV b (posA b j) t ∧ ldV b (posA b j) t ≤ 2000000) := fun t => by have := ldV_in b HB.out (posA b j) t; have h3 := (okA_parts okj).2.2; unfold nxA at this; omega
        have HAS : Hid (∀ t, t < ldN b (posA b j) → badA b L k (posA b j) t = true → asA b L k (posA b j) = true) := fun t ht h => asA_yes ht h
        have HAN : Hid ((∀ t, t < ldN b (posA b j) → badA b L k (posA b j) t = false) → asA b L k (posA b j) = false) := asA_no
        have HBD : Hid (∀ t, badA b L k (posA b j) t = (decide (ldV b (posA b j) t < 0) || (decide ((L : Int) ≤ ldV b (posA b j) t) || !stA b k (ldV b (posA b j) t).toNat))) := fun t => rfl
        have HLG : Hid (∀ t, t < ldN b (posA b j) → (ldL b (posA b j))[t]? = some (.int .i64 (ldV b (posA b j) t))) := ldL_get b (posA b j)
        clear r0 r1 r2 r3 rI okj rq hBr hBr2
        simp only [posA] at d3
        generalize badA b L k (posA b j) = bad at HAS HAN HBD
        generalize ldV b (posA b j) = lv at HV HBD HLG
        generalize ldL b (posA b j) = ll at HLD HLG
        generalize ldN b (posA b j) = n at HLD HAS HAN HLG hnn
        generalize immA b (posA b j) = im at HLD d2
        generalize nxA b (posA b j) = nx at HLD d3
        generalize b (posA b j) = c at HLD d1
        generalize hAA : asA b L k (posA b j) = aj at HC2j HAS HAN
        have HAA : Hid (asA b L k (posA b j) = aj) := hAA
        clear hAA
        generalize posA b j = A at HLD HC2j d0 D0
        go_wp2_with (go_at_call 33; refine HLD.out.mono ?_; rintro e w5 ⟨pv, rfl, ho, hB5⟩; (have R5 : Hid (w5.ownsRow wr.heap.size 3 1 pv n ll ∧ Below wr.heap.size wr w5) := ⟨ho, hB5⟩); clear ho hB5 HLD; obtain ⟨ad, c0, rfl, hadd⟩ := own_slice R5.out.1)
        have nI : (n : Int) ≤ 300 := by omega
        clear d0 d1 d2 d3
        obtain ⟨wo, rfl⟩ : ∃ wo, wo = wr := ⟨_, rfl⟩
        go_loopw [11] (fun si wx => ∃ t : Nat, t ≤ n ∧ si = .int .i64 (t : Int) ∧ (∀ i, i < t → bad i = false) ∧ wx = w5) (fun si _ => n - (intOf si).toNat)
        case atStart => exact ⟨0, by omega, rfl, fun i hi => by omega, rfl⟩
        case round =>
          obtain ⟨t, ht, rfl, hbad, rfl⟩ := hrel
          have HBT : Hid (∀ i, i < t → bad i = false) := hbad
          clear hbad
          have BX : Hid (Below w4.heap.size w4 wr ∧ Below w.heap.size w wr) := ⟨BR.out.trans (R5.out.2.mono BR.out.size), (B4.out.1.trans (BR.out.mono B4.out.1.size)).trans (R5.out.2.mono (Nat.le_trans B4.out.1.size BR.out.size))⟩
          by_cases htn : t < n
          · have tI : (t : Int) < (n : Int) := by omega
            obtain ⟨gp, rfl⟩ := hadd (by omega)
            have cz : wr.cell? ⟨gp, t, none⟩ = some (.int .i64 (lv t)) := by rw [R5.out.1.cellAt t (by omega), HLG.out t htn]
            have a0 := D0.out wr R5.out.2
            have hbj := HBD.out t
            have hv := HV.out t
            have HRJ : Hid (bad t = true → er = 63 ∧ pl = A) := fun h => HC2j.out (HAS.out t htn h)
            generalize lv t = z at cz hbj hv
            by_cases hz : z < 0
            · obtain ⟨rfl, rfl⟩ := HRJ.out (by rw [hbj, decide_eq_true hz]; rfl)
              clear hbj HRJ
              go_wp2_with (go_at_call 32; refine (HAW.out _ BX.out.2).mono ?_; rintro e w6 ⟨rfl, hB6⟩; (have B6 : Hid (Below w.heap.size w w6) := BX.out.2.trans (hB6.mono BX.out.2.size)); clear hB6)
              go_ret
              exact ⟨rfl, B6.out⟩
            · obtain ⟨u, rfl⟩ : ∃ u : Nat, z = (u : Int) := ⟨z.toNat, by omega⟩
              have z0 : ¬ (u : Int) < 0 := hz
              by_cases hzl : L ≤ u
              · obtain ⟨rfl, rfl⟩ := HRJ.out (by rw [hbj, decide_eq_true (show (L : Int) ≤ (u : Int) by omega)]; simp)
                have zl : (L : Int) ≤ (u : Int) := by omega
                clear hbj hz hzl HRJ
                go_wp2_with (go_at_call 32; refine (HAW.out _ BX.out.2).mono ?_; rintro e w6 ⟨rfl, hB6⟩; (have B6 : Hid (Below w.heap.size w w6) := BX.out.2.trans (hB6.mono BX.out.2.size)); clear hB6)
                go_ret
                exact ⟨rfl, B6.out⟩
              · have zl : (u : Int) < (L : Int) := by omega
                have zl2 : ¬ (L : Int) ≤ (u : Int) := by omega
                have cs := (R2.out.2.past BX.out.1).cell u
                rw [stL_get b L k u (by omega)] at cs
                rw [decide_eq_false z0, decide_eq_false zl2, Bool.false_or, Bool.false_or, Int.toNat_natCast] at hbj
                cases hst : stA b k u with
                | false =>
                  obtain ⟨rfl, rfl⟩ := HRJ.out (by rw [hbj, hst]; rfl)
                  rw [hst] at cs
                  clear hbj hz hzl hst HRJ
                  go_wp2_with (go_at_call 32; refine (HAW.out _ BX.out.2).mono ?_; rintro e w6 ⟨rfl, hB6⟩; (have B6 : Hid (Below w.heap.size w w6) := BX.out.2.trans (hB6.mono BX.out.2.size)); clear hB6)
                  go_ret
                  exact ⟨rfl, B6.out⟩
                | true =>
                  have HNB : Hid (bad t = false) := by rw [hst] at hbj; exact hbj
                  rw [hst] at cs
                  clear hbj hz hzl hst HRJ
                  go_wp2
                  go_roundw
                  case rel => exact ⟨t + 1, by omega, by simp, fun i hi => by
                    by_cases e : i = t
                    · subst e; exact HNB.out
                    · exact HBT.out i (by omega), by first | trivial | rfl⟩
                  case measure => simp [intOf]; omega
          · obtain rfl : t = n := by omega
            have HAF : Hid (asA b L k (posA b j) = false) := HAA.out.trans (HAN.out HBT.out)
            go_wp2
            go_roundw
            case rel => exact ⟨j + 1, by omega, by simp, fun i hi => by
              by_cases e : i = j
              · subst e; exact HAF.out
              · exact HBJ.out i (by omega), BX.out.1⟩
            case measure => simp [intOf]; omega
      · obtain rfl : j = k := by omega
        obtain ⟨rfl, rfl⟩ := HC3.out HBJ.out
        have B5 : Hid (Below w.heap.size w wr) := B4.out.1.trans (hBr.mono B4.out.1.size)
        go_wp2_with (go_at_call 32; refine (HAW.out _ B5.out).mono ?_; rintro e w6 ⟨rfl, hB6⟩; (have B6 : Hid (Below w.heap.size w w6) := B5.out.trans (hB6.mono B5.out.size)); clear hB6)
        go_ret
        exact ⟨rfl, B6.out⟩
  · obtain ⟨rfl, rfl⟩ := chRes_one B3.out.2.2 (Or.inl ⟨hE, rfl, rfl⟩)
    obtain rfl := hno hE
    have B4 : Hid (Below w.heap.size w w3) := B3.out.2.1
    clear B3 hno hyes
    generalize scP b L k = sp
    generalize scE b L k = er at hE ⊢
    go_wp2_with (go_at_call 32; refine (HAW.out _ B4.out).mono ?_; rintro e w5 ⟨rfl, hB5⟩; (have B5 : Hid (Below w.heap.size w w5) := B4.out.trans (hB5.mono B4.out.size)); clear hB5)
    go_ret
    exact ⟨rfl, B5.out⟩
end Go.Proofs.YtbhldmfnhlifpaaDoor
