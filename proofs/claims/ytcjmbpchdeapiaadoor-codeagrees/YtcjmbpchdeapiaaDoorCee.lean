/- The document's Check; CodeChecks. -/
import Derived.Test.YtcjmbpchdeapiaaDoorCrf
import Derived.Test.YtcjmbpchdeapiaaDoorCed
namespace Go.Proofs.YtcjmbpchdeapiaaDoor
open Go.RowKit
theorem rleads_at (w : World) (b : Nat → Nat) (A L : Nat) (ia : Option Addr) (ic : Nat) (hb : ∀ j, b j < 256) (hok : okA b L A = true) (hL : L ≤ 1000000) (hI : BytesOf w (.slice ia (immA b A) ic) (immA b A) (fun i => b (A + 1 + i))) : Calls Tryd.prog 28 #[.agg #[.int .i64 (A : Int), .int .i64 (b A : Int), .slice ia (immA b A) ic, .int .i64 (nxA b A : Int)]] w fun e w' => ∃ pl, e = .returned pl ∧ w'.ownsRow w.heap.size 3 1 pl (ldN b A) (ldL b A) ∧ Below w.heap.size w w' := by
  have hp := okA_parts hok
  have hs := stands_at (hb A) hok (by omega)
  have h := rleads_any w (A : Int) (b A : Int) (nxA b A : Int) _ (immA b A) (fun i => b (A + 1 + i)) (by omega) hI

  rw [hs] at h
  have e1 : lgN true (b A : Int) (b (A + 1 + 0)) = ldN b A := by
    unfold lgN ldN
    rw [if_pos rfl, Nat.add_zero]
    by_cases h1 : b A = 224 ∨ b A = 225
    · rw [if_pos (by omega), if_pos h1]
    · rw [if_neg (by omega), if_neg h1]
      by_cases h2 : b A = 226
      · rw [if_pos (by omega), if_pos h2]
      · rw [if_neg (by omega), if_neg h2]
  have e2 : lgO (b A : Int) = ldO b A := by
    unfold lgO ldO
    by_cases h2 : b A = 226
    · rw [if_pos (by omega), if_pos h2]
    · rw [if_neg (by omega), if_neg h2]
  rw [e1, e2] at h
  exact h
set_option maxHeartbeats 4000000 in
set_option maxRecDepth 100000 in
theorem rcheck_is (w : World) (v : Value) (L : Nat) (b : Nat → Nat) (hv : BytesOf w v L b) (hm : L ≤ 1000000) : Calls Tryd.prog 11 #[v] w fun e w' => ∃ k er pl, (FullA b L k ∧ ChRes b L k er pl) ∧ e = .returned (.tuple #[.int .i64 er, .int .i64 (pl : Int)]) ∧ Below w.heap.size w w' := by
  have HB : Hid (∀ j, b j < 256) := by obtain ⟨_, _, _, h, _⟩ := hv; exact h
  have HSC : Hid (Calls Tryd.prog 9 #[v] w (RScanPost w L b)) := rscan_is w v L b hv hm
  have HSS : Hid (∀ W, Below w.heap.size w W → Calls Tryd.prog 13 #[v] W fun e w' => ∃ k, FullA b L k ∧ e = .returned (.slice (some ⟨W.heap.size, 0, none⟩) L L) ∧ Below W.heap.size W w' ∧ CBox w' W.heap.size 4 (stL b L k)) := fun W hB => rstarts_is W v L b (hv.below rfl hB) hm
  obtain ⟨ad0, cap0, rfl, _⟩ := hv
  have lI : (L : Int) ≤ 1000000 := by omega
  go_enter Tryd.func11, Tryd.ntmps11
  go_upto_region 2 with (go_at_call 9; refine Calls.mono HSC.out ?_; rintro e w3 ⟨k, fv, hFu, rfl, hB2, _, hyes⟩; (have B3 : Hid (Below w.heap.size w w3) := hB2); (have HF : Hid (FullA b L k) := hFu); clear hB2 hFu HSC)
  by_cases hE : scE b L k = 0
  · have HC2 : Hid (∀ i, i < k → asA b L k (posA b i) = true → (∀ j, j < i → asA b L k (posA b j) = false) → ChRes b L k 63 (posA b i)) := fun i hi h1 h2 => Or.inr (Or.inl ⟨hE, i, hi, h1, h2, rfl, rfl⟩)
    have HC3 : Hid ((∀ j, j < k → asA b L k (posA b j) = false) → ChRes b L k 0 0) := fun h => Or.inr (Or.inr ⟨hE, h, rfl, rfl⟩)
    obtain ⟨hm0, hpm, hk0, _⟩ := sc_ok hE HF.out
    have HX : Hid (RAll w.heap.size b k fv w3) := hyes hE
    rw [hE]
    clear hyes hE
    generalize scP b L k = sp
    obtain ⟨gq, cap, rfl, hgq⟩ := HX.out.slice
    obtain ⟨g, rfl⟩ := hgq hk0
    have km : k ≤ L := HF.out.1.count
    have kM : (k : Int) ≤ 1000000 := by omega
    clear hpm hk0 hm0 hgq
    go_wp2_with (go_at_call 13; refine (HSS.out _ B3.out).mono ?_; rintro e w4 ⟨k2, hF2, rfl, hB2, hS2⟩; (have R2 : Hid (Below w3.heap.size w3 w4 ∧ CBox w4 w3.heap.size 4 (stL b L k)) := ⟨hB2, (by rw [fullA_one HF.out hF2]; exact hS2)⟩); clear hB2 hF2 hS2 HSS)
    have B4 : Hid (Below w.heap.size w w4 ∧ Below w3.heap.size w3 w4) := ⟨B3.out.trans (R2.out.1.mono B3.out.size), R2.out.1⟩
    go_loopw [8] (fun si wr => ∃ j : Nat, j ≤ k ∧ si = .int .i64 (j : Int) ∧ (∀ i, i < j → asA b L k (posA b i) = false) ∧ Below w4.heap.size w4 wr) (fun si _ => k - (intOf si).toNat)
    case atStart => exact ⟨0, by omega, rfl, fun i hi => by omega, Below.refl _ _⟩
    case round =>
      obtain ⟨j, hj, rfl, hbad, hBr⟩ := hrel
      have HBJ : Hid (∀ i, i < j → asA b L k (posA b i) = false) := hbad
      clear hbad
      by_cases hlt : j < k
      · have jI : (j : Int) < (k : Int) := by omega
        have hBr2 : Below w3.heap.size w3 wr := B4.out.2.trans (hBr.mono B4.out.2.size)
        obtain ⟨ia, ic, d0, d1, d2, d3, dB⟩ := (HX.out.past hBr2).at HB.out j hlt
        have okj := HF.out.1 j hlt
        have HLD : Hid (Calls Tryd.prog 28 #[.agg #[.int .i64 (posA b j : Int), .int .i64 (b (posA b j) : Int), .slice ia (immA b (posA b j)) ic, .int .i64 (nxA b (posA b j) : Int)]] wr fun e w' => ∃ pl, e = .returned pl ∧ w'.ownsRow wr.heap.size 3 1 pl (ldN b (posA b j)) (ldL b (posA b j)) ∧ Below wr.heap.size wr w') := rleads_at wr b (posA b j) L ia ic HB.out okj (by omega) dB
        have HC2j : Hid (asA b L k (posA b j) = true → ChRes b L k 63 (posA b j)) := fun h => HC2.out j hlt h HBJ.out
        have BR : Hid (Below w4.heap.size w4 wr) := hBr
        have D0 : Hid (∀ W, Below wr.heap.size wr W → W.cell? ⟨g, j * 4, none⟩ = some (.int .i64 (posA b j : Int))) := fun W hW => (hW.cell (p := ⟨g, j * 4, none⟩) (World.block_lt_of_cell? wr _ d0)).trans d0
        have hnn : ldN b (posA b j) ≤ 300 := by unfold ldN; split; omega; split; (have := HB.out (posA b j + 1); omega); omega
        have HV : Hid (∀ t, -100000 ≤ ldV b (posA b j) t ∧ ldV b (posA b j) t ≤ 2000000) := fun t => by have := ldV_in b HB.out (posA b j) t; have h3 := (okA_parts okj).2.2; unfold nxA at this; omega
        have HAS : Hid (∀ t, t < ldN b (posA b j) → badA b L k (posA b j) t = true → asA b L k (posA b j) = true) := fun t ht h => asA_yes ht h
        have HAN : Hid ((∀ t, t < ldN b (posA b j) → badA b L k (posA b j) t = false) → asA b L k (posA b j) = false) := asA_no
        have HBD : Hid (∀ t, badA b L k (posA b j) t = (decide (ldV b (posA b j) t < 0) || (decide ((L : Int) ≤ ldV b (posA b j) t) || !stA b k (ldV b (posA b j) t).toNat))) := fun t => rfl
        have HLG : Hid (∀ t, t < ldN b (posA b j) → (ldL b (posA b j))[t]? = some (.int .i64 (ldV b (posA b j) t))) := ldL_get b (posA b j)
        clear dB okj hBr hBr2
        simp only [posA] at d3
        generalize badA b L k (posA b j) = bad at HAS HAN HBD
        generalize ldV b (posA b j) = lv at HV HBD HLG
        generalize ldL b (posA b j) = ll at HLD HLG
        generalize ldN b (posA b j) = n at HLD HAS HAN HLG hnn
        generalize immA b (posA b j) = im at HLD d2
        generalize nxA b (posA b j) = nx at HLD d3
        generalize b (posA b j) = c at HLD d1
        generalize hAA : asA b L k (posA b j) = aj at HC2j HAS HAN
        have HAA : Hid (asA b L k (posA b j) = aj) := hAA
        clear hAA
        generalize posA b j = A at HLD HC2j d0 D0
        go_wp2_with (go_at_call 28; refine HLD.out.mono ?_; rintro e w5 ⟨pv, rfl, ho, hB5⟩; (have R5 : Hid (w5.ownsRow wr.heap.size 3 1 pv n ll ∧ Below wr.heap.size wr w5) := ⟨ho, hB5⟩); clear ho hB5 HLD; obtain ⟨ad, c0, rfl, hadd⟩ := own_slice R5.out.1)
        have nI : (n : Int) ≤ 300 := by omega
        clear d0 d1 d2 d3
        obtain ⟨wo, rfl⟩ : ∃ wo, wo = wr := ⟨_, rfl⟩
        go_loopw [10] (fun si wx => ∃ t : Nat, t ≤ n ∧ si = .int .i64 (t : Int) ∧ (∀ i, i < t → bad i = false) ∧ wx = w5) (fun si _ => n - (intOf si).toNat)
        case atStart => exact ⟨0, by omega, rfl, fun i hi => by omega, rfl⟩
        case round =>
          obtain ⟨t, ht, rfl, hbad, rfl⟩ := hrel
          have HBT : Hid (∀ i, i < t → bad i = false) := hbad
          clear hbad
          have BX : Hid (Below w4.heap.size w4 wr ∧ Below w.heap.size w wr) := ⟨BR.out.trans (R5.out.2.mono BR.out.size), (B4.out.1.trans (BR.out.mono B4.out.1.size)).trans (R5.out.2.mono (Nat.le_trans B4.out.1.size BR.out.size))⟩
          by_cases htn : t < n
          · have tI : (t : Int) < (n : Int) := by omega
            obtain ⟨gp, rfl⟩ := hadd (by omega)
            have cz : wr.cell? ⟨gp, t, none⟩ = some (.int .i64 (lv t)) := by rw [R5.out.1.cellAt t (by omega), HLG.out t htn]
            have a0 := D0.out wr R5.out.2
            have hbj := HBD.out t
            have hv := HV.out t
            have HRJ : Hid (bad t = true → ChRes b L k 63 A) := fun h => HC2j.out (HAS.out t htn h)
            generalize lv t = z at cz hbj hv
            by_cases hz : z < 0
            · have HCH : Hid (ChRes b L k 63 A) := HRJ.out (by rw [hbj, decide_eq_true hz]; rfl)
              clear hbj HRJ
              go_upto_region 13 with fail
              go_region
              go_wp2
              exact bodyPost_ret (results_tmp2 rfl _ _ _) rfl ⟨k, 63, A, ⟨HF.out, HCH.out⟩, rfl, BX.out.2.drew⟩
            · obtain ⟨u, rfl⟩ : ∃ u : Nat, z = (u : Int) := ⟨z.toNat, by omega⟩
              have z0 : ¬ (u : Int) < 0 := hz
              by_cases hzl : L ≤ u
              · have HCH : Hid (ChRes b L k 63 A) := HRJ.out (by rw [hbj, decide_eq_true (show (L : Int) ≤ (u : Int) by omega)]; simp)
                have zl : (L : Int) ≤ (u : Int) := by omega
                clear hbj hz hzl HRJ
                go_upto_region 13 with fail
                go_region
                go_wp2
                exact bodyPost_ret (results_tmp2 rfl _ _ _) rfl ⟨k, 63, A, ⟨HF.out, HCH.out⟩, rfl, BX.out.2.drew⟩
              · have zl : (u : Int) < (L : Int) := by omega
                have zl2 : ¬ (L : Int) ≤ (u : Int) := by omega
                have cs := (R2.out.2.past BX.out.1).cell u
                rw [stL_get b L k u (by omega)] at cs
                rw [decide_eq_false z0, decide_eq_false zl2, Bool.false_or, Bool.false_or, Int.toNat_natCast] at hbj
                cases hst : stA b k u with
                | false =>
                  have HCH : Hid (ChRes b L k 63 A) := HRJ.out (by rw [hbj, hst]; rfl)
                  rw [hst] at cs
                  clear hbj hz hzl hst HRJ
                  go_upto_region 13 with fail
                  go_region
                  go_wp2
                  exact bodyPost_ret (results_tmp2 rfl _ _ _) rfl ⟨k, 63, A, ⟨HF.out, HCH.out⟩, rfl, BX.out.2.drew⟩
                | true =>
                  have HNB : Hid (bad t = false) := by rw [hst] at hbj; exact hbj
                  rw [hst] at cs
                  clear hbj hz hzl hst HRJ
                  go_wp2
                  go_roundw
                  case rel => exact ⟨t + 1, by omega, by simp, fun i hi => by
                    by_cases e : i = t
                    · subst e; exact HNB.out
                    · exact HBT.out i (by omega), by first | trivial | rfl⟩
                  case measure => simp [intOf]; omega
          · obtain rfl : t = n := by omega
            have HAF : Hid (asA b L k (posA b j) = false) := HAA.out.trans (HAN.out HBT.out)
            go_wp2
            go_roundw
            case rel => exact ⟨j + 1, by omega, by simp, fun i hi => by
              by_cases e : i = j
              · subst e; exact HAF.out
              · exact HBJ.out i (by omega), BX.out.1⟩
            case measure => simp [intOf]; omega
      · obtain rfl : j = k := by omega
        have B5 : Hid (Below w.heap.size w wr) := B4.out.1.trans (hBr.mono B4.out.1.size)
        go_wp2
        exact bodyPost_ret (results_tmp2 rfl _ _ _) rfl ⟨j, 0, 0, ⟨HF.out, HC3.out HBJ.out⟩, rfl, B5.out⟩
  · have HC1 : Hid (ChRes b L k (scE b L k) (scP b L k)) := Or.inl ⟨hE, rfl, rfl⟩
    generalize scP b L k = sp at HC1 ⊢
    generalize scE b L k = er at hE HC1 ⊢
    clear hyes
    go_wp2
    exact bodyPost_ret (results_tmp2 rfl _ _ _) rfl ⟨k, er, sp, ⟨HF.out, HC1.out⟩, rfl, B3.out⟩
end Go.Proofs.YtcjmbpchdeapiaaDoor
