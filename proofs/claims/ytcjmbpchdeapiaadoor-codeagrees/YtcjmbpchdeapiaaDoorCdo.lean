/- Package code: where the jumps of a scanned instruction lead; astray; Check. -/
import Derived.Test.YtcjmbpchdeapiaaDoorCdn
import Derived.Test.YtcjmbpchdeapiaaDoorCdh
import Derived.Test.YtcjmbpchdeapiaaDoorCea
namespace Go.Proofs.YtcjmbpchdeapiaaDoor
open Go.RowKit
def ldO (b : Nat → Nat) (A : Nat) : Nat := if b A = 226 then 1 else 0
def ldN (b : Nat → Nat) (A : Nat) : Nat := if b A = 224 ∨ b A = 225 then 1 else if b A = 226 then b (A + 1) + 1 else 0
def ldV (b : Nat → Nat) (A j : Nat) : Int := (nxA b A : Int) + dist16 (b (A + 1 + (ldO b A + 2 * j))) (b (A + 1 + (ldO b A + (2 * j + 1))))
def ldL (b : Nat → Nat) (A : Nat) : List Value := (List.range (ldN b A)).map fun j => .int .i64 (ldV b A j)
theorem ldL_get (b : Nat → Nat) (A j : Nat) (h : j < ldN b A) : (ldL b A)[j]? = some (.int .i64 (ldV b A j)) := by simp [ldL, h]
theorem ldV_in (b : Nat → Nat) (hb : ∀ j, b j < 256) (A j : Nat) : (nxA b A : Int) - 32768 ≤ ldV b A j ∧ ldV b A j ≤ (nxA b A : Int) + 32767 := by
  have := dist16_in (b (A + 1 + (ldO b A + 2 * j))) (b (A + 1 + (ldO b A + (2 * j + 1)))) (hb _) (hb _)
  unfold ldV; omega
theorem stands_at {b : Nat → Nat} {L A : Nat} (hb : b A < 256) (h : okA b L A = true) (hA : A ≤ 1000000) : standsV (A : Int) (b A : Int) (nxA b A : Int) (immA b A) (b (A + 1 + 0)) = true := by
  obtain ⟨h1, h2, h3⟩ := okA_parts h
  unfold standsV
  rw [Bool.and_eq_true, Bool.and_eq_true, decide_eq_true_eq]
  refine ⟨⟨by omega, by omega, by unfold nxA; omega⟩, (ofB (b A) hb h2).2, ?_⟩
  have hr := of_decide_eq_true (imm_range ⟨b A, hb⟩)
  dsimp only at hr
  unfold fitsB immA immN
  rw [Int.toNat_natCast, Nat.add_zero]
  by_cases e : immT (b A) = -1
  · rw [if_pos e, if_pos e, decide_eq_true_eq]
  · rw [if_neg e, if_neg e, decide_eq_true_eq]; omega
theorem leads_at (w : World) (hN : Nms w) (b : Nat → Nat) (A q L : Nat) (hb : ∀ j, b j < 256) (hok : okA b L A = true) (hL : L ≤ 1000000) (hI : InsB w q (immA b A) (fun i => b (A + 1 + i))) : Calls Tryd.prog 39 #[.agg #[.int .i64 (A : Int), .int .i64 (b A : Int), .slice (some ⟨q, 0, none⟩) (immA b A) (immA b A), .int .i64 (nxA b A : Int)]] w fun e w' => ∃ pl, e = .returned pl ∧ w'.ownsRow w.heap.size 3 1 pl (ldN b A) (ldL b A) ∧ Below w.heap.size w w' := by
  have hp := okA_parts hok
  have hs := stands_at (hb A) hok (by omega)
  have hv := hI.bytes
  have hcp : ∀ ad cap, Value.slice (some ⟨q, 0, none⟩) (immA b A) (immA b A) = .slice ad (immA b A) cap → immA b A ≤ cap := fun _ _ e => by cases e; exact Nat.le_refl _
  by_cases h1 : b A = 224 ∨ b A = 225
  · have e1 : ldN b A = 1 := by unfold ldN; rw [if_pos h1]
    have e2 : ldL b A = tgL (nxA b A : Int) (fun i => b (A + 1 + i)) 1 := by
      unfold ldL tgL ldV ldO; rw [e1, if_neg (by omega)]; simp
    rw [e1, e2]
    exact leads_one w hN _ _ _ _ (immA b A) (fun i => b (A + 1 + i)) (by omega) hv hcp hs (by omega)
  · by_cases h2 : b A = 226
    · have e1 : ldN b A = b (A + 1) + 1 := by unfold ldN; rw [if_neg h1, if_pos h2]
      have h := leads_v w hN (A : Int) (nxA b A : Int) _ (immA b A) (fun i => b (A + 1 + i)) (by omega) hv hcp (by rw [h2] at hs; exact hs)
      have e2 : ldL b A = tgL (nxA b A : Int) (fun j => b (A + 1 + (j + 1))) (b (A + 1 + 0) + 1) := by
        unfold ldL tgL ldV ldO; rw [e1, if_pos h2]
        refine List.map_congr_left fun j _ => ?_
        rw [show A + 1 + (1 + 2 * j) = A + 1 + (2 * j + 1) by omega, show A + 1 + (1 + (2 * j + 1)) = A + 1 + (2 * j + 1 + 1) by omega]
      rw [e1, e2, h2]
      exact h
    · have e1 : ldN b A = 0 := by unfold ldN; rw [if_neg h1, if_neg h2]
      have e2 : ldL b A = [] := by unfold ldL; rw [e1]; rfl
      rw [e1, e2]
      refine (leads_none w hN _ _ _ _ (immA b A) (fun i => b (A + 1 + i)) (by omega) hv (Or.inr (by omega))).mono fun e w' ⟨he, hB⟩ => ⟨_, he, World.ownsRow_nil _ _ _ _, hB⟩
/-- the j-th jump leads to where none begins -/
def badA (b : Nat → Nat) (L k A j : Nat) : Bool := decide (ldV b A j < 0) || (decide ((L : Int) ≤ ldV b A j) || !stA b k (ldV b A j).toNat)
def asA (b : Nat → Nat) (L k A : Nat) : Bool := (List.range (ldN b A)).any fun j => badA b L k A j
theorem asA_yes {b : Nat → Nat} {L k A j : Nat} (hj : j < ldN b A) (h : badA b L k A j = true) : asA b L k A = true := by unfold asA; simp; exact ⟨j, hj, h⟩
theorem asA_no {b : Nat → Nat} {L k A : Nat} (h : ∀ j, j < ldN b A → badA b L k A j = false) : asA b L k A = false := by
  unfold asA; simp; exact h
theorem own_slice {W : World} {base : Nat} {e : TypeId} {size : Nat} {v : Value} {n : Nat} {xs : List Value} (h : W.ownsRow base e size v n xs) : ∃ ad c, v = .slice ad n c ∧ (n ≠ 0 → ∃ g, ad = some ⟨g, 0, none⟩) := by
  rcases h.2 with ⟨h1, h2⟩ | ⟨g, c, cur, h1, _⟩
  · exact ⟨none, 0, by rw [h1, h2], fun h => absurd h2 h⟩
  · exact ⟨_, _, h1, fun _ => ⟨g, rfl⟩⟩
set_option maxHeartbeats 2000000 in
set_option maxRecDepth 100000 in
theorem astray_is (w : World) (hN : Nms w) (b : Nat → Nat) (A q L k gs : Nat) (hb : ∀ j, b j < 256) (hok : okA b L A = true) (hL : L ≤ 1000000) (hI : InsB w q (immA b A) (fun i => b (A + 1 + i))) (hS : CBox w gs 4 (stL b L k)) : Calls Tryd.prog 27 #[.agg #[.int .i64 (A : Int), .int .i64 (b A : Int), .slice (some ⟨q, 0, none⟩) (immA b A) (immA b A), .int .i64 (nxA b A : Int)], .slice (some ⟨gs, 0, none⟩) L L] w fun e w' => e = .returned (.bool (asA b L k A)) ∧ Below w.heap.size w w' := by
  have HL : Hid (∀ W, Below w.heap.size w W → Calls Tryd.prog 39 #[.agg #[.int .i64 (A : Int), .int .i64 (b A : Int), .slice (some ⟨q, 0, none⟩) (immA b A) (immA b A), .int .i64 (nxA b A : Int)]] W fun e w' => ∃ pl, e = .returned pl ∧ w'.ownsRow W.heap.size 3 1 pl (ldN b A) (ldL b A) ∧ Below W.heap.size W w') := fun W hB => leads_at W (hN.past hB) b A q L hb hok hL (hI.past hB)
  have B0 : Hid (Below w.heap.size w (w.alloc (.cells #[.int .i64 (A : Int), .int .i64 (b A : Int), .slice (some ⟨q, 0, none⟩) (immA b A) (immA b A), .int .i64 (nxA b A : Int)] 40))) := (Below.refl _ w).alloc (Nat.le_refl _) _
  have HSS : Hid (CBox w gs 4 (stL b L k)) := hS
  have hnx := (okA_parts hok).2.2
  have HV : Hid (∀ j, -100000 ≤ ldV b A j ∧ ldV b A j ≤ 2000000) := fun j => by have := ldV_in b hb A j; unfold nxA at this; omega
  have hnn : ldN b A ≤ 300 := by unfold ldN; split; omega; split; (have := hb (A + 1); omega); omega
  have lI : (L : Int) ≤ 1000000 := by omega
  have HAS : Hid (∀ j, j < ldN b A → badA b L k A j = true → asA b L k A = true) := fun j hj h => asA_yes hj h
  have HAN : Hid ((∀ j, j < ldN b A → badA b L k A j = false) → asA b L k A = false) := asA_no
  have HBD : Hid (∀ j, badA b L k A j = (decide (ldV b A j < 0) || (decide ((L : Int) ≤ ldV b A j) || !stA b k (ldV b A j).toNat))) := fun j => rfl
  have HLG : Hid (∀ j, j < ldN b A → (ldL b A)[j]? = some (.int .i64 (ldV b A j))) := ldL_get b A
  generalize asA b L k A = res at HAS HAN ⊢
  generalize badA b L k A = bad at HAS HAN HBD
  generalize ldV b A = lv at HV HBD HLG
  generalize ldL b A = ll at HL HLG
  generalize ldN b A = n at HL HAS HAN HLG hnn
  generalize immA b A = im at HL B0 ⊢
  generalize nxA b A = nx at HL B0 ⊢
  generalize b A = c at HL B0 ⊢
  clear hI hok hnx hS
  go_enter Tryd.func27, Tryd.ntmps27
  go_wp2_with (go_at_call 39; refine (HL.out _ B0.out).mono ?_; rintro e w1 ⟨pl, rfl, ho, hB1⟩; (have R1 : Hid (w1.ownsRow w.heap.size 3 1 pl n ll ∧ Below w.heap.size w w1) := ⟨owns_lower ho B0.out.size, B0.out.trans (hB1.mono B0.out.size)⟩); clear ho hB1 HL B0; obtain ⟨ad, c0, rfl, hadd⟩ := own_slice R1.out.1)
  have nI : (n : Int) ≤ 300 := by omega
  go_loopw [10] (fun si wr => ∃ j : Nat, j ≤ n ∧ si = .int .i64 (j : Int) ∧ (∀ i, i < j → bad i = false) ∧ wr = w1) (fun si _ => n - (intOf si).toNat)
  case atStart => exact ⟨0, by omega, rfl, fun i hi => by omega, rfl⟩
  case round =>
    obtain ⟨j, hj, rfl, hbad, rfl⟩ := hrel
    by_cases hlt : j < n
    · have jI : (j : Int) < (n : Int) := by omega
      obtain ⟨g, rfl⟩ := hadd (by omega)
      have cz : wr.cell? ⟨g, j, none⟩ = some (.int .i64 (lv j)) := by rw [R1.out.1.cellAt j (by omega), HLG.out j hlt]
      have hbj := HBD.out j
      have HBJ : Hid (∀ i, i < j → bad i = false) := hbad
      have hv := HV.out j
      have HRJ : Hid (bad j = true → res = true) := HAS.out j hlt
      generalize lv j = z at cz hbj hv
      by_cases hz : z < 0
      · have HT : Hid (res = true) := HRJ.out (by rw [hbj, decide_eq_true hz]; rfl)
        clear hbj hbad
        go_wp2
        go_ret
        exact ⟨by rw [HT.out]; rfl, R1.out.2⟩
      · obtain ⟨t, rfl⟩ : ∃ t : Nat, z = (t : Int) := ⟨z.toNat, by omega⟩
        have z0 : ¬ (t : Int) < 0 := hz
        by_cases hzl : L ≤ t
        · have HT : Hid (res = true) := HRJ.out (by rw [hbj, decide_eq_true (show (L : Int) ≤ (t : Int) by omega)]; simp)
          have zl : (L : Int) ≤ (t : Int) := by omega
          clear hbj hbad hz hzl
          go_wp2
          go_ret
          exact ⟨by rw [HT.out]; rfl, R1.out.2⟩
        · have zl : (t : Int) < (L : Int) := by omega
          have zl2 : ¬ (L : Int) ≤ (t : Int) := by omega
          have cs := (HSS.out.past R1.out.2).cell t
          rw [stL_get b L k t (by omega)] at cs
          rw [decide_eq_false z0, decide_eq_false zl2, Bool.false_or, Bool.false_or, Int.toNat_natCast] at hbj
          cases hst : stA b k t with
          | false =>
            have HT : Hid (res = true) := HRJ.out (by rw [hbj, hst]; rfl)
            rw [hst] at cs
            clear hbj hbad hz hzl hst
            go_wp2
            go_ret
            exact ⟨by rw [HT.out]; rfl, R1.out.2⟩
          | true =>
            have HNB : Hid (bad j = false) := by rw [hst] at hbj; exact hbj
            rw [hst] at cs
            clear hbj hbad hz hzl hst
            go_wp2
            go_roundw
            case rel => exact ⟨j + 1, by omega, by simp, fun i hi => by
              by_cases e : i = j
              · subst e; exact HNB.out
              · exact HBJ.out i (by omega), by first | trivial | rfl⟩
            case measure => simp [intOf]; omega
    · obtain rfl : j = n := by omega
      have HT : Hid (res = false) := HAN.out hbad
      clear hbad
      go_wp2
      go_ret
      exact ⟨by rw [HT.out]; rfl, R1.out.2⟩
/-- what Check answers of a section whose instructions are k -/
def ChRes (b : Nat → Nat) (L k : Nat) (er : Int) (pl : Nat) : Prop := (scE b L k ≠ 0 ∧ er = scE b L k ∧ pl = scP b L k) ∨ (scE b L k = 0 ∧ ∃ i, i < k ∧ asA b L k (posA b i) = true ∧ (∀ j, j < i → asA b L k (posA b j) = false) ∧ er = 63 ∧ pl = posA b i) ∨ (scE b L k = 0 ∧ (∀ j, j < k → asA b L k (posA b j) = false) ∧ er = 0 ∧ pl = 0)
theorem chRes_one {b : Nat → Nat} {L k : Nat} {e1 e2 : Int} {p1 p2 : Nat} (h : ChRes b L k e1 p1) (h2 : ChRes b L k e2 p2) : e1 = e2 ∧ p1 = p2 := by
  rcases h with ⟨a, rfl, rfl⟩ | ⟨a, i, hi, ai, bi, rfl, rfl⟩ | ⟨a, bi, rfl, rfl⟩
  · rcases h2 with ⟨c, rfl, rfl⟩ | ⟨c, _⟩ | ⟨c, _⟩
    · exact ⟨rfl, rfl⟩
    · exact absurd c a
    · exact absurd c a
  · rcases h2 with ⟨c, _⟩ | ⟨c, j, hj, aj, bj, rfl, rfl⟩ | ⟨c, bj, _⟩
    · exact absurd a c
    · rcases Nat.lt_trichotomy i j with h | h | h
      · rw [bj i h] at ai; cases ai
      · subst h; exact ⟨rfl, rfl⟩
      · rw [bi j h] at aj; cases aj
    · rw [bj i hi] at ai; cases ai
  · rcases h2 with ⟨c, _⟩ | ⟨c, j, hj, aj, bj, _⟩ | ⟨c, bj, rfl, rfl⟩
    · exact absurd a c
    · rw [bi j hj] at aj; cases aj
    · exact ⟨rfl, rfl⟩
set_option maxHeartbeats 2000000 in
set_option maxRecDepth 100000 in
theorem check_is (w : World) (v : Value) (L : Nat) (b : Nat → Nat) (hN : Nms w) (hv : BytesOf w v L b) (hcp : ∀ ad cap, v = .slice ad L cap → L ≤ cap) (hL : L ≤ 1000000) : Calls Tryd.prog 10 #[v] w fun e w' => ∃ k er pl, FullA b L k ∧ ChRes b L k er pl ∧ e = .returned (.tuple #[.int .i64 er, .int .i64 (pl : Int)]) ∧ Below w.heap.size w w' := by
  have HB : Hid (∀ j, b j < 256) := by obtain ⟨_, _, _, h, _⟩ := hv; exact h
  have HSC : Hid (Calls Tryd.prog 8 #[v] w (ScanPost w L b)) := scan_is w v L b hN hv hcp hL
  have HST : Hid (∀ W, Below w.heap.size w W → Calls Tryd.prog 12 #[v] W fun e w' => ∃ k, FullA b L k ∧ e = .returned (.slice (some ⟨W.heap.size, 0, none⟩) L L) ∧ Below W.heap.size W w' ∧ CBox w' W.heap.size 4 (stL b L k)) := fun W hB => starts_is W v L b (hN.past hB) (hv.below rfl hB) hcp hL
  obtain ⟨ad0, cap0, rfl, _⟩ := hv
  go_enter Tryd.func10, Tryd.ntmps10
  go_upto_region 2 with (go_at_call 8; refine Calls.mono HSC.out ?_; rintro e w1 ⟨k, fv, hFu, rfl, hB1, hno, hyes⟩)
  have B1 : Hid (Below w.heap.size w w1) := hB1
  have HF : Hid (FullA b L k) := hFu
  clear hFu hB1
  by_cases hE : scE b L k = 0
  · have HC2 : Hid (∀ i, i < k → asA b L k (posA b i) = true → (∀ j, j < i → asA b L k (posA b j) = false) → ChRes b L k 63 (posA b i)) := fun i hi h1 h2 => Or.inr (Or.inl ⟨hE, i, hi, h1, h2, rfl, rfl⟩)
    have HC3 : Hid ((∀ j, j < k → asA b L k (posA b j) = false) → ChRes b L k 0 0) := fun h => Or.inr (Or.inr ⟨hE, h, rfl, rfl⟩)
    obtain ⟨hm0, hpm, hk0, _⟩ := sc_ok hE HF.out
    obtain ⟨xs, xl, xf, xr, xq⟩ := hyes hE
    rw [hE]
    clear hno hyes hE
    generalize scP b L k = sp
    obtain ⟨g, cap, rfl⟩ : ∃ g cap, fv = .slice (some ⟨g, 0, none⟩) k cap := by
      obtain ⟨k', rfl⟩ : ∃ k', k = k' + 1 := ⟨k - 1, by omega⟩
      exact ownsRow_succ xr
    have km : k ≤ L := HF.out.1.count
    have kM : (k : Int) ≤ 1000000 := by omega
    have HX : Hid (xs.length = k ∧ FitA b xs ∧ w1.ownsRow w.heap.size 40 4 (.slice (some ⟨g, 0, none⟩) k cap) k (insL b xs) ∧ InsQ w.heap.size b xs w1) := ⟨xl, xf, xr, xq⟩
    clear xl xf xr xq hpm hk0 hm0
    go_wp2_with (go_at_call 12; refine (HST.out _ B1.out).mono ?_; rintro e w2 ⟨k2, hF2, rfl, hB2, hS2⟩; (have R2 : Hid (Below w1.heap.size w1 w2 ∧ CBox w2 w1.heap.size 4 (stL b L k)) := ⟨hB2, (by rw [fullA_one HF.out hF2]; exact hS2)⟩); clear hB2 hF2 hS2 HST)
    have B2 : Hid (Below w.heap.size w w2) := B1.out.trans (R2.out.1.mono B1.out.size)
    go_loopw [24] (fun si wr => ∃ j : Nat, j ≤ k ∧ si = .int .i64 (j : Int) ∧ (∀ i, i < j → asA b L k (posA b i) = false) ∧ Below w2.heap.size w2 wr) (fun si _ => k - (intOf si).toNat)
    case atStart => exact ⟨0, by omega, rfl, fun i hi => by omega, Below.refl _ _⟩
    case round =>
      obtain ⟨j, hj, rfl, hbad, hBr⟩ := hrel
      have HBJ : Hid (∀ i, i < j → asA b L k (posA b i) = false) := hbad
      clear hbad
      by_cases hlt : j < k
      · have jI : (j : Int) < (k : Int) := by omega
        obtain ⟨q, r0, r1, r2, r3, rq, rI⟩ := row_at HX.out.1 HX.out.2.1 HX.out.2.2.1 HX.out.2.2.2 j hlt
        have gl := World.block_lt_of_cell? w1 _ r0
        have okj := HF.out.1 j hlt
        have hBr2 : Below w1.heap.size w1 wr := R2.out.1.trans (hBr.mono R2.out.1.size)
        have HAS : Hid (∀ W, Below w2.heap.size w2 W → Calls Tryd.prog 27 #[.agg #[.int .i64 (posA b j : Int), .int .i64 (b (posA b j) : Int), .slice (some ⟨q, 0, none⟩) (immA b (posA b j)) (immA b (posA b j)), .int .i64 (nxA b (posA b j) : Int)], .slice (some ⟨w1.heap.size, 0, none⟩) L L] W fun e w' => e = .returned (.bool (asA b L k (posA b j))) ∧ Below W.heap.size W w') := fun W hW => astray_is W ((hN.past B2.out).past hW) b (posA b j) q L k w1.heap.size HB.out okj hL ((rI.past R2.out.1).past hW) (R2.out.2.past hW)
        have d0 := (hBr2.cell (p := ⟨g, j * 4, none⟩) gl).trans r0
        have d1 := (hBr2.cell (p := ⟨g, j * 4 + 1, none⟩) gl).trans r1
        have d2 := (hBr2.cell (p := ⟨g, j * 4 + 2, none⟩) gl).trans r2
        have d3 := (hBr2.cell (p := ⟨g, j * 4 + 3, none⟩) gl).trans r3
        have HC2j : Hid (asA b L k (posA b j) = true → ChRes b L k 63 (posA b j)) := fun h => HC2.out j hlt h HBJ.out
        have BR : Hid (Below w2.heap.size w2 wr) := hBr
        obtain ⟨av, hav⟩ : ∃ av, asA b L k (posA b j) = av := ⟨_, rfl⟩
        have HAV : Hid (asA b L k (posA b j) = av) := hav
        rw [hav] at HAS HC2j
        clear r0 r1 r2 r3 rI okj hav rq hBr hBr2
        simp only [posA] at d3
        generalize immA b (posA b j) = n at HAS d2
        generalize nxA b (posA b j) = nx at HAS d3
        generalize b (posA b j) = c at HAS d1
        generalize posA b j = A at HAS HC2j d0
        cases av with
        | true =>
          go_upto_region 9 with (go_at_call 27; refine (HAS.out _ (BR.out.alloc BR.out.size _)).mono ?_; rintro e w3 ⟨rfl, hB3⟩; (have A3 : Hid (Below w2.heap.size w2 w3 ∧ w3.cell? ⟨wr.heap.size, 0, none⟩ = some (.int .i64 (A : Int))) := ⟨(BR.out.alloc BR.out.size _).trans (hB3.mono (Nat.le_trans BR.out.size (by simp))), (hB3.cell (p := ⟨wr.heap.size, 0, none⟩) (by simp)).trans (by go_simp)⟩); clear hB3 HAS)
          have a0 := A3.out.2
          go_region
          go_wp2
          exact bodyPost_ret (results_tmp2 rfl _ _ _) rfl ⟨k, 63, A, HF.out, HC2j.out (by first | trivial | rfl), rfl, B2.out.trans ((A3.out.1.drew).mono B2.out.size)⟩
        | false =>
          go_wp2_with (go_at_call 27; refine (HAS.out _ (BR.out.alloc BR.out.size _)).mono ?_; rintro e w3 ⟨rfl, hB3⟩; (have A3 : Hid (Below w2.heap.size w2 w3) := (BR.out.alloc BR.out.size _).trans (hB3.mono (Nat.le_trans BR.out.size (by simp)))); clear hB3 HAS)
          go_roundw
          case rel => exact ⟨j + 1, by omega, by simp, fun i hi => by
            by_cases e : i = j
            · subst e; exact HAV.out
            · exact HBJ.out i (by omega), A3.out⟩
          case measure => simp [intOf]; omega
      · obtain rfl : j = k := by omega
        go_wp2
        exact bodyPost_ret (results_tmp2 rfl _ _ _) rfl ⟨j, 0, 0, HF.out, HC3.out HBJ.out, rfl, B2.out.trans (hBr.mono B2.out.size)⟩
  · have HC1 : Hid (ChRes b L k (scE b L k) (scP b L k)) := Or.inl ⟨hE, rfl, rfl⟩
    obtain rfl := hno hE
    generalize scP b L k = sp at HC1 ⊢
    generalize scE b L k = er at hE HC1 ⊢
    clear hno hyes
    go_wp2
    exact bodyPost_ret (results_tmp2 rfl _ _ _) rfl ⟨k, er, sp, HF.out, HC1.out, rfl, B1.out⟩
end Go.Proofs.YtcjmbpchdeapiaaDoor
