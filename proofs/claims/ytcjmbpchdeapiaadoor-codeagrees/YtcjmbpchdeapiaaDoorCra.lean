/- Chapter 6's statements: laid, stands; the document's Same. -/
import Derived.Test.YtcjmbpchdeapiaaDoorCeb
import Derived.Test.YtcjmbpchdeapiaaDoorCdo
namespace Go.Proofs.YtcjmbpchdeapiaaDoor
open Go.RowKit
theorem own_cap {W : World} {base : Nat} {e : TypeId} {size : Nat} {ad : Option Addr} {n c : Nat} {xs : List Value} (h : W.ownsRow base e size (.slice ad n c) n xs) : n ≤ c := by
  rcases h.2 with ⟨h1, h2⟩ | ⟨g, c', cur, h1, _, _, h3, _⟩
  · omega
  · cases h1; exact h3
/-- bytes with marks behind -/
def mkB (m : Nat) (b : Nat → Nat) (j : Nat) : Nat := if j < m then b j else 161 + (j - m) % 3
theorem mkB_lt {m : Nat} {b : Nat → Nat} (h : ∀ j, b j < 256) (j : Nat) : mkB m b j < 256 := by unfold mkB; split; exact h _; omega
theorem bsL_snoc (b : Nat → Nat) (m : Nat) : bsL m b ++ [.int .u8 (b m : Int)] = bsL (m + 1) b := by simp [bsL, List.range_succ]
theorem bsL_congr {m : Nat} {b c : Nat → Nat} (h : ∀ j, j < m → b j = c j) : bsL m b = bsL m c := by
  unfold bsL; refine List.map_congr_left fun j hj => ?_; rw [h j (List.mem_range.1 hj)]
set_option maxHeartbeats 2000000 in
set_option maxRecDepth 100000 in
theorem laid_is (w : World) (v : Value) (L : Nat) (b : Nat → Nat) (hL : L ≤ 9223372036854775807) (hv : BytesOf w v L b) : Calls Tryd.prog 7 #[v] w fun e w' => ∃ g cap, e = .returned (.slice (some ⟨g, 0, none⟩) (cutN L) cap) ∧ w'.ownsRow w.heap.size 5 1 (.slice (some ⟨g, 0, none⟩) (cutN L + 75) cap) (cutN L + 75) (bsL (cutN L + 75) (mkB (cutN L) b)) ∧ Below w.heap.size w w' := by
  obtain ⟨i0, hi, hz0, hz1, hz2⟩ := info_parts infoB8
  obtain ⟨ad, cap, rfl, hb, hnil, hc⟩ := hv
  have HC : Hid (∀ j, j < L → ∃ g o, ad = some ⟨g, o, none⟩ ∧ ∀ W, Below w.heap.size w W → W.cell? ⟨g, o + j, none⟩ = some (.int .u8 (b j : Int))) := fun j hj => by
    obtain ⟨g, o, e, hcc⟩ := hc (by omega)
    exact ⟨g, o, e, fun W hB => (hB.cell (p := ⟨g, o + j, none⟩) (World.block_lt_of_cell? w _ (hcc j hj))).trans (hcc j hj)⟩
  have HB : Hid (∀ j, b j < 256) := hb
  have lI : (L : Int) ≤ 9223372036854775807 := by omega
  obtain ⟨hm1, hm2⟩ := cutN_le L
  have HM : Hid (∀ j, j < cutN L ↔ j < L ∧ j < 70000) := fun j => by unfold cutN; split <;> omega
  generalize cutN L = m at HM hm1 hm2 ⊢
  clear hc hnil hb
  go_enter Tryd.func7, Tryd.ntmps7
  go_wp2
  go_loopw [3, 4] (fun sv si wr => ∃ j : Nat, j ≤ m ∧ si = .int .i64 (j : Int) ∧ wr.ownsRow w.heap.size 5 1 sv j (bsL j b) ∧ Below w.heap.size w wr) (fun _ si _ => m - (intOf si).toNat)
  case atStart => exact ⟨0, by omega, rfl, World.ownsRow_nil _ _ _ _, Below.refl _ _⟩
  case round =>
    obtain ⟨j, hj, rfl, hR, hBr⟩ := hrel
    have HR : Hid (wr.ownsRow w.heap.size 5 1 u3 j (bsL j b) ∧ Below w.heap.size w wr) := ⟨hR, hBr⟩
    by_cases hlt : j < m
    · obtain ⟨h1, h2⟩ := (HM.out j).1 hlt
      have j1 : (j : Int) < (L : Int) := by omega
      have j2 : (j : Int) < 70000 := by omega
      obtain ⟨g, o, rfl, hcc⟩ := HC.out j h1
      have cz := hcc wr hBr
      have bj := HB.out j
      have HSN : Hid (bsL j b ++ [.int .u8 (b j : Int)] = bsL (j + 1) b) := bsL_snoc b j
      generalize b j = c at cz HSN bj
      have cI : (c : Int) < 256 := by omega
      clear hR hBr
      go_wp2_with (at_builtin; refine wpList_append_own _ rfl _ _ 22 rfl w.heap.size 5 i0 (.int .u8 0) 1 1 Tryd.underlying22 hi hz0 hz1 hz2 rfl (by decide) _ _ _ rfl (HR.out.1.alloc _) ⟨wr.heap.size, 0, none⟩ 1 1 [.int .u8 (c : Int)] rfl rfl (cells4_new wr _ [.int .u8 (c : Int)]) (fun u hu => (by rw [List.mem_singleton.1 hu]; rfl)) (by unfold maxLen; omega) (by omega) (by have := HR.out.2.size; simp; omega) ?_; intro v5 w5 hown5 hgrow5 _; (have R5 : Hid (w5.ownsRow w.heap.size 5 1 v5 (j + 1) (bsL (j + 1) b) ∧ Below w.heap.size w w5) := ⟨(by rw [HSN.out] at hown5; exact hown5), Below.grown (HR.out.2.alloc HR.out.2.size _) hgrow5 (by have := HR.out.2.size; simp; omega) (fun q h => (HR.out.1.lt q h).1)⟩); clear hown5 hgrow5)
      go_roundw
      case rel => exact ⟨j + 1, by omega, by simp, R5.out⟩
      case measure => simp [intOf]; omega
    · obtain rfl : j = m := by omega
      obtain ⟨adv, cpv, rfl, hadv⟩ := own_slice hR
      have HRO : Hid (wr.ownsRow w.heap.size 5 1 (.slice adv j cpv) j (bsL j b) ∧ Below w.heap.size w wr) := ⟨hR, hBr⟩
      have jI : (j : Int) ≤ 70000 := by omega
      clear hR hBr hadv
      by_cases h1 : j < L
      · have j1 : (j : Int) < (L : Int) := by omega
        have j2 : ¬ (j : Int) < 70000 := fun h => hlt ((HM.out j).2 ⟨h1, by omega⟩)
        clear h1
        go_wp2
        go_loopw [3, 6] (fun sv si wx => ∃ i : Nat, i ≤ 75 ∧ si = .int .i64 (i : Int) ∧ wx.ownsRow w.heap.size 5 1 sv (j + i) (bsL (j + i) (mkB j b)) ∧ Below w.heap.size w wx) (fun _ si _ => 75 - (intOf si).toNat)
        case atStart => exact ⟨0, by omega, rfl, by rw [Nat.add_zero, bsL_congr (b := mkB j b) (c := b) (fun i hi => by unfold mkB; rw [if_pos hi])]; exact HRO.out⟩
        case round =>
          obtain ⟨i, hi2, rfl, hR, hBr⟩ := hrel
          have HR : Hid (wr.ownsRow w.heap.size 5 1 u3 (j + i) (bsL (j + i) (mkB j b)) ∧ Below w.heap.size w wr) := ⟨hR, hBr⟩
          clear hR hBr
          by_cases hi3 : i < 75
          · have iI : (i : Int) < 75 := by omega
            obtain ⟨c, hc1⟩ : ∃ c : Nat, c = 161 + i % 3 := ⟨_, rfl⟩
            have HSN : Hid (bsL (j + i) (mkB j b) ++ [.int .u8 (c : Int)] = bsL (j + i + 1) (mkB j b)) := by
              have := bsL_snoc (mkB j b) (j + i)
              rw [show mkB j b (j + i) = c by unfold mkB; rw [if_neg (by omega), show j + i - j = i by omega, hc1]] at this
              exact this
            have e1 : (i : Int).tmod 3 = ((i % 3 : Nat) : Int) := rfl
            have e2 : (161 : Int) + ((i % 3 : Nat) : Int) = (c : Int) := by omega
            have cI : (c : Int) < 256 := by omega
            have wI : IntKind.i64.wrap ((i % 3 : Nat) : Int) = ((i % 3 : Nat) : Int) := Go.IntWalk.i64_in _ (by omega)
            clear hc1
            generalize ((i % 3 : Nat) : Int) = r at e1 e2 wI
            go_wp2_with (at_builtin; refine wpList_append_own _ rfl _ _ 22 rfl w.heap.size 5 i0 (.int .u8 0) 1 1 Tryd.underlying22 hi hz0 hz1 hz2 rfl (by decide) _ _ _ rfl (HR.out.1.alloc _) ⟨wr.heap.size, 0, none⟩ 1 1 [.int .u8 (c : Int)] rfl rfl (cells4_new wr _ [.int .u8 (c : Int)]) (fun u hu => (by rw [List.mem_singleton.1 hu]; rfl)) (by unfold maxLen; omega) (by omega) (by have := HR.out.2.size; simp; omega) ?_; intro v5 w5 hown5 hgrow5 _; (have R5 : Hid (w5.ownsRow w.heap.size 5 1 v5 (j + (i + 1)) (bsL (j + (i + 1)) (mkB j b)) ∧ Below w.heap.size w w5) := ⟨(by rw [HSN.out] at hown5; exact hown5), Below.grown (HR.out.2.alloc HR.out.2.size _) hgrow5 (by have := HR.out.2.size; simp; omega) (fun q h => (HR.out.1.lt q h).1)⟩); clear hown5 hgrow5)
            go_roundw
            case rel => exact ⟨i + 1, by omega, by simp, R5.out⟩
            case measure => simp [intOf]; omega
          · obtain rfl : i = 75 := by omega
            obtain ⟨adw, cpw, rfl, hadw⟩ := own_slice HR.out.1
            obtain ⟨gw, rfl⟩ := hadw (by omega)
            have hcw : j + 75 ≤ cpw := own_cap HR.out.1
            have hsl : ∀ W, Sem.run Tryd.prog (Instr.slice 22 (.slice (some ⟨gw, 0, none⟩) (j + 75) cpw) none (some (.int .i64 (j : Int))) none) W = .ok (.slice (some ⟨gw, 0, none⟩) j cpw) W := fun W => slice_hiB _ (j + 75) cpw j (by omega) W
            go_wp2
            go_ret
            exact ⟨gw, cpw, rfl, HR.out⟩
      · have j1 : ¬ (j : Int) < (L : Int) := by omega
        clear h1
        go_wp2
        go_loopw [3, 6] (fun sv si wx => ∃ i : Nat, i ≤ 75 ∧ si = .int .i64 (i : Int) ∧ wx.ownsRow w.heap.size 5 1 sv (j + i) (bsL (j + i) (mkB j b)) ∧ Below w.heap.size w wx) (fun _ si _ => 75 - (intOf si).toNat)
        case atStart => exact ⟨0, by omega, rfl, by rw [Nat.add_zero, bsL_congr (b := mkB j b) (c := b) (fun i hi => by unfold mkB; rw [if_pos hi])]; exact HRO.out⟩
        case round =>
          obtain ⟨i, hi2, rfl, hR, hBr⟩ := hrel
          have HR : Hid (wr.ownsRow w.heap.size 5 1 u3 (j + i) (bsL (j + i) (mkB j b)) ∧ Below w.heap.size w wr) := ⟨hR, hBr⟩
          clear hR hBr
          by_cases hi3 : i < 75
          · have iI : (i : Int) < 75 := by omega
            obtain ⟨c, hc1⟩ : ∃ c : Nat, c = 161 + i % 3 := ⟨_, rfl⟩
            have HSN : Hid (bsL (j + i) (mkB j b) ++ [.int .u8 (c : Int)] = bsL (j + i + 1) (mkB j b)) := by
              have := bsL_snoc (mkB j b) (j + i)
              rw [show mkB j b (j + i) = c by unfold mkB; rw [if_neg (by omega), show j + i - j = i by omega, hc1]] at this
              exact this
            have e1 : (i : Int).tmod 3 = ((i % 3 : Nat) : Int) := rfl
            have e2 : (161 : Int) + ((i % 3 : Nat) : Int) = (c : Int) := by omega
            have cI : (c : Int) < 256 := by omega
            have wI : IntKind.i64.wrap ((i % 3 : Nat) : Int) = ((i % 3 : Nat) : Int) := Go.IntWalk.i64_in _ (by omega)
            clear hc1
            generalize ((i % 3 : Nat) : Int) = r at e1 e2 wI
            go_wp2_with (at_builtin; refine wpList_append_own _ rfl _ _ 22 rfl w.heap.size 5 i0 (.int .u8 0) 1 1 Tryd.underlying22 hi hz0 hz1 hz2 rfl (by decide) _ _ _ rfl (HR.out.1.alloc _) ⟨wr.heap.size, 0, none⟩ 1 1 [.int .u8 (c : Int)] rfl rfl (cells4_new wr _ [.int .u8 (c : Int)]) (fun u hu => (by rw [List.mem_singleton.1 hu]; rfl)) (by unfold maxLen; omega) (by omega) (by have := HR.out.2.size; simp; omega) ?_; intro v5 w5 hown5 hgrow5 _; (have R5 : Hid (w5.ownsRow w.heap.size 5 1 v5 (j + (i + 1)) (bsL (j + (i + 1)) (mkB j b)) ∧ Below w.heap.size w w5) := ⟨(by rw [HSN.out] at hown5; exact hown5), Below.grown (HR.out.2.alloc HR.out.2.size _) hgrow5 (by have := HR.out.2.size; simp; omega) (fun q h => (HR.out.1.lt q h).1)⟩); clear hown5 hgrow5)
            go_roundw
            case rel => exact ⟨i + 1, by omega, by simp, R5.out⟩
            case measure => simp [intOf]; omega
          · obtain rfl : i = 75 := by omega
            obtain ⟨adw, cpw, rfl, hadw⟩ := own_slice HR.out.1
            obtain ⟨gw, rfl⟩ := hadw (by omega)
            have hcw : j + 75 ≤ cpw := own_cap HR.out.1
            have hsl : ∀ W, Sem.run Tryd.prog (Instr.slice 22 (.slice (some ⟨gw, 0, none⟩) (j + 75) cpw) none (some (.int .i64 (j : Int))) none) W = .ok (.slice (some ⟨gw, 0, none⟩) j cpw) W := fun W => slice_hiB _ (j + 75) cpw j (by omega) W
            go_wp2
            go_ret
            exact ⟨gw, cpw, rfl, HR.out⟩
set_option maxHeartbeats 2000000 in
set_option maxRecDepth 100000 in
theorem lstands_is (w : World) (g m cap base : Nat) (v : Value) (L : Nat) (b : Nat → Nat) (hm : m ≤ 70000) (hR : w.ownsRow base 5 1 (.slice (some ⟨g, 0, none⟩) (m + 75) cap) (m + 75) (bsL (m + 75) (mkB m b))) (hv : BytesOf w v L b) (hL : m ≤ L) (hL2 : L ≤ 9223372036854775807) : Calls Tryd.prog 15 #[.slice (some ⟨g, 0, none⟩) m cap, v] w fun e w' => e = .returned (.bool true) ∧ Below w.heap.size w w' := by
  have hcw := own_cap hR
  obtain ⟨ad, cp, rfl, hb, _, hc⟩ := hv
  obtain ⟨M, hM⟩ : ∃ M, M = m + 75 := ⟨_, rfl⟩
  have hsl : ∀ W, Sem.run Tryd.prog (Instr.slice 22 (.slice (some ⟨g, 0, none⟩) m cap) none (some (.int .i64 (M : Int))) none) W = .ok (.slice (some ⟨g, 0, none⟩) M cap) W := fun W => slice_hiB _ m cap M (by omega) W
  have mE : (m : Int) + 75 = (M : Int) := by omega
  have HMM : Hid (M = m + 75) := hM
  have HR1 : Hid (∀ W, Below w.heap.size w W → ∀ j, j < m → W.cell? ⟨g, j, none⟩ = some (.int .u8 (b j : Int))) := fun W hB j hj => by
    have h := hR.cellAt j (by omega)
    rw [bsL_get _ _ j (by omega), show mkB m b j = b j by unfold mkB; rw [if_pos hj]] at h
    exact (hB.cell (p := ⟨g, j, none⟩) (World.block_lt_of_cell? w _ h)).trans h
  have HR2 : Hid (∀ W, Below w.heap.size w W → ∀ i, i < 75 → W.cell? ⟨g, m + i, none⟩ = some (.int .u8 ((161 + i % 3 : Nat) : Int))) := fun W hB i hi => by
    have h := hR.cellAt (m + i) (by omega)
    rw [bsL_get _ _ (m + i) (by omega), show mkB m b (m + i) = 161 + i % 3 by unfold mkB; rw [if_neg (by omega), show m + i - m = i by omega]] at h
    exact (hB.cell (p := ⟨g, m + i, none⟩) (World.block_lt_of_cell? w _ h)).trans h
  have HC : Hid (∀ j, j < m → ∃ g o, ad = some ⟨g, o, none⟩ ∧ ∀ W, Below w.heap.size w W → W.cell? ⟨g, o + j, none⟩ = some (.int .u8 (b j : Int))) := fun j hj => by
    obtain ⟨g, o, e, hcc⟩ := hc (by omega)
    exact ⟨g, o, e, fun W hB => (hB.cell (p := ⟨g, o + j, none⟩) (World.block_lt_of_cell? w _ (hcc j (by omega)))).trans (hcc j (by omega))⟩
  have HB : Hid (∀ j, b j < 256) := hb
  have mI : (m : Int) ≤ 70000 := by omega
  have MI : (M : Int) ≤ 70075 := by omega
  have lI : (L : Int) ≤ 9223372036854775807 := by omega
  have mL : (m : Int) ≤ (L : Int) := by omega
  clear hR hc hb hM
  go_enter Tryd.func15, Tryd.ntmps15
  go_wp2
  go_loopw [7] (fun si wr => ∃ j : Nat, j ≤ m ∧ si = .int .i64 (j : Int) ∧ Below w.heap.size w wr) (fun si _ => m - (intOf si).toNat)
  case atStart => exact ⟨0, by omega, rfl, Below.refl _ _⟩
  case round =>
    obtain ⟨j, hj, rfl, hBr⟩ := hrel
    have BR : Hid (Below w.heap.size w wr) := hBr
    by_cases hlt : j < m
    · have jI : (j : Int) < (m : Int) := by omega
      have jM : (j : Int) < (M : Int) := by omega
      have jL : (j : Int) < (L : Int) := by omega
      obtain ⟨g', o', rfl, hcc⟩ := HC.out j hlt
      have c1 := HR1.out wr hBr j hlt
      have c2 := hcc wr hBr
      clear hcc
      generalize b j = c at c1 c2
      clear hBr
      go_upto_region 6 with fail
      refine wp_region_held_drew (S := fun V' => V'.cell? ⟨g, j, none⟩ = some (.int .u8 (c : Int)) ∧ V'.cell? ⟨g', o' + j, none⟩ = some (.int .u8 (c : Int)) ∧ Below w.heap.size w V') (by kernel_rfl) ⟨c1, c2, BR.out.drew⟩ (fun hHeld => ?_)
      generalize wr.drew = z0 at hHeld ⊢
      clear c1 c2
      refine wpAnyH_take (i := 0) (v := .slice (some ⟨g, 0, none⟩) M cap) op0 (by kernel_rfl) (by kernel_rfl) (by kernel_rfl) (fun _ _ _ h => h) (Or.inl ⟨by rfl, fun V' hS => ?_⟩) hHeld ?_
      · go_simp
      simp only [Act.put, List.setIfInBounds_toArray, List.set_cons_zero, List.set_cons_succ]
      refine wpAnyH_take (i := 1) (v := .int .i64 (j : Int)) op1 (by kernel_rfl) (by kernel_rfl) (by kernel_rfl) (fun _ _ _ h => h) (Or.inl ⟨by rfl, fun V' hS => ?_⟩) hHeld ?_
      · go_simp
      simp only [Act.put, List.setIfInBounds_toArray, List.set_cons_zero, List.set_cons_succ]
      refine wpAnyH_take (i := 2) (v := .pointer (some ⟨g, j, none⟩)) op2 (by kernel_rfl) (by kernel_rfl) (by kernel_rfl) (fun _ _ _ h => h) (Or.inl ⟨by rfl, fun V' hS => ?_⟩) hHeld ?_
      · go_simp
      simp only [Act.put, List.setIfInBounds_toArray, List.set_cons_zero, List.set_cons_succ]
      refine wpAnyH_take (i := 3) (v := .int .u8 (c : Int)) op3 (by kernel_rfl) (by kernel_rfl) (by kernel_rfl) (fun _ _ _ h => h) (Or.inl ⟨by rfl, fun V' hS => ?_⟩) hHeld ?_
      · have h1 := hS.1
        go_simp
      simp only [Act.put, List.setIfInBounds_toArray, List.set_cons_zero, List.set_cons_succ]
      refine wpAnyH_take (i := 4) (v := .slice (some ⟨g', o', none⟩) L cp) op4 (by kernel_rfl) (by kernel_rfl) (by kernel_rfl) (fun _ _ _ h => h) (Or.inl ⟨by rfl, fun V' hS => ?_⟩) hHeld ?_
      · go_simp
      simp only [Act.put, List.setIfInBounds_toArray, List.set_cons_zero, List.set_cons_succ]
      refine wpAnyH_take (i := 5) (v := .int .i64 (j : Int)) op5 (by kernel_rfl) (by kernel_rfl) (by kernel_rfl) (fun _ _ _ h => h) (Or.inl ⟨by rfl, fun V' hS => ?_⟩) hHeld ?_
      · go_simp
      simp only [Act.put, List.setIfInBounds_toArray, List.set_cons_zero, List.set_cons_succ]
      refine wpAnyH_take (i := 6) (v := .pointer (some ⟨g', o' + j, none⟩)) op6 (by kernel_rfl) (by kernel_rfl) (by kernel_rfl) (fun _ _ _ h => h) (Or.inl ⟨by rfl, fun V' hS => ?_⟩) hHeld ?_
      · go_simp
      simp only [Act.put, List.setIfInBounds_toArray, List.set_cons_zero, List.set_cons_succ]
      refine wpAnyH_take (i := 7) (v := .int .u8 (c : Int)) op7 (by kernel_rfl) (by kernel_rfl) (by kernel_rfl) (fun _ _ _ h => h) (Or.inl ⟨by rfl, fun V' hS => ?_⟩) hHeld ?_
      · have h2 := hS.2.1
        go_simp
      simp only [Act.put, List.setIfInBounds_toArray, List.set_cons_zero, List.set_cons_succ]
      refine wpAnyH_take (i := 8) (v := .bool false) op8 (by kernel_rfl) (by kernel_rfl) (by kernel_rfl) (fun _ _ _ h => h) (Or.inl ⟨by rfl, fun V' hS => ?_⟩) hHeld ?_
      · go_simp
      simp only [Act.put, List.setIfInBounds_toArray, List.set_cons_zero, List.set_cons_succ]
      refine wpAnyH_done (by kernel_rfl) ?_ _
      have BZ : Hid (Below w.heap.size w z0) := hHeld.2.2
      clear hHeld BR
      go_wp2
      go_roundw
      case rel => exact ⟨j + 1, by omega, by simp, BZ.out⟩
      case measure => simp [intOf]; omega
    · obtain rfl : j = m := by omega
      clear hBr
      go_wp2
      go_loopw [8] (fun si wx => ∃ i : Nat, i ≤ 75 ∧ si = .int .i64 (i : Int) ∧ Below w.heap.size w wx) (fun si _ => 75 - (intOf si).toNat)
      case atStart => exact ⟨0, by omega, rfl, BR.out⟩
      case round =>
        obtain ⟨i, hi2, rfl, hBr⟩ := hrel
        have BR : Hid (Below w.heap.size w wr) := hBr
        by_cases hi3 : i < 75
        · have iI : (i : Int) < 75 := by omega
          have c1 := HR2.out wr hBr i hi3
          obtain ⟨c, hc1⟩ : ∃ c : Nat, c = 161 + i % 3 := ⟨_, rfl⟩
          rw [← hc1] at c1
          have e1 : (i : Int).tmod 3 = ((i % 3 : Nat) : Int) := rfl
          have e2 : (161 : Int) + ((i % 3 : Nat) : Int) = (c : Int) := by omega
          have cI : (c : Int) < 256 := by omega
          have wI : IntKind.i64.wrap ((i % 3 : Nat) : Int) = ((i % 3 : Nat) : Int) := Go.IntWalk.i64_in _ (by omega)
          obtain ⟨ji, hji⟩ : ∃ ji, ji = j + i := ⟨_, rfl⟩
          have e3 : (j : Int) + (i : Int) = (ji : Int) := by omega
          have e4 : (ji : Int) < (M : Int) := by have := HMM.out; omega
          rw [← hji] at c1
          clear hc1 hji hBr
          generalize ((i % 3 : Nat) : Int) = r at e1 e2 wI
          go_wp2
          go_roundw
          case rel => exact ⟨i + 1, by omega, by simp, BR.out⟩
          case measure => simp [intOf]; omega
        · obtain rfl : i = 75 := by omega
          clear hBr
          go_wp2
          go_ret
          exact ⟨rfl, BR.out⟩
/-- the document's Same, of the same instruction -/
theorem same_is (w : World) (x0 C x3 : Int) (v1 v2 : Value) (n : Nat) (b1 b2 : Nat → Nat) (h1 : BytesOf w v1 n b1) (h2 : BytesOf w v2 n b2) (h : ∀ j, j < n → b1 j = b2 j) : Calls Tryd.prog 18 #[.agg #[.int .i64 x0, .int .i64 C, v1, .int .i64 x3], .agg #[.int .i64 x0, .int .i64 C, v2, .int .i64 x3]] w fun e w' => e = .returned (.bool true) ∧ Below w.heap.size w w' := by
  have hB : Below w.heap.size w ((w.alloc (.cells #[.int .i64 x0, .int .i64 C, v1, .int .i64 x3] 40)).alloc (.cells #[.int .i64 x0, .int .i64 C, v2, .int .i64 x3] 40)) := ((Below.refl _ w).alloc (Nat.le_refl _) _).alloc (by simp) _
  have cv1 := conv_by _ v1 n b1 (h1.below rfl hB)
  have cv2 := conv_by _ v2 n b2 (h2.below rfl hB)
  rw [txB_congr h] at cv1
  generalize txB n b2 = tx at cv1 cv2
  obtain ⟨ad1, c1, rfl, _⟩ := h1
  obtain ⟨ad2, c2, rfl, _⟩ := h2
  have HBB : Hid _ := hB
  clear hB
  go_enter Tryd.func18, Tryd.ntmps18
  go_wp2
  go_ret
  exact ⟨rfl, HBB.out⟩
end Go.Proofs.YtcjmbpchdeapiaaDoor
