/- The document's 'Row'. -/
import Derived.Test.YtbjijbgjnammhaaDoorVg
import Derived.Laws.AppendOwnNone
import Derived.OwnWalk
import Derived.Deep.CutRange
import Derived.Deep.DeepCutAuto
namespace Go.Proofs.YtbjijbgjnammhaaDoor
open Go.RowKit
theorem Tryd.infoInt : (Tryd.prog.info? 3).map (fun i => (i.zero, i.size, i.bytes)) = some (some (.int .i64 0), 1, 8) := by kernel_rfl
theorem intsD_snoc (f : Nat → Nat) (n : Nat) : intsD f (n + 1) = intsD f n ++ [.int .i64 (f n : Int)] := by simp [intsD, List.range_succ]
theorem row_past {w w' : World} {B n : Nat} {T : TypeId} {v : Value} {xs : List Value} (h : w.ownsRow B T 1 v n xs) (k : Below w.heap.size w w') : w'.ownsRow B T 1 v n xs :=
  h.kept (row := none) ⟨k.os, k.tape, k.output, k.size, fun i hi _ => k.block i hi⟩ (by cases hv : v.ownBlock <;> simp)
theorem own_step {w wr w1 : World} {v : Value} {o : Obj} {B n : Nat} {xs : List Value} (hown : wr.ownsRow B 3 1 v n xs) (hB : Below B w wr) (hs : B ≤ wr.heap.size)
    (hg : (wr.alloc o).grownBy w1 v.ownBlock) : Below B w w1 :=
  Below.grown (hB.alloc hs o) hg (by simp; omega) (fun q h => (hown.lt q h).1)
/-- the eight bits that the row goes on from -/
def EightAt (W : World) (v : Value) (r : Nat → Nat) : Prop := ∃ q c, v = .slice (some ⟨q, 0, none⟩) 8 c ∧ 8 ≤ c ∧ ∀ j, j < 8 → W.cell? ⟨q, j, none⟩ = some (.int .i64 (r j : Int))
def nineF (r : Nat → Nat) (j : Nat) : Nat := if j = 0 then 0 else r (j - 1)
def lfF (i j : Nat) : Nat := (lfL i).getD j 0
theorem lfF_next (i : Nat) : ∀ j, j < 8 → lfF (i + 1) j = (if lfF i 7 = 1 then (if j = 0 ∨ j = 4 ∨ j = 5 ∨ j = 6 then 1 - nineF (lfF i) j else nineF (lfF i) j) else nineF (lfF i) j) := by
  intro j hj
  have h : j = 0 ∨ j = 1 ∨ j = 2 ∨ j = 3 ∨ j = 4 ∨ j = 5 ∨ j = 6 ∨ j = 7 := by omega
  unfold lfF nineF
  rw [lfL, nineL]
  by_cases e : (lfL i).getD 7 0 = 1
  · rw [if_pos e, if_pos e]
    rcases h with rfl | rfl | rfl | rfl | rfl | rfl | rfl | rfl <;> rfl
  · rw [if_neg e, if_neg e]
    rcases h with rfl | rfl | rfl | rfl | rfl | rfl | rfl | rfl <;> rfl
set_option maxHeartbeats 4000000 in
set_option maxRecDepth 100000 in
theorem row_is (w : World) : Calls Tryd.prog 18 #[.int .i64 168] w fun e w' => ∃ g c, e = .returned (.slice (some ⟨g, 0, none⟩) 168 c) ∧ RbAt w' g ∧ w.heap.size ≤ g ∧ Below w.heap.size w w' := by
  obtain ⟨i0, hi, hz0, hz1, hz2⟩ := info_parts Tryd.infoInt
  go_enter Tryd.func18, Tryd.ntmps18
  go_wp2
  go_loopw [3, 4, 5] (fun sl sr s wr => ∃ i : Nat, i ≤ 168 ∧ s = .int .i64 (i : Int) ∧ wr.ownsRow w.heap.size 3 1 sl i (intsD rb i) ∧ Below w.heap.size w wr ∧ ∃ q c, sr = .slice (some ⟨q, 0, none⟩) 8 c ∧ 8 ≤ c ∧ (∀ j, j < 8 → wr.cell? ⟨q, j, none⟩ = some (.int .i64 (lfF i j : Int))) ∧ sl.ownBlock ≠ some q) (fun _ _ s _ => 168 - (intOf s).toNat)
  case atStart =>
    refine ⟨0, Nat.zero_le _, rfl, World.ownsRow_nil _ _ _ _, (Below.refl _ _).alloc (Nat.le_refl _) _, w.heap.size, 8, rfl, by omega, ?_, by simp [Value.ownBlock]⟩
    intro j hj
    have h : j = 0 ∨ j = 1 ∨ j = 2 ∨ j = 3 ∨ j = 4 ∨ j = 5 ∨ j = 6 ∨ j = 7 := by omega
    rcases h with rfl | rfl | rfl | rfl | rfl | rfl | rfl | rfl <;> (simp; rfl)
  case round =>
    obtain ⟨i, hi5, rfl, hown, hB, q, c, rfl, hc, hcell, hne⟩ := hrel
    by_cases hi6 : i < 168
    · have iI : (i : Int) < 168 := by omega
      have HOW : Hid (wr.ownsRow w.heap.size 3 1 u3 i (intsD rb i)) := hown
      have HB : Hid (Below w.heap.size w wr) := hB
      have HCE : Hid (∀ j, j < 8 → wr.cell? ⟨q, j, none⟩ = some (.int .i64 (lfF i j : Int))) := hcell
      have c0 := hcell 0 (by omega)
      have e0 : lfF i 0 = rb i := rfl
      rw [e0] at c0
      generalize hx : rb i = x at c0
      have HX : Hid (rb i = x) := hx
      have HNE : Hid (u3.ownBlock ≠ some q) := hne
      have hbs := hB.size
      clear hown hB hcell hx e0 hne hi5
      go_upto_region 7 with (at_builtin; refine wpList_append_own _ rfl _ _ 41 rfl w.heap.size 3 i0 (.int .i64 0) 1 8 Tryd.underlying41 hi hz0 hz1 hz2 rfl (by decide) _ _ _ rfl (World.ownsRow.alloc HOW.out _) ⟨wr.heap.size, 0, none⟩ 1 1 [.int .i64 (x : Int)] rfl rfl (fun j u hj => by
                have : j = 0 := by have := (List.getElem?_eq_some_iff.1 hj).1; simpa using this
                subst this
                simp at hj
                subst hj
                simp [Addr.add]) (fun u hu => by rw [List.mem_singleton.1 hu]; rfl) (by unfold maxLen; omega) (by omega) (by simp; omega) ?_; intro sl' w1 hown' hgrow _)
      have hgr : (wr.alloc (.cells #[.int .i64 (x : Int)] 3)).grownBy w1 u3.ownBlock := hgrow
      have HO1 : Hid (w1.ownsRow w.heap.size 3 1 sl' (i + 1) (intsD rb (i + 1))) := by unfold Hid; rw [intsD_snoc, HX.out]; exact hown'
      have HB1 : Hid (Below w.heap.size w w1) := own_step HOW.out HB.out hbs hgr
      have HC1 : Hid (∀ j, j < 8 → w1.cell? ⟨q, j, none⟩ = some (.int .i64 (lfF i j : Int))) := fun j hj => hgr.cell (a := ⟨q, j, none⟩) (by
        have hq := World.block_lt_of_cell? wr _ (HCE.out j hj)
        rw [World.cell?_alloc_lt _ _ _ hq]; exact HCE.out j hj) (fun e => HNE.out e.symm)
      clear HOW HB HCE HX HNE hown' hgrow hgr c0 hbs
      obtain ⟨r, er⟩ : ∃ r, r = lfF i := ⟨_, rfl⟩
      have HLF : Hid (∀ j, j < 8 → lfF (i + 1) j = (if r 7 = 1 then (if j = 0 ∨ j = 4 ∨ j = 5 ∨ j = 6 then 1 - nineF r j else nineF r j) else nineF r j)) := by rw [er]; exact lfF_next i
      have HLE : Hid (∀ j, r j ≤ 1) := by intro j; rw [er]; exact lf_le i j
      rw [← er] at HC1
      clear er
      go_wp2
      go_loopw [6, 7] (fun sn s wx => ∃ k : Nat, k ≤ 8 ∧ s = .int .i64 (k : Int) ∧ wx.ownsRow w1.heap.size 3 1 sn (k + 1) (intsD (nineF r) (k + 1)) ∧ Below w1.heap.size w1 wx) (fun _ s _ => 8 - (intOf s).toNat)
      case atStart => exact ⟨0, Nat.zero_le _, rfl, World.ownsRow_lit w1 #[.int .i64 0] 1 (Nat.le_refl _) (by decide) rfl, (Below.refl _ _).alloc (Nat.le_refl _) _⟩
      case round =>
        obtain ⟨k, hk, rfl, hown, hB⟩ := hrel
        have HOW : Hid (wr.ownsRow w1.heap.size 3 1 u6 (k + 1) (intsD (nineF r) (k + 1))) := hown
        have HB : Hid (Below w1.heap.size w1 wr) := hB
        have hbs := hB.size
        by_cases hk8 : k < 8
        · have kI : (k : Int) < 8 := by omega
          have ck := (hB.cell (p := ⟨q, k, none⟩) (World.block_lt_of_cell? w1 _ (HC1.out k hk8))).trans (HC1.out k hk8)
          have HN : Hid (nineF r (k + 1) = r k) := rfl
          generalize hx : r k = x at ck HN
          clear hown hB hk hx
          go_wp2_with (at_builtin; refine wpList_append_own _ rfl _ _ 41 rfl w1.heap.size 3 i0 (.int .i64 0) 1 8 Tryd.underlying41 hi hz0 hz1 hz2 rfl (by decide) _ _ _ rfl (World.ownsRow.alloc HOW.out _) ⟨wr.heap.size, 0, none⟩ 1 1 [.int .i64 (x : Int)] rfl rfl (fun j u hj => by
                have : j = 0 := by have := (List.getElem?_eq_some_iff.1 hj).1; simpa using this
                subst this
                simp at hj
                subst hj
                simp [Addr.add]) (fun u hu => by rw [List.mem_singleton.1 hu]; rfl) (by unfold maxLen; omega) (by omega) (by simp; omega) ?_; intro sn' w2 hown' hgrow _)
          have hgr : (wr.alloc (.cells #[.int .i64 (x : Int)] 3)).grownBy w2 u6.ownBlock := hgrow
          have R : Hid (w2.ownsRow w1.heap.size 3 1 sn' (k + 1 + 1) (intsD (nineF r) (k + 1 + 1)) ∧ Below w1.heap.size w1 w2) := ⟨by rw [intsD_snoc, HN.out]; exact hown', own_step HOW.out HB.out hbs hgr⟩
          clear hown' hgrow hgr HOW HB
          go_wp2
          go_roundw
          case rel => exact ⟨k + 1, by omega, by go_num, R.out⟩
          case measure => simp [intOf]; omega
        · obtain rfl : k = 8 := by omega
          rw [show ((8 : Nat) : Int) = 8 from rfl]
          obtain ⟨g, cc, rfl, hg, hcc, hcell, hfz⟩ : ∃ g cc, u6 = .slice (some ⟨g, 0, none⟩) 9 cc ∧ w1.heap.size ≤ g ∧ 9 ≤ cc ∧ (∀ j, j < 9 → wr.cell? ⟨g, j, none⟩ = some (.int .i64 (nineF r j : Int))) ∧ (∀ j, wr.frozen? ⟨g, j, none⟩ = false) := by
            obtain ⟨hl, ⟨_, e⟩ | ⟨g, cap, cur, rfl, hb, hh, h1, _, h2, h3⟩⟩ := id hown
            · omega
            · exact ⟨g, cap, rfl, hb, h1, fun j hj => by rw [hown.cellAt j (by omega), intsD_get _ _ _ hj], fun j => hown.frozenAt j⟩
          have cF : ∀ n : Nat, n ≤ 9 → (n : Int) ≤ (cc : Int) := fun n hn => by omega
          have cI : (8 : Int) ≤ (cc : Int) := by omega
          have NX : Hid (∀ W, Below w1.heap.size w1 W → (∀ j, j < 8 → W.cell? ⟨g, j, none⟩ = some (.int .i64 (lfF (i + 1) j : Int))) → W.ownsRow w.heap.size 3 1 sl' (i + 1) (intsD rb (i + 1)) ∧ Below w.heap.size w W ∧ ∃ q c, Value.slice (some ⟨g, 0, none⟩) 8 cc = .slice (some ⟨q, 0, none⟩) 8 c ∧ 8 ≤ c ∧ (∀ j, j < 8 → W.cell? ⟨q, j, none⟩ = some (.int .i64 (lfF (i + 1) j : Int))) ∧ sl'.ownBlock ≠ some q) := fun W hW hc =>
            ⟨row_past HO1.out hW, HB1.out.trans (hW.mono HB1.out.size), g, cc, rfl, by omega, hc, fun e => by have := (HO1.out.lt g e).2; omega⟩
          have HW : Hid (Below w1.heap.size w1 wr) := hB
          have HCL : Hid (∀ j, j < 9 → wr.cell? ⟨g, j, none⟩ = some (.int .i64 (nineF r j : Int))) := hcell
          have c0 := hcell 0 (by omega)
          have c4 := hcell 4 (by omega)
          have c5 := hcell 5 (by omega)
          have c6 := hcell 6 (by omega)
          have c8 := hcell 8 (by omega)
          have f0 := hfz 0
          have f4 := hfz 4
          have f5 := hfz 5
          have f6 := hfz 6
          have e8 : nineF r 8 = r 7 := rfl
          have HG : Hid (w1.heap.size ≤ g) := hg
          rw [e8] at c8
          have HRI : Hid (RowI wr g 9 (nineF r)) := fun j hj => ⟨hcell j hj, hfz j⟩
          clear e8 hown hB hcell hfz HOW HB HC1 HO1 HB1 hbs hg
          by_cases h7 : r 7 = 1
          · have c8' : (r 7 : Int) = 1 := by omega
            rw [c8'] at c8
            have hl : ∀ j, nineF r j ≤ 1 := fun j => by unfold nineF; split; omega; exact HLE.out _
            have l0 := hl 0
            have l4 := hl 4
            have l5 := hl 5
            have l6 := hl 6
            have hlf := HLF.out
            obtain ⟨b0, eb0⟩ : ∃ b, b = 1 - nineF r 0 := ⟨_, rfl⟩
            obtain ⟨b4, eb4⟩ : ∃ b, b = 1 - nineF r 4 := ⟨_, rfl⟩
            obtain ⟨b5, eb5⟩ : ∃ b, b = 1 - nineF r 5 := ⟨_, rfl⟩
            obtain ⟨b6, eb6⟩ : ∃ b, b = 1 - nineF r 6 := ⟨_, rfl⟩
            have R : Hid _ := NX.out ((((wr.setCell ⟨g, 0, none⟩ (.int .i64 (b0 : Int))).setCell ⟨g, 4, none⟩ (.int .i64 (b4 : Int))).setCell ⟨g, 5, none⟩ (.int .i64 (b5 : Int))).setCell ⟨g, 6, none⟩ (.int .i64 (b6 : Int)))
              ((((HW.out.setCell HG.out _).setCell HG.out _).setCell HG.out _).setCell HG.out _) (fun j hj => by
                have h1 := (((((HRI.out).set 0 b0).set 4 b4).set 5 b5).set 6 b6 j (by omega)).1
                rw [h1, hlf j hj, if_pos h7]
                have h : j = 0 ∨ j = 1 ∨ j = 2 ∨ j = 3 ∨ j = 4 ∨ j = 5 ∨ j = 6 ∨ j = 7 := by omega
                rcases h with rfl | rfl | rfl | rfl | rfl | rfl | rfl | rfl <;> simp [setD, eb0, eb4, eb5, eb6])
            have s0 : (1 : Int) - (nineF r 0 : Int) = (b0 : Int) := by omega
            have s4 : (1 : Int) - (nineF r 4 : Int) = (b4 : Int) := by omega
            have s5 : (1 : Int) - (nineF r 5 : Int) = (b5 : Int) := by omega
            have s6 : (1 : Int) - (nineF r 6 : Int) = (b6 : Int) := by omega
            have w0 : IntKind.i64.wrap (b0 : Int) = (b0 : Int) := by rw [IntKind.wrap_i64]; omega
            have w4 : IntKind.i64.wrap (b4 : Int) = (b4 : Int) := by rw [IntKind.wrap_i64]; omega
            have w5 : IntKind.i64.wrap (b5 : Int) = (b5 : Int) := by rw [IntKind.wrap_i64]; omega
            have w6 : IntKind.i64.wrap (b6 : Int) = (b6 : Int) := by rw [IntKind.wrap_i64]; omega
            clear eb0 eb4 eb5 eb6 l0 l4 l5 l6 hl hlf h7 c8' HRI HLE HLF HCL HW NX cF
            generalize nineF r 0 = a0 at c0 s0
            generalize nineF r 4 = a4 at c4 s4
            generalize nineF r 5 = a5 at c5 s5
            generalize nineF r 6 = a6 at c6 s6
            go_wp2
            go_roundw
            case rel => exact ⟨i + 1, by omega, by go_num, R.out⟩
            case measure => simp [intOf]; omega
          · have hlf := HLF.out
            have R : Hid _ := NX.out wr HW.out (fun j hj => by rw [HCL.out j (by omega), hlf j hj, if_neg h7])
            have c8' : ¬ (r 7 : Int) = 1 := by omega
            generalize r 7 = r7 at c8 c8'
            clear hlf h7 HRI HLE HLF HCL HW NX cF c0 c4 c5 c6 f0 f4 f5 f6
            go_wp2
            go_roundw
            case rel => exact ⟨i + 1, by omega, by go_num, R.out⟩
            case measure => simp [intOf]; omega
    · obtain rfl : i = 168 := by omega
      obtain ⟨g, cc, rfl, hg1, hg2⟩ : ∃ g cc, u3 = .slice (some ⟨g, 0, none⟩) 168 cc ∧ RbAt wr g ∧ w.heap.size ≤ g := by
        obtain ⟨hl, ⟨_, e⟩ | ⟨g, cap, cur, rfl, hb, hh, h1, _, h2, h3⟩⟩ := id hown
        · omega
        · refine ⟨g, cap, rfl, fun i hi => ?_, hb⟩
          rw [hown.cellAt i (by omega), intsD_get _ _ _ hi]
      go_wp2
      go_ret
      exact ⟨g, cc, rfl, hg1, hg2, hB⟩
end Go.Proofs.YtbjijbgjnammhaaDoor
