/- The document's 'Sum' of one piece: the walk. -/
import Derived.Test.YtbjijbgjnammhaaDoorVm
namespace Go.Proofs.YtbjijbgjnammhaaDoor
open Go.RowKit
/-- while the bytes are laid: the result's block, the padded bytes, the state -/
def TInv (w : World) (g b6 : Nat) (L : List Nat) (u : Nat → Nat) (W : World) : Prop :=
  Below w.heap.size w W ∧ RowB W w.heap.size 32 (fun _ => 0) ∧ BytesAt W ⟨g, 0, none⟩ L ∧ RowI W b6 1600 u
theorem TInv.past {w W W' : World} {g b6 : Nat} {L : List Nat} {u : Nat → Nat} (h : TInv w g b6 L u W) (k : Below W.heap.size W W') : TInv w g b6 L u W' :=
  ⟨h.1.trans (k.mono h.1.size), h.2.1.below k (h.2.1.lt (by omega)), h.2.2.1.below k, h.2.2.2.past k⟩
theorem TInv.set {w W : World} {g b6 : Nat} {L : List Nat} {u : Nat → Nat} (h : TInv w g b6 L u W) (hb : w.heap.size < b6) (hg : g ≠ b6) (s x : Nat) : TInv w g b6 L (setD u s x) (W.setCell ⟨b6, s, none⟩ (.int .i64 (x : Int))) :=
  ⟨h.1.setCell (by show w.heap.size ≤ b6; omega) _, h.2.1.set_other _ _ (by show b6 ≠ w.heap.size; omega), fun i hi => by
    rw [World.cell?_setCell_other _ _ _ _ (by intro e; injection e with e _ _; exact hg e.symm)]; exact h.2.2.1 i hi, h.2.2.2.set s x⟩
theorem TInv.store {w W : World} {g b6 : Nat} {L : List Nat} {u : Nat → Nat} (h : TInv w g b6 L u W) (hb : w.heap.size < b6) (hg : g ≠ b6) (v : Nat → Nat) : TInv w g b6 L v (W.setCells b6 0 (intsD v 1600)) :=
  ⟨below_setCells _ (by omega) _ _ _ h.1, fun i hi => ⟨by rw [World.cell?_setCells_out _ _ _ _ _ (fun e _ => absurd e (by show w.heap.size ≠ b6; omega))]; exact (h.2.1 i hi).1, by rw [World.frozen?_setCells]; exact (h.2.1 i hi).2⟩, fun i hi => by
    rw [World.cell?_setCells_out _ _ _ _ _ (fun e _ => absurd e hg)]; exact h.2.2.1 i hi, h.2.2.2.of_range⟩
/-- while the hash is read off -/
def OInv (w : World) (b6 b11 : Nat) (g : Nat → Nat) (v : Nat → Int) (c : Nat) (W : World) : Prop :=
  Below w.heap.size w W ∧ RowB W w.heap.size 32 (fun _ => 0) ∧ RowI W b6 1600 g ∧ ∃ u : Nat → Int, RowB W b11 32 u ∧ ∀ j, j < c → u j = v j
theorem OInv.set {w W : World} {b6 b11 : Nat} {g : Nat → Nat} {v : Nat → Int} {c : Nat} {x : Int} (h : OInv w b6 b11 g v c W) (hc : c < 32) (h8 : w.heap.size < b11) (h7 : b6 ≠ b11) (hx : x = v c) : OInv w b6 b11 g v (c + 1) (W.setCell ⟨b11, c, none⟩ (.int .u8 x)) := by
  obtain ⟨hB, hZ, hA, u, hU, hu⟩ := h
  refine ⟨hB.setCell (by show w.heap.size ≤ b11; omega) _, hZ.set_other _ _ (by show b11 ≠ w.heap.size; omega), hA.set_other _ _ (fun e => h7 e.symm), _, hU.set c x hc, fun j hj => ?_⟩
  by_cases e : j = c
  · rw [if_pos e, hx, e]
  · rw [if_neg e]; exact hu j (by omega)
set_option maxHeartbeats 4000000 in
set_option maxRecDepth 100000 in
theorem rsum_is (w : World) (pb : Nat) (v : Value) (l : List Nat) (hv : w.cell? ⟨pb, 0, none⟩ = some v) (hseg : Seg w v l) (hl : ∀ i, l.getD i 0 < 256) (hn : l.length ≤ 100000000) :
    Calls Tryd.prog 9 #[.slice (some ⟨pb, 0, none⟩) 1 1] w fun e w' => e = .returned (.agg (rowB 32 (sumF l)).toArray) ∧ Below w.heap.size w w' := by
  have hpb := World.block_lt_of_cell? w _ hv
  have HV : Hid (w.cell? ⟨pb, 0, none⟩ = some v) := hv
  have HS : Hid (Seg w v l) := hseg
  have HL : Hid (∀ i, l.getD i 0 < 256) := hl
  have HN : Hid (l.length ≤ 100000000) := hn
  clear hv hseg hl hn
  go_enter Tryd.func9, Tryd.ntmps9
  go_upto_region 1 with fail
  rw [zeroB32]
  have S0 : Hid (Below w.heap.size w (w.alloc (.cells (rowB 32 fun _ => 0).toArray 31)) ∧ RowB (w.alloc (.cells (rowB 32 fun _ => 0).toArray 31)) w.heap.size 32 (fun _ => 0) ∧ (w.alloc (.cells (rowB 32 fun _ => 0).toArray 31)).heap.size = w.heap.size + 1) := ⟨(Below.refl _ _).alloc (Nat.le_refl _) _, RowB.new w _ 32 _, by simp⟩
  generalize w.alloc (.cells (rowB 32 fun _ => 0).toArray 31) = W0 at S0 ⊢
  obtain ⟨lf, elf⟩ : ∃ lf : Nat → List Nat, lf = fun k => if k = 0 then [] else l := ⟨_, rfl⟩
  have L0 : Hid (lf 0 = []) := by unfold Hid; rw [elf]; rfl
  have L1 : Hid (lf 1 = l) := by unfold Hid; rw [elf]; rfl
  clear elf
  go_wp2
  go_loopw [3, 4] (fun s3 s wr => ∃ k : Nat, k ≤ 1 ∧ s = .int .i64 (k : Int) ∧ wr.ownsRow (w.heap.size + 1) 5 1 s3 (lf k).length (bytesL (lf k)) ∧ Below (w.heap.size + 1) W0 wr) (fun _ s _ => 1 - (intOf s).toNat)
  case atStart => exact ⟨0, Nat.zero_le _, rfl, by rw [L0.out]; exact World.ownsRow_nil _ _ _ _, Below.refl _ _⟩
  case round =>
    obtain ⟨k, hk, rfl, hown, hB⟩ := hrel
    have s1 := S0.out.2.2
    have hbs := hB.size
    have HB : Hid (Below (w.heap.size + 1) W0 wr) := hB
    by_cases hk5 : k < 1
    · obtain rfl : k = 0 := by omega
      rw [L0.out] at hown
      have B1 : Below w.heap.size w wr := S0.out.1.trans (hB.mono (by omega))
      have HB1 : Hid (Below w.heap.size w wr) := B1
      have cv := (B1.cell (p := ⟨pb, 0, none⟩) hpb).trans HV.out
      have SG : Hid (Seg wr v l) := HS.out.below B1
      have HOW : Hid (wr.ownsRow (w.heap.size + 1) 5 1 u3 0 []) := hown
      have hbs2 : w.heap.size + 1 ≤ wr.heap.size := by rw [← s1]; exact Nat.le_trans (by omega) hbs
      have hn := HN.out
      clear hown hB hk hk5 B1 s1 hbs
      rw [show ((0 : Nat) : Int) = 0 from rfl]
      go_wp2_with (at_builtin; refine append_seg rfl _ _ rfl (w.heap.size + 1) u3 0 [] rfl HOW.out v l rfl SG.out (by omega) hbs2 ?_; intro v1 w1 hown' hgrow)
      have R : Hid (w1.ownsRow (w.heap.size + 1) 5 1 v1 (lf 1).length (bytesL (lf 1)) ∧ Below (w.heap.size + 1) W0 w1) := by
        refine ⟨?_, step8g HOW.out HB.out hbs2 hgrow⟩
        rw [L1.out]; simpa using hown'
      clear hown' hgrow HOW HB SG HB1
      go_wp2
      go_roundw
      case rel => exact ⟨1, Nat.le_refl _, rfl, R.out⟩
      case measure => simp [intOf]
    · obtain rfl : k = 1 := by omega
      rw [L1.out] at hown
      have B1 : Below w.heap.size w wr := S0.out.1.trans (hB.mono (by omega))
      have HB1 : Hid (Below w.heap.size w wr) := B1
      have RB : Hid (RowB wr w.heap.size 32 fun _ => 0) := S0.out.2.1.below hB (by omega)
      have SG : Hid (Seg wr u3 l) := (owns_seg hown).1
      have PD : Hid (Calls Tryd.prog 13 #[u3] wr fun e w' => ∃ v', e = .returned v' ∧ w'.ownsRow wr.heap.size 5 1 v' (l ++ padL (136 - l.length % 136)).length (bytesL (l ++ padL (136 - l.length % 136))) ∧ Below wr.heap.size wr w') := padded_is wr u3 l SG.out HN.out
      have hs : w.heap.size < wr.heap.size := RB.out.lt (by omega)
      rw [show ((1 : Nat) : Int) = 1 from rfl]
      clear hown hB hk hk5 B1 s1 hbs HB S0 SG HS HV L0 L1
      obtain ⟨L, eL⟩ : ∃ L, L = l ++ padL (136 - l.length % 136) := ⟨_, rfl⟩
      have hLb : Hid (∀ i, L.getD i 0 < 256) := by rw [eL]; exact pad_byte l HL.out _
      have HH : Hid (∀ i, hashF (abF L L.length) i = sumF l i) := fun i => abF_end l L eL i
      have hT1 : L.length ≤ 100000200 := by have := HN.out; rw [eL, List.length_append, padL_len _ (by omega)]; omega
      have hT0 : 0 < L.length := by rw [eL, List.length_append, padL_len _ (by omega)]; omega
      rw [← eL] at PD
      have AB : Hid (∀ i, i < L.length → abF L (i + 1) = if i % 136 = 135 then rndsF 24 (layF (abF L i) (i % 136) (L.getD i 0)) else layF (abF L i) (i % 136) (L.getD i 0)) := fun i hi => abF_next L i hi
      obtain ⟨T, eT⟩ : ∃ T, L.length = T := ⟨_, rfl⟩
      have ET : Hid (L.length = T) := eT
      rw [eT] at PD HH hT1 hT0 AB
      have TI : (T : Int) ≤ 100000200 := by omega
      clear HL HN eL eT
      go_upto_region 7 with (go_at_call 13; refine (PD.out).mono ?_; rintro e w1 ⟨v', rfl, hown, hB⟩)
      have B1 : Hid (Below w.heap.size w w1) := HB1.out.trans (hB.mono HB1.out.size)
      have RB1 : Hid (RowB w1 w.heap.size 32 fun _ => 0) := RB.out.below hB hs
      obtain ⟨g, c, rfl, hgs, hby⟩ := owns_bytes hown hT0 ET.out.symm
      have BY : Hid (BytesAt w1 ⟨g, 0, none⟩ L) := hby
      have hs1 : w.heap.size < w1.heap.size := Nat.lt_of_lt_of_le hs hB.size
      clear hown hB HB1 RB PD hby
      go_upto_region 8 with (refine allocSt rfl rfl ?_; intro W6 hW6)
      have zK : ∀ i, bs (abF L 0) i = 0 := fun i => by
        show ((zeroK (i / 64)).getLsbD (i % 64)).toNat = 0
        simp [zeroK]
      obtain ⟨b6, e6⟩ : ∃ b, w1.heap.size = b := ⟨_, rfl⟩
      have S1 : Hid (TInv w g b6 L (bs (abF L 0)) W6) := by
        refine ⟨B1.out.trans (hW6.bel.mono B1.out.size), RB1.out.below hW6.bel hs1, BY.out.below hW6.bel, ?_⟩
        rw [← e6]; exact hW6.row.ext fun i _ => (zK i).symm
      have hb6 : w.heap.size < b6 := by omega
      have hg6 : g ≠ b6 := by omega
      rw [e6]
      clear B1 RB1 BY hW6 zK hs1 hgs e6 hs
      go_wp2
      go_loopw [7] (fun s wr => ∃ i : Nat, i ≤ T ∧ s = .int .i64 (i : Int) ∧ TInv w g b6 L (bs (abF L i)) wr) (fun s _ => T - (intOf s).toNat)
      case atStart => exact ⟨0, Nat.zero_le _, rfl, S1.out⟩
      case round =>
        clear S1
        obtain ⟨i, hi, rfl, hI⟩ := hrel
        have HI : Hid (TInv w g b6 L (bs (abF L i)) wr) := hI
        clear hI
        by_cases hi5 : i < T
        · have iI : (i : Int) < (T : Int) := by omega
          clear hi
          have ci : wr.cell? ⟨g, i, none⟩ = some (.int .u8 (L.getD i 0 : Nat)) := by
            have := HI.out.2.2.1 i (by rw [ET.out]; exact hi5)
            rw [Nat.zero_add] at this; exact this
          obtain ⟨p, ep⟩ : ∃ p : Nat, i % 136 = p := ⟨_, rfl⟩
          have hx := hLb.out i
          have hab := AB.out i hi5
          rw [ep] at hab
          generalize L.getD i 0 = x at ci hx hab
          obtain ⟨F, eF⟩ : ∃ F, F = abF L i := ⟨_, rfl⟩
          rw [← eF] at hab HI
          have RL : Hid (∀ i, lyF F p x 8 i = bs (layF F p x) i) := ly_all F p x hx
          have MLE : Hid (∀ j i, lyF F p x j i ≤ 1) := lyF_le F p x
          have MS : Hid (∀ j, lyF F p x (j + 1) = setD (lyF F p x j) (8 * p + j) ((lyF F p x j (8 * p + j) + x / 2 ^ j % 2) % 2)) := fun j => rfl
          have M0 : Hid (lyF F p x 0 = bs F) := rfl
          have RD : Hid (∀ V, Calls Tryd.prog 14 #[.agg (intsD (bs (layF F p x)) 1600).toArray] V fun e w' => e = .returned (.agg (intsD (bs (rndsF 24 (layF F p x))) 1600).toArray) ∧ Below V.heap.size V w') := fun V => rounds_is _ V
          obtain ⟨u2, e2⟩ : ∃ u, u = bs (rndsF 24 (layF F p x)) := ⟨_, rfl⟩
          obtain ⟨u1, e1⟩ : ∃ u, u = bs (layF F p x) := ⟨_, rfl⟩
          have HAB : Hid (bs (abF L (i + 1)) = if p = 135 then u2 else u1) := by
            unfold Hid; rw [hab, e2, e1]; split <;> rfl
          rw [← e2, ← e1] at RD
          rw [← e1] at RL
          generalize lyF F p x = m at RL MLE MS M0
          generalize bs F = u0 at HI M0
          have pI : p < 136 := by omega
          have tp : Int.tmod (i : Int) 136 = (p : Int) := by rw [Int.tmod_eq_emod_of_nonneg (by omega)]; omega
          have wp0 : IntKind.i64.wrap (p : Int) = (p : Int) := by rw [IntKind.wrap_i64]; omega
          have wx : IntKind.i64.wrap (x : Int) = (x : Int) := by rw [IntKind.wrap_i64]; omega
          clear hab eF e1 e2 ep
          go_wp2
          go_loopw [8, 9] (fun n s wx => ∃ j : Nat, j ≤ 8 ∧ s = .int .i64 (j : Int) ∧ n = .int .i64 ((x / 2 ^ j : Nat) : Int) ∧ TInv w g b6 L (m j) wx) (fun _ s _ => 8 - (intOf s).toNat)
          case atStart => exact ⟨0, Nat.zero_le _, rfl, by simp, by rw [M0.out]; exact HI.out⟩
          case round =>
            clear HI ci
            obtain ⟨j, hj, rfl, rfl, hI⟩ := hrel
            have HI : Hid (TInv w g b6 L (m j) wr) := hI
            clear hI
            by_cases hj5 : j < 8
            · have jI : (j : Int) < 8 := by omega
              clear hj
              obtain ⟨p8, e8⟩ : ∃ y : Nat, y = 8 * p := ⟨_, rfl⟩
              obtain ⟨r, er⟩ : ∃ y : Nat, y = p8 + j := ⟨_, rfl⟩
              obtain ⟨n, en⟩ : ∃ n : Nat, n = x / 2 ^ j := ⟨_, rfl⟩
              obtain ⟨q, eq⟩ : ∃ q : Nat, q = n % 2 := ⟨_, rfl⟩
              obtain ⟨n2, en2⟩ : ∃ q : Nat, q = n / 2 := ⟨_, rfl⟩
              have hn : n ≤ x := by rw [en]; exact Nat.div_le_self _ _
              have HN2 : Hid (n2 = x / 2 ^ (j + 1)) := by unfold Hid; rw [en2, en, half_pow]
              have hr : r < 1600 := by omega
              have cr := (HI.out.2.2.2 r hr).1
              have fr := (HI.out.2.2.2 r hr).2
              have lr := MLE.out j r
              have hm := MS.out j
              rw [← e8, ← er, ← en, ← eq] at hm
              generalize m j r = b at cr lr hm
              obtain ⟨s, es⟩ : ∃ s : Nat, s = b + q := ⟨_, rfl⟩
              obtain ⟨y, ey⟩ : ∃ s2 : Nat, s2 = s % 2 := ⟨_, rfl⟩
              have NS : Hid (TInv w g b6 L (m (j + 1)) (wr.setCell ⟨b6, r, none⟩ (.int .i64 (y : Int)))) := by
                unfold Hid; rw [hm, ← es, ← ey]; exact HI.out.set hb6 hg6 r y
              have s1 : (8 : Int) * (p : Int) = (p8 : Int) := by omega
              have s2 : (p8 : Int) + (j : Int) = (r : Int) := by omega
              have s3 : Int.tmod (n : Int) 2 = (q : Int) := by rw [Int.tmod_eq_emod_of_nonneg (by omega)]; omega
              have s4 : Int.tdiv (n : Int) 2 = (n2 : Int) := by rw [Int.tdiv_eq_ediv_of_nonneg (by omega)]; omega
              have s5 : (b : Int) + (q : Int) = (s : Int) := by omega
              have s6 : Int.tmod (s : Int) 2 = (y : Int) := by rw [Int.tmod_eq_emod_of_nonneg (by omega)]; omega
              have w1 : IntKind.i64.wrap (p8 : Int) = (p8 : Int) := by rw [IntKind.wrap_i64]; omega
              have w2 : IntKind.i64.wrap (r : Int) = (r : Int) := by rw [IntKind.wrap_i64]; omega
              have w3 : IntKind.i64.wrap (q : Int) = (q : Int) := by rw [IntKind.wrap_i64]; omega
              have w4 : IntKind.i64.wrap (n2 : Int) = (n2 : Int) := by rw [IntKind.wrap_i64]; omega
              have w5 : IntKind.i64.wrap (s : Int) = (s : Int) := by rw [IntKind.wrap_i64]; omega
              have w6 : IntKind.i64.wrap (y : Int) = (y : Int) := by rw [IntKind.wrap_i64]; omega
              have i1 : (r : Int) < 1600 := by omega
              rw [← en]
              clear e8 er en eq en2 hn hm lr es ey HI hr
              go_wp2
              go_roundw
              case rel => exact ⟨j + 1, by omega, by go_num, by rw [HN2.out], NS.out⟩
              case measure => simp [intOf]; omega
            · obtain rfl : j = 8 := by omega
              have H8 : Hid (TInv w g b6 L u1 wr) := ⟨HI.out.1, HI.out.2.1, HI.out.2.2.1, HI.out.2.2.2.ext fun i _ => RL.out i⟩
              rw [show ((8 : Nat) : Int) = 8 from rfl]
              clear HI RL MLE MS M0 hj hj5
              by_cases hp : p = 135
              · have hpI : (p : Int) = 135 := by omega
                rw [if_pos hp] at HAB
                go_upto_region 10 with (first
                  | refine loadSt u1 b6 rfl _ rfl rfl H8.out.2.2.2 ?_
                  | (go_at_call 14; refine (RD.out _).mono ?_; rintro e v1 ⟨rfl, hB⟩; (have H9 : Hid (TInv w g b6 L u1 v1) := H8.out.past hB); clear hB H8)
                  | refine storeSt u2 b6 rfl _ _ rfl rfl rfl (RowI.there H9.out.2.2.2) ?_)
                have NS : Hid (TInv w g b6 L (bs (abF L (i + 1))) (v1.setCells b6 0 (intsD u2 1600))) := by unfold Hid; rw [HAB.out]; exact H9.out.store hb6 hg6 u2
                generalize v1.setCells b6 0 (intsD u2 1600) = v2 at NS ⊢
                clear H9 HAB RD
                go_wp2
                go_roundw
                case rel => exact ⟨i + 1, by omega, by go_num, NS.out⟩
                case measure => simp [intOf]; omega
              · have hpI : ¬ ((p : Int) = 135) := by omega
                rw [if_neg hp] at HAB
                have NS : Hid (TInv w g b6 L (bs (abF L (i + 1))) wr) := by unfold Hid; rw [HAB.out]; exact H8.out
                clear H8 HAB RD hp
                go_wp2
                go_roundw
                case rel => exact ⟨i + 1, by omega, by go_num, NS.out⟩
                case measure => simp [intOf]; omega
        · obtain rfl : i = T := by omega
          obtain ⟨B0, RB0, _, RI0⟩ := HI.out
          have HB0 : Hid (Below w.heap.size w wr) := B0
          have HRB : Hid (RowB wr w.heap.size 32 fun _ => 0) := RB0
          have HBT : Hid (∀ k j, j < 8 → bs (abF L i) (8 * k + j) = (abF L i (k / 8)).toNat / 2 ^ (8 * (k % 8)) % 256 / 2 ^ j % 2) := fun k j hj => hash_bits _ k j hj
          obtain ⟨Y, eY⟩ : ∃ Y : Nat → Nat, Y = fun k => (abF L i (k / 8)).toNat / 2 ^ (8 * (k % 8)) % 256 := ⟨_, rfl⟩
          obtain ⟨V, eV⟩ : ∃ V : Nat → Int, V = sumF l := ⟨_, rfl⟩
          have EV : Hid (V = sumF l) := eV
          have HYV : Hid (∀ k, V k = (Y k : Int)) := fun k => by rw [eV, ← HH.out k, eY]; rfl
          have HYL : Hid (∀ k, Y k < 256) := fun k => by rw [eY]; exact Nat.mod_lt _ (by decide)
          have HBY : Hid (∀ k j, j < 8 → bs (abF L i) (8 * k + j) = Y k / 2 ^ j % 2) := fun k j hj => by rw [eY]; exact HBT.out k j hj
          have HRI : Hid (RowI wr b6 1600 (bs (abF L i))) := RI0
          generalize bs (abF L i) = G at HBY HRI
          have hs6 : b6 < wr.heap.size := RI0.lt (by omega)
          clear B0 RB0 RI0 HI HH HBT eY eV AB hLb hi hi5
          go_upto_region 21 with fail
          rw [zeroB32]
          have S2 : Hid (OInv w b6 wr.heap.size G V 0 (wr.alloc (.cells (rowB 32 fun _ => 0).toArray 31))) :=
            ⟨HB0.out.alloc HB0.out.size _, HRB.out.alloc _, HRI.out.past ((Below.refl _ _).alloc (Nat.le_refl _) _), fun _ => 0, RowB.new wr 31 32 _, fun j hj => absurd hj (by omega)⟩
          obtain ⟨b11, e11⟩ : ∃ b, wr.heap.size = b := ⟨_, rfl⟩
          generalize wr.alloc (.cells (rowB 32 fun _ => 0).toArray 31) = v3 at S2 ⊢
          rw [e11] at S2 hs6 ⊢
          have h611 : b6 ≠ b11 := by omega
          have hw11 : w.heap.size < b11 := by omega
          clear HB0 HRB HRI e11 hs6
          go_wp2
          go_loopw [12] (fun s wr => ∃ k : Nat, k ≤ 32 ∧ s = .int .i64 (k : Int) ∧ OInv w b6 b11 G V k wr) (fun s _ => 32 - (intOf s).toNat)
          case atStart => exact ⟨0, Nat.zero_le _, rfl, S2.out⟩
          case round =>
            clear S2
            obtain ⟨k, hk, rfl, hI⟩ := hrel
            have HI : Hid (OInv w b6 b11 G V k wr) := hI
            clear hI
            by_cases hk5 : k < 32
            · have kI : (k : Int) < 32 := by omega
              clear hk
              have hyl := HYL.out k
              have BT : Hid (∀ j, j < 8 → G (8 * k + j) = Y k / 2 ^ j % 2) := fun j hj => HBY.out k j hj
              have EI : Hid (V k = (Y k : Int)) := HYV.out k
              generalize Y k = y at hyl BT EI
              go_wp2
              go_loopw [13, 14] (fun n s wx => ∃ c : Nat, c ≤ 8 ∧ s = .int .i64 ((c : Int) - 1) ∧ n = .int .i64 ((y / 2 ^ c : Nat) : Int) ∧ OInv w b6 b11 G V k wx) (fun _ s _ => (intOf s + 1).toNat)
              case atStart => exact ⟨8, Nat.le_refl _, rfl, by rw [Nat.div_eq_of_lt hyl]; rfl, HI.out⟩
              case round =>
                clear HI
                obtain ⟨c, hc, rfl, rfl, hI⟩ := hrel
                have HI : Hid (OInv w b6 b11 G V k wr) := hI
                clear hI
                rcases c with _ | z
                · have s0 : ((0 : Nat) : Int) - 1 = -1 := rfl
                  have s1 : y / 2 ^ 0 = y := by simp
                  rw [s0, s1]
                  obtain ⟨_, _, _, u, hU, _⟩ := HI.out
                  have cz := (hU k hk5).1
                  have fz := (hU k hk5).2
                  have wy : IntKind.u8.wrap (y : Int) = (y : Int) := by rw [IntKind.wrap_u8]; omega
                  have NS : Hid (OInv w b6 b11 G V (k + 1) (wr.setCell ⟨b11, k, none⟩ (.int .u8 (y : Int)))) := HI.out.set hk5 hw11 h611 EI.out.symm
                  generalize u k = uu at cz
                  clear hU s0 s1 hc HI BT EI
                  go_wp2
                  go_roundw
                  case rel => exact ⟨k + 1, by omega, by go_num, NS.out⟩
                  case measure => simp [intOf]; omega
                · have s0 : ((z + 1 : Nat) : Int) - 1 = (z : Int) := by omega
                  rw [s0]
                  have zI : (0 : Int) ≤ (z : Int) := by omega
                  obtain ⟨x1, e1⟩ : ∃ x : Nat, x = 8 * k := ⟨_, rfl⟩
                  obtain ⟨r, er⟩ : ∃ x : Nat, x = x1 + z := ⟨_, rfl⟩
                  obtain ⟨n, en⟩ : ∃ n : Nat, n = y / 2 ^ (z + 1) := ⟨_, rfl⟩
                  obtain ⟨n2, en2⟩ : ∃ n2 : Nat, n2 = 2 * n := ⟨_, rfl⟩
                  obtain ⟨m, em⟩ : ∃ m : Nat, m = y / 2 ^ z := ⟨_, rfl⟩
                  have cb := (HI.out.2.2.1 r (by omega)).1
                  have hb : G r = y / 2 ^ z % 2 := by rw [er, e1]; exact BT.out z (by omega)
                  have hj := join_pow y z
                  have hm : m ≤ y := by rw [em]; exact Nat.div_le_self _ _
                  generalize G r = b at cb hb
                  rw [← hb, ← en, ← en2, ← em] at hj
                  have HM : Hid (m = y / 2 ^ z) := em
                  have hb1 : b ≤ 1 := by rw [hb]; omega
                  have s1 : (8 : Int) * (k : Int) = (x1 : Int) := by omega
                  have s2 : (x1 : Int) + (z : Int) = (r : Int) := by omega
                  have s3 : (2 : Int) * (n : Int) = (n2 : Int) := by omega
                  have s4 : (n2 : Int) + (b : Int) = (m : Int) := by omega
                  have w1 : IntKind.i64.wrap (x1 : Int) = (x1 : Int) := by rw [IntKind.wrap_i64]; omega
                  have w2 : IntKind.i64.wrap (r : Int) = (r : Int) := by rw [IntKind.wrap_i64]; omega
                  have w3 : IntKind.i64.wrap (n2 : Int) = (n2 : Int) := by rw [IntKind.wrap_i64]; omega
                  have w5 : IntKind.i64.wrap (m : Int) = (m : Int) := by rw [IntKind.wrap_i64]; omega
                  have i1 : (r : Int) < 1600 := by omega
                  have hz8 : z ≤ 8 := by omega
                  rw [← en]
                  clear s0 e1 er en en2 em hm hb hj hb1 hc
                  go_wp2
                  go_roundw
                  case rel => exact ⟨z, hz8, rfl, by rw [HM.out], HI.out⟩
                  case measure => (simp [intOf]) <;> omega
            · obtain rfl : k = 32 := by omega
              obtain ⟨B0, R1, _, u, R8, hu⟩ := HI.out
              have hl : rowB 32 u = rowB 32 V := rowB_ext hu
              have hr := R8.range
              rw [hl] at hr
              have HR : Hid _ := hr
              have HZ : Hid (wr.there w.heap.size 0 32) := R1.there
              have HW : Hid (RowB (wr.setCells w.heap.size 0 (rowB 32 V)) w.heap.size 32 V) := R1.of_range
              have HBW : Hid (Below w.heap.size w (wr.setCells w.heap.size 0 (rowB 32 V))) := below_setCells _ (Nat.le_refl _) _ _ _ B0
              clear B0 R1 R8 hu hl hr HI
              go_wp2_with (first
                | refine load32 V b11 rfl _ rfl rfl HR.out ?_
                | refine store32 V w.heap.size rfl _ _ rfl rfl rfl HZ.out ?_)
              refine bodyPost_ret (v := .agg (rowB 32 V).toArray) ?_ rfl ⟨by rw [EV.out], HBW.out⟩
              exact results_cell Tryd.results9 _ _ _ ⟨w.heap.size, 0, none⟩ rfl (loadVar32 (RowB.range HW.out))
end Go.Proofs.YtbjijbgjnammhaaDoor
