/- CodeOnes. -/
import Derived.Test.YtbhldmfnhlifpaaDoorCrb
namespace Go.Proofs.YtbhldmfnhlifpaaDoor
open Go.RowKit
theorem laid_bytes {W : World} {base g m cap : Nat} {b : Nat → Nat} (hb : ∀ j, b j < 256) (h : W.ownsRow base 5 1 (.slice (some ⟨g, 0, none⟩) (m + 75) cap) (m + 75) (bsL (m + 75) (mkB m b))) : BytesOf W (.slice (some ⟨g, 0, none⟩) m cap) m b ∧ ∀ ad c, Value.slice (some ⟨g, 0, none⟩) m cap = .slice ad m c → m ≤ c := by
  have hc := own_cap h
  refine ⟨⟨_, _, rfl, hb, fun e => (by cases e), fun _ => ⟨g, 0, rfl, fun j hj => ?_⟩⟩, fun ad c e => by cases e; omega⟩
  rw [Nat.zero_add, h.cellAt j (by omega), bsL_get _ _ j (by omega), show mkB m b j = b j by unfold mkB; rw [if_pos hj]]
/-- what both answer at a place -/
theorem one_pair (m : Nat) (b : Nat → Nat) (X : Int) (hm : m ≤ 1000000) : ∃ (x0 C x3 er : Int) (n : Nat) (bf : Nat → Nat),
    (∀ (W : World) (v : Value), Nms W → BytesOf W v m b → (∀ ad cap, v = .slice ad m cap → m ≤ cap) → Calls Tryd.prog 28 #[v, .int .i64 X] W fun e w' => ∃ iv, e = .returned (.tuple #[.agg #[.int .i64 x0, .int .i64 C, iv, .int .i64 x3], .int .i64 er]) ∧ BytesOf w' iv n bf ∧ Below W.heap.size W w') ∧
    (∀ (W : World) (v : Value), BytesOf W v m b → Calls Tryd.prog 29 #[v, .int .i64 X] W fun e w' => ∃ iv, e = .returned (.tuple #[.agg #[.int .i64 x0, .int .i64 C, iv, .int .i64 x3], .int .i64 er]) ∧ BytesOf w' iv n bf ∧ Below W.heap.size W w') := by
  have zb : ∀ W : World, BytesOf W (.slice none 0 0) 0 (fun _ => 0) := fun W => ⟨_, _, rfl, fun _ => by show 0 < 256; omega, fun _ => ⟨rfl, rfl⟩, fun h => absurd rfl h⟩
  by_cases hX : X < 0 ∨ (m : Int) ≤ X
  · exact ⟨0, 0, 0, 1, 0, fun _ => 0, fun W v _ hv _ => (one_arg W v m b X hv hX).mono fun e w' ⟨he, hB⟩ => ⟨_, he, zb _, hB⟩, fun W v hv => (rone_arg W v m b X hv hX).mono fun e w' ⟨he, hB⟩ => ⟨_, he, zb _, hB⟩⟩
  · obtain ⟨A, rfl⟩ : ∃ A : Nat, X = (A : Int) := ⟨X.toNat, by omega⟩
    cases hok : okA b m A with
    | false => exact ⟨0, 0, 0, errA b m A, 0, fun _ => 0, fun W v hN hv _ => (one_no W v m b A hN hv hm hok).mono fun e w' ⟨he, hB⟩ => ⟨_, he, zb _, hB⟩, fun W v hv => (rone_no W v m b A hv hm hok).mono fun e w' ⟨he, hB⟩ => ⟨_, he, zb _, hB⟩⟩
    | true => exact ⟨(A : Int), (b A : Int), (nxA b A : Int), 0, immA b A, fun j => b (A + 1 + j), fun W v hN hv hc => (one_yes W v m b A hN hv hc hm hok).mono fun e w' ⟨q, _, _, he, hB, hI⟩ => ⟨_, he, hI.bytes, hB⟩,
        fun W v hv => (rone_ok W v m b A hv hm hok).mono fun e w' ⟨iv, he, ho, hB⟩ => ⟨iv, he, (own_bytes ho (fun j => by obtain ⟨_, _, _, hb, _⟩ := hv; exact hb _)).1, hB⟩⟩
set_option maxHeartbeats 4000000 in
set_option maxRecDepth 100000 in
theorem codeOnes_walk (w : World) (hN : Nms w) (v : Value) (L : Nat) (b : Nat → Nat) (hL : L ≤ 9223372036854775807) (hv : BytesOf w v L b) (_ : ∀ ad cap, v = .slice ad L cap → L ≤ cap) (X : Int) : Calls Tryd.prog 3 #[v, .int .i64 X] w fun e w' => e = .returned (.bool true) ∧ Below w.heap.size w w' := by
  have HB : Hid (∀ j, b j < 256) := by obtain ⟨_, _, _, h, _⟩ := hv; exact h
  have HLA : Hid (Calls Tryd.prog 27 #[v] w fun e w' => ∃ g cap, e = .returned (.slice (some ⟨g, 0, none⟩) (cutN L) cap) ∧ w'.ownsRow w.heap.size 5 1 (.slice (some ⟨g, 0, none⟩) (cutN L + 75) cap) (cutN L + 75) (bsL (cutN L + 75) (mkB (cutN L) b)) ∧ Below w.heap.size w w') := laid_is w v L b hL hv
  have hm1 := (cutN_le L).1
  have hm2 := (cutN_le L).2
  generalize cutN L = m at HLA hm1 hm2
  have HSD : Hid (∀ W g cap, Below w.heap.size w W → W.ownsRow w.heap.size 5 1 (.slice (some ⟨g, 0, none⟩) (m + 75) cap) (m + 75) (bsL (m + 75) (mkB m b)) → Calls Tryd.prog 31 #[.slice (some ⟨g, 0, none⟩) m cap, v] W fun e w' => e = .returned (.bool true) ∧ Below W.heap.size W w') := fun W g cap hB ho => lstands_is W g m cap w.heap.size v L b hm2 ho (hv.below rfl hB) hm1 hL
  have HAW : Hid (∀ W, Below w.heap.size w W → Calls Tryd.prog 32 #[] W fun e w' => e = .returned (.bool true) ∧ Below W.heap.size W w') := fun W hB => awake_is W (hN.past hB)
  obtain ⟨x0, C, x3, er, n, bf, hP1, hP2⟩ := one_pair m b X (by omega)
  have HP1 : Hid (∀ (W : World) (g cap : Nat), Below w.heap.size w W → W.ownsRow w.heap.size 5 1 (.slice (some ⟨g, 0, none⟩) (m + 75) cap) (m + 75) (bsL (m + 75) (mkB m b)) → Calls Tryd.prog 28 #[.slice (some ⟨g, 0, none⟩) m cap, .int .i64 X] W fun e w' => ∃ ia ic, e = .returned (.tuple #[.agg #[.int .i64 x0, .int .i64 C, .slice ia n ic, .int .i64 x3], .int .i64 er]) ∧ BytesOf w' (.slice ia n ic) n bf ∧ Below W.heap.size W w') := fun W g cap hB ho => (hP1 W _ (hN.past hB) (laid_bytes HB.out ho).1 (laid_bytes HB.out ho).2).mono fun e w' ⟨iv, he, hb, hB2⟩ => by
    obtain ⟨ia, ic, rfl, hr⟩ := hb; exact ⟨ia, ic, he, ⟨ia, ic, rfl, hr⟩, hB2⟩
  have HP2 : Hid (∀ (W : World) (g cap : Nat), Below w.heap.size w W → W.ownsRow w.heap.size 5 1 (.slice (some ⟨g, 0, none⟩) (m + 75) cap) (m + 75) (bsL (m + 75) (mkB m b)) → Calls Tryd.prog 29 #[.slice (some ⟨g, 0, none⟩) m cap, .int .i64 X] W fun e w' => ∃ ia ic, e = .returned (.tuple #[.agg #[.int .i64 x0, .int .i64 C, .slice ia n ic, .int .i64 x3], .int .i64 er]) ∧ BytesOf w' (.slice ia n ic) n bf ∧ Below W.heap.size W w') := fun W g cap hB ho => (hP2 W _ (laid_bytes HB.out ho).1).mono fun e w' ⟨iv, he, hb, hB2⟩ => by
    obtain ⟨ia, ic, rfl, hr⟩ := hb; exact ⟨ia, ic, he, ⟨ia, ic, rfl, hr⟩, hB2⟩
  obtain ⟨ad0, cp0, rfl, _⟩ := hv
  clear hP1 hP2
  go_enter Tryd.func3, Tryd.ntmps3
  go_upto_region 3 with (first
    | (go_at_call 27; refine HLA.out.mono ?_; rintro e w1 ⟨g, cap, rfl, ho1, hB1⟩; (have R1 : Hid (w1.ownsRow w.heap.size 5 1 (.slice (some ⟨g, 0, none⟩) (m + 75) cap) (m + 75) (bsL (m + 75) (mkB m b)) ∧ Below w.heap.size w w1) := ⟨ho1, hB1⟩); clear ho1 hB1 HLA)
    | (go_at_call 28; refine (HP1.out _ _ _ R1.out.2 R1.out.1).mono ?_; rintro e w2 ⟨ia, ic, rfl, hb2, hB2⟩; (have R2 : Hid (Below w1.heap.size w1 (w2.alloc (.cells #[.int .i64 x0, .int .i64 C, .slice ia n ic, .int .i64 x3] 25)) ∧ BytesOf (w2.alloc (.cells #[.int .i64 x0, .int .i64 C, .slice ia n ic, .int .i64 x3] 25)) (.slice ia n ic) n bf ∧ CBox (w2.alloc (.cells #[.int .i64 x0, .int .i64 C, .slice ia n ic, .int .i64 x3] 25)) w2.heap.size 25 [.int .i64 x0, .int .i64 C, .slice ia n ic, .int .i64 x3]) := ⟨hB2.alloc hB2.size _, hb2.below rfl ((Below.refl _ w2).alloc (Nat.le_refl _) _), CBox.new w2 _ _⟩); clear hb2 hB2 HP1))
  generalize w2.alloc (.cells #[.int .i64 x0, .int .i64 C, .slice ia n ic, .int .i64 x3] 25) = w3 at R2 ⊢
  generalize w2.heap.size = q2 at R2 ⊢
  have R3 : Hid (w3.ownsRow w.heap.size 5 1 (.slice (some ⟨g, 0, none⟩) (m + 75) cap) (m + 75) (bsL (m + 75) (mkB m b)) ∧ Below w.heap.size w w3) := ⟨ownsRow_past R1.out.1 R2.out.1, R1.out.2.trans (R2.out.1.mono R1.out.2.size)⟩
  go_upto_region 4 with (go_at_call 29; refine (HP2.out _ _ _ R3.out.2 R3.out.1).mono ?_; rintro e w4 ⟨ja, jc, rfl, hb4, hB4⟩; (have R4 : Hid (Below w3.heap.size w3 (w4.alloc (.cells #[.int .i64 x0, .int .i64 C, .slice ja n jc, .int .i64 x3] 25)) ∧ BytesOf (w4.alloc (.cells #[.int .i64 x0, .int .i64 C, .slice ja n jc, .int .i64 x3] 25)) (.slice ja n jc) n bf ∧ CBox (w4.alloc (.cells #[.int .i64 x0, .int .i64 C, .slice ja n jc, .int .i64 x3] 25)) w4.heap.size 25 [.int .i64 x0, .int .i64 C, .slice ja n jc, .int .i64 x3]) := ⟨hB4.alloc hB4.size _, hb4.below rfl ((Below.refl _ w4).alloc (Nat.le_refl _) _), CBox.new w4 _ _⟩); clear hb4 hB4 HP2)
  generalize w4.alloc (.cells #[.int .i64 x0, .int .i64 C, .slice ja n jc, .int .i64 x3] 25) = w5 at R4 ⊢
  generalize w4.heap.size = q4 at R4 ⊢
  have X2 := R2.out.2.2.past R4.out.1
  have X4 := R4.out.2.2
  have a0 := X2.cell 0
  have a1 := X2.cell 1
  have a2 := X2.cell 2
  have a3 := X2.cell 3
  have b0 := X4.cell 0
  have b1 := X4.cell 1
  have b2 := X4.cell 2
  have b3 := X4.cell 3
  simp only [List.getElem?_cons_zero, List.getElem?_cons_succ] at a0 a1 a2 a3 b0 b1 b2 b3
  have R5 : Hid (w5.ownsRow w.heap.size 5 1 (.slice (some ⟨g, 0, none⟩) (m + 75) cap) (m + 75) (bsL (m + 75) (mkB m b)) ∧ Below w.heap.size w w5) := ⟨ownsRow_past R3.out.1 R4.out.1, R3.out.2.trans (R4.out.1.mono R3.out.2.size)⟩
  have HSM : Hid (Calls Tryd.prog 30 #[.agg #[.int .i64 x0, .int .i64 C, .slice ia n ic, .int .i64 x3], .agg #[.int .i64 x0, .int .i64 C, .slice ja n jc, .int .i64 x3]] w5 fun e w' => e = .returned (.bool true) ∧ Below w5.heap.size w5 w') := same_is w5 x0 C x3 _ _ n bf bf (R2.out.2.1.below rfl R4.out.1) R4.out.2.1 (fun _ _ => rfl)
  clear X2 X4 R1 R2 R3 R4
  go_wp2_with (first
    | (go_at_call 30; refine HSM.out.mono ?_; rintro e w6 ⟨rfl, hB6⟩; (have R6 : Hid (w6.ownsRow w.heap.size 5 1 (.slice (some ⟨g, 0, none⟩) (m + 75) cap) (m + 75) (bsL (m + 75) (mkB m b)) ∧ Below w.heap.size w w6) := ⟨ownsRow_past R5.out.1 hB6, R5.out.2.trans (hB6.mono R5.out.2.size)⟩); clear hB6 HSM)
    | (go_at_call 31; refine (HSD.out _ _ _ R6.out.2 R6.out.1).mono ?_; rintro e w7 ⟨rfl, hB7⟩; (have R7 : Hid (Below w.heap.size w w7) := R6.out.2.trans (hB7.mono R6.out.2.size)); clear hB7 HSD)
    | (go_at_call 32; refine (HAW.out _ R7.out).mono ?_; rintro e w8 ⟨rfl, hB8⟩; (have R8 : Hid (Below w.heap.size w w8) := R7.out.trans (hB8.mono R7.out.size)); clear hB8 HAW))
  go_ret
  exact ⟨rfl, R8.out⟩
end Go.Proofs.YtbhldmfnhlifpaaDoor
