/- op.Needs. -/
import Derived.Test.YtcjmbpchdeapiaaDoorNda
namespace Go.Proofs.YtcjmbpchdeapiaaDoor
open Go.RowKit
/-- what an instruction with these immediate bytes takes and leaves -/
def NV (C : Int) (n b : Nat) : Value := if opB C = true ∧ fitsB (immT C.toNat) n b = true then .tuple #[.int .i64 (inT C.toNat + dpt C b), .int .i64 (outT C.toNat + dpt C b), .bool true] else .tuple #[.int .i64 0, .int .i64 0, .bool false]
theorem in_small : ∀ c : Fin 256, (decide (0 ≤ inT c.val ∧ inT c.val ≤ 100 ∧ 0 ≤ outT c.val ∧ outT c.val ≤ 100)) = true := by decide +kernel
theorem imm_deep : immT 230 = 1 ∧ immT 231 = 1 ∧ immT 232 = 1 := by decide +kernel
theorem dpt_small (C : Int) (b : Nat) (hb : b < 256) : 0 ≤ dpt C b ∧ dpt C b ≤ 255 := by
  unfold dpt
  split
  · omega
  · split
    · omega
    · omega
theorem opB_range {C : Int} (h : opB C = true) : 0 ≤ C ∧ C < 256 := by
  unfold opB at h
  rw [Bool.and_eq_true] at h
  exact of_decide_eq_true h.1
theorem deep_pos {C : Int} {n b : Nat} (hf : fitsB (immT C.toNat) n b = true) (h : C = 230 ∨ C = 231 ∨ C = 232) : n ≠ 0 := by
  have e : immT C.toNat = 1 := by
    rcases h with rfl | rfl | rfl
    · exact imm_deep.1
    · exact imm_deep.2.1
    · exact imm_deep.2.2
  unfold fitsB at hf
  rw [e, if_neg (by decide)] at hf
  have := of_decide_eq_true hf
  omega
set_option maxHeartbeats 2000000 in
set_option maxRecDepth 100000 in
theorem needs_is (C : Int) (v : Value) (n b : Nat) (w : World) (hN : Nms w) (h : Hd w v n b) : Calls Tryd.prog 57 #[.int .i64 C, v] w fun e w' => e = .returned (NV C n b) ∧ Below w.heap.size w w' := by
  have HO := of_any C w hN
  cases hB : opB C with
  | false =>
    have e1 : opV C = .agg #[.int .i64 0, .string ⟨#[]⟩, .int .i64 0, .int .i64 0, .int .i64 0, .int .i64 0, .bool false] := by unfold opV; rw [hB, if_neg (by decide)]; rfl
    have e2 : NV C n b = .tuple #[.int .i64 0, .int .i64 0, .bool false] := by unfold NV; rw [if_neg (by rw [hB]; simp)]
    rw [e1, hB] at HO
    rw [e2]
    clear h hN e1 e2 hB
    go_enter Tryd.func57, Tryd.ntmps57
    go_upto_region 2 with (go_at_call 31; refine HO.mono ?_; rintro e w1 ⟨rfl, hb⟩)
    have hb2 := hb.alloc hb.size (.cells #[.int .i64 0, .string ⟨#[]⟩, .int .i64 0, .int .i64 0, .int .i64 0, .int .i64 0, .bool false] 56)
    clear HO
    go_wp2
    exact bodyPost_ret (results_tmp3 rfl _ _ _) rfl ⟨rfl, hb2⟩
  | true =>
    obtain ⟨c0, c1⟩ := opB_range hB
    obtain ⟨c, rfl⟩ : ∃ c : Nat, C = (c : Int) := ⟨C.toNat, by omega⟩
    have e1 : opV (c : Int) = .agg #[.int .i64 (c : Int), .string (nameT c), .int .i64 (immT c), .int .i64 (inT c), .int .i64 (outT c), .int .i64 (gasT c), .bool (endsT c)] := by unfold opV; rw [hB, if_pos rfl]; rfl
    have hs := of_decide_eq_true (in_small ⟨c, by omega⟩)
    dsimp only at hs
    have hd := dpt_small (c : Int) b (by obtain ⟨_, _, _, _, h3, _⟩ := h; exact h3)
    rw [e1, hB] at HO
    cases hf : fitsB (immT c) n b with
    | false =>
      have e2 : NV (c : Int) n b = .tuple #[.int .i64 0, .int .i64 0, .bool false] := by unfold NV; rw [if_neg (by rw [Int.toNat_natCast, hf]; simp)]
      have HF : ∀ W, Below w.heap.size w W → Calls Tryd.prog 60 #[.int .i64 (immT c), v] W fun e w' => e = .returned (.bool false) ∧ w' = W := fun W hW => by have := fits_is (immT c) v n b W (h.past hW); rw [hf] at this; exact this
      rw [e2]
      clear h hN e1 e2 hB hs hd hf c0 c1
      generalize nameT c = s1 at *
      generalize immT c = i1 at *
      generalize inT c = i2 at *
      generalize outT c = i3 at *
      generalize gasT c = i4 at *
      generalize endsT c = i5 at *
      go_enter Tryd.func57, Tryd.ntmps57
      go_upto_region 2 with (go_at_call 31; refine HO.mono ?_; rintro e w1 ⟨rfl, hb⟩)
      have hb2 := hb.alloc hb.size (.cells #[.int .i64 (c : Int), .string s1, .int .i64 i1, .int .i64 i2, .int .i64 i3, .int .i64 i4, .bool i5] 56)
      have HF2 := HF _ hb2
      clear HO HF
      go_wp2_with (go_at_call 60; refine HF2.mono ?_; rintro e w2 ⟨rfl, hw⟩; rw [hw]; clear hw)
      exact bodyPost_ret (results_tmp3 rfl _ _ _) rfl ⟨rfl, hb2⟩
    | true =>
      have e2 : NV (c : Int) n b = .tuple #[.int .i64 (inT c + dpt (c : Int) b), .int .i64 (outT c + dpt (c : Int) b), .bool true] := by unfold NV; rw [if_pos ⟨hB, by rw [Int.toNat_natCast]; exact hf⟩, Int.toNat_natCast]
      have HF : ∀ W, Below w.heap.size w W → Calls Tryd.prog 60 #[.int .i64 (immT c), v] W fun e w' => e = .returned (.bool true) ∧ w' = W := fun W hW => by have := fits_is (immT c) v n b W (h.past hW); rw [hf] at this; exact this
      have HD : ∀ W, Below w.heap.size w W → Calls Tryd.prog 61 #[.int .i64 (c : Int), v] W fun e w' => e = .returned (.int .i64 (dpt (c : Int) b)) ∧ ∃ m, w' = W.drewN m := fun W hW => deeper_is (c : Int) v n b W (h.past hW) (deep_pos (C := (c : Int)) (by rw [Int.toNat_natCast]; exact hf))
      rw [e2]
      obtain ⟨S1, E1⟩ : ∃ S1, inT c + dpt (c : Int) b = S1 := ⟨_, rfl⟩
      obtain ⟨S2, E2⟩ : ∃ S2, outT c + dpt (c : Int) b = S2 := ⟨_, rfl⟩
      have W1 : IntKind.i64.wrap S1 = S1 := by rw [IntKind.wrap_i64]; omega
      have W2 : IntKind.i64.wrap S2 = S2 := by rw [IntKind.wrap_i64]; omega
      rw [E1, E2]
      clear h hN e1 e2 hB hs hd hf c0 c1
      generalize nameT c = s1 at *
      generalize immT c = i1 at *
      generalize inT c = i2 at *
      generalize outT c = i3 at *
      generalize gasT c = i4 at *
      generalize endsT c = i5 at *
      generalize dpt (c : Int) b = dd at *
      go_enter Tryd.func57, Tryd.ntmps57
      go_upto_region 2 with (go_at_call 31; refine HO.mono ?_; rintro e w1 ⟨rfl, hb⟩)
      have hb2 := hb.alloc hb.size (.cells #[.int .i64 (c : Int), .string s1, .int .i64 i1, .int .i64 i2, .int .i64 i3, .int .i64 i4, .bool i5] 56)
      have HF2 := HF _ hb2
      have HD2 := HD _ hb2
      clear HO HF HD
      go_upto_region 5 with (first
        | (go_at_call 60; refine HF2.mono ?_; rintro e w2 ⟨rfl, hw⟩; rw [hw]; clear hw)
        | (go_at_call 61; refine HD2.mono ?_; rintro e w3 ⟨rfl, m, hw⟩; rw [hw]; clear hw))
      clear HF2 HD2
      go_quiet (fail)
      go_wp2
      exact bodyPost_ret (results_tmp3 rfl _ _ _) rfl ⟨rfl, (hb2.trans ⟨rfl, rfl, rfl, Nat.le_refl _, fun _ _ => rfl⟩).trans ⟨rfl, rfl, rfl, Nat.le_refl _, fun _ _ => rfl⟩⟩
end Go.Proofs.YtcjmbpchdeapiaaDoor
