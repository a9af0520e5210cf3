/- The document's Fits and Needs. -/
import Derived.Test.YtipdaiacapjfnaaDoorNdb
import Derived.Test.YtipdaiacapjfnaaDoorRvh
namespace Go.Proofs.YtipdaiacapjfnaaDoor
open Go.RowKit
set_option maxHeartbeats 1000000 in
set_option maxRecDepth 100000 in
theorem rfits_is (c : Int) (s : ByteArray) (m j k g : Int) (e : Bool) (v : Value) (n b : Nat) (w : World) (h : Hd w v n b) : Calls Tryd.prog 30 #[.agg #[.int .i64 c, .string s, .int .i64 m, .int .i64 j, .int .i64 k, .int .i64 g, .bool e], v] w fun r w' => r = .returned (.bool (fitsB m n b)) ∧ Below w.heap.size w w' := by
  have hA := (Below.refl w.heap.size w).alloc (Nat.le_refl _) (.cells #[.int .i64 c, .string s, .int .i64 m, .int .i64 j, .int .i64 k, .int .i64 g, .bool e] 24)
  have h' := h.past hA
  obtain ⟨ad, cap, rfl, hn, hb, hc⟩ := h'
  clear h
  by_cases hm : m = -1
  · subst hm
    by_cases h0 : n = 0
    · subst h0
      have hf : fitsB (-1) 0 b = false := by unfold fitsB; rw [if_pos rfl, decide_eq_false (by omega)]
      rw [hf]
      clear hc hf
      go_enter Tryd.func30, Tryd.ntmps30
      go_wp2
      go_ret
      exact ⟨rfl, hA⟩
    · obtain ⟨sg, so, rfl, hcell⟩ := hc h0
      have hp : (0 : Int) < (n : Int) := by omega
      have hb1 : (b : Int) < 256 := by omega
      obtain ⟨f, hf⟩ : ∃ f, fitsB (-1) n b = f := ⟨_, rfl⟩
      rw [hf]
      obtain ⟨B1, e1⟩ : ∃ B1, (b : Int) + 1 = B1 := ⟨_, rfl⟩
      obtain ⟨B2, e2⟩ : ∃ B2, 2 * B1 = B2 := ⟨_, rfl⟩
      obtain ⟨B3, e3⟩ : ∃ B3, 1 + B2 = B3 := ⟨_, rfl⟩
      have he : ((n : Int) == B3) = f := by
        rw [← hf]; unfold fitsB; rw [if_pos rfl, Bool.eq_iff_iff]; simp; omega
      have w1 : IntKind.i64.wrap B1 = B1 := by rw [IntKind.wrap_i64]; omega
      have w2 : IntKind.i64.wrap B2 = B2 := by rw [IntKind.wrap_i64]; omega
      have w3 : IntKind.i64.wrap B3 = B3 := by rw [IntKind.wrap_i64]; omega
      clear hf hc hn hb h0
      go_enter Tryd.func30, Tryd.ntmps30
      go_wp2
      go_ret
      exact ⟨rfl, hA⟩
  · have hm2 : (m == -1) = false := beq_eq_false_iff_ne.2 hm
    obtain ⟨f, hf⟩ : ∃ f, fitsB m n b = f := ⟨_, rfl⟩
    rw [hf]
    have he : ((n : Int) == m) = f := by rw [← hf]; unfold fitsB; rw [if_neg hm, Bool.eq_iff_iff]; simp
    clear hf hc hm hn hb
    go_enter Tryd.func30, Tryd.ntmps30
    go_wp2
    go_ret
    exact ⟨rfl, hA⟩
theorem deep_rows : inT 230 = 1 ∧ outT 230 = 2 ∧ inT 231 = 2 ∧ outT 231 = 2 ∧ inT 232 = 3 ∧ outT 232 = 3 := by decide +kernel
theorem below_drewN {B : Nat} {a w : World} (h : Below B a w) (n : Nat) : Below B a (w.drewN n) := h.trans ⟨rfl, rfl, rfl, Nat.le_refl _, fun _ _ => rfl⟩
set_option maxHeartbeats 2000000 in
set_option maxRecDepth 100000 in
theorem rneeds_is (C : Int) (v : Value) (n b : Nat) (w : World) (h : Hd w v n b) : Calls Tryd.prog 16 #[.int .i64 C, v] w fun e w' => e = .returned (NV C n b) ∧ Below w.heap.size w w' := by
  have HO := rof_any C w
  cases hB : opB C with
  | false =>
    have e1 : opV C = .agg #[.int .i64 0, .string ⟨#[]⟩, .int .i64 0, .int .i64 0, .int .i64 0, .int .i64 0, .bool false] := by unfold opV; rw [hB, if_neg (by decide)]; rfl
    have e2 : NV C n b = .tuple #[.int .i64 0, .int .i64 0, .bool false] := by unfold NV; rw [if_neg (by rw [hB]; simp)]
    rw [e1, hB] at HO
    rw [e2]
    clear h e1 e2 hB
    go_enter Tryd.func16, Tryd.ntmps16
    go_upto_region 2 with (go_at_call 9; refine HO.mono ?_; rintro e w1 ⟨rfl, hb⟩)
    have hb2 := hb.alloc hb.size (.cells #[.int .i64 0, .string ⟨#[]⟩, .int .i64 0, .int .i64 0, .int .i64 0, .int .i64 0, .bool false] 24)
    clear HO
    go_wp2
    exact bodyPost_ret (results_tmp3 rfl _ _ _) rfl ⟨rfl, hb2⟩
  | true =>
    obtain ⟨c0, c1⟩ := opB_range hB
    obtain ⟨c, rfl⟩ : ∃ c : Nat, C = (c : Int) := ⟨C.toNat, by omega⟩
    have e1 : opV (c : Int) = .agg #[.int .i64 (c : Int), .string (nameT c), .int .i64 (immT c), .int .i64 (inT c), .int .i64 (outT c), .int .i64 (gasT c), .bool (endsT c)] := by unfold opV; rw [hB, if_pos rfl]; rfl
    rw [e1, hB] at HO
    have HF : ∀ W, Below w.heap.size w W → Calls Tryd.prog 30 #[.agg #[.int .i64 (c : Int), .string (nameT c), .int .i64 (immT c), .int .i64 (inT c), .int .i64 (outT c), .int .i64 (gasT c), .bool (endsT c)], v] W fun e w' => e = .returned (.bool (fitsB (immT c) n b)) ∧ Below W.heap.size W w' := fun W hW => rfits_is _ _ _ _ _ _ _ v n b W (h.past hW)
    cases hf : fitsB (immT c) n b with
    | false =>
      have e2 : NV (c : Int) n b = .tuple #[.int .i64 0, .int .i64 0, .bool false] := by unfold NV; rw [if_neg (by rw [Int.toNat_natCast, hf]; simp)]
      rw [hf] at HF
      rw [e2]
      clear h e1 e2 hB hf c0 c1
      generalize nameT c = s1 at *
      generalize immT c = i1 at *
      generalize inT c = i2 at *
      generalize outT c = i3 at *
      generalize gasT c = i4 at *
      generalize endsT c = i5 at *
      go_enter Tryd.func16, Tryd.ntmps16
      go_upto_region 2 with (go_at_call 9; refine HO.mono ?_; rintro e w1 ⟨rfl, hb⟩)
      have hb2 := hb.alloc hb.size (.cells #[.int .i64 (c : Int), .string s1, .int .i64 i1, .int .i64 i2, .int .i64 i3, .int .i64 i4, .bool i5] 24)
      have HF2 := HF _ hb2
      clear HO HF
      go_wp2_with (go_at_call 30; refine HF2.mono ?_; rintro e w2 ⟨rfl, hb3⟩)
      exact bodyPost_ret (results_tmp3 rfl _ _ _) rfl ⟨rfl, hb2.trans (hb3.mono hb2.size)⟩
    | true =>
      have e2 : NV (c : Int) n b = .tuple #[.int .i64 (inT c + dpt (c : Int) b), .int .i64 (outT c + dpt (c : Int) b), .bool true] := by unfold NV; rw [if_pos ⟨hB, by rw [Int.toNat_natCast]; exact hf⟩, Int.toNat_natCast]
      rw [hf] at HF
      have HP : (c : Int) = 230 ∨ (c : Int) = 231 ∨ (c : Int) = 232 → n ≠ 0 := deep_pos (C := (c : Int)) (by rw [Int.toNat_natCast]; exact hf)
      rw [e2]
      clear e1 e2 hB hf c0 c1
      by_cases h230 : c = 230
      · subst h230
        have HC := h
        obtain ⟨ad, cap, rfl, hn, hb, hc⟩ := h
        have hn0 := HP (by omega)
        obtain ⟨sg, so, rfl, hcell⟩ := hc hn0
        have hp : (0 : Int) < (n : Int) := by omega
        have hb1 : (b : Int) < 256 := by omega
        have d : dpt ((230 : Nat) : Int) b = (b : Int) := if_pos (.inl rfl)
        obtain ⟨S1, E1⟩ : ∃ S1, (b : Int) + 1 = S1 := ⟨_, rfl⟩
        obtain ⟨S2, E2⟩ : ∃ S2, (b : Int) + 2 = S2 := ⟨_, rfl⟩
        rw [d, deep_rows.1, deep_rows.2.1, show (1 : Int) + (b : Int) = S1 by omega, show (2 : Int) + (b : Int) = S2 by omega]
        have W1 : IntKind.i64.wrap S1 = S1 := by rw [IntKind.wrap_i64]; omega
        have W2 : IntKind.i64.wrap S2 = S2 := by rw [IntKind.wrap_i64]; omega
        have gl := World.block_lt_of_cell? w _ hcell
        clear hc hn hb HP d hn0 HC
        rw [deep_rows.1, deep_rows.2.1] at HO HF
        generalize nameT 230 = s1 at *
        generalize immT 230 = i1 at *
        generalize gasT 230 = i4 at *
        generalize endsT 230 = i5 at *
        go_enter Tryd.func16, Tryd.ntmps16
        go_upto_region 2 with (go_at_call 9; refine HO.mono ?_; rintro e w1 ⟨rfl, hb⟩)
        have hb2 := hb.alloc hb.size (.cells #[.int .i64 ((230 : Nat) : Int), .string s1, .int .i64 i1, .int .i64 1, .int .i64 2, .int .i64 i4, .bool i5] 24)
        have HF2 := HF _ hb2
        clear HO HF
        go_upto_region 5 with (go_at_call 30; refine HF2.mono ?_; rintro e w2 ⟨rfl, hb3⟩)
        have hb4 := hb2.trans (hb3.mono hb2.size)
        have hce := (hb4.cell (p := ⟨sg, so, none⟩) gl).trans hcell
        clear HF2 hcell hb hb2 hb3
        go_quiet (fail)
        go_wp2
        exact bodyPost_ret (results_tmp3 rfl _ _ _) rfl ⟨rfl, below_drewN hb4 _⟩
      by_cases h231 : c = 231
      · subst h231
        have HC := h
        obtain ⟨ad, cap, rfl, hn, hb, hc⟩ := h
        have hn0 := HP (by omega)
        obtain ⟨sg, so, rfl, hcell⟩ := hc hn0
        have hp : (0 : Int) < (n : Int) := by omega
        have hb1 : (b : Int) < 256 := by omega
        have d : dpt ((231 : Nat) : Int) b = (b : Int) := if_pos (.inr rfl)
        obtain ⟨S1, E1⟩ : ∃ S1, (b : Int) + 2 = S1 := ⟨_, rfl⟩
        rw [d, deep_rows.2.2.1, deep_rows.2.2.2.1, show (2 : Int) + (b : Int) = S1 by omega]
        have W1 : IntKind.i64.wrap S1 = S1 := by rw [IntKind.wrap_i64]; omega
        have gl := World.block_lt_of_cell? w _ hcell
        clear hc hn hb HP d hn0 HC
        rw [deep_rows.2.2.1, deep_rows.2.2.2.1] at HO HF
        generalize nameT 231 = s1 at *
        generalize immT 231 = i1 at *
        generalize gasT 231 = i4 at *
        generalize endsT 231 = i5 at *
        go_enter Tryd.func16, Tryd.ntmps16
        go_upto_region 2 with (go_at_call 9; refine HO.mono ?_; rintro e w1 ⟨rfl, hb⟩)
        have hb2 := hb.alloc hb.size (.cells #[.int .i64 ((231 : Nat) : Int), .string s1, .int .i64 i1, .int .i64 2, .int .i64 2, .int .i64 i4, .bool i5] 24)
        have HF2 := HF _ hb2
        clear HO HF
        go_upto_region 7 with (go_at_call 30; refine HF2.mono ?_; rintro e w2 ⟨rfl, hb3⟩)
        have hb4 := hb2.trans (hb3.mono hb2.size)
        have hce := (hb4.cell (p := ⟨sg, so, none⟩) gl).trans hcell
        clear HF2 hcell hb hb2 hb3
        go_quiet (fail)
        go_wp2
        exact bodyPost_ret (results_tmp3 rfl _ _ _) rfl ⟨rfl, below_drewN hb4 _⟩
      by_cases h232 : c = 232
      · subst h232
        have HC := h
        obtain ⟨ad, cap, rfl, hn, hb, hc⟩ := h
        have hn0 := HP (by omega)
        obtain ⟨sg, so, rfl, hcell⟩ := hc hn0
        have hp : (0 : Int) < (n : Int) := by omega
        have hb1 : (b : Int) < 256 := by omega
        have d : dpt ((232 : Nat) : Int) b = (b : Int).tdiv 16 + (b : Int).tmod 16 := by
          unfold dpt
          rw [if_neg (by omega), if_pos (show ((232 : Nat) : Int) = 232 from rfl), Int.tdiv_eq_ediv_of_nonneg (by omega), Int.tmod_eq_emod_of_nonneg (by omega)]
          omega
        obtain ⟨hi, E1⟩ : ∃ hi, (b : Int).tdiv 16 = hi := ⟨_, rfl⟩
        obtain ⟨lo, E2⟩ : ∃ lo, (b : Int).tmod 16 = lo := ⟨_, rfl⟩
        have r1 : 0 ≤ hi ∧ hi < 16 := by rw [← E1, Int.tdiv_eq_ediv_of_nonneg (by omega)]; omega
        have r2 : 0 ≤ lo ∧ lo < 16 := by rw [← E2, Int.tmod_eq_emod_of_nonneg (by omega)]; omega
        obtain ⟨S1, E3⟩ : ∃ S1, hi + lo = S1 := ⟨_, rfl⟩
        obtain ⟨S2, E4⟩ : ∃ S2, S1 + 3 = S2 := ⟨_, rfl⟩
        rw [d, deep_rows.2.2.2.2.1, deep_rows.2.2.2.2.2, E1, E2, E3, show (3 : Int) + S1 = S2 by omega]
        have W1 : IntKind.i64.wrap S1 = S1 := by rw [IntKind.wrap_i64]; omega
        have W2 : IntKind.i64.wrap S2 = S2 := by rw [IntKind.wrap_i64]; omega
        have W3 : IntKind.i64.wrap hi = hi := by rw [IntKind.wrap_i64]; omega
        have W4 : IntKind.i64.wrap lo = lo := by rw [IntKind.wrap_i64]; omega
        clear r1 r2
        have gl := World.block_lt_of_cell? w _ hcell
        clear hc hn hb HP d hn0 HC
        rw [deep_rows.2.2.2.2.1, deep_rows.2.2.2.2.2] at HO HF
        generalize nameT 232 = s1 at *
        generalize immT 232 = i1 at *
        generalize gasT 232 = i4 at *
        generalize endsT 232 = i5 at *
        go_enter Tryd.func16, Tryd.ntmps16
        go_upto_region 2 with (go_at_call 9; refine HO.mono ?_; rintro e w1 ⟨rfl, hb⟩)
        have hb2 := hb.alloc hb.size (.cells #[.int .i64 ((232 : Nat) : Int), .string s1, .int .i64 i1, .int .i64 3, .int .i64 3, .int .i64 i4, .bool i5] 24)
        have HF2 := HF _ hb2
        clear HO HF
        go_upto_region 9 with (go_at_call 30; refine HF2.mono ?_; rintro e w2 ⟨rfl, hb3⟩)
        have hb4 := hb2.trans (hb3.mono hb2.size)
        have hce := (hb4.cell (p := ⟨sg, so, none⟩) gl).trans hcell
        clear HF2 hcell hb hb2 hb3
        go_quiet (fail)
        go_wp2
        exact bodyPost_ret (results_tmp3 rfl _ _ _) rfl ⟨rfl, below_drewN hb4 _⟩
      · have d : dpt (c : Int) b = 0 := by unfold dpt; rw [if_neg (by omega), if_neg (by omega)]
        rw [d, Int.add_zero, Int.add_zero]
        have g0 : ((c : Int) == 230) = false := beq_eq_false_iff_ne.2 (by omega)
        have g1 : ((c : Int) == 231) = false := beq_eq_false_iff_ne.2 (by omega)
        have g2 : ((c : Int) == 232) = false := beq_eq_false_iff_ne.2 (by omega)
        clear h HP d h230 h231 h232
        generalize nameT c = s1 at *
        generalize immT c = i1 at *
        generalize inT c = i2 at *
        generalize outT c = i3 at *
        generalize gasT c = i4 at *
        generalize endsT c = i5 at *
        go_enter Tryd.func16, Tryd.ntmps16
        go_upto_region 2 with (go_at_call 9; refine HO.mono ?_; rintro e w1 ⟨rfl, hb⟩)
        have O1 := Op7.new w1 (c : Int) s1 i1 i2 i3 i4 i5
        have hb2 := hb.alloc hb.size (.cells #[.int .i64 (c : Int), .string s1, .int .i64 i1, .int .i64 i2, .int .i64 i3, .int .i64 i4, .bool i5] 24)
        have HF2 := HF _ hb2
        clear HO HF
        go_upto_region 11 with (go_at_call 30; refine HF2.mono ?_; rintro e w2 ⟨rfl, hb3⟩)
        have hb4 := hb2.trans (hb3.mono hb2.size)
        obtain ⟨_, _, _, k3, k4, _, _⟩ := O1.past hb3
        clear HF2 hb hb2 hb3 O1
        go_quiet (fail)
        go_wp2
        exact bodyPost_ret (results_tmp3 rfl _ _ _) rfl ⟨rfl, below_drewN hb4 _⟩
end Go.Proofs.YtipdaiacapjfnaaDoor
