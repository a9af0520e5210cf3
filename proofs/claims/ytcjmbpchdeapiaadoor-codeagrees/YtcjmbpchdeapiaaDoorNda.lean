/- op.fits, op.deeper, op.Needs. -/
import Derived.Test.YtcjmbpchdeapiaaDoorOq
namespace Go.Proofs.YtcjmbpchdeapiaaDoor
open Go.RowKit
/-- a slice of so many bytes, and its first one -/
def Hd (w : World) (v : Value) (n b : Nat) : Prop := ∃ ad cap, v = .slice ad n cap ∧ n ≤ 9223372036854775807 ∧ b < 256 ∧ (n ≠ 0 → ∃ g o, ad = some ⟨g, o, none⟩ ∧ w.cell? ⟨g, o, none⟩ = some (.int .u8 (b : Int)))
theorem Hd.past {w w' : World} {v : Value} {n b : Nat} (h : Hd w v n b) (hB : Below w.heap.size w w') : Hd w' v n b := by
  obtain ⟨ad, cap, h1, h2, h3, h4⟩ := h
  refine ⟨ad, cap, h1, h2, h3, fun hn => ?_⟩
  obtain ⟨g, o, e, hc⟩ := h4 hn
  exact ⟨g, o, e, (hB.cell (p := ⟨g, o, none⟩) (World.block_lt_of_cell? w _ hc)).trans hc⟩
/-- may these be the immediate bytes of an instruction that has so many? -/
def fitsB (m : Int) (n b : Nat) : Bool := if m = -1 then decide (n = 1 + 2 * (b + 1)) else decide ((n : Int) = m)
set_option maxHeartbeats 1000000 in
set_option maxRecDepth 100000 in
theorem fits_is (m : Int) (v : Value) (n b : Nat) (w : World) (h : Hd w v n b) : Calls Tryd.prog 60 #[.int .i64 m, v] w fun e w' => e = .returned (.bool (fitsB m n b)) ∧ w' = w := by
  obtain ⟨ad, cap, rfl, hn, hb, hc⟩ := h
  by_cases hm : m = -1
  · subst hm
    by_cases h0 : n = 0
    · subst h0
      have hf : fitsB (-1) 0 b = false := by unfold fitsB; rw [if_pos rfl, decide_eq_false (by omega)]
      rw [hf]
      clear hc hf
      go_enter Tryd.func60, Tryd.ntmps60
      go_wp2
      go_ret
      exact ⟨rfl, rfl⟩
    · obtain ⟨g, o, rfl, hcell⟩ := hc h0
      have hp : (0 : Int) < (n : Int) := by omega
      have hb1 : (b : Int) < 256 := by omega
      have hb0 : (0 : Int) ≤ (b : Int) := by omega
      obtain ⟨f, hf⟩ : ∃ f, fitsB (-1) n b = f := ⟨_, rfl⟩
      rw [hf]
      obtain ⟨B1, e1⟩ : ∃ B1, (b : Int) + 1 = B1 := ⟨_, rfl⟩
      obtain ⟨B2, e2⟩ : ∃ B2, 2 * B1 = B2 := ⟨_, rfl⟩
      obtain ⟨B3, e3⟩ : ∃ B3, 1 + B2 = B3 := ⟨_, rfl⟩
      have he : ((n : Int) == B3) = f := by
        rw [← hf]; unfold fitsB; rw [if_pos rfl, Bool.eq_iff_iff]; simp; omega
      have w1 : IntKind.i64.wrap B1 = B1 := by rw [IntKind.wrap_i64]; omega
      have w2 : IntKind.i64.wrap B2 = B2 := by rw [IntKind.wrap_i64]; omega
      have w3 : IntKind.i64.wrap B3 = B3 := by rw [IntKind.wrap_i64]; omega
      clear hf hc hn hb h0 hb0
      go_enter Tryd.func60, Tryd.ntmps60
      go_wp2
      go_ret
      exact ⟨rfl, rfl⟩
  · have hm2 : (m == -1) = false := beq_eq_false_iff_ne.2 hm
    have hm3 : ¬ m = -1 := hm
    obtain ⟨f, hf⟩ : ∃ f, fitsB m n b = f := ⟨_, rfl⟩
    rw [hf]
    have he : ((n : Int) == m) = f := by rw [← hf]; unfold fitsB; rw [if_neg hm, Bool.eq_iff_iff]; simp
    clear hf hc hm hn hb
    go_enter Tryd.func60, Tryd.ntmps60
    go_wp2
    go_ret
    exact ⟨rfl, rfl⟩
/-- by how much further an instruction reaches down -/
def dpt (C : Int) (b : Nat) : Int := if C = 230 ∨ C = 231 then (b : Int) else if C = 232 then ((b / 16 + b % 16 : Nat) : Int) else 0
theorem and15u : ∀ c : Fin 256, bits BinOp.and IntKind.u8 (c.val : Int) 15 = ((c.val % 16 : Nat) : Int) := by decide +kernel
set_option maxHeartbeats 1000000 in
set_option maxRecDepth 100000 in
theorem deeper_is (C : Int) (v : Value) (n b : Nat) (w : World) (h : Hd w v n b) (hn : C = 230 ∨ C = 231 ∨ C = 232 → n ≠ 0) : Calls Tryd.prog 61 #[.int .i64 C, v] w fun e w' => e = .returned (.int .i64 (dpt C b)) ∧ ∃ m, w' = w.drewN m := by
  obtain ⟨ad, cap, rfl, hm, hb, hc⟩ := h
  by_cases h1 : C = 230 ∨ C = 231
  · obtain ⟨g, o, rfl, hcell⟩ := hc (hn (by omega))
    have hp : (0 : Int) < (n : Int) := by have := hn (by omega); omega
    have hb1 : (b : Int) < 256 := by omega
    have hd : dpt C b = (b : Int) := if_pos h1
    rw [hd]
    clear hc hn hm hb hd
    rcases h1 with rfl | rfl
    · go_enter Tryd.func61, Tryd.ntmps61
      go_wp2
      go_ret
      exact ⟨rfl, 0, rfl⟩
    · go_enter Tryd.func61, Tryd.ntmps61
      go_wp2
      go_ret
      exact ⟨rfl, 0, rfl⟩
  · by_cases h2 : C = 232
    · subst h2
      obtain ⟨g, o, rfl, hcell⟩ := hc (hn (by omega))
      have hp : (0 : Int) < (n : Int) := by have := hn (by omega); omega
      have hd : dpt 232 b = (b : Int) / 16 + ((b % 16 : Nat) : Int) := by unfold dpt; rw [if_neg (by omega), if_pos rfl]; omega
      have ha := and15u ⟨b, hb⟩
      obtain ⟨lo, elo⟩ : ∃ lo : Int, ((b % 16 : Nat) : Int) = lo := ⟨_, rfl⟩
      obtain ⟨hi, ehi⟩ : ∃ hi : Int, (b : Int) / 16 = hi := ⟨_, rfl⟩
      have hlo : lo < 16 := by omega
      have hlo0 : 0 ≤ lo := by omega
      have hhi : hi < 16 := by omega
      have hhi0 : 0 ≤ hi := by omega
      have hb1 : (b : Int) < 256 := by omega
      have hb0 : (0 : Int) ≤ (b : Int) := by omega
      rw [hd, elo, ehi]
      dsimp only at ha
      rw [elo] at ha
      clear hc hn hm hb hd h1 elo
      go_enter Tryd.func61, Tryd.ntmps61
      go_wp2
      go_quiet (fail)
      go_wp2
      go_ret
      exact ⟨rfl, _, rfl⟩
    · have hd : dpt C b = 0 := by unfold dpt; rw [if_neg h1, if_neg h2]
      have g0 : (C == 230) = false := beq_eq_false_iff_ne.2 (by omega)
      have g1 : (C == 231) = false := beq_eq_false_iff_ne.2 (by omega)
      have g2 : (C == 232) = false := beq_eq_false_iff_ne.2 (by omega)
      rw [hd]
      clear hc hn hm hb hd h1 h2
      go_enter Tryd.func61, Tryd.ntmps61
      go_wp2
      go_ret
      exact ⟨rfl, 0, rfl⟩
end Go.Proofs.YtcjmbpchdeapiaaDoor
