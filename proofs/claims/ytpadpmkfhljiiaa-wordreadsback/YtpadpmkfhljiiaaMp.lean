/- WordReadsBack: the six scenarios together. -/
import Derived.Test.YtpadpmkfhljiiaaMo
namespace Go.Proofs.Ytpadpmkfhljiiaa
open Go.RowKit
theorem isW_nat {X : Int} {a0 a1 a2 a3 : Int} (ha : IsW X a0 a1 a2 a3) {N : Nat} (hN : V a0 a1 a2 a3 = (N : Int)) : IsW (N : Int) a0 a1 a2 a3 := by
  have r := ha.range
  refine ⟨ha.1, ?_⟩
  rw [← hN, Int.emod_eq_of_lt r.1 r.2]
theorem word_78 {N : Nat} (h : N < 256 ^ 32) : N < 10 ^ 78 := Nat.lt_trans h (by decide)
theorem readsBack_walk (x : Int) (a0 a1 a2 a3 : Int) (s : ByteArray) (w : World) (ha : IsW x a0 a1 a2 a3) : Calls Try.prog 15 #[.agg #[.int .u64 a0, .int .u64 a1, .int .u64 a2, .int .u64 a3], .string s] w fun e w' => e = .returned (.bool true) ∧ Below w.heap.size w w' := by
  obtain ⟨X, hX, _, hlt⟩ := mod_nat ha
  obtain ⟨n, hn, hn78⟩ := ndig_word 10 X (by omega) (word_78 hlt)
  obtain ⟨m, hm, _⟩ := ndig_word 16 X (by omega) (word_78 hlt)
  have wX := isW_nat ha hX
  have hH : Hid (HA a0 a1 a2 a3 (ox ++ tell 16 X m)) := fun w => hex_fix ha hX hm w
  have hT : Hid (TA a0 a1 a2 a3 (tell 10 X n)) := fun w => text_fix ha hX hn w
  have hPH : Hid (PA (ox ++ tell 16 X m) a0 a1 a2 a3 0) := fun w => by
    have g := good_hex hm hlt
    exact parse_fix _ _ _ _ _ _ (.inl ⟨g.1, rfl, by rw [g.2]; exact wX⟩) w
  have hPT : Hid (PA (tell 10 X n) a0 a1 a2 a3 0) := fun w => by
    have g := good_text hn hn78 hlt
    exact parse_fix _ _ _ _ _ _ (.inl ⟨g.1, rfl, by rw [g.2]; exact wX⟩) w
  by_cases hg : Good s
  · obtain ⟨p0, p1, p2, p3, hp⟩ := isW_ex (rdn (pb s) (sg (pt s)) (pt s).size : Int)
    have hPS : Hid (PA s p0 p1 p2 p3 0) := fun w => parse_fix _ _ _ _ _ _ (.inl ⟨hg, rfl, hp⟩) w
    have hlv : rdn (pb s) (sg (pt s)) (pt s).size < 256 ^ 32 := hg.2.2.2.2
    have hV : V p0 p1 p2 p3 = ((rdn (pb s) (sg (pt s)) (pt s).size : Nat) : Int) := by
      obtain ⟨Y, hY, hY2, hY3⟩ := mod_nat hp
      rw [hY, hY2]
      refine Int.emod_eq_of_lt (by omega) ?_
      unfold MM
      have e : (256 ^ 32 : Nat) = 115792089237316195423570985008687907853269984665640564039457584007913129639936 := by decide
      rw [e] at hlv
      omega
    obtain ⟨k, hk, hk78⟩ := ndig_word 10 _ (by omega) (word_78 hlv)
    obtain ⟨j, hj, _⟩ := ndig_word 16 _ (by omega) (word_78 hlv)
    have hHV : Hid (HA p0 p1 p2 p3 (ox ++ tell 16 (rdn (pb s) (sg (pt s)) (pt s).size) j)) := fun w => hex_fix hp hV hj w
    have hTV : Hid (TA p0 p1 p2 p3 (tell 10 (rdn (pb s) (sg (pt s)) (pt s).size) k)) := fun w => text_fix hp hV hk w
    by_cases hx : 1 < s.size ∧ sg s 1 = 120
    · have h := shorter_hex hg hx hj
      refine rb_x a0 a1 a2 a3 p0 p1 p2 p3 s _ _ w hH hT hPH hPT hPS _ _ hHV hTV (by have := hx.1; omega) (fun W => ?_) (by omega)
      have := str_at s 1 hx.1 W
      rw [hx.2] at this
      exact this
    · have h := shorter_text hg hx hk
      have hs : (tell 10 (rdn (pb s) (sg (pt s)) (pt s).size) k).size = k := tell_size _ _ _
      have hmx : ¬ 9223372036854775807 < 1 + (tell 10 (rdn (pb s) (sg (pt s)) (pt s).size) k).size := by omega
      by_cases h78 : k < 78
      · have g := good_zero hk h78 hlv
        have hPZ : Hid (PA (zero1 ++ tell 10 (rdn (pb s) (sg (pt s)) (pt s).size) k) p0 p1 p2 p3 0) := fun w => parse_fix _ _ _ _ _ _ (.inl ⟨g.1, rfl, by rw [g.2]; exact hp⟩) w
        by_cases h1 : 1 < s.size
        · refine rb_tb a0 a1 a2 a3 p0 p1 p2 p3 s _ _ w hH hT hPH hPT hPS _ _ hHV hTV _ rfl (by omega) hmx hPZ (by omega) (sg s 1 : Int) (fun W => str_at s 1 h1 W) ?_
          rw [beq_eq_false_iff_ne]
          intro hc
          exact hx ⟨h1, by omega⟩
        · exact rb_ta a0 a1 a2 a3 p0 p1 p2 p3 s _ _ w hH hT hPH hPT hPS _ _ hHV hTV _ rfl (by omega) hmx hPZ (by omega)
      · have g := long_zero (N := rdn (pb s) (sg (pt s)) (pt s).size) (n := k) (by omega)
        have hPZ : Hid (PA (zero1 ++ tell 10 (rdn (pb s) (sg (pt s)) (pt s).size) k) 0 0 0 0 2) := fun w => parse_fix _ _ _ _ _ _ (.inr ⟨g.1, by rw [if_pos g.2], rfl, rfl, rfl, rfl⟩) w
        have h1 : 1 < s.size := by omega
        refine rb_tc a0 a1 a2 a3 p0 p1 p2 p3 s _ _ w hH hT hPH hPT hPS _ _ hHV hTV _ rfl (by omega) hmx hPZ (by omega) (sg s 1 : Int) (fun W => str_at s 1 h1 W) ?_ ?_ (by omega)
        · rw [beq_eq_false_iff_ne]
          intro hc
          exact hx ⟨h1, by omega⟩
        · rw [← Bool.not_eq_true, eqw_iff]
          rintro ⟨rfl, rfl, rfl, rfl⟩
          have hz : rdn (pb s) (sg (pt s)) (pt s).size = 0 := by
            have : V 0 0 0 0 = 0 := by decide
            rw [this] at hV
            omega
          have h3 := hk.2.2 1 (by omega) (by omega)
          rw [hz] at h3
          exact h3 (by decide)
  · by_cases h78 : 78 < s.size
    · exact rb_n2 a0 a1 a2 a3 s _ _ w hH hT hPH hPT (fun w => parse_fix _ _ _ _ _ _ (.inr ⟨hg, by rw [if_pos h78], rfl, rfl, rfl, rfl⟩) w) (by omega)
    · exact rb_n10 a0 a1 a2 a3 s _ _ w hH hT hPH hPT (fun w => parse_fix _ _ _ _ _ _ (.inr ⟨hg, by rw [if_neg h78], rfl, rfl, rfl, rfl⟩) w) (by omega)
end Go.Proofs.Ytpadpmkfhljiiaa
