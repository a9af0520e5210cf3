/- MachPieces: all its ways together. -/
import Derived.Test.YtlemnjhdnciddaaGqc1
import Derived.Test.YtlemnjhdnciddaaGqc2
import Derived.Test.YtlemnjhdnciddaaGqc3
import Derived.Test.YtlemnjhdnciddaaGqc4
namespace Go.Proofs.Ytlemnjhdnciddaa
open Go.RowKit
theorem machPieces_walk (w : World) (z0 i m : Int) (d0 d1 d2 d3 : Int) (_ : -9223372036854775808 ≤ z0 ∧ z0 ≤ 9223372036854775807) (hi : -9223372036854775808 ≤ i ∧ i ≤ 9223372036854775807) (hm : -9223372036854775808 ≤ m ∧ m ≤ 9223372036854775807) (hd : IsW (V d0 d1 d2 d3) d0 d1 d2 d3) : Calls Try.prog 6 #[.int .i64 z0, .int .i64 i, .int .i64 m, .agg #[.int .u64 d0, .int .u64 d1, .int .u64 d2, .int .u64 d3]] w fun e w' => e = .returned (.bool true) ∧ Below w.heap.size w w' := by
  obtain ⟨s, hs, hs6⟩ : ∃ s : Nat, bits .and .i64 z0 8191 = (s : Int) ∧ s ≤ 8191 := ⟨(z0 % 8192).toNat, by rw [i64_and8191]; omega, by omega⟩
  obtain ⟨K, eK⟩ : ∃ K, upN s = K := ⟨_, rfl⟩
  have KB : K ≤ 8222 := by rw [← eK]; unfold upN; omega
  obtain ⟨q, hq⟩ : ∃ q, IntKind.i64.wrap ((K : Int) - m) = q := ⟨_, rfl⟩
  have hw := lk_want K i m
  have q9 : ¬ m < 0 → q = (K : Int) - m := fun h => by rw [← hq, IntKind.wrap_i64]; omega
  have n32 : i < 0 → lk K i 32 ≠ 0 := fun h => by rw [lk_arg (Or.inl h)]; decide
  by_cases i0 : i < 0
  · rw [if_pos (Or.inl i0)] at hw
    by_cases m0 : m = 0
    · subst m0
      exact pcA0 w z0 i d0 d1 d2 d3 hd s K hs hs6 eK hi hm (n32 i0) i0 hw
    · by_cases c2 : (K : Int) < m
      · exact pcA1 w z0 i m d0 d1 d2 d3 hd s K hs hs6 eK hi hm (n32 i0) i0 (by simpa using m0) c2 hw
      · by_cases c3 : q < i
        · exact pcA2 w z0 i m d0 d1 d2 d3 hd s K hs hs6 eK hi hm (n32 i0) i0 (by simpa using m0) c2 q hq c3 hw
        · exact pcA3 w z0 i m d0 d1 d2 d3 hd s K hs hs6 eK hi hm (n32 i0) i0 (by simpa using m0) c2 q hq c3 hw
  have i1 : 0 ≤ i := Int.not_lt.1 i0
  by_cases m0 : m < 0
  · rw [if_pos (Or.inr m0)] at hw
    by_cases c3 : q < i
    · by_cases f : lk K i 32 = 0
      · exact pcB0 w z0 i m d0 d1 d2 d3 hd s K hs hs6 eK hi hm f i1 (by omega) m0 q hq c3 hw
      · exact pcBp w z0 i m d0 d1 d2 d3 hd s K hs hs6 eK hi hm f i1 (by omega) m0 q hq c3 hw
    · by_cases f : lk K i 32 = 0
      · exact pcE0 w z0 i m d0 d1 d2 d3 hd s K hs hs6 eK hi hm f i1 (by omega) m0 q hq c3 hw
      · exact pcEp w z0 i m d0 d1 d2 d3 hd s K hs hs6 eK hi hm f i1 (by omega) m0 q hq c3 hw
  rw [if_neg (by omega)] at hw
  by_cases m1 : m = 0
  · subst m1
    rw [if_neg (fun h => h.1 rfl)] at hw
    by_cases f : lk K i 32 = 0
    · exact pcD00 w z0 i d0 d1 d2 d3 hd s K hs hs6 eK hi hm f i1 hw
    · exact pcD0p w z0 i d0 d1 d2 d3 hd s K hs hs6 eK hi hm f i1 hw
  by_cases c2 : (K : Int) < m
  · rw [if_pos ⟨m1, Or.inl c2⟩] at hw
    by_cases f : lk K i 32 = 0
    · exact pcC0 w z0 i m d0 d1 d2 d3 hd s K hs hs6 eK hi hm f i1 (by simpa using m1) m0 c2 hw
    · exact pcCp w z0 i m d0 d1 d2 d3 hd s K hs hs6 eK hi hm f i1 (by simpa using m1) m0 c2 hw
  by_cases c3 : q < i
  · rw [if_pos ⟨m1, Or.inr (by rw [← q9 m0]; exact c3)⟩] at hw
    by_cases f : lk K i 32 = 0
    · exact pcF0 w z0 i m d0 d1 d2 d3 hd s K hs hs6 eK hi hm f i1 (by simpa using m1) m0 c2 q hq c3 hw
    · exact pcFp w z0 i m d0 d1 d2 d3 hd s K hs hs6 eK hi hm f i1 (by simpa using m1) m0 c2 q hq c3 hw
  rw [if_neg (fun h => by rw [← q9 m0] at h; exact h.2.elim c2 c3)] at hw
  obtain ⟨mm, rfl⟩ : ∃ mm : Nat, m = (mm : Int) := ⟨m.toNat, by omega⟩
  by_cases f : lk K i 32 = 0
  · exact pcD10 w z0 i mm d0 d1 d2 d3 hd s K hs hs6 eK hi hm f i1 (by simpa using m1) c2 q hq c3 hw
  · exact pcD1p w z0 i mm d0 d1 d2 d3 hd s K hs hs6 eK hi hm f i1 (by simpa using m1) c2 q hq c3 hw
end Go.Proofs.Ytlemnjhdnciddaa
