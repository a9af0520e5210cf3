/- word.read: digits of a base as a number. -/
import Derived.Test.YtpadpmkfhljiiaaMb
import Derived.Test.YtpadpmkfhljiiaaRc
import Derived.Test.YtpadpmkfhljiiaaRg
namespace Go.Proofs.Ytpadpmkfhljiiaa
open Go.RowKit
/-- the signs of a text -/
def sg (s : ByteArray) (i : Nat) : Nat := (s[i]?.map UInt8.toNat).getD 0
theorem sg_at (s : ByteArray) (i : Nat) (h : i < s.size) : ∃ b, s[i]? = some b ∧ b.toNat = sg s i := by
  refine ⟨s[i], by simp [h], ?_⟩
  simp [sg, h]
theorem sg_lt (s : ByteArray) (i : Nat) : sg s i < 256 := by
  unfold sg
  cases h : s[i]? with
  | none => simp
  | some b => simpa using UInt8.toNat_lt b
/-- the number that the first digits are -/
def rdn (B : Nat) (c : Nat → Nat) : Nat → Nat
  | 0 => 0
  | k + 1 => rdn B c k * B + digv (c k)
theorem rdn_mono {B : Nat} (hB : 0 < B) (c : Nat → Nat) (k : Nat) : ∀ n, k ≤ n → rdn B c k ≤ rdn B c n
  | 0, h => by rw [show k = 0 by omega]; exact Nat.le_refl _
  | n + 1, h => by
    by_cases e : k = n + 1
    · rw [e]; exact Nat.le_refl _
    · have h1 := rdn_mono hB c k n (by omega)
      have h2 : rdn B c n * 1 ≤ rdn B c n * B := Nat.mul_le_mul_left _ hB
      rw [rdn]; omega
/-- is it a number of that base that fits a word? -/
def Reads (B : Nat) (c : Nat → Nat) (n : Nat) : Prop := (∀ i, i < n → digv (c i) < B) ∧ rdn B c n < 256 ^ 32
def RDRES (B : Nat) (c : Nat → Nat) (n : Nat) (w : World) (e : Ending) (w' : World) : Prop := ∃ p0 p1 p2 p3 er : Int, e = .returned (.tuple #[.agg #[.int .u64 p0, .int .u64 p1, .int .u64 p2, .int .u64 p3], .int .i64 er]) ∧ Below w.heap.size w w' ∧ ((Reads B c n ∧ er = 0 ∧ IsW (rdn B c n : Int) p0 p1 p2 p3) ∨ (¬ Reads B c n ∧ er = 10 ∧ p0 = 0 ∧ p1 = 0 ∧ p2 = 0 ∧ p3 = 0))
set_option maxHeartbeats 4000000 in
set_option maxRecDepth 100000 in
theorem read_is (s : ByteArray) (n : Nat) (hs : s.size = n) (B : Nat) (hB : 1 < B ∧ B < 200) (most : Nat) (h1 : 0 < n) (h2 : n ≤ most) (h3 : most ≤ 100) (w : World) :
    Calls Try.prog 92 #[.string s, .int .u64 (B : Int), .int .i64 (most : Int)] w (RDRES B (sg s) n w) := by
  have nz : ((n : Int) == 0) = false := by simp; omega
  have nz2 : ¬ (n : Int) = 0 := by omega
  have nm : ¬ (most : Int) < (n : Int) := by omega
  have hsz : (s.size : Int) = (n : Int) := by omega
  have HS : Hid (s.size = n ∧ 1 < B ∧ B < 200 ∧ 0 < n ∧ n ≤ 100) := ⟨hs, hB.1, hB.2, h1, by omega⟩
  have K0 : Hid (Bx w [(w.heap.size, 0, 0, 0, 0)] (w.alloc (.cells #[.int .u64 0, .int .u64 0, .int .u64 0, .int .u64 0] 24))) := (Bx.start w).alloc 0 0 0 0
  clear hs
  go_enter Try.func92, Try.ntmps92
  go_upto_region 1 with fail
  generalize w.alloc (.cells #[.int .u64 0, .int .u64 0, .int .u64 0, .int .u64 0] 24) = W0 at K0 ⊢
  go_upto_region 4 with fail
  have K1 : Hid (Bx w [(W0.heap.size, 0, 0, 0, 0), (w.heap.size, 0, 0, 0, 0)] (W0.alloc (.cells #[.int .u64 0, .int .u64 0, .int .u64 0, .int .u64 0] 24)) ∧ w.heap.size < W0.heap.size) := ⟨K0.out.alloc 0 0 0 0, K0.out.lt _ (List.Mem.head _)⟩
  generalize W0.alloc (.cells #[.int .u64 0, .int .u64 0, .int .u64 0, .int .u64 0] 24) = W1 at K1 ⊢
  generalize W0.heap.size = bx at K1 ⊢
  clear K0
  have lb := K1.out.2
  go_wp2
  go_loopw [24] (fun s24 wr => ∃ (k : Nat) (l0 l1 l2 l3 : Int), s24 = .int .i64 (k : Int) ∧ k ≤ n ∧ (∀ i, i < k → digv (sg s i) < B) ∧ rdn B (sg s) k < 256 ^ 32 ∧ IsW (rdn B (sg s) k : Int) l0 l1 l2 l3 ∧ Bx w [(bx, l0, l1, l2, l3), (w.heap.size, 0, 0, 0, 0)] wr) (fun s24 _ => n - (intOf s24).toNat)
  case atStart => exact ⟨0, 0, 0, 0, 0, rfl, by omega, fun i hi => absurd hi (by omega), by rw [rdn]; decide, by rw [rdn]; exact isW_0, K1.out.1⟩
  case round =>
    obtain ⟨k, l0, l1, l2, l3, rfl, hk, hd, hlt, hW, hX⟩ := hrel
    clear K1
    have HDg : Hid (∀ i, i < k → digv (sg s i) < B) := hd
    have HLt : Hid (rdn B (sg s) k < 256 ^ 32) := hlt
    have HWd : Hid (IsW (rdn B (sg s) k : Int) l0 l1 l2 l3) := hW
    have HXx : Hid (Bx w [(bx, l0, l1, l2, l3), (w.heap.size, 0, 0, 0, 0)] wr) := hX
    clear hd hlt hW hX
    by_cases hk5 : k < n
    · have kI : (k : Int) < (n : Int) := by omega
      obtain ⟨b, hb1, hb2⟩ := sg_at s k (by have := HS.out.1; omega)
      obtain ⟨c, ec⟩ : ∃ c, c = sg s k := ⟨_, rfl⟩
      have hix : ∀ W : World, Sem.run Try.prog (Instr.index 9 (.string s) (.int .i64 (k : Int))) W = .ok (.int .u8 (c : Int)) W := fun W => by
        have hlt : k < s.size := by have := HS.out.1; omega
        rw [run_index_string W 9 s .i64 (k : Int) Try.underlying9, dif_pos ⟨by omega, by omega⟩]
        have e : s[k]? = some s[k] := by simp [hlt]
        rw [e] at hb1
        have e2 := Option.some.inj hb1
        simp only [Int.toNat_natCast]
        rw [e2, hb2, ec]
      obtain ⟨d, ed⟩ : ∃ d, d = digv c := ⟨_, rfl⟩
      have DG : Hid (∀ W : World, Calls Try.prog 106 #[.int .u8 (c : Int)] W fun e w' => e = .returned (.int .u64 (d : Int)) ∧ w' = W) := fun W => by rw [ed]; exact digitOf_is c (by rw [ec]; exact sg_lt s k) W
      have ED : Hid (d = digv (sg s k)) := by rw [← ec]; exact ed
      clear hb1 hb2 ec ed
      by_cases hdB : d < B
      · have i1 : ¬ (B : Int) ≤ (d : Int) := by omega
        have hw := HWd.out
        obtain ⟨q0, q1, q2, q3, h, ⟨v0, v1, v2, v3, vh⟩, hN, LE⟩ := lengthen_is l0 l1 l2 l3 (B : Int) (d : Int) hw.u0 hw.u1 hw.u2 hw.u3 ⟨by omega, by unfold Bd; have := HS.out; omega⟩ ⟨by omega, by unfold Bd; have := HS.out; omega⟩
        have HLE : Hid (∀ w : World, Calls Try.prog 107 #[.agg #[.int .u64 l0, .int .u64 l1, .int .u64 l2, .int .u64 l3], .int .u64 (B : Int), .int .u64 (d : Int)] w fun e w' => e = .returned (.tuple #[.agg #[.int .u64 q0, .int .u64 q1, .int .u64 q2, .int .u64 q3], .int .u64 h]) ∧ Below w.heap.size w w') := LE
        have hV : V l0 l1 l2 l3 = ((rdn B (sg s) k : Nat) : Int) := hw.2.trans (Int.emod_eq_of_lt (by omega) (by rw [← MM_nat]; exact_mod_cast HLt.out))
        have NX : Hid (((rdn B (sg s) (k + 1) : Nat) : Int) = V q0 q1 q2 q3 + MM * h) := by
          have h1 := hN.out
          rw [hV, ED.out] at h1
          unfold Hid
          rw [rdn, Int.natCast_add, Int.natCast_mul]; exact h1
        have VR := V_range v0 v1 v2 v3
        have HVR : Hid (0 ≤ V q0 q1 q2 q3 ∧ V q0 q1 q2 q3 < MM ∧ 0 ≤ h ∧ U64 q0 ∧ U64 q1 ∧ U64 q2 ∧ U64 q3) := ⟨VR.1, VR.2, vh.1, v0, v1, v2, v3⟩
        obtain ⟨c0, c1, c2, c3, z0, z1, z2, z3⟩ := HXx.out.f0 (List.Mem.head _)
        clear hw LE hN hV VR
        by_cases hh : h = 0
        · subst hh
          go_wp2_with (first
            | (go_at_call 106; refine (DG.out _).mono ?_; rintro e w' ⟨rfl, hw⟩; (have hw2 := hw.symm); clear hw; subst hw2)
            | (go_at_call 107; refine (HLE.out _).mono ?_; rintro e y1 ⟨rfl, hB⟩; (have J1 : Hid (Bx w [(bx, l0, l1, l2, l3), (w.heap.size, 0, 0, 0, 0)] y1) := HXx.out.past hB); clear hB c0 c1 c2 c3 z0 z1 z2 z3; obtain ⟨c0, c1, c2, c3, z0, z1, z2, z3⟩ := J1.out.f0 (List.Mem.head _)))
          have J2 : Hid _ := Bx.put J1.out (by intro p hp; simp only [List.mem_cons, List.not_mem_nil, or_false] at hp; rcases hp with rfl; simp; omega) q0 q1 q2 q3
          go_roundw
          case rel => exact ⟨k + 1, q0, q1, q2, q3, by go_num, by omega, fun i hi => by
            by_cases e : i = k
            · rw [e, ← ED.out]; exact hdB
            · exact HDg.out i (by omega), by have h1 := NX.out; have h2 := HVR.out; rw [Int.mul_zero, Int.add_zero] at h1; rw [← MM_nat] at h2; omega, by
              have h1 := NX.out
              have h2 := HVR.out
              rw [Int.mul_zero, Int.add_zero] at h1
              rw [h1]
              exact ⟨⟨h2.2.2.2.1, h2.2.2.2.2.1, h2.2.2.2.2.2.1, h2.2.2.2.2.2.2⟩, (Int.emod_eq_of_lt h2.1 h2.2.1).symm⟩, J2.out⟩
          case measure => simp [intOf]; omega
        · have h01 : (h == 0) = false := by simpa using hh
          go_wp2_with (first
            | (go_at_call 106; refine (DG.out _).mono ?_; rintro e w' ⟨rfl, hw⟩; (have hw2 := hw.symm); clear hw; subst hw2)
            | (go_at_call 107; refine (HLE.out _).mono ?_; rintro e y1 ⟨rfl, hB⟩; (have J1 : Hid (Bx w [(bx, l0, l1, l2, l3), (w.heap.size, 0, 0, 0, 0)] y1) := HXx.out.past hB); clear hB c0 c1 c2 c3 z0 z1 z2 z3; obtain ⟨c0, c1, c2, c3, z0, z1, z2, z3⟩ := J1.out.f0 (List.Mem.head _); obtain ⟨r0, r1, r2, r3, f0, f1, f2, f3⟩ := J1.out.f0 (List.Mem.tail _ (List.Mem.head _))))
          have low := J1.out.low (bx, l0, l1, l2, l3) (List.Mem.head _)
          have NR : ¬ Reads B (sg s) n := fun hR => by
            have h1 := NX.out
            have h2 := HVR.out
            have h3 := rdn_mono (show 0 < B by have := HS.out; omega) (sg s) (k + 1) n (by omega)
            have h4 := hR.2
            have h5 : MM * 1 ≤ MM * h := Int.mul_le_mul_of_nonneg_left (by omega) (Int.le_of_lt MM_pos)
            rw [← MM_nat] at h1 h5
            omega
          exact bodyPost_ret (v := .tuple #[.agg #[.int .u64 0, .int .u64 0, .int .u64 0, .int .u64 0], .int .i64 10]) (by simp [results, Try.results92, go_sem, r0, r1, r2, r3]) rfl ⟨0, 0, 0, 0, 10, rfl, below_put (below_put J1.out.bel low _ _ _ _) (Nat.le_refl _) _ _ _ _, Or.inr ⟨NR, rfl, rfl, rfl, rfl, rfl⟩⟩
      · have i1 : (B : Int) ≤ (d : Int) := by omega
        obtain ⟨r0, r1, r2, r3, f0, f1, f2, f3⟩ := HXx.out.f0 (List.Mem.tail _ (List.Mem.head _))
        have NR : Hid (¬ Reads B (sg s) n) := fun hR => by
          have := hR.1 k hk5
          rw [← ED.out] at this
          omega
        go_wp2_with (go_at_call 106; refine (DG.out _).mono ?_; rintro e w' ⟨rfl, hw⟩; (have hw2 := hw.symm); clear hw; subst hw2)
        exact bodyPost_ret (v := .tuple #[.agg #[.int .u64 0, .int .u64 0, .int .u64 0, .int .u64 0], .int .i64 10]) (by simp [results, Try.results92, go_sem, r0, r1, r2, r3]) rfl ⟨0, 0, 0, 0, 10, rfl, below_put HXx.out.bel (Nat.le_refl _) _ _ _ _, Or.inr ⟨NR.out, rfl, rfl, rfl, rfl, rfl⟩⟩
    · obtain rfl : k = n := by omega
      obtain ⟨c0, c1, c2, c3, _⟩ := HXx.out.f0 (List.Mem.head _)
      obtain ⟨r0, r1, r2, r3, f0, f1, f2, f3⟩ := HXx.out.f0 (List.Mem.tail _ (List.Mem.head _))
      go_wp2
      exact bodyPost_ret (v := .tuple #[.agg #[.int .u64 l0, .int .u64 l1, .int .u64 l2, .int .u64 l3], .int .i64 0]) (by simp [results, Try.results92, go_sem, r0, r1, r2, r3]) rfl ⟨l0, l1, l2, l3, 0, rfl, below_put HXx.out.bel (Nat.le_refl _) _ _ _ _, Or.inl ⟨⟨HDg.out, HLt.out⟩, rfl, HWd.out⟩⟩
end Go.Proofs.Ytpadpmkfhljiiaa
