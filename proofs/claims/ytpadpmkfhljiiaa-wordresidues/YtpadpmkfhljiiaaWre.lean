/- WordResidues: the walk: for every three words the law returns true and turns nothing that was there. -/
import Derived.Test.YtpadpmkfhljiiaaWre0
import Derived.Test.YtpadpmkfhljiiaaWre1
import Derived.Test.YtpadpmkfhljiiaaWre2
namespace Go.Proofs.Ytpadpmkfhljiiaa
open Go.RowKit
theorem wordResidues_walk (x y z : Int) (a0 a1 a2 a3 b0 b1 b2 b3 c0 c1 c2 c3 : Int) (w : World) (ha : IsW x a0 a1 a2 a3) (hb : IsW y b0 b1 b2 b3) (hc : IsW z c0 c1 c2 c3) :
    Calls Try.prog 9 #[.agg #[.int .u64 a0, .int .u64 a1, .int .u64 a2, .int .u64 a3], .agg #[.int .u64 b0, .int .u64 b1, .int .u64 b2, .int .u64 b3], .agg #[.int .u64 c0, .int .u64 c1, .int .u64 c2, .int .u64 c3]] w fun e w' => e = .returned (.bool true) ∧ Below w.heap.size w w' := by
  have hm := MM_pos
  have range : ∀ v : Int, 0 ≤ v % MM ∧ v % MM < MM := fun v => ⟨Int.emod_nonneg _ (by omega), Int.emod_lt_of_pos _ hm⟩
  obtain ⟨X, hX⟩ : ∃ X, x % MM = X := ⟨_, rfl⟩
  obtain ⟨Y, hY⟩ : ∃ Y, y % MM = Y := ⟨_, rfl⟩
  obtain ⟨M, hM⟩ : ∃ M, z % MM = M := ⟨_, rfl⟩
  have X0 : 0 ≤ X ∧ X < MM := by rw [← hX]; exact range x
  have Y0 : 0 ≤ Y ∧ Y < MM := by rw [← hY]; exact range y
  have M0 : 0 ≤ M ∧ M < MM := by rw [← hM]; exact range z
  have small : ∀ v : Int, 0 ≤ v → v < MM → v % MM = v := fun v h0 h1 => Int.emod_eq_of_lt h0 h1
  have hXX := small X X0.1 X0.2
  have hYY := small Y Y0.1 Y0.2
  have hMM := small M M0.1 M0.2
  have iX : IsW X a0 a1 a2 a3 := ha.cong (by rw [hX, hXX])
  have iY : IsW Y b0 b1 b2 b3 := hb.cong (by rw [hY, hYY])
  have iM : IsW M c0 c1 c2 c3 := hc.cong (by rw [hM, hMM])
  clear ha hb hc hX hY hM range
  -- AddMod and MulMod of words that are told by their numbers
  have AM : ∀ {A B C : Int} {a0 a1 a2 a3 b0 b1 b2 b3 p0 p1 p2 p3 : Int}, IsW A a0 a1 a2 a3 → IsW B b0 b1 b2 b3 → 0 ≤ A → A < MM → 0 ≤ B → B < MM → IsW C p0 p1 p2 p3 → md (A + B) M = C → ∀ w : World, Calls Try.prog 44 #[.agg #[.int .u64 a0, .int .u64 a1, .int .u64 a2, .int .u64 a3], .agg #[.int .u64 b0, .int .u64 b1, .int .u64 b2, .int .u64 b3], .agg #[.int .u64 c0, .int .u64 c1, .int .u64 c2, .int .u64 c3]] w fun e w' => e = .returned (.agg #[.int .u64 p0, .int .u64 p1, .int .u64 p2, .int .u64 p3]) ∧ Below w.heap.size w w' := by
    intro A B C a0 a1 a2 a3 b0 b1 b2 b3 p0 p1 p2 p3 iA iB h1 h2 h3 h4 iC e w
    exact addMod_is A B M a0 a1 a2 a3 b0 b1 b2 b3 c0 c1 c2 c3 p0 p1 p2 p3 w iA iB iM (by rw [small A h1 h2, small B h3 h4, hMM, e]; exact iC)
  have PM : ∀ {A B C : Int} {a0 a1 a2 a3 b0 b1 b2 b3 p0 p1 p2 p3 : Int}, IsW A a0 a1 a2 a3 → IsW B b0 b1 b2 b3 → 0 ≤ A → A < MM → 0 ≤ B → B < MM → IsW C p0 p1 p2 p3 → md (A * B) M = C → ∀ w : World, Calls Try.prog 45 #[.agg #[.int .u64 a0, .int .u64 a1, .int .u64 a2, .int .u64 a3], .agg #[.int .u64 b0, .int .u64 b1, .int .u64 b2, .int .u64 b3], .agg #[.int .u64 c0, .int .u64 c1, .int .u64 c2, .int .u64 c3]] w fun e w' => e = .returned (.agg #[.int .u64 p0, .int .u64 p1, .int .u64 p2, .int .u64 p3]) ∧ Below w.heap.size w w' := by
    intro A B C a0 a1 a2 a3 b0 b1 b2 b3 p0 p1 p2 p3 iA iB h1 h2 h3 h4 iC e w
    exact mulMod_is A B M a0 a1 a2 a3 b0 b1 b2 b3 c0 c1 c2 c3 p0 p1 p2 p3 w iA iB iM (by rw [small A h1 h2, small B h3 h4, hMM, e]; exact iC)
  by_cases hz : M = 0
  · subst hz
    obtain ⟨rfl, rfl, rfl, rfl⟩ := iM.eq isW_0 rfl
    exact wre_0 a0 a1 a2 a3 b0 b1 b2 b3 (AM iX iY X0.1 X0.2 Y0.1 Y0.2 isW_0 (by simp [md])) (PM iX iY X0.1 X0.2 Y0.1 Y0.2 isW_0 (by simp [md])) w
  · have Mp : 0 < M := by omega
    have mdr : ∀ v : Int, 0 ≤ md v M ∧ md v M < M := fun v => by rw [md, if_neg hz]; exact ⟨Int.emod_nonneg _ hz, Int.emod_lt_of_pos _ Mp⟩
    have mde : ∀ v : Int, md v M = v % M := fun v => by rw [md, if_neg hz]
    obtain ⟨P, hP⟩ : ∃ P, md (X + Y) M = P := ⟨_, rfl⟩
    obtain ⟨Q, hQ⟩ : ∃ Q, md (X * Y) M = Q := ⟨_, rfl⟩
    obtain ⟨R, hR⟩ : ∃ R, md X M = R := ⟨_, rfl⟩
    obtain ⟨S, hS⟩ : ∃ S, md Y M = S := ⟨_, rfl⟩
    have P0 : 0 ≤ P ∧ P < M := by rw [← hP]; exact mdr _
    have Q0 : 0 ≤ Q ∧ Q < M := by rw [← hQ]; exact mdr _
    have R0 : 0 ≤ R ∧ R < M := by rw [← hR]; exact mdr _
    have S0 : 0 ≤ S ∧ S < M := by rw [← hS]; exact mdr _
    obtain ⟨p0, p1, p2, p3, iP⟩ := isW_ex P
    obtain ⟨q0, q1, q2, q3, iQ⟩ := isW_ex Q
    obtain ⟨r0, r1, r2, r3, iR⟩ := isW_ex R
    obtain ⟨s0, s1, s2, s3, iS⟩ := isW_ex S
    have L1 : ∀ w : World, Calls Try.prog 20 #[.agg #[.int .u64 p0, .int .u64 p1, .int .u64 p2, .int .u64 p3], .agg #[.int .u64 c0, .int .u64 c1, .int .u64 c2, .int .u64 c3]] w fun e w' => e = .returned (.bool true) ∧ Below w.heap.size w w' := fun w => lt_is p0 p1 p2 p3 c0 c1 c2 c3 w iP iM true (by rw [small P P0.1 (by omega), hMM]; simp; omega)
    have L2 : ∀ w : World, Calls Try.prog 20 #[.agg #[.int .u64 q0, .int .u64 q1, .int .u64 q2, .int .u64 q3], .agg #[.int .u64 c0, .int .u64 c1, .int .u64 c2, .int .u64 c3]] w fun e w' => e = .returned (.bool true) ∧ Below w.heap.size w w' := fun w => lt_is q0 q1 q2 q3 c0 c1 c2 c3 w iQ iM true (by rw [small Q Q0.1 (by omega), hMM]; simp; omega)
    have MO : ∀ w : World, Calls Try.prog 39 #[.agg #[.int .u64 a0, .int .u64 a1, .int .u64 a2, .int .u64 a3], .agg #[.int .u64 c0, .int .u64 c1, .int .u64 c2, .int .u64 c3]] w fun e w' => e = .returned (.agg #[.int .u64 r0, .int .u64 r1, .int .u64 r2, .int .u64 r3]) ∧ Below w.heap.size w w' := fun w => mod_is X M a0 a1 a2 a3 c0 c1 c2 c3 r0 r1 r2 r3 w iX iM (by rw [hXX, hMM, hR]; exact iR)
    have MS : ∀ w : World, Calls Try.prog 39 #[.agg #[.int .u64 b0, .int .u64 b1, .int .u64 b2, .int .u64 b3], .agg #[.int .u64 c0, .int .u64 c1, .int .u64 c2, .int .u64 c3]] w fun e w' => e = .returned (.agg #[.int .u64 s0, .int .u64 s1, .int .u64 s2, .int .u64 s3]) ∧ Below w.heap.size w w' := fun w => mod_is Y M b0 b1 b2 b3 c0 c1 c2 c3 s0 s1 s2 s3 w iY iM (by rw [hYY, hMM, hS]; exact iS)
    have AX := AM iX iY X0.1 X0.2 Y0.1 Y0.2 iP hP
    have MX := PM iX iY X0.1 X0.2 Y0.1 Y0.2 iQ hQ
    have AB := AM iY iX Y0.1 Y0.2 X0.1 X0.2 iP (by rw [Int.add_comm]; exact hP)
    have MB := PM iY iX Y0.1 Y0.2 X0.1 X0.2 iQ (by rw [Int.mul_comm]; exact hQ)
    have A0 := AM iX isW_0 X0.1 X0.2 (by omega) hm iR (by rw [Int.add_zero]; exact hR)
    have M00 := PM iX isW_0 X0.1 X0.2 (by omega) hm isW_0 (by rw [mde, Int.mul_zero, Int.zero_emod])
    have AR := AM iR iS R0.1 (by omega) S0.1 (by omega) iP (by rw [← hR, ← hS, ← hP, mde, mde, mde, mde, ← Int.add_emod])
    have E0 := eqw_un c0 c1 c2 c3 0 0 0 0 iM isW_0 (by rw [hMM]; simpa using hz)
    have hmo : (-1 : Int) % MM = MM - 1 := by rw [show (-1 : Int) = (MM - 1) + (-1) * MM by omega, Int.add_mul_emod_self_right, small _ (by omega) (by omega)]
    by_cases hb : Y = MM - 1
    · obtain ⟨rfl, rfl, rfl, rfl⟩ := iY.eq isW_most (by rw [hYY, hmo, hb])
      exact wre_1 a0 a1 a2 a3 c0 c1 c2 c3 p0 p1 p2 p3 q0 q1 q2 q3 r0 r1 r2 r3 s0 s1 s2 s3 AX MX L1 L2 AB MB A0 MO M00 MS AR E0 w
    · obtain ⟨n0, n1, n2, n3, iN⟩ := isW_ex (Y + 1)
      obtain ⟨t0, t1, t2, t3, iT⟩ := isW_ex (md (X + (Y + 1)) M)
      obtain ⟨o0, o1, o2, o3, iO⟩ := isW_ex (md (X * (Y + 1)) M)
      have M1 : (1 : Int) < MM := by unfold MM; omega
      exact wre_2 a0 a1 a2 a3 b0 b1 b2 b3 c0 c1 c2 c3 p0 p1 p2 p3 q0 q1 q2 q3 r0 r1 r2 r3 s0 s1 s2 s3 n0 n1 n2 n3 t0 t1 t2 t3 o0 o1 o2 o3 AX MX L1 L2 AB MB A0 MO M00 MS AR (fun w => add_is Y 1 b0 b1 b2 b3 1 0 0 0 n0 n1 n2 n3 w iY isW_1 iN) (AM iX iN X0.1 X0.2 (by omega) (by omega) iT rfl)
        (AM iP isW_1 P0.1 (by omega) (by omega) M1 iT (by rw [← hP, mde, mde, mde, Int.emod_add_emod, Int.add_assoc])) (PM iX iN X0.1 X0.2 (by omega) (by omega) iO rfl)
        (AM iQ iX Q0.1 (by omega) X0.1 X0.2 iO (by rw [← hQ, mde, mde, mde, Int.emod_add_emod, Int.mul_add, Int.mul_one])) E0 (eqw_un b0 b1 b2 b3 _ _ _ _ iY isW_most (by rw [hYY, hmo]; exact hb)) w
end Go.Proofs.Ytpadpmkfhljiiaa
