/- How many zeros stand ahead of a word. -/
import Derived.Test.YtpgjchkfglkgcaaXm
import Derived.Test.YtpgjchkfglkgcaaWa
import Derived.Shelf.Small.Bits
import Derived.Deep.CutRange
namespace Go.Proofs.Ytpgjchkfglkgcaa
open Go.RowKit Go.Shelf
/-- the numbers of math/bits' functions and types at this program -/
def lzRen : Ren := ⟨fun | 129 => 54 | 134 => 53 | n => n, fun | 46 => 64 | 53 => 23 | n => n, fun n => n⟩
theorem lzLays : Lays.n134 Try.prog lzRen :=
  { mixed := by kernel_rfl, f129 := by kernel_rfl, f134 := by kernel_rfl,
    t3 := by kernel_rfl, a3 := fun _ => by kernel_rfl, z3 := fun _ => by kernel_rfl, v3 := fun _ => by kernel_rfl,
    t4 := by kernel_rfl, a4 := fun _ => by kernel_rfl, z4 := fun _ => by kernel_rfl, v4 := fun _ => by kernel_rfl,
    t5 := by kernel_rfl, a5 := fun _ => by kernel_rfl, z5 := fun _ => by kernel_rfl, v5 := fun _ => by kernel_rfl,
    t9 := by kernel_rfl, a9 := fun _ => by kernel_rfl, z9 := fun _ => by kernel_rfl, v9 := fun _ => by kernel_rfl,
    t46 := by kernel_rfl, a46 := fun _ => by kernel_rfl, z46 := fun _ => by kernel_rfl, v46 := fun _ => by kernel_rfl,
    t53 := by kernel_rfl, a53 := fun _ => by kernel_rfl, z53 := fun _ => by kernel_rfl, v53 := fun _ => by kernel_rfl }
theorem lz_any (x : Int) (hx : U64 x) (w : World) : Calls Try.prog 53 #[.int .u64 x] w fun e w' => e = .returned (.int .i64 (64 - (Lib.bitLen x.toNat : Int))) ∧ w' = w := by
  have h := hx.2
  unfold Bd at h
  exact Any.bits_LeadingZeros64 lzLays x w hx.1 (by omega)
set_option maxHeartbeats 400000 in
/-- how many parts hold all that is not 0 -/
theorem parts_is (w : World) (b n cap : Nat) (v : Nat → Int) (hn : n ≤ 9) (hc : ∀ i, i < n → w.cell? ⟨b, i, none⟩ = some (.int .u64 (v i))) :
    Calls Try.prog 52 #[.slice (some ⟨b, 0, none⟩) n cap] w fun e w' => ∃ k : Nat, e = .returned (.int .i64 (k : Int)) ∧ k ≤ n ∧ (0 < k → v (k - 1) ≠ 0) ∧ (∀ i, k ≤ i → i < n → v i = 0) ∧ w' = w := by
  have HC : Hid _ := hc
  clear hc
  go_enter Try.func52, Try.ntmps52
  go_wp2
  go_loop [3] (fun s => ∃ k : Nat, s = .int .i64 (k : Int) ∧ k ≤ n ∧ (∀ i, k ≤ i → i < n → v i = 0)) (fun s => (intOf s).toNat)
  case atStart => exact ⟨n, rfl, Nat.le_refl _, fun i h1 h2 => by omega⟩
  case round =>
    obtain ⟨k, rfl, hk, hz⟩ := hrel
    have HZ : Hid _ := hz
    clear hz
    rcases k with _ | k
    · go_wp2
      go_ret
      exact ⟨0, rfl, by omega, fun h => absurd h (by omega), HZ.out, rfl⟩
    · have c := HC.out k (by omega)
      have kI : (0 : Int) < ((k + 1 : Nat) : Int) := by omega
      have k1 : ((k + 1 : Nat) : Int) - 1 = (k : Int) := by omega
      have kn : (k : Int) < (n : Int) := by omega
      generalize hv : v k = x at c
      by_cases hx : x = 0
      · subst hx
        have HV : Hid _ := hv
        clear hv
        go_wp2
        go_round
        case rel => exact ⟨k, by first | rfl | go_num, by omega, fun i h1 h2 => by by_cases e : i = k; (rw [e]; exact HV.out); exact HZ.out i (by omega) h2⟩
        case measure => simp [intOf]
      · have HV : Hid _ := hv
        clear hv
        go_wp2
        go_ret
        exact ⟨k + 1, rfl, hk, fun _ => by rw [show k + 1 - 1 = k by omega, HV.out]; exact hx, HZ.out, rfl⟩
theorem box_cell (w : World) (a0 a1 a2 a3 : Int) (t : TypeId) (i : Nat) (h : i < 4) : (w.alloc (.cells #[.int .u64 a0, .int .u64 a1, .int .u64 a2, .int .u64 a3] t)).cell? ⟨w.heap.size, i, none⟩ = some (.int .u64 (limb a0 a1 a2 a3 i)) := by
  rw [World.cell?_alloc_at _ _ _ _ rfl]
  obtain rfl | rfl | rfl | rfl : i = 0 ∨ i = 1 ∨ i = 2 ∨ i = 3 := by omega
  all_goals rfl
set_option maxHeartbeats 1000000 in
/-- B bits are not zeros ahead -/
theorem zerosAhead_any (x : Int) (a0 a1 a2 a3 : Int) (w : World) (ha : IsW x a0 a1 a2 a3) :
    Calls Try.prog 51 #[.agg #[.int .u64 a0, .int .u64 a1, .int .u64 a2, .int .u64 a3]] w fun e w' => ∃ B : Nat, e = .returned (.int .i64 (256 - (B : Int))) ∧ B ≤ 256 ∧ BitsOf (V a0 a1 a2 a3) B ∧ Below w.heap.size w w' := by
  have HA : Hid (IsW x a0 a1 a2 a3) := ha
  have hc := box_cell w a0 a1 a2 a3 27
  have HC : Hid _ := hc
  have P1 : Hid _ := parts_is (w.alloc (.cells #[.int .u64 a0, .int .u64 a1, .int .u64 a2, .int .u64 a3] 27)) w.heap.size 4 4 (limb a0 a1 a2 a3) (by omega) hc
  have B1 : Hid (Below w.heap.size w (w.alloc (.cells #[.int .u64 a0, .int .u64 a1, .int .u64 a2, .int .u64 a3] 27))) := (Below.refl _ _).alloc (by omega) _
  clear ha hc
  go_enter Try.func51, Try.ntmps51
  go_upto_region 2 with (go_at_call 52; refine Calls.mono P1.out ?_; rintro e v1 ⟨k, rfl, hk, hne, hz, rfl⟩; (have HNE : Hid _ := hne); (have HZ : Hid _ := hz); clear hne hz)
  have BB : Hid _ := bits_limb HA.out.u0 HA.out.u1 HA.out.u2 HA.out.u3 k hk HNE.out HZ.out
  rcases k with _ | k
  · have B0 : Hid (BitsOf (V a0 a1 a2 a3) 0) := by have h := BB.out; rw [if_pos rfl] at h; exact h
    clear BB HNE HZ
    go_wp2
    go_ret
    exact ⟨0, rfl, by omega, B0.out, B1.out⟩
  · have c := HC.out k (by omega)
    have kI : ¬ (((k + 1 : Nat) : Int) = 0) := by omega
    have k1 : ((k + 1 : Nat) : Int) - 1 = (k : Int) := by omega
    have kn : (k : Int) < 4 := by omega
    have k4 : ((k + 1 : Nat) : Int) ≤ 4 := by omega
    have hu := limb_u64 HA.out.u0 HA.out.u1 HA.out.u2 HA.out.u3 k
    have bb := BB.out
    rw [if_neg (by omega), show k + 1 - 1 = k by omega] at bb
    have nz := HNE.out (by omega)
    rw [show k + 1 - 1 = k by omega] at nz
    generalize limb a0 a1 a2 a3 k = y at c hu bb nz
    have bl := bitLen_range y.toNat (by have := hu.2; unfold Bd at this; omega) (by have := hu.1; omega)
    obtain ⟨l, el⟩ : ∃ l, l = Lib.bitLen y.toNat := ⟨_, rfl⟩
    have LZ : Hid (∀ W : World, Calls Try.prog 53 #[.int .u64 y] W fun e w' => e = .returned (.int .i64 (64 - (l : Int))) ∧ w' = W) := fun W => by rw [el]; exact lz_any y hu W
    rw [← el] at bb bl
    have lI : (l : Int) ≤ 64 := by omega
    have BBB : Hid _ := bb
    clear bb bl nz hu el BB HNE HZ
    obtain ⟨r, er⟩ : ∃ r : Int, r = 4 - ((k + 1 : Nat) : Int) := ⟨_, rfl⟩
    go_wp2_with (go_at_call 53; refine (LZ.out _).mono ?_; rintro e v2 ⟨rfl, rfl⟩)
    go_ret
    refine ⟨64 * k + l, ret_int ?_, by omega, BBB.out, B1.out⟩
    omega
end Go.Proofs.Ytpgjchkfglkgcaa
