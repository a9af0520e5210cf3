/- The document's state of 1600 bits against lanes: each part of a round, bit by bit. Plain arithmetic. -/
import Derived.Test.YtbjijbgjnammhaaDoorKm
namespace Go.Proofs.YtbjijbgjnammhaaDoor
/-- the bit number i of a state of lanes -/
def bs (f : KSt) (i : Nat) : Nat := ((f (i / 64)).getLsbD (i % 64)).toNat
theorem bs_at (f : KSt) (l z : Nat) (hz : z < 64) : bs f (64 * l + z) = ((f l).getLsbD z).toNat := by
  unfold bs; rw [show (64 * l + z) / 64 = l by omega, show (64 * l + z) % 64 = z by omega]
theorem bs_le (f : KSt) (i : Nat) : bs f i ≤ 1 := by unfold bs; cases (f (i/64)).getLsbD (i%64) <;> decide
theorem xor_nat (a b : Bool) : (Bool.xor a b).toNat = (a.toNat + b.toNat) % 2 := by revert a b; decide
/-- what the document's mixing adds up over the first k rows -/
def mixN (f : KSt) (x z : Nat) : Nat → Nat
  | 0 => 0
  | k + 1 => mixN f x z k + bs f (64 * ((x + 4) % 5 + 5 * k) + z) + bs f (64 * ((x + 1) % 5 + 5 * k) + (z + 63) % 64)
theorem mixN_le (f : KSt) (x z : Nat) : ∀ k, mixN f x z k ≤ 2 * k
  | 0 => Nat.le_refl _
  | k + 1 => by
    have := mixN_le f x z k
    have := bs_le f (64 * ((x + 4) % 5 + 5 * k) + z)
    have := bs_le f (64 * ((x + 1) % 5 + 5 * k) + (z + 63) % 64)
    rw [mixN]; omega
theorem mix_bit (f : KSt) (x y z : Nat) (hx : x < 5) (hz : z < 64) : bs (mixF f) (64 * (x + 5 * y) + z) = (bs f (64 * (x + 5 * y) + z) + mixN f x z 5) % 2 := by
  have hz' : (z + 63) % 64 < 64 := Nat.mod_lt _ (by decide)
  have e1 : ∀ l : KL, (l.rotateLeft 1).getLsbD z = l.getLsbD ((z + 63) % 64) := fun l => by
    have := rot_bit1 l z; rwa [Nat.mod_eq_of_lt hz] at this
  simp only [mixN]
  rw [bs_at _ _ _ hz]
  simp only [mixF, besF, colF, BitVec.getLsbD_xor, e1, xor_nat, show (x + 5 * y) % 5 = x by omega]
  simp only [bs_at _ _ _ hz, bs_at _ _ _ hz', Nat.mul_zero, Nat.add_zero, Nat.zero_add, Nat.reduceMul, Nat.mul_one]
  omega
theorem move_bit (f : KSt) (x y z r : Nat) (hx : x < 5) (hy : y < 5) (hz : z < 64) (hr : turnL.getD (x + 5 * y) 0 = r) :
    bs (moveF f) (64 * (y + 5 * ((2 * x + 3 * y) % 5)) + z) = bs f (64 * (x + 5 * y) + (z + (64 - r)) % 64) := by
  have p : ∀ x, x < 5 → ∀ y, y < 5 → srcL.getD (y + 5 * ((2 * x + 3 * y) % 5)) 0 = x + 5 * y ∧ turnL.getD (x + 5 * y) 0 < 64 := by decide
  obtain ⟨p1, p2⟩ := p x hx y hy
  rw [hr] at p2
  have hz' : (z + (64 - r)) % 64 < 64 := Nat.mod_lt _ (by decide)
  rw [bs_at _ _ _ hz, bs_at _ _ _ hz', moveF, p1, hr, ← rot_bit (f (x + 5 * y)) r _ hz' p2]
  congr 2; omega
theorem bend_bit (f : KSt) (x y z : Nat) (hx : x < 5) (hz : z < 64) : bs (bendF f) (64 * (x + 5 * y) + z) =
    (if bs f (64 * ((x + 1) % 5 + 5 * y) + z) = 0 then bs f (64 * (x + 5 * y) + z) + bs f (64 * ((x + 2) % 5 + 5 * y) + z) else bs f (64 * (x + 5 * y) + z)) % 2 := by
  simp only [bs_at _ _ _ hz, bendF, BitVec.getLsbD_xor, BitVec.getLsbD_and, BitVec.getLsbD_not, hz, decide_true, Bool.true_and, show (x + 5 * y) / 5 = y by omega, show (x + 5 * y) % 5 = x by omega, show 5 * y + (x + 2) % 5 = (x + 2) % 5 + 5 * y by omega, show 5 * y + (x + 1) % 5 = (x + 1) % 5 + 5 * y by omega]
  generalize (f (x + 5 * y)).getLsbD z = p, (f ((x + 1) % 5 + 5 * y)).getLsbD z = q, (f ((x + 2) % 5 + 5 * y)).getLsbD z = r
  revert p q r; decide
/-- one number of a row is turned -/
def setD (f : Nat → Nat) (s y : Nat) (j : Nat) : Nat := if j = s then y else f j
/-- the first c places (in the order t) have what they shall have -/
def Up (g t : Nat → Nat) (c : Nat) (u : Nat → Nat) : Prop := ∀ k, k < c → u (t k) = g (t k)
theorem Up.zero (g t u : Nat → Nat) : Up g t 0 u := fun k h => absurd h (by omega)
theorem Up.set {g t u : Nat → Nat} {c s v : Nat} (h : Up g t c u) (hs : t c = s) (hv : v = g s) (hi : ∀ k, k < c → t k ≠ t c) : Up g t (c + 1) (setD u s v) := fun k hk => by
  unfold setD
  by_cases e : k = c
  · subst e; rw [if_pos hs, hv, hs]
  · rw [if_neg (by rw [← hs]; exact hi k (by omega))]; exact h k (by omega)
theorem Up.all {g t u : Nat → Nat} (h : Up g t 1600 u) (hs : ∀ i, i < 1600 → ∃ k, k < 1600 ∧ t k = i) : ∀ i, i < 1600 → u i = g i := fun i hi => by
  obtain ⟨k, hk, rfl⟩ := hs i hi; exact h k hk
/-- the orders of the three loops: the places x, y, z one behind the other -/
def tMix (k : Nat) : Nat := 64 * (k / 320 + 5 * (k % 5)) + k % 320 / 5
def tBend (k : Nat) : Nat := 64 * (k / 320 + 5 * (k % 320 / 64)) + k % 64
def tMove (k : Nat) : Nat := 64 * (k % 320 / 64 + 5 * ((2 * (k / 320) + 3 * (k % 320 / 64)) % 5)) + k % 64
theorem tMix_at (x y z : Nat) (_ : x < 5) (hy : y < 5) (hz : z < 64) : tMix (320 * x + 5 * z + y) = 64 * (x + 5 * y) + z := by
  unfold tMix
  rw [show (320 * x + 5 * z + y) / 320 = x by omega, show (320 * x + 5 * z + y) % 5 = y by omega, show (320 * x + 5 * z + y) % 320 / 5 = z by omega]
theorem tBend_at (x y z : Nat) (_ : x < 5) (hy : y < 5) (hz : z < 64) : tBend (320 * x + 64 * y + z) = 64 * (x + 5 * y) + z := by
  unfold tBend
  rw [show (320 * x + 64 * y + z) / 320 = x by omega, show (320 * x + 64 * y + z) % 320 / 64 = y by omega, show (320 * x + 64 * y + z) % 64 = z by omega]
theorem tMove_at (x y z : Nat) (_ : x < 5) (hy : y < 5) (hz : z < 64) : tMove (320 * x + 64 * y + z) = 64 * (y + 5 * ((2 * x + 3 * y) % 5)) + z := by
  unfold tMove
  rw [show (320 * x + 64 * y + z) / 320 = x by omega, show (320 * x + 64 * y + z) % 320 / 64 = y by omega, show (320 * x + 64 * y + z) % 64 = z by omega]
theorem tMix_ne (c k : Nat) (hc : c < 1600) (hk : k < c) : tMix k ≠ tMix c := by
  unfold tMix; intro h
  have e1 : k = 320 * (k / 320) + 5 * (k % 320 / 5) + k % 5 := by omega
  have e2 : c = 320 * (c / 320) + 5 * (c % 320 / 5) + c % 5 := by omega
  have b1 : k / 320 < 5 := by omega
  have b2 : c / 320 < 5 := by omega
  have b3 : k % 320 / 5 < 64 := by omega
  have b4 : c % 320 / 5 < 64 := by omega
  generalize k / 320 = x, k % 320 / 5 = z, k % 5 = y, c / 320 = x', c % 320 / 5 = z', c % 5 = y' at *
  omega
theorem tBend_ne (c k : Nat) (hc : c < 1600) (hk : k < c) : tBend k ≠ tBend c := by unfold tBend; omega
theorem move_inj5 : ∀ x, x < 5 → ∀ y, y < 5 → ∀ x', x' < 5 → ∀ y', y' < 5 → (y + 5 * ((2 * x + 3 * y) % 5) ≠ y' + 5 * ((2 * x' + 3 * y') % 5) ∨ (x = x' ∧ y = y')) := by decide
theorem tMove_ne (c k : Nat) (hc : c < 1600) (hk : k < c) : tMove k ≠ tMove c := by
  unfold tMove; intro h
  have hx : k / 320 < 5 := by omega
  have hx' : c / 320 < 5 := by omega
  have hy : k % 320 / 64 < 5 := by omega
  have hy' : c % 320 / 64 < 5 := by omega
  have hl := move_inj5 _ hx _ hy _ hx' _ hy'
  rcases hl with hl | hl
  · exact hl (by omega)
  · omega
theorem tMix_all (i : Nat) (hi : i < 1600) : ∃ k, k < 1600 ∧ tMix k = i := ⟨320 * (i / 64 % 5) + 5 * (i % 64) + i / 320, by omega, by rw [tMix_at _ _ _ (by omega) (by omega) (by omega)]; omega⟩
theorem tBend_all (i : Nat) (hi : i < 1600) : ∃ k, k < 1600 ∧ tBend k = i := ⟨320 * (i / 64 % 5) + 64 * (i / 320) + i % 64, by omega, by rw [tBend_at _ _ _ (by omega) (by omega) (by omega)]; omega⟩
theorem move_sur5 : ∀ j, j < 25 → srcL.getD j 0 < 25 ∧ srcL.getD j 0 / 5 + 5 * ((2 * (srcL.getD j 0 % 5) + 3 * (srcL.getD j 0 / 5)) % 5) = j := by decide
theorem tMove_all (i : Nat) (hi : i < 1600) : ∃ k, k < 1600 ∧ tMove k = i := by
  obtain ⟨h1, h2⟩ := move_sur5 (i / 64) (by omega)
  refine ⟨320 * (srcL.getD (i / 64) 0 % 5) + 64 * (srcL.getD (i / 64) 0 / 5) + i % 64, by omega, ?_⟩
  rw [tMove_at _ _ _ (by omega) (by omega) (by omega), h2]; omega
/-- the document's row of bits (2.2) -/
def nineL (r : List Nat) : List Nat := if r.getD 7 0 = 1 then [1, r.getD 0 0, r.getD 1 0, r.getD 2 0, 1 - r.getD 3 0, 1 - r.getD 4 0, 1 - r.getD 5 0, r.getD 6 0] else [0, r.getD 0 0, r.getD 1 0, r.getD 2 0, r.getD 3 0, r.getD 4 0, r.getD 5 0, r.getD 6 0]
def lfL : Nat → List Nat
  | 0 => [1, 0, 0, 0, 0, 0, 0, 0]
  | k + 1 => nineL (lfL k)
def rb (k : Nat) : Nat := (lfL k).getD 0 0
theorem nine_le {r : List Nat} (h : ∀ i, r.getD i 0 ≤ 1) (i : Nat) : (nineL r).getD i 0 ≤ 1 := by
  have h0 := h 0; have h1 := h 1; have h2 := h 2; have h3 := h 3; have h4 := h 4; have h5 := h 5; have h6 := h 6
  unfold nineL
  split <;> (rcases i with _ | _ | _ | _ | _ | _ | _ | _ | i <;> simp only [List.getD_cons_zero, List.getD_cons_succ, List.getD_nil] <;> omega)
theorem lf_le : ∀ k i, (lfL k).getD i 0 ≤ 1
  | 0, i => by rcases i with _ | _ | _ | _ | _ | _ | _ | _ | i <;> simp [lfL]
  | k + 1, i => nine_le (lf_le k) i
theorem lf_len : ∀ k, (lfL k).length = 8
  | 0 => rfl
  | k + 1 => by rw [lfL, nineL]; split <;> rfl
theorem rb_le (k : Nat) : rb k ≤ 1 := lf_le k 0
/-- the marks of a round, the first j of them -/
def mkF (f : KSt) (k : Nat) : Nat → Nat → Nat
  | 0 => bs f
  | j + 1 => setD (mkF f k j) (2 ^ j - 1) ((mkF f k j (2 ^ j - 1) + rb (j + 7 * k)) % 2)
theorem mkF_le (f : KSt) (k : Nat) : ∀ j i, mkF f k j i ≤ 1
  | 0, i => bs_le f i
  | j + 1, i => by rw [mkF, setD]; split; omega; exact mkF_le f k j i
theorem con_bits : ∀ k, k < 24 → ∀ z, z < 64 → ((conF k).getLsbD z).toNat = (if z = 0 then rb (0 + 7 * k) else if z = 1 then rb (1 + 7 * k) else if z = 3 then rb (2 + 7 * k) else if z = 7 then rb (3 + 7 * k) else if z = 15 then rb (4 + 7 * k) else if z = 31 then rb (5 + 7 * k) else if z = 63 then rb (6 + 7 * k) else 0) := by decide +kernel
theorem mark_bits (f : KSt) (k : Nat) (hk : k < 24) (i : Nat) : mkF f k 7 i = bs (xor0 f (conF k)) i := by
  have hz : i % 64 < 64 := Nat.mod_lt _ (by decide)
  have e : bs (xor0 f (conF k)) i = (if i < 64 then (bs f i + ((conF k).getLsbD i).toNat) % 2 else bs f i) := by
    unfold bs xor0
    by_cases h : i < 64
    · rw [if_pos (by omega), if_pos h, BitVec.getLsbD_xor, xor_nat, Nat.mod_eq_of_lt h]
    · rw [if_neg (by omega), if_neg h]
  rw [e]
  simp only [mkF, setD, Nat.reducePow, Nat.reduceSub]
  have b := bs_le f i
  by_cases h : i < 64
  · rw [if_pos h, con_bits k hk i h]
    by_cases h63 : i = 63
    · subst h63; simp
    · by_cases h31 : i = 31
      · subst h31; simp
      · by_cases h15 : i = 15
        · subst h15; simp
        · by_cases h7 : i = 7
          · subst h7; simp
          · by_cases h3 : i = 3
            · subst h3; simp
            · by_cases h1 : i = 1
              · subst h1; simp
              · by_cases h0 : i = 0
                · subst h0; simp
                · simp only [h63, h31, h15, h7, h3, h1, h0, if_false]; omega
  · rw [if_neg h, if_neg (by omega), if_neg (by omega), if_neg (by omega), if_neg (by omega), if_neg (by omega), if_neg (by omega), if_neg (by omega)]
end Go.Proofs.YtbjijbgjnammhaaDoor
