/- Keccak's round as a function on 25 lanes; that no two states have the same image. Plain arithmetic of bits. -/
import Derived.Test.YtbjijbgjnammhaaDoorRows
namespace Go.Proofs.YtbjijbgjnammhaaDoor
abbrev KL := BitVec 64
abbrev KSt := Nat → KL
def colF (f : KSt) (x : Nat) : KL := f x ^^^ f (x + 5) ^^^ f (x + 10) ^^^ f (x + 15) ^^^ f (x + 20)
def besF (f : KSt) (x : Nat) : KL := colF f ((x + 4) % 5) ^^^ (colF f ((x + 1) % 5)).rotateLeft 1
def mixF (f : KSt) : KSt := fun i => f i ^^^ besF f (i % 5)
def bendF (f : KSt) : KSt := fun i => f i ^^^ (f (5 * (i / 5) + (i % 5 + 2) % 5) &&& ~~~ f (5 * (i / 5) + (i % 5 + 1) % 5))
def Eqv (f g : KSt) : Prop := ∀ i, i < 25 → f i = g i

theorem rot_bit (x : KL) (r i : Nat) (hi : i < 64) (hr : r < 64) : (x.rotateLeft r).getLsbD ((i + r) % 64) = x.getLsbD i := by
  rw [BitVec.getLsbD_rotateLeft]
  have : r % 64 = r := Nat.mod_eq_of_lt hr
  rw [this]
  by_cases h : i + r < 64
  · rw [Nat.mod_eq_of_lt h, decide_eq_false (by omega), cond_false, decide_eq_true (by omega), Bool.true_and]; congr 1; omega
  · have e : (i + r) % 64 = i + r - 64 := by omega
    rw [e, decide_eq_true (by omega), cond_true]; congr 1; omega
theorem rot_inj (x y : KL) (r : Nat) (hr : r < 64) (h : x.rotateLeft r = y.rotateLeft r) : x = y := by
  apply BitVec.eq_of_getLsbD_eq
  intro i hi
  rw [← rot_bit x r i hi hr, ← rot_bit y r i hi hr, h]
theorem rot_bit1 (x : KL) (z : Nat) : (x.rotateLeft 1).getLsbD (z % 64) = x.getLsbD ((z + 63) % 64) := by
  have := rot_bit x 1 ((z + 63) % 64) (Nat.mod_lt _ (by decide)) (by decide)
  rw [← this]; congr 1; omega

/-- bits of columns: 5-periodic and 64-periodic -/
def KT (a b s : Nat) (c : Nat → Nat → Bool) : Nat → Nat → Bool := fun x z => Bool.xor (Bool.xor (c x z) (c (x + a) z)) (c (x + b) (z + s))
theorem T_sq (a b s : Nat) (c : Nat → Nat → Bool) : KT a b s (KT a b s c) = KT (a + a) (b + b) (s + s) c := by
  funext x z
  have e : x + b + a = x + a + b := by omega
  simp only [KT, ← Nat.add_assoc, e]
  generalize c x z = p, c (x + a) z = q, c (x + b) (z + s) = r, c (x + a + a) z = t, c (x + a + b) (z + s) = u, c (x + b + b) (z + s + s) = v
  revert p q r t u v; decide
def colB (f : KSt) : Nat → Nat → Bool := fun x z => (colF f (x % 5)).getLsbD (z % 64)
theorem col_mix (f : KSt) (x : Nat) (hx : x < 5) : colF (mixF f) x = colF f x ^^^ besF f x := by
  have e0 : x % 5 = x := by omega
  have e1 : (x + 5) % 5 = x := by omega
  have e2 : (x + 10) % 5 = x := by omega
  have e3 : (x + 15) % 5 = x := by omega
  have e4 : (x + 20) % 5 = x := by omega
  simp only [colF, mixF, e0, e1, e2, e3, e4]
  generalize besF f x = d
  apply BitVec.eq_of_getLsbD_eq
  intro i _
  simp only [BitVec.getLsbD_xor]
  generalize (f x).getLsbD i = p, (f (x+5)).getLsbD i = q, (f (x+10)).getLsbD i = r, (f (x+15)).getLsbD i = s, (f (x+20)).getLsbD i = t, d.getLsbD i = u
  revert p q r s t u; decide
theorem colB_mix (f : KSt) : colB (mixF f) = KT 4 1 63 (colB f) := by
  funext x z
  simp only [colB, KT]
  rw [col_mix f (x % 5) (Nat.mod_lt _ (by decide)), besF, BitVec.getLsbD_xor, BitVec.getLsbD_xor, rot_bit1]
  rw [show (x % 5 + 4) % 5 = (x + 4) % 5 by omega, show (x % 5 + 1) % 5 = (x + 1) % 5 by omega]
  rw [Bool.xor_assoc]
theorem T_inj (c d : Nat → Nat → Bool) (hc : ∀ x z, c (x % 5) (z % 64) = c x z) (hd : ∀ x z, d (x % 5) (z % 64) = d x z) (h : KT 4 1 63 c = KT 4 1 63 d) : c = d := by
  have h1 : KT 8 2 126 c = KT 8 2 126 d := by have := congrArg (KT 4 1 63) h; rwa [T_sq, T_sq] at this
  have h2 : KT 16 4 252 c = KT 16 4 252 d := by have := congrArg (KT 8 2 126) h1; rwa [T_sq, T_sq] at this
  have h3 : KT 32 8 504 c = KT 32 8 504 d := by have := congrArg (KT 16 4 252) h2; rwa [T_sq, T_sq] at this
  have h4 : KT 64 16 1008 c = KT 64 16 1008 d := by have := congrArg (KT 32 8 504) h3; rwa [T_sq, T_sq] at this
  have h5 : KT 128 32 2016 c = KT 128 32 2016 d := by have := congrArg (KT 64 16 1008) h4; rwa [T_sq, T_sq] at this
  have h6 : KT 256 64 4032 c = KT 256 64 4032 d := by have := congrArg (KT 128 32 2016) h5; rwa [T_sq, T_sq] at this
  clear h h1 h2 h3 h4 h5
  have q : ∀ (c : Nat → Nat → Bool), (∀ x z, c (x % 5) (z % 64) = c x z) → KT 256 64 4032 c = KT 1 4 0 c := by
    intro c hc; funext x z; simp only [KT]
    rw [← hc (x + 256) z, ← hc (x + 64) (z + 4032), ← hc (x + 1) z, ← hc (x + 4) (z + 0)]
    rw [show (x + 256) % 5 = (x + 1) % 5 by omega, show (x + 64) % 5 = (x + 4) % 5 by omega, show (z + 4032) % 64 = (z + 0) % 64 by omega]
  rw [q c hc, q d hd] at h6
  have h7 : KT 2 8 0 c = KT 2 8 0 d := by have := congrArg (KT 1 4 0) h6; rwa [T_sq, T_sq] at this
  have h8 := congrArg (KT 1 4 0) h7
  have r : ∀ (c : Nat → Nat → Bool), (∀ x z, c (x % 5) (z % 64) = c x z) → KT 1 4 0 (KT 2 8 0 c) = c := by
    intro c hc; funext x z; simp only [KT, Nat.add_zero, Nat.add_assoc, Nat.reduceAdd]
    rw [← hc (x + 9) z, ← hc (x + 6) z, ← hc (x + 12) z, ← hc (x + 8) z, ← hc (x + 1) z, ← hc (x + 3) z, ← hc (x + 4) z, ← hc (x + 2) z, ← hc x z]
    rw [show (x + 9) % 5 = (x + 4) % 5 by omega, show (x + 6) % 5 = (x + 1) % 5 by omega, show (x + 12) % 5 = (x + 2) % 5 by omega, show (x + 8) % 5 = (x + 3) % 5 by omega]
    generalize c (x % 5) (z % 64) = p, c ((x + 1) % 5) (z % 64) = q, c ((x + 2) % 5) (z % 64) = r, c ((x + 3) % 5) (z % 64) = s, c ((x + 4) % 5) (z % 64) = t
    revert p q r s t; decide
  rwa [r c hc, r d hd] at h8
theorem mix_inj (f g : KSt) (h : Eqv (mixF f) (mixF g)) : Eqv f g := by
  have hc : ∀ x, x < 5 → colF (mixF f) x = colF (mixF g) x := by
    intro x hx; simp only [colF]; rw [h x (by omega), h (x + 5) (by omega), h (x + 10) (by omega), h (x + 15) (by omega), h (x + 20) (by omega)]
  have hB : colB (mixF f) = colB (mixF g) := by
    funext x z; simp only [colB]; rw [hc _ (Nat.mod_lt _ (by decide))]
  rw [colB_mix, colB_mix] at hB
  have e := T_inj _ _ (by intro x z; simp [colB]) (by intro x z; simp [colB]) hB
  have hcol : ∀ x, x < 5 → colF f x = colF g x := by
    intro x hx
    apply BitVec.eq_of_getLsbD_eq
    intro i hi
    have := congrFun (congrFun e x) i
    simpa [colB, Nat.mod_eq_of_lt hx, Nat.mod_eq_of_lt hi] using this
  intro i hi
  have := h i hi
  simp only [mixF, besF] at this
  rw [hcol _ (Nat.mod_lt _ (by decide)), hcol _ (Nat.mod_lt _ (by decide))] at this
  exact (BitVec.xor_left_inj _).1 this
theorem chi5 : ∀ a0 a1 a2 a3 a4 b0 b1 b2 b3 b4 : Bool, Bool.xor a0 (a2 && !a1) = Bool.xor b0 (b2 && !b1) → Bool.xor a1 (a3 && !a2) = Bool.xor b1 (b3 && !b2) → Bool.xor a2 (a4 && !a3) = Bool.xor b2 (b4 && !b3) → Bool.xor a3 (a0 && !a4) = Bool.xor b3 (b0 && !b4) → Bool.xor a4 (a1 && !a0) = Bool.xor b4 (b1 && !b0) → a0 = b0 ∧ a1 = b1 ∧ a2 = b2 ∧ a3 = b3 ∧ a4 = b4 := by decide
theorem bend_inj (f g : KSt) (h : Eqv (bendF f) (bendF g)) : Eqv f g := by
  have key : ∀ y, y < 5 → ∀ z, z < 64 → (f (5*y)).getLsbD z = (g (5*y)).getLsbD z ∧ (f (5*y+1)).getLsbD z = (g (5*y+1)).getLsbD z ∧ (f (5*y+2)).getLsbD z = (g (5*y+2)).getLsbD z ∧ (f (5*y+3)).getLsbD z = (g (5*y+3)).getLsbD z ∧ (f (5*y+4)).getLsbD z = (g (5*y+4)).getLsbD z := by
    intro y hy z hz
    have b : ∀ (f : KSt) x, x < 5 → (bendF f (5*y+x)).getLsbD z = Bool.xor ((f (5*y+x)).getLsbD z) ((f (5*y+(x+2)%5)).getLsbD z && !(f (5*y+(x+1)%5)).getLsbD z) := by
      intro f x hx
      simp only [bendF, BitVec.getLsbD_xor, BitVec.getLsbD_and, BitVec.getLsbD_not, hz, decide_true, Bool.true_and]
      rw [show (5*y+x)/5 = y by omega, show (5*y+x)%5 = x by omega]
    have e : ∀ x, x < 5 → (bendF f (5*y+x)).getLsbD z = (bendF g (5*y+x)).getLsbD z := by
      intro x hx; rw [h (5*y+x) (by omega)]
    have e0 := e 0 (by decide); have e1 := e 1 (by decide); have e2 := e 2 (by decide); have e3 := e 3 (by decide); have e4 := e 4 (by decide)
    rw [b f _ (by decide), b g _ (by decide)] at e0 e1 e2 e3 e4
    exact chi5 _ _ _ _ _ _ _ _ _ _ e0 e1 e2 e3 e4
  intro i hi
  apply BitVec.eq_of_getLsbD_eq
  intro z hz
  have hy : i / 5 < 5 := by omega
  obtain ⟨k0, k1, k2, k3, k4⟩ := key (i / 5) hy z hz
  have : i % 5 = 0 ∨ i % 5 = 1 ∨ i % 5 = 2 ∨ i % 5 = 3 ∨ i % 5 = 4 := by omega
  rcases this with e | e | e | e | e
  · rw [show i = 5 * (i/5) by omega]; exact k0
  · rw [show i = 5 * (i/5) + 1 by omega]; exact k1
  · rw [show i = 5 * (i/5) + 2 by omega]; exact k2
  · rw [show i = 5 * (i/5) + 3 by omega]; exact k3
  · rw [show i = 5 * (i/5) + 4 by omega]; exact k4

def turnL : List Nat := [0, 1, 62, 28, 27, 36, 44, 6, 55, 20, 3, 10, 43, 25, 39, 41, 45, 15, 21, 8, 18, 2, 61, 56, 14]
def moveL : List Nat := [0, 10, 20, 5, 15, 16, 1, 11, 21, 6, 7, 17, 2, 12, 22, 23, 8, 18, 3, 13, 14, 24, 9, 19, 4]
def srcL : List Nat := [0, 6, 12, 18, 24, 3, 9, 10, 16, 22, 1, 7, 13, 19, 20, 4, 5, 11, 17, 23, 2, 8, 14, 15, 21]
def moveF (f : KSt) : KSt := fun j => (f (srcL.getD j 0)).rotateLeft (turnL.getD (srcL.getD j 0) 0)
def conL : List Nat := [0x0000000000000001, 0x0000000000008082, 0x800000000000808a, 0x8000000080008000, 0x000000000000808b, 0x0000000080000001, 0x8000000080008081, 0x8000000000008009, 0x000000000000008a, 0x0000000000000088, 0x0000000080008009, 0x000000008000000a, 0x000000008000808b, 0x800000000000008b, 0x8000000000008089, 0x8000000000008003, 0x8000000000008002, 0x8000000000000080, 0x000000000000800a, 0x800000008000000a, 0x8000000080008081, 0x8000000000008080, 0x0000000080000001, 0x8000000080008008]
def conF (k : Nat) : KL := BitVec.ofNat 64 (conL.getD k 0)
def xor0 (f : KSt) (c : KL) : KSt := fun i => if i = 0 then f i ^^^ c else f i
def rndF (k : Nat) (f : KSt) : KSt := xor0 (bendF (moveF (mixF f))) (conF k)
def rndsF : Nat → KSt → KSt
  | 0, f => f
  | k + 1, f => rndF k (rndsF k f)
theorem move_inj (f g : KSt) (h : Eqv (moveF f) (moveF g)) : Eqv f g := by
  have p : ∀ i, i < 25 → moveL.getD i 0 < 25 ∧ srcL.getD (moveL.getD i 0) 0 = i ∧ turnL.getD i 0 < 64 := by decide
  intro i hi
  obtain ⟨p1, p2, p3⟩ := p i hi
  have := h _ p1
  simp only [moveF, p2] at this
  exact rot_inj _ _ _ p3 this
theorem rnd_inj (k : Nat) (f g : KSt) (h : Eqv (rndF k f) (rndF k g)) : Eqv f g := by
  apply mix_inj; apply move_inj; apply bend_inj
  intro i hi
  have := h i hi
  simp only [rndF, xor0] at this
  by_cases e : i = 0
  · rw [if_pos e, if_pos e] at this; exact (BitVec.xor_left_inj _).1 this
  · rwa [if_neg e, if_neg e] at this
theorem rnds_inj (k : Nat) (f g : KSt) (h : Eqv (rndsF k f) (rndsF k g)) : Eqv f g := by
  induction k with
  | zero => exact h
  | succ k ih => exact ih (rnd_inj k _ _ h)
theorem mix_congr {f g : KSt} (h : Eqv f g) : Eqv (mixF f) (mixF g) := by
  have hc : ∀ x, x < 5 → colF f x = colF g x := by
    intro x hx; simp only [colF]; rw [h x (by omega), h (x + 5) (by omega), h (x + 10) (by omega), h (x + 15) (by omega), h (x + 20) (by omega)]
  intro i hi; simp only [mixF, besF]
  rw [h i hi, hc _ (Nat.mod_lt _ (by decide)), hc _ (Nat.mod_lt _ (by decide))]
theorem bend_congr {f g : KSt} (h : Eqv f g) : Eqv (bendF f) (bendF g) := by
  intro i hi; simp only [bendF]
  rw [h i hi, h _ (by omega), h _ (by omega)]
theorem move_congr {f g : KSt} (h : Eqv f g) : Eqv (moveF f) (moveF g) := by
  have p : ∀ i, i < 25 → srcL.getD i 0 < 25 := by decide
  intro i hi; simp only [moveF]; rw [h _ (p i hi)]
theorem rnd_congr {f g : KSt} (k : Nat) (h : Eqv f g) : Eqv (rndF k f) (rndF k g) := by
  have := bend_congr (move_congr (mix_congr h))
  intro i hi; simp only [rndF, xor0]; rw [this i hi]
theorem rnds_congr {f g : KSt} (k : Nat) (h : Eqv f g) : Eqv (rndsF k f) (rndsF k g) := by
  induction k with
  | zero => exact h
  | succ k ih => exact rnd_congr k ih
theorem rnds_eq_iff (k : Nat) (f g : KSt) : Eqv (rndsF k f) (rndsF k g) ↔ Eqv f g := ⟨rnds_inj k f g, rnds_congr k⟩
end Go.Proofs.YtbjijbgjnammhaaDoor
