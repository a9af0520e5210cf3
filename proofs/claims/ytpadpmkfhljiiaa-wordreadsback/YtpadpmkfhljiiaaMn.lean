/- What is told is read again; of what is read the told forms are the shortest: numbers alone. -/
import Derived.Test.YtpadpmkfhljiiaaMl
namespace Go.Proofs.Ytpadpmkfhljiiaa
open Go.RowKit
theorem push_get (l : List Int) : ∀ (b : ByteArray) (i : Nat), i < b.size + l.length → (l.foldl (fun r m => r.push (UInt8.ofNat m.toNat)) b)[i]? = if i < b.size then b[i]? else (l[i - b.size]?).map (fun m => UInt8.ofNat m.toNat) := by
  induction l with
  | nil => intro b i hi; simp at hi; simp [hi]
  | cons a l ih =>
    intro b i hi
    rw [List.foldl_cons, ih _ _ (by rw [ByteArray.size_push]; simp at hi; omega), ByteArray.size_push]
    by_cases h : i < b.size
    · rw [if_pos (by omega), if_pos h]
      obtain ⟨⟨b⟩⟩ := b
      simp only [ByteArray.size, ByteArray.push] at h ⊢
      show (Array.push ⟨b⟩ _)[i]? = (⟨b⟩ : Array UInt8)[i]?
      rw [Array.getElem?_push, if_neg (by simpa using Nat.ne_of_lt h)]
    · by_cases e : i = b.size
      · subst e
        rw [if_pos (by omega), if_neg h]
        obtain ⟨⟨b⟩⟩ := b
        simp only [ByteArray.size, ByteArray.push]
        show (Array.push ⟨b⟩ _)[(⟨b⟩ : Array UInt8).size]? = _
        rw [Array.getElem?_push, if_pos rfl]
        simp
      · rw [if_neg (by omega), if_neg h, show i - b.size = (i - (b.size + 1)) + 1 by omega, List.getElem?_cons_succ]
theorem sg_txt (u : Nat → Nat) (n i : Nat) (hi : i < n) (hu : u i < 256) : sg (txt u n) i = u i := by
  unfold sg txt
  rw [push_get _ _ _ (by simpa using hi)]
  have e0 : ByteArray.empty.size = 0 := rfl
  rw [e0, if_neg (by omega), Nat.sub_zero, List.getElem?_map, List.getElem?_range hi]
  simp
  omega
theorem digv_sgn (d : Nat) (h : d < 16) : digv (sgn16 d) = d := by
  unfold digv sgn16
  by_cases h1 : d < 10
  · rw [if_pos h1, if_pos (by omega)]; omega
  · rw [if_neg h1, if_neg (by omega), if_pos (by omega)]; omega
theorem rdn_ext {B : Nat} {c d : Nat → Nat} : ∀ n, (∀ i, i < n → c i = d i) → rdn B c n = rdn B d n
  | 0, _ => rfl
  | n + 1, h => by rw [rdn, rdn, rdn_ext n (fun i hi => h i (by omega)), h n (by omega)]
theorem rdn_told {B N n : Nat} (hB : 0 < B) (hB2 : B ≤ 16) (hN : N / B ^ n = 0) : ∀ k, k ≤ n → rdn B (fun i => sgn16 (N / B ^ (n - 1 - i) % B)) k = N / B ^ (n - k)
  | 0, _ => by rw [rdn, Nat.sub_zero, hN]
  | k + 1, h => by
    rw [rdn, rdn_told hB hB2 hN k (by omega), digv_sgn _ (Nat.lt_of_lt_of_le (Nat.mod_lt _ hB) hB2)]
    rw [show n - k = (n - 1 - k) + 1 by omega, Nat.pow_succ, ← Nat.div_div_eq_div_mul, show n - (k + 1) = n - 1 - k by omega]
    rw [Nat.mul_comm]
    exact Nat.div_add_mod _ _
theorem rdn_lt {B : Nat} {c : Nat → Nat} : ∀ n, (∀ i, i < n → digv (c i) < B) → rdn B c n < B ^ n
  | 0, _ => by simp [rdn]
  | n + 1, h => by
    have h1 := rdn_lt n (fun i hi => h i (by omega))
    have h2 := h n (by omega)
    rw [rdn, Nat.pow_succ]
    have h3 : (rdn B c n + 1) * B ≤ B ^ n * B := Nat.mul_le_mul_right _ h1
    rw [Nat.add_mul, Nat.one_mul] at h3
    omega
theorem ndig_min {B : Nat} {c : Nat → Nat} {n m : Nat} (hn : 0 < n) (h : ∀ i, i < n → digv (c i) < B) (k : NDig B (rdn B c n) m) : m ≤ n :=
  Classical.byContradiction fun hc => k.2.2 n hn (by omega) (Nat.div_eq_of_lt (rdn_lt n h))
theorem rdn_lead {B : Nat} {c : Nat → Nat} (h : digv (c 0) = 0) : ∀ n, rdn B c (n + 1) = rdn B (fun i => c (i + 1)) n
  | 0 => by simp [rdn, h]
  | n + 1 => by rw [rdn, rdn_lead h n]; rfl
theorem sg_tell {B N n i : Nat} (hB : 0 < B) (hB2 : B ≤ 16) (hi : i < n) : sg (tell B N n) i = sgn16 (N / B ^ (n - 1 - i) % B) :=
  sg_txt _ n i hi (sgn16_lt _ (Nat.lt_of_lt_of_le (Nat.mod_lt _ hB) hB2))
theorem reads_tell {B N n : Nat} (hB : 0 < B) (hB2 : B ≤ 16) (hN : NDig B N n) (hw : N < 256 ^ 32) : Reads B (sg (tell B N n)) n ∧ rdn B (sg (tell B N n)) n = N := by
  have e : rdn B (sg (tell B N n)) n = N := by
    rw [rdn_ext n (fun i hi => sg_tell hB hB2 hi), rdn_told hB hB2 hN.2.1 n (Nat.le_refl _), Nat.sub_self, Nat.pow_zero, Nat.div_one]
  refine ⟨⟨fun i hi => ?_, by rw [e]; exact hw⟩, e⟩
  rw [sg_tell hB hB2 hi, digv_sgn _ (Nat.lt_of_lt_of_le (Nat.mod_lt _ hB) hB2)]
  exact Nat.mod_lt _ hB
theorem sgn10 (d : Nat) (h : d < 10) : sgn16 d ≤ 57 ∧ 48 ≤ sgn16 d := by unfold sgn16; rw [if_pos h]; omega
theorem get_data (x : ByteArray) (i : Nat) : x[i]? = x.data[i]? := by
  by_cases h : i < x.size
  · rw [getElem?_pos x i h, Array.getElem?_eq_getElem h]; rfl
  · rw [getElem?_neg x i h, Array.getElem?_eq_none (Nat.le_of_not_lt h)]
theorem sg_cat (s t : ByteArray) (i : Nat) : sg (s ++ t) i = if i < s.size then sg s i else sg t (i - s.size) := by
  unfold sg
  rw [get_data, get_data, get_data, ByteArray.data_append, Array.getElem?_append]
  by_cases h : i < s.size
  · rw [if_pos h, if_pos (show i < s.data.size from h)]
  · rw [if_neg h, if_neg (show ¬ i < s.data.size from h)]; rfl
theorem good_text {N n : Nat} (hN : NDig 10 N n) (hn : n ≤ 78) (hw : N < 256 ^ 32) : Good (tell 10 N n) ∧ rdn (pb (tell 10 N n)) (sg (pt (tell 10 N n))) (pt (tell 10 N n)).size = N := by
  have hp : ¬ Pre (tell 10 N n) := by
    intro hpre
    obtain ⟨h2, _, h1⟩ := pre_iff.1 hpre
    rw [tell_size] at h2
    rw [sg_tell (by omega) (by omega) (by omega)] at h1
    have := sgn10 (N / 10 ^ (n - 1 - 1) % 10) (Nat.mod_lt _ (by omega))
    omega
  have e1 : pt (tell 10 N n) = tell 10 N n := if_neg hp
  have e2 : pb (tell 10 N n) = 10 := if_neg hp
  have e3 : pm (tell 10 N n) = 78 := if_neg hp
  have hr := reads_tell (B := 10) (by omega) (by omega) hN hw
  unfold Good
  rw [e1, e2, e3, tell_size]
  exact ⟨⟨hn, hN.1, hn, hr.1⟩, hr.2⟩
theorem pt_ox (t : ByteArray) : Pre (ox ++ t) ∧ pt (ox ++ t) = t := by
  have hp : Pre (ox ++ t) := by
    refine pre_iff.2 ⟨?_, ?_, ?_⟩
    · rw [ByteArray.size_append]; have : ox.size = 2 := rfl; omega
    · rw [sg_cat]; rfl
    · rw [sg_cat]; rfl
  refine ⟨hp, ?_⟩
  unfold pt
  rw [if_pos hp]
  exact ByteArray.extract_append_eq_right rfl (ByteArray.size_append ..)
theorem good_hex {N n : Nat} (hN : NDig 16 N n) (hw : N < 256 ^ 32) : Good (ox ++ tell 16 N n) ∧ rdn (pb (ox ++ tell 16 N n)) (sg (pt (ox ++ tell 16 N n))) (pt (ox ++ tell 16 N n)).size = N := by
  have hn : n ≤ 64 := Classical.byContradiction fun h2 => hN.2.2 64 (by omega) (by omega) (Nat.div_eq_of_lt (Nat.lt_of_lt_of_le hw (by decide)))
  obtain ⟨hp, e1⟩ := pt_ox (tell 16 N n)
  have e2 : pb (ox ++ tell 16 N n) = 16 := if_pos hp
  have e3 : pm (ox ++ tell 16 N n) = 64 := if_pos hp
  have hr := reads_tell (B := 16) (by omega) (by omega) hN hw
  unfold Good
  rw [e1, e2, e3, ByteArray.size_append, tell_size]
  have : ox.size = 2 := rfl
  exact ⟨⟨by omega, hN.1, hn, hr.1⟩, hr.2⟩
def zero1 : ByteArray := ⟨#[48]⟩
theorem good_zero {N n : Nat} (hN : NDig 10 N n) (hn : n < 78) (hw : N < 256 ^ 32) : Good (zero1 ++ tell 10 N n) ∧ rdn (pb (zero1 ++ tell 10 N n)) (sg (pt (zero1 ++ tell 10 N n))) (pt (zero1 ++ tell 10 N n)).size = N := by
  have es : zero1.size = 1 := rfl
  have e0 : sg (zero1 ++ tell 10 N n) 0 = 48 := by rw [sg_cat]; rfl
  have eS : ∀ i, sg (zero1 ++ tell 10 N n) (i + 1) = sg (tell 10 N n) i := fun i => by rw [sg_cat, es, if_neg (by omega)]; rfl
  have hp : ¬ Pre (zero1 ++ tell 10 N n) := by
    intro hpre
    obtain ⟨_, _, h1⟩ := pre_iff.1 hpre
    have h3 := hN.1
    rw [eS 0, sg_tell (by omega) (by omega) (by omega)] at h1
    have := sgn10 (N / 10 ^ (n - 1 - 0) % 10) (Nat.mod_lt _ (by omega))
    omega
  have e1 : pt (zero1 ++ tell 10 N n) = zero1 ++ tell 10 N n := if_neg hp
  have e2 : pb (zero1 ++ tell 10 N n) = 10 := if_neg hp
  have e3 : pm (zero1 ++ tell 10 N n) = 78 := if_neg hp
  obtain ⟨⟨r1, r2⟩, r3⟩ := reads_tell (B := 10) (by omega) (by omega) hN hw
  have hz : digv (sg (zero1 ++ tell 10 N n) 0) = 0 := by rw [e0]; rfl
  have hr : rdn 10 (sg (zero1 ++ tell 10 N n)) (n + 1) = N := by
    rw [rdn_lead hz, rdn_ext n (fun i _ => eS i), r3]
  unfold Good
  rw [e1, e2, e3, ByteArray.size_append, tell_size, es, Nat.add_comm 1 n, hr]
  refine ⟨⟨by omega, by omega, by omega, fun i hi => ?_, by rw [hr]; exact hw⟩, rfl⟩
  rcases i with _ | i
  · rw [hz]; omega
  · rw [eS i]; exact r1 i (by omega)
theorem long_zero {N n : Nat} (hn : 78 ≤ n) : ¬ Good (zero1 ++ tell 10 N n) ∧ 78 < (zero1 ++ tell 10 N n).size := by
  have h : 78 < (zero1 ++ tell 10 N n).size := by rw [ByteArray.size_append, tell_size]; have : zero1.size = 1 := rfl; omega
  exact ⟨fun g => by have := g.1; omega, h⟩
/-- what is read well of a text whose second sign is an x: its hexadecimal form is no longer -/
theorem shorter_hex {s : ByteArray} (hg : Good s) (hx : 1 < s.size ∧ sg s 1 = 120) {m : Nat} (hm : NDig 16 (rdn (pb s) (sg (pt s)) (pt s).size) m) : (ox ++ tell 16 (rdn (pb s) (sg (pt s)) (pt s).size) m).size ≤ s.size := by
  have hp : Pre s := Classical.byContradiction fun hp => by
    have e1 : pt s = s := if_neg hp
    have e2 : pb s = 10 := if_neg hp
    have h := hg.2.2.2.1
    rw [e1, e2] at h
    have h2 := h 1 hx.1
    rw [hx.2] at h2
    revert h2; decide
  have e1 : pt s = s.extract 2 s.size := if_pos hp
  have e2 : pb s = 16 := if_pos hp
  have es : (pt s).size = s.size - 2 := by rw [e1, ByteArray.size_extract]; omega
  have h := hg.2.2.2.1
  rw [e2] at h hm
  have := ndig_min hg.2.1 h hm
  have h2 : ox.size = 2 := rfl
  have h3 := (pre_iff.1 hp).1
  rw [ByteArray.size_append, tell_size]
  omega
theorem shorter_text {s : ByteArray} (hg : Good s) (hx : ¬ (1 < s.size ∧ sg s 1 = 120)) {m : Nat} (hm : NDig 10 (rdn (pb s) (sg (pt s)) (pt s).size) m) : (tell 10 (rdn (pb s) (sg (pt s)) (pt s).size) m).size ≤ s.size := by
  have hp : ¬ Pre s := fun hp => hx ⟨by have := (pre_iff.1 hp).1; omega, (pre_iff.1 hp).2.2⟩
  have e1 : pt s = s := if_neg hp
  have e2 : pb s = 10 := if_neg hp
  have h := hg.2.2.2.1
  have h1 := hg.2.1
  rw [tell_size]
  rw [e1, e2] at h hm
  rw [e1] at h1
  exact ndig_min h1 h hm
end Go.Proofs.Ytpadpmkfhljiiaa
