/- Numbers and their bits, as words. -/
import Derived.Test.YtpadpmkfhljiiaaGreatMd5
import Derived.Laws.BitsAllLaws
import Derived.Test.YtpadpmkfhljiiaaGreatMd2
import Derived.Deep.MidRow
import Derived.Test.YtpadpmkfhljiiaaGreatMd4
namespace Go.Proofs.YtpadpmkfhljiiaaGreat
open Go.RowKit
theorem bitf_tb (X i : Nat) : bitf X i = (X.testBit i).toNat := by
  unfold bitf
  rw [Nat.testBit_eq_decide_div_mod_eq]
  by_cases h : X / 2 ^ i % 2 = 1
  · simp [h]
  · have h2 : X / 2 ^ i % 2 = 0 := by omega
    simp [h2]
theorem bitf_and (a b i : Nat) : bitf (a &&& b) i = bitf a i * bitf b i := by
  simp only [bitf_tb, Nat.testBit_and]
  cases a.testBit i <;> cases b.testBit i <;> rfl
theorem bitf_or (a b i : Nat) : bitf (a ||| b) i = bitf a i + bitf b i - bitf a i * bitf b i := by
  simp only [bitf_tb, Nat.testBit_or]
  cases a.testBit i <;> cases b.testBit i <;> rfl
theorem bitf_xor (a b i : Nat) : bitf (a ^^^ b) i = (bitf a i + bitf b i) % 2 := by
  simp only [bitf_tb, Nat.testBit_xor]
  cases a.testBit i <;> cases b.testBit i <;> rfl
theorem bitf_low (X m i : Nat) (h : i < m) : bitf (X % 2 ^ m) i = bitf X i := by rw [bitf_tb, bitf_tb, Nat.testBit_mod_two_pow]; simp [h]
theorem bitf_high (X m i : Nat) : bitf X (m + i) = bitf (X / 2 ^ m) i := by unfold bitf; rw [Nat.pow_add, Nat.div_div_eq_div_mul]
theorem bitf_zero {X i : Nat} (h : X < 2 ^ i) : bitf X i = 0 := by unfold bitf; rw [Nat.div_eq_of_lt h]
theorem p64 : (2 : Nat) ^ 64 = 18446744073709551616 := by decide
theorem p128 : (2 : Nat) ^ 128 = 340282366920938463463374607431768211456 := by decide
theorem p192 : (2 : Nat) ^ 192 = 6277101735386680763835789423207666416102355444464034512896 := by decide
theorem p256 : (2 : Nat) ^ 256 = 256 ^ 32 := by decide
theorem p256n : (256 : Nat) ^ 32 = 115792089237316195423570985008687907853269984665640564039457584007913129639936 := by decide
theorem isW_bits (f : Nat → Nat) (p0 p1 p2 p3 : Nat) (b0 : p0 < 18446744073709551616) (b1 : p1 < 18446744073709551616) (b2 : p2 < 18446744073709551616) (b3 : p3 < 18446744073709551616)
    (h0 : ∀ r, r < 64 → f r = bitf p0 r) (h1 : ∀ r, r < 64 → f (64 + r) = bitf p1 r) (h2 : ∀ r, r < 64 → f (128 + r) = bitf p2 r) (h3 : ∀ r, r < 64 → f (192 + r) = bitf p3 r) : IsW (bsum f 256 : Int) (p0 : Int) (p1 : Int) (p2 : Int) (p3 : Int) := by
  have one : ∀ (g : Nat → Nat) (p : Nat), p < 18446744073709551616 → (∀ r, r < 64 → g r = bitf p r) → bsum g 64 = p := fun g p hp h => by
    rw [bsum_ext 64 h, bsum_bitf, p64, Nat.mod_eq_of_lt hp]
  have e : bsum f 256 = p0 + 18446744073709551616 * (p1 + 18446744073709551616 * (p2 + 18446744073709551616 * p3)) := by
    have a1 := bsum_split f 64 192
    have a2 := bsum_split (fun r => f (64 + r)) 64 128
    have a3 := bsum_split (fun r => f (64 + (64 + r))) 64 64
    rw [one f p0 b0 h0, p64] at a1
    rw [one (fun r => f (64 + r)) p1 b1 h1, p64] at a2
    rw [one (fun r => f (64 + (64 + r))) p2 b2 (fun r hr => by rw [← h2 r hr]; congr 1; omega), one (fun r => f (64 + (64 + (64 + r)))) p3 b3 (fun r hr => by rw [← h3 r hr]; congr 1; omega), p64] at a3
    rw [show (256 : Nat) = 64 + 192 by rfl, a1, show (192 : Nat) = 64 + 128 by rfl, a2, show (128 : Nat) = 64 + 64 by rfl, a3]
  refine isW_of ⟨by omega, by unfold Bd; omega⟩ ⟨by omega, by unfold Bd; omega⟩ ⟨by omega, by unfold Bd; omega⟩ ⟨by omega, by unfold Bd; omega⟩ 0 ?_
  rw [e]; unfold V Bd; omega
/-- a word's limbs as numbers, and their bits -/
theorem limbs_nat {x a0 a1 a2 a3 : Int} (ha : IsW x a0 a1 a2 a3) {X : Nat} (hX : V a0 a1 a2 a3 = (X : Int)) : ∃ A0 A1 A2 A3 : Nat, a0 = (A0 : Int) ∧ a1 = (A1 : Int) ∧ a2 = (A2 : Int) ∧ a3 = (A3 : Int) ∧ (A0 < 18446744073709551616 ∧ A1 < 18446744073709551616 ∧ A2 < 18446744073709551616 ∧ A3 < 18446744073709551616) ∧
    (∀ r, r < 64 → bitf X r = bitf A0 r) ∧ (∀ r, r < 64 → bitf X (64 + r) = bitf A1 r) ∧ (∀ r, r < 64 → bitf X (128 + r) = bitf A2 r) ∧ (∀ r, r < 64 → bitf X (192 + r) = bitf A3 r) := by
  obtain ⟨u00, u01⟩ := ha.u0
  obtain ⟨u10, u11⟩ := ha.u1
  obtain ⟨u20, u21⟩ := ha.u2
  obtain ⟨u30, u31⟩ := ha.u3
  obtain ⟨A0, rfl⟩ := Int.eq_ofNat_of_zero_le u00
  obtain ⟨A1, rfl⟩ := Int.eq_ofNat_of_zero_le u10
  obtain ⟨A2, rfl⟩ := Int.eq_ofNat_of_zero_le u20
  obtain ⟨A3, rfl⟩ := Int.eq_ofNat_of_zero_le u30
  unfold Bd at u01 u11 u21 u31
  unfold V Bd at hX
  refine ⟨A0, A1, A2, A3, rfl, rfl, rfl, rfl, ⟨by omega, by omega, by omega, by omega⟩, fun r hr => ?_, fun r hr => ?_, fun r hr => ?_, fun r hr => ?_⟩
  · rw [← bitf_low X 64 r hr, p64]; congr 1; omega
  · rw [bitf_high, ← bitf_low _ 64 r hr, p64]; congr 1; omega
  · rw [bitf_high, ← bitf_low _ 64 r hr, p64, p128]; congr 1; omega
  · rw [bitf_high, ← bitf_low _ 64 r hr, p64, p192]; congr 1; omega
/-- bits one by one out of those of two words -/
theorem isW_bin {x y : Int} {a0 a1 a2 a3 b0 b1 b2 b3 : Int} (ha : IsW x a0 a1 a2 a3) (hb : IsW y b0 b1 b2 b3) {X Y : Nat} (hX : V a0 a1 a2 a3 = (X : Int)) (hY : V b0 b1 b2 b3 = (Y : Int)) (op nop : Nat → Nat → Nat) (z : Int → Int → Int) (hop : ∀ a b i, bitf (nop a b) i = op (bitf a i) (bitf b i)) (hlt : ∀ a b, a < 2 ^ 64 → b < 2 ^ 64 → nop a b < 2 ^ 64) (hz : ∀ a b : Nat, a < 18446744073709551616 → b < 18446744073709551616 → z (a : Int) (b : Int) = ((nop a b : Nat) : Int)) :
    IsW (bsum (fun i => op (bitf X i) (bitf Y i)) 256 : Int) (z a0 b0) (z a1 b1) (z a2 b2) (z a3 b3) := by
  obtain ⟨A0, A1, A2, A3, rfl, rfl, rfl, rfl, ⟨l0, l1, l2, l3⟩, f0, f1, f2, f3⟩ := limbs_nat ha hX
  obtain ⟨B0, B1, B2, B3, rfl, rfl, rfl, rfl, ⟨m0, m1, m2, m3⟩, g0, g1, g2, g3⟩ := limbs_nat hb hY
  rw [p64] at hlt
  rw [hz _ _ l0 m0, hz _ _ l1 m1, hz _ _ l2 m2, hz _ _ l3 m3]
  refine isW_bits _ _ _ _ _ (hlt _ _ l0 m0) (hlt _ _ l1 m1) (hlt _ _ l2 m2) (hlt _ _ l3 m3) (fun r hr => ?_) (fun r hr => ?_) (fun r hr => ?_) (fun r hr => ?_)
  · rw [f0 r hr, g0 r hr, hop]
  · rw [f1 r hr, g1 r hr, hop]
  · rw [f2 r hr, g2 r hr, hop]
  · rw [f3 r hr, g3 r hr, hop]
theorem bsum_compl {f g : Nat → Nat} (h : ∀ i, f i + g i = 1) : ∀ n, bsum f n + bsum g n + 1 = 2 ^ n
  | 0 => by simp [bsum]
  | n + 1 => by
    have ih := bsum_compl h n
    have e : f n * 2 ^ n + g n * 2 ^ n = 2 ^ n := by rw [← Nat.add_mul, h n, Nat.one_mul]
    rw [bsum, bsum, Nat.pow_succ]; omega
theorem bsum_zero {f : Nat → Nat} : ∀ n, (∀ i, i < n → f i = 0) → bsum f n = 0
  | 0, _ => rfl
  | n + 1, h => by rw [bsum, bsum_zero n (fun i hi => h i (by omega)), h n (by omega)]; simp
theorem bsum_bitf_all {X : Nat} (h : X < 256 ^ 32) : bsum (bitf X) 256 = X := by rw [bsum_bitf, p256, Nat.mod_eq_of_lt h]
theorem bsum_shl (Y K : Nat) (hK : K ≤ 256) : bsum (fun i => if i < K then 0 else bitf Y (i - K)) 256 = 2 ^ K * Y % 256 ^ 32 := by
  have e : (256 : Nat) = K + (256 - K) := by omega
  have h1 : bsum (fun i => if i < K then 0 else bitf Y (i - K)) 256 = 2 ^ K * (Y % 2 ^ (256 - K)) := by
    rw [show bsum (fun i => if i < K then 0 else bitf Y (i - K)) 256 = bsum (fun i => if i < K then 0 else bitf Y (i - K)) (K + (256 - K)) by rw [← e], bsum_split, bsum_zero K (fun i hi => by rw [if_pos hi]), Nat.zero_add, bsum_ext (g := bitf Y) (256 - K) (fun i _ => by rw [if_neg (by omega)]; congr 1; omega), bsum_bitf]
  rw [h1, ← p256, show (2 : Nat) ^ 256 = 2 ^ K * 2 ^ (256 - K) by rw [← Nat.pow_add]; congr 1, Nat.mul_mod_mul_left]
theorem bsum_shr (Y K : Nat) (hY : Y < 256 ^ 32) : bsum (fun i => if i + K < 256 then bitf Y (i + K) else 0) 256 = Y / 2 ^ K := by
  have h1 : Y / 2 ^ K < 256 ^ 32 := Nat.lt_of_le_of_lt (Nat.div_le_self _ _) hY
  rw [← bsum_bitf_all h1]
  refine bsum_ext 256 (fun i _ => ?_)
  rw [← bitf_high, Nat.add_comm K i]
  by_cases h : i + K < 256
  · rw [if_pos h]
  · rw [if_neg h, bitf_zero (Nat.lt_of_lt_of_le hY (by rw [← p256]; exact Nat.pow_le_pow_right (by decide) (by omega)))]
theorem bits_ex (X : Nat) : ∀ n, X < 2 ^ n → ∃ B, B ≤ n ∧ X < 2 ^ B ∧ (0 < B → 2 ^ (B - 1) ≤ X)
  | 0, h => ⟨0, by omega, h, by omega⟩
  | n + 1, h => by
    by_cases h1 : X < 2 ^ n
    · obtain ⟨B, b1, b2, b3⟩ := bits_ex X n h1
      exact ⟨B, by omega, b2, b3⟩
    · exact ⟨n + 1, by omega, h, fun _ => by rw [Nat.add_sub_cancel]; omega⟩
theorem natpow (B : Nat) : ((2 ^ B : Nat) : Int) = (2 : Int) ^ B := by rw [Int.natCast_pow]; rfl
theorem bitsOf_nat {X B : Nat} (h1 : X < 2 ^ B) (h2 : 0 < B → 2 ^ (B - 1) ≤ X) : BitsOf (X : Int) B := ⟨by rw [← natpow]; omega, fun h => by rw [← natpow]; have := h2 h; omega⟩
theorem bitsOf_inj {v : Int} {B C : Nat} (hb : BitsOf v B) (hc : BitsOf v C) : B = C := by
  have key : ∀ {B C : Nat}, BitsOf v B → BitsOf v C → B ≤ C := fun {B C} hb hc => by
    rcases Nat.lt_or_ge C B with h | h
    · have h1 := hb.2 (by omega)
      have h2 := hc.1
      rw [← natpow] at h1 h2
      have h3 : 2 ^ C ≤ 2 ^ (B - 1) := Nat.pow_le_pow_right (by decide) (by omega)
      omega
    · exact h
  exact Nat.le_antisymm (key hb hc) (key hc hb)
theorem zerosAhead_is {x : Int} {a0 a1 a2 a3 : Int} (ha : IsW x a0 a1 a2 a3) {X B : Nat} (hX : V a0 a1 a2 a3 = (X : Int)) (hB : BitsOf (X : Int) B) (w : World) :
    Calls Tryz.prog 109 #[.agg #[.int .u64 a0, .int .u64 a1, .int .u64 a2, .int .u64 a3]] w fun e w' => e = .returned (.int .i64 (256 - (B : Int))) ∧ Below w.heap.size w w' := by
  refine (zerosAhead_any x a0 a1 a2 a3 w ha).mono ?_
  rintro e w' ⟨C, rfl, _, hC, hBe⟩
  rw [hX] at hC
  rw [bitsOf_inj hB hC]
  exact ⟨rfl, hBe⟩
end Go.Proofs.YtpadpmkfhljiiaaGreat
/- Rows of bytes; word.Bytes. -/
namespace Go.Proofs.YtpadpmkfhljiiaaGreat
open Go.RowKit
theorem below_setCellsB {B : Nat} {a : World} (b : Nat) (hb : B ≤ b) : ∀ (vs : List Value) (o : Nat) (w : World), Below B a w → Below B a (w.setCells b o vs)
  | [], _, _, h => h
  | v :: r, o, w, h => by rw [World.setCells]; exact below_setCellsB b hb r (o + 1) _ (h.setCell hb v)
theorem results_cellB {fn : Func} {p : Tmp} {ty : TypeId} (h : fn.results = #[.cell p ty]) (tmps : Array Value) (P : Program) (w : World) (a : Addr) (ha : tmps.getD p undef = .pointer (some a)) {v : Value} (hl : (loadVar ty a).run P w = .ok v w) : (results fn tmps).run P w = .ok v w := by
  have ha' : tmps[p]?.getD undef = .pointer (some a) := by simpa using ha
  simp only [results, h]
  simp [ha', hl, asAddr]
/-- the first n cells of block b are the numbers v, and may be written -/
def RowB (w : World) (b n : Nat) (v : Nat → Int) : Prop := ∀ i, i < n → w.cell? ⟨b, i, none⟩ = some (.int .u8 (v i)) ∧ w.frozen? ⟨b, i, none⟩ = false
def rowB (n : Nat) (v : Nat → Int) : List Value := (List.range n).map fun i => .int .u8 (v i)
theorem rowB_len (n : Nat) (v : Nat → Int) : (rowB n v).length = n := by simp [rowB]
theorem rowB_at (n : Nat) (v : Nat → Int) (i : Nat) (h : i < n) : (rowB n v)[i]? = some (.int .u8 (v i)) := by simp [rowB, h]
theorem rowB_ext {n : Nat} {u v : Nat → Int} (h : ∀ i, i < n → u i = v i) : rowB n u = rowB n v := by
  simp only [rowB]; apply List.map_congr_left; intro i hi; rw [h i (List.mem_range.1 hi)]
theorem rowB_one (n : Nat) (v : Nat → Int) : (rowB n v).toArray.all (·.oneCell') = true :=
  all_oneCell_toArray (by intro x hx; simp only [rowB, List.mem_map] at hx; obtain ⟨i, _, rfl⟩ := hx; rfl)
theorem RowB.ext {w : World} {b n : Nat} {u v : Nat → Int} (h : RowB w b n u) (e : ∀ i, i < n → u i = v i) : RowB w b n v := fun i hi => by rw [← e i hi]; exact h i hi
theorem RowB.lt {w : World} {b n : Nat} {v : Nat → Int} (h : RowB w b n v) (hn : 0 < n) : b < w.heap.size := World.block_lt_of_cell? w _ (h 0 hn).1
theorem RowB.below {w w' : World} {B b n : Nat} {v : Nat → Int} (h : RowB w b n v) (k : Below B w w') (hb : b < B) : RowB w' b n v := fun i hi =>
  ⟨(k.cell (p := ⟨b, i, none⟩) hb).trans (h i hi).1, (k.frozen (p := ⟨b, i, none⟩) hb).trans (h i hi).2⟩
theorem RowB.drew {w : World} {b n : Nat} {v : Nat → Int} (h : RowB w b n v) : RowB w.drew b n v := fun i hi => by simpa using h i hi
theorem RowB.alloc {w : World} {b n : Nat} {v : Nat → Int} (h : RowB w b n v) (o : Obj) : RowB (w.alloc o) b n v := fun i hi => by
  have hb := World.block_lt_of_cell? w _ (h i hi).1
  exact ⟨by rw [World.cell?_alloc_lt _ _ _ hb]; exact (h i hi).1, by rw [World.frozen?_alloc_past _ _ _ hb]; exact (h i hi).2⟩
theorem RowB.set_other {w : World} {b n : Nat} {v : Nat → Int} (h : RowB w b n v) (p : Addr) (x : Value) (hp : p.block ≠ b) : RowB (w.setCell p x) b n v := fun i hi =>
  ⟨by rw [World.cell?_setCell_other _ _ _ _ (by intro e; subst e; exact hp rfl)]; exact (h i hi).1, by rw [World.frozen?_setCell]; exact (h i hi).2⟩
theorem RowB.set {w : World} {b n : Nat} {v : Nat → Int} (h : RowB w b n v) (k : Nat) (x : Int) (hk : k < n) : RowB (w.setCell ⟨b, k, none⟩ (.int .u8 x)) b n (fun i => if i = k then x else v i) := fun i hi => by
  refine ⟨?_, by rw [World.frozen?_setCell]; exact (h i hi).2⟩
  dsimp only
  by_cases e : i = k
  · subst e; rw [World.cell?_setCell_same _ _ _ (h i hi).1, if_pos rfl]
  · rw [World.cell?_setCell_other _ _ _ _ (by intro e'; injection e' with _ e' _; exact e e'.symm), if_neg e]; exact (h i hi).1
theorem RowB.new (w : World) (t : TypeId) (n : Nat) (v : Nat → Int) : RowB (w.alloc (.cells (rowB n v).toArray t)) w.heap.size n v := fun i hi => by
  rw [World.cell?_alloc_at _ _ _ _ rfl]
  exact ⟨by simp [rowB, hi], by simp [World.frozen?_alloc_at]⟩
theorem RowB.range {w : World} {b n : Nat} {v : Nat → Int} (h : RowB w b n v) : w.rangeAt b 0 (rowB n v) := fun j x hx => by
  have hj : j < n := by have := (List.getElem?_eq_some_iff.1 hx).1; rwa [rowB_len] at this
  rw [rowB_at n v j hj] at hx; rw [Nat.zero_add, ← hx]; exact (h j hj).1
theorem RowB.there {w : World} {b n : Nat} {v : Nat → Int} (h : RowB w b n v) : w.there b 0 n := fun j hj => by
  rw [Nat.zero_add, (h j hj).1]; exact ⟨rfl, (h j hj).2⟩
theorem RowB.of_range {w : World} {b n : Nat} {u v : Nat → Int} (h : RowB w b n u) : RowB (w.setCells b 0 (rowB n v)) b n v := fun i hi => by
  have := World.rangeAt_setCells_same w b 0 (rowB n v) (by rw [rowB_len]; exact h.there) i _ (rowB_at n v i hi)
  rw [Nat.zero_add] at this
  exact ⟨this, by rw [World.frozen?_setCells]; exact (h i hi).2⟩
theorem zeroB32 : (#[.int .u8 0, .int .u8 0, .int .u8 0, .int .u8 0, .int .u8 0, .int .u8 0, .int .u8 0, .int .u8 0, .int .u8 0, .int .u8 0, .int .u8 0, .int .u8 0, .int .u8 0, .int .u8 0, .int .u8 0, .int .u8 0, .int .u8 0, .int .u8 0, .int .u8 0, .int .u8 0, .int .u8 0, .int .u8 0, .int .u8 0, .int .u8 0, .int .u8 0, .int .u8 0, .int .u8 0, .int .u8 0, .int .u8 0, .int .u8 0, .int .u8 0, .int .u8 0] : Array Value) = (rowB 32 fun _ => 0).toArray := by rfl
theorem store32 {ops : Array Oper} {rest : List Oper} {op : Oper} {a : Act} {w : World} {Q : Exit → Act → World → Prop} (g : Nat → Int) (b : Nat) (hgd : op.guard = none) (x y : Operand) (ho : op.op = .store 45 x y)
    (hx : a.eval x = .pointer (some ⟨b, 0, none⟩)) (hy : a.eval y = .agg (rowB 32 g).toArray) (ht : w.there b 0 32)
    (h : wpList Tryz.prog ops Q rest (a.put op.dst undef) (w.setCells b 0 (rowB 32 g))) : wpList Tryz.prog ops Q (op :: rest) a w :=
  wpList_store_mid hgd 45 x y ho b 0 (rowB 32 g).toArray hx hy (by rw [List.size_toArray, rowB_len]; exact ht) (by rw [List.size_toArray, rowB_len]; kernel_rfl) (rowB_one 32 g) h
theorem load32 {ops : Array Oper} {rest : List Oper} {op : Oper} {a : Act} {w : World} {Q : Exit → Act → World → Prop} (g : Nat → Int) (b : Nat) (hgd : op.guard = none) (x : Operand) (ho : op.op = .load 45 x)
    (hx : a.eval x = .pointer (some ⟨b, 0, none⟩)) (hr : w.rangeAt b 0 (rowB 32 g))
    (h : wpList Tryz.prog ops Q rest (a.put op.dst (.agg (rowB 32 g).toArray)) w) : wpList Tryz.prog ops Q (op :: rest) a w :=
  wpList_load_mid hgd 45 x ho b 0 hx (rowB 32 g) _ hr Tryz.underlying45 rfl (by rw [rowB_len]; kernel_rfl) h
theorem loadVar32 {w : World} {b : Nat} {g : Nat → Int} (h : w.rangeAt b 0 (rowB 32 g)) : (loadVar 45 ⟨b, 0, none⟩).run Tryz.prog w = .ok (.agg (rowB 32 g).toArray) w :=
  run_loadVar_mid w b 0 45 (rowB 32 g) _ h Tryz.underlying45 rfl (by rw [rowB_len]; kernel_rfl)
theorem store32_new {ops : Array Oper} {rest : List Oper} {op : Oper} {a : Act} {w W : World} {Q : Exit → Act → World → Prop} (g : Nat → Int) (hgd : op.guard = none) (x y : Operand) (ho : op.op = .store 45 x y)
    (hx : a.eval x = .pointer (some ⟨W.heap.size, 0, none⟩)) (hy : a.eval y = .agg (rowB 32 g).toArray) (hB : Below w.heap.size w W)
    (h : ∀ v, RowB v W.heap.size 32 g → Below w.heap.size w v → Below W.heap.size W v → wpList Tryz.prog ops Q rest (a.put op.dst undef) v) :
    wpList Tryz.prog ops Q (op :: rest) a (W.alloc (.cells #[.int .u8 0, .int .u8 0, .int .u8 0, .int .u8 0, .int .u8 0, .int .u8 0, .int .u8 0, .int .u8 0, .int .u8 0, .int .u8 0, .int .u8 0, .int .u8 0, .int .u8 0, .int .u8 0, .int .u8 0, .int .u8 0, .int .u8 0, .int .u8 0, .int .u8 0, .int .u8 0, .int .u8 0, .int .u8 0, .int .u8 0, .int .u8 0, .int .u8 0, .int .u8 0, .int .u8 0, .int .u8 0, .int .u8 0, .int .u8 0, .int .u8 0, .int .u8 0] 45)) := by
  rw [zeroB32]
  have r0 := RowB.new W 45 32 fun _ => 0
  have b0 : Below W.heap.size W (W.alloc (.cells (rowB 32 fun _ => 0).toArray 45)) := (Below.refl _ _).alloc (by omega) _
  refine store32 g W.heap.size hgd x y ho hx hy r0.there (h _ r0.of_range ?_ (below_setCellsB _ (Nat.le_refl _) _ _ _ b0))
  exact below_setCellsB _ hB.size _ _ _ (hB.trans (b0.mono hB.size))
/-- byte i of a word, number 0 the lowest -/
def bw (x0 x1 x2 x3 : Int) (i : Nat) : Int := limb x0 x1 x2 x3 (i / 8) / 2 ^ (8 * (i % 8)) % 256
def bb (x0 x1 x2 x3 : Int) (j : Nat) : Int := bw x0 x1 x2 x3 (31 - j)
def ByInv (w : World) (x0 x1 x2 x3 : Int) (n : Nat) (W : World) : Prop := Below w.heap.size w W ∧ Box W w.heap.size x0 x1 x2 x3 ∧ RowB W (w.heap.size + 1) 32 (fun _ => 0) ∧ ∃ u : Nat → Int, RowB W (w.heap.size + 1 + 1) 32 u ∧ ∀ j, j < n → u (31 - j) = bw x0 x1 x2 x3 j
theorem ByInv.step {w W : World} {x0 x1 x2 x3 : Int} {n m : Nat} (h : ByInv w x0 x1 x2 x3 n W) (hn : n < 32) (hm : m + n = 31) {y : Int} (ey : bw x0 x1 x2 x3 n = y) : ByInv w x0 x1 x2 x3 (n + 1) (W.setCell ⟨w.heap.size + 1 + 1, m, none⟩ (.int .u8 y)) := by
  obtain ⟨hB, hA, hZ, u, hU, hu⟩ := h
  refine ⟨hB.setCell (by simp; omega) _, hA.other _ _ (by simp; omega), hZ.set_other _ _ (by simp), _, hU.set m y (by omega), ?_⟩
  intro j hj
  by_cases e : j = n
  · subst e; rw [if_pos (by omega), ey]
  · rw [if_neg (by omega), hu j (by omega)]
set_option maxHeartbeats 1000000 in
set_option maxRecDepth 100000 in
theorem bytes_is (x0 x1 x2 x3 : Int) (w : World) : Calls Tryz.prog 64 #[.agg #[.int .u64 x0, .int .u64 x1, .int .u64 x2, .int .u64 x3]] w fun e w' => e = .returned (.agg (rowB 32 (bb x0 x1 x2 x3)).toArray) ∧ Below w.heap.size w w' := by
  go_enter Tryz.func64, Tryz.ntmps64
  go_wp2
  go_loopw [5] (fun i wr => ∃ k : Nat, k ≤ 32 ∧ i = .int .i64 k ∧ ByInv w x0 x1 x2 x3 k wr) (fun i _ => 32 - (intOf i).toNat)
  case atStart =>
    rw [zeroB32]
    refine ⟨0, Nat.zero_le _, rfl, ?_, ((Box.new w _ x0 x1 x2 x3).alloc _).alloc _, ?_, fun _ => 0, ?_, ?_⟩
    · exact (((Below.refl _ _).alloc (by omega) _).alloc (by simp) _).alloc (by simp; omega) _
    · have := (RowB.new (w.alloc (.cells #[.int .u64 x0, .int .u64 x1, .int .u64 x2, .int .u64 x3] 24)) 45 32 fun _ => 0).alloc (.cells (rowB 32 fun _ => 0).toArray 45)
      simpa using this
    · have := RowB.new ((w.alloc (.cells #[.int .u64 x0, .int .u64 x1, .int .u64 x2, .int .u64 x3] 24)).alloc (.cells (rowB 32 fun _ => 0).toArray 45)) 45 32 fun _ => 0
      simpa using this
    · intro j hj; omega
  case round =>
    obtain ⟨k, hk, rfl, hI⟩ := hrel
    by_cases hk5 : k < 32
    · have kI : ((k : Int) < 32) := by omega
      obtain ⟨d, ed⟩ : ∃ d : Nat, d = k / 8 := ⟨_, rfl⟩
      obtain ⟨r, er⟩ : ∃ r : Nat, r = k % 8 := ⟨_, rfl⟩
      obtain ⟨s, es⟩ : ∃ s : Nat, s = 8 * r := ⟨_, rfl⟩
      obtain ⟨m, em⟩ : ∃ m : Nat, m + k = 31 := ⟨31 - k, by omega⟩
      have t0 : (31 : Int) - (k : Int) = (m : Int) := by omega
      have t1 : Int.tdiv (k : Int) 8 = (d : Int) := by rw [Int.tdiv_eq_ediv_of_nonneg (by omega)]; omega
      have t2 : Int.tmod (k : Int) 8 = (r : Int) := by rw [Int.tmod_eq_emod_of_nonneg (by omega)]; omega
      have t3 : (8 : Int) * (r : Int) = (s : Int) := by omega
      have q0 : IntKind.i64.wrap (m : Int) = (m : Int) := by rw [IntKind.wrap_i64]; omega
      have q1 : IntKind.i64.wrap (d : Int) = (d : Int) := by rw [IntKind.wrap_i64]; omega
      have q2 : IntKind.i64.wrap (r : Int) = (r : Int) := by rw [IntKind.wrap_i64]; omega
      have q3 : IntKind.i64.wrap (s : Int) = (s : Int) := by rw [IntKind.wrap_i64]; omega
      have q4 : IntKind.u64.wrap (s : Int) = (s : Int) := by rw [IntKind.wrap_u64]; omega
      have q5 : min s 64 = s := by omega
      have dI : (d : Int) < 4 := by omega
      have mI : (m : Int) < 32 := by omega
      have m0 : (0 : Int) ≤ (m : Int) := by omega
      have sI : (0 : Int) ≤ (s : Int) := by omega
      have ca := hI.2.1.1 d (by omega)
      obtain ⟨u, hU, hu⟩ := hI.2.2.2
      have cb := (hU m (by omega)).1
      have fb := (hU m (by omega)).2
      obtain ⟨y, ey⟩ : ∃ y, bw x0 x1 x2 x3 k = y := ⟨_, rfl⟩
      have HI : Hid _ := hI
      have EY : Hid (bw x0 x1 x2 x3 k = y) := ey
      have EM : Hid (m + k = 31) := em
      have ev : IntKind.u8.wrap (limb x0 x1 x2 x3 d / 2 ^ s) = y := by
        rw [← ey, bw, ← ed, ← er, ← es, IntKind.wrap_u8]
      generalize limb x0 x1 x2 x3 d = z9 at ca ev
      generalize u m = z at cb
      clear hk ed er es hU hu ey hI em
      go_wp2
      go_roundw
      case rel => exact ⟨k + 1, by omega, by go_num, ByInv.step HI.out hk5 EM.out EY.out⟩
      case measure => simp [intOf]; omega
    · obtain rfl : k = 32 := by omega
      obtain ⟨hB, hA, hZ, u, hU, hu⟩ := hI
      have hl : rowB 32 u = rowB 32 (bb x0 x1 x2 x3) := rowB_ext fun i hi => by
        have := hu (31 - i) (by omega)
        rw [show 31 - (31 - i) = i by omega] at this
        exact this
      have hr := hU.range
      rw [hl] at hr
      have hW := @RowB.of_range wr (w.heap.size + 1) 32 (fun _ => 0) (bb x0 x1 x2 x3) hZ
      have hBW := below_setCellsB (w.heap.size + 1) (by omega) (rowB 32 (bb x0 x1 x2 x3)) 0 wr hB
      have HA : Hid _ := hr
      have HZ : Hid _ := hZ.there
      clear hr hZ hA hU hu hl
      go_wp2_with (first
        | refine load32 (bb x0 x1 x2 x3) (w.heap.size + 1 + 1) rfl _ rfl rfl HA.out ?_
        | refine store32 (bb x0 x1 x2 x3) (w.heap.size + 1) rfl _ _ rfl rfl rfl HZ.out ?_)
      refine bodyPost_ret (v := .agg (rowB 32 (bb x0 x1 x2 x3)).toArray) ?_ rfl ⟨rfl, hBW⟩
      exact results_cellB Tryz.results64 _ _ _ ⟨w.heap.size + 1, 0, none⟩ rfl (loadVar32 hW.range)
theorem bb_range (x0 x1 x2 x3 : Int) (j : Nat) : 0 ≤ bb x0 x1 x2 x3 j ∧ bb x0 x1 x2 x3 j < 256 := by unfold bb bw; omega
end Go.Proofs.YtpadpmkfhljiiaaGreat
/- word.Byte. -/
namespace Go.Proofs.YtpadpmkfhljiiaaGreat
open Go.RowKit
set_option maxHeartbeats 1000000 in
set_option maxRecDepth 100000 in
theorem byte_is (k : Nat) (hk : k < 32) (x0 x1 x2 x3 : Int) (w : World) : Calls Tryz.prog 46 #[.agg #[.int .u64 (k : Int), .int .u64 0, .int .u64 0, .int .u64 0], .agg #[.int .u64 x0, .int .u64 x1, .int .u64 x2, .int .u64 x3]] w fun e w' => e = .returned (.agg #[.int .u64 (bb x0 x1 x2 x3 k), .int .u64 0, .int .u64 0, .int .u64 0]) ∧ Below w.heap.size w w' := by
  have BE : Hid (∀ W : World, Calls Tryz.prog 100 #[.agg #[.int .u64 (k : Int), .int .u64 0, .int .u64 0, .int .u64 0], .int .u64 32] W fun e w' => e = .returned (.tuple #[.int .u64 (k : Int), .bool true]) ∧ Below W.heap.size W w') := fun W => below_lt (k : Int) 32 _ _ _ _ W (isW_lit _ (by omega) (by omega)) (isW_lit 32 (by omega) (by omega)) (by unfold MM; omega)
  have BY : Hid (∀ W : World, Calls Tryz.prog 64 #[.agg #[.int .u64 x0, .int .u64 x1, .int .u64 x2, .int .u64 x3]] W fun e w' => e = .returned (.agg (rowB 32 (bb x0 x1 x2 x3)).toArray) ∧ Below W.heap.size W w') := fun W => bytes_is x0 x1 x2 x3 W
  have hr := bb_range x0 x1 x2 x3 k
  obtain ⟨f, ef⟩ : ∃ f, f = bb x0 x1 x2 x3 := ⟨_, rfl⟩
  rw [← ef] at BY hr ⊢
  obtain ⟨y, ey⟩ : ∃ y, y = f k := ⟨_, rfl⟩
  rw [← ey] at hr ⊢
  have EY : Hid (y = f k) := ey
  have wy : IntKind.u64.wrap y = y := by rw [IntKind.wrap_u64]; omega
  have kI : (k : Int) < 32 := by omega
  have kw : IntKind.i64.wrap (k : Int) = (k : Int) := by rw [IntKind.wrap_i64]; omega
  have I0 : Hid (∀ W, W = (((w.alloc (.cells #[.int .u64 (k : Int), .int .u64 0, .int .u64 0, .int .u64 0] 24)).alloc (.cells #[.int .u64 x0, .int .u64 x1, .int .u64 x2, .int .u64 x3] 24)).alloc (.cells #[.int .u64 0, .int .u64 0, .int .u64 0, .int .u64 0] 24)) → Below w.heap.size w W ∧ Box W (w.heap.size + 1) x0 x1 x2 x3 ∧ Box W (w.heap.size + 1 + 1) 0 0 0 0) := fun W e => by
    subst e
    have h1 := (Box.new (w.alloc (.cells #[.int .u64 (k : Int), .int .u64 0, .int .u64 0, .int .u64 0] 24)) 24 x0 x1 x2 x3).alloc (.cells #[.int .u64 0, .int .u64 0, .int .u64 0, .int .u64 0] 24)
    have h2 := Box.new ((w.alloc (.cells #[.int .u64 (k : Int), .int .u64 0, .int .u64 0, .int .u64 0] 24)).alloc (.cells #[.int .u64 x0, .int .u64 x1, .int .u64 x2, .int .u64 x3] 24)) 24 0 0 0 0
    rw [World.size_alloc] at h1
    rw [World.size_alloc, World.size_alloc] at h2
    exact ⟨(((Below.refl _ _).alloc (by omega) _).alloc (by simp) _).alloc (by simp; omega) _, h1, h2⟩
  clear ef hr ey
  go_enter Tryz.func46, Tryz.ntmps46
  go_wp2_with fail
  obtain ⟨W0, e0⟩ : ∃ W0, W0 = (((w.alloc (.cells #[.int .u64 (k : Int), .int .u64 0, .int .u64 0, .int .u64 0] 24)).alloc (.cells #[.int .u64 x0, .int .u64 x1, .int .u64 x2, .int .u64 x3] 24)).alloc (.cells #[.int .u64 0, .int .u64 0, .int .u64 0, .int .u64 0] 24)) := ⟨_, rfl⟩
  obtain ⟨b0, b1, b2⟩ := I0.out W0 e0
  have A0 : Hid (Below w.heap.size w W0) := b0
  have A1 : Hid (Box W0 (w.heap.size + 1) x0 x1 x2 x3) := b1
  have A2 : Hid (Box W0 (w.heap.size + 1 + 1) 0 0 0 0) := b2
  rw [← e0]
  clear e0 b0 b1 b2 I0
  refine (BE.out _).mono ?_
  rintro e v1 ⟨rfl, hB⟩
  have C0 : Hid (Below w.heap.size w v1) := Below.trans A0.out (hB.mono A0.out.size)
  have C1 : Hid (Box v1 (w.heap.size + 1) x0 x1 x2 x3) := Box.below A1.out hB (Box.lt A1.out)
  have C2 : Hid (Box v1 (w.heap.size + 1 + 1) 0 0 0 0) := Box.below A2.out hB (Box.lt A2.out)
  clear hB A0 A1 A2 BE
  obtain ⟨p0, p1, p2, p3, _⟩ := Box.facts C1.out
  go_upto_region 4 with fail
  go_wp2_with fail
  refine (BY.out _).mono ?_
  rintro e v2 ⟨rfl, hB⟩
  have D0 : Hid (Below w.heap.size w v2) := Below.trans C0.out (hB.mono C0.out.size)
  have D2 : Hid (Box v2 (w.heap.size + 1 + 1) 0 0 0 0) := Box.below C2.out hB (Box.lt C2.out)
  clear hB C0 C1 C2 BY p0 p1 p2 p3
  obtain ⟨cs, hcs⟩ : ∃ cs, cs = (rowB 32 f).toArray := ⟨_, rfl⟩
  rw [← hcs]
  have HC : Hid (cs = (rowB 32 f).toArray) := hcs
  clear hcs
  go_upto_region 5 with (rw [HC.out]; refine store32_new f rfl _ _ rfl rfl rfl D0.out ?_; intro v3 hr hw hv; (have E0 : Hid (Below w.heap.size w v3) := hw); (have E2 : Hid (Box v3 (w.heap.size + 1 + 1) 0 0 0 0) := Box.below D2.out hv (Box.lt D2.out)); (have c0 := (hr k hk).1); rw [← EY.out] at c0; clear hr hw hv)
  clear D0 D2
  obtain ⟨q0, q1, q2, q3, f0, f1, f2, f3⟩ := Box.facts E2.out
  go_wp2_with (go_at_call 66; refine (fromUint_any _ _).mono ?_; rintro e v4 ⟨rfl, hB⟩; (have F0 : Hid (Below w.heap.size w v4) := Below.trans E0.out (hB.mono E0.out.size)); (have F2 : Hid (Box v4 (w.heap.size + 1 + 1) 0 0 0 0) := Box.below E2.out hB (Box.lt E2.out)); clear hB q0 q1 q2 q3 f0 f1 f2 f3 c0 E0 E2; obtain ⟨q0, q1, q2, q3, f0, f1, f2, f3⟩ := Box.facts F2.out)
  exact bodyPost_ret (v := .agg #[.int .u64 y, .int .u64 0, .int .u64 0, .int .u64 0]) (by simp [results, Tryz.results46, go_sem, q0, q1, q2, q3]) rfl ⟨rfl, below_put F0.out (by omega) y 0 0 0⟩
end Go.Proofs.YtpadpmkfhljiiaaGreat
/- gather: a word out of its bytes; FromBytes; Size. -/
namespace Go.Proofs.YtpadpmkfhljiiaaGreat
open Go.RowKit
/-- the first n cells of block b are the numbers v, and may be written -/
def RowV (w : World) (b n : Nat) (v : Nat → Int) : Prop := ∀ i, i < n → w.cell? ⟨b, i, none⟩ = some (.int .u64 (v i)) ∧ w.frozen? ⟨b, i, none⟩ = false
theorem RowV.ext {w : World} {b n : Nat} {u v : Nat → Int} (h : RowV w b n u) (e : ∀ i, i < n → u i = v i) : RowV w b n v := fun i hi => by rw [← e i hi]; exact h i hi
theorem RowV.lt {w : World} {b n : Nat} {v : Nat → Int} (h : RowV w b n v) (hn : 0 < n) : b < w.heap.size := World.block_lt_of_cell? w _ (h 0 hn).1
theorem RowV.below {w w' : World} {B b n : Nat} {v : Nat → Int} (h : RowV w b n v) (k : Below B w w') (hb : b < B) : RowV w' b n v := fun i hi =>
  ⟨(k.cell (p := ⟨b, i, none⟩) hb).trans (h i hi).1, (k.frozen (p := ⟨b, i, none⟩) hb).trans (h i hi).2⟩
theorem RowV.alloc {w : World} {b n : Nat} {v : Nat → Int} (h : RowV w b n v) (o : Obj) : RowV (w.alloc o) b n v := fun i hi => by
  have hb := World.block_lt_of_cell? w _ (h i hi).1
  exact ⟨by rw [World.cell?_alloc_lt _ _ _ hb]; exact (h i hi).1, by rw [World.frozen?_alloc_past _ _ _ hb]; exact (h i hi).2⟩
theorem RowV.set_other {w : World} {b n : Nat} {v : Nat → Int} (h : RowV w b n v) (p : Addr) (x : Value) (hp : p.block ≠ b) : RowV (w.setCell p x) b n v := fun i hi =>
  ⟨by rw [World.cell?_setCell_other _ _ _ _ (by intro e; subst e; exact hp rfl)]; exact (h i hi).1, by rw [World.frozen?_setCell]; exact (h i hi).2⟩
theorem RowV.set {w : World} {b n : Nat} {v : Nat → Int} (h : RowV w b n v) (k : Nat) (x : Int) (hk : k < n) : RowV (w.setCell ⟨b, k, none⟩ (.int .u64 x)) b n (fun i => if i = k then x else v i) := fun i hi => by
  refine ⟨?_, by rw [World.frozen?_setCell]; exact (h i hi).2⟩
  dsimp only
  by_cases e : i = k
  · subst e; rw [World.cell?_setCell_same _ _ _ (h i hi).1, if_pos rfl]
  · rw [World.cell?_setCell_other _ _ _ _ (by intro e'; injection e' with _ e' _; exact e e'.symm), if_neg e]; exact (h i hi).1
theorem RowV.box {w : World} {b : Nat} {a0 a1 a2 a3 : Int} (h : Box w b a0 a1 a2 a3) : RowV w b 4 (limb a0 a1 a2 a3) := fun i hi => ⟨h.1 i hi, h.2 i hi⟩
/-- of a word the bytes from number m on -/
def keep (x0 x1 x2 x3 : Int) (m q : Nat) : Int := limb x0 x1 x2 x3 q / 2 ^ (8 * min 8 (m - 8 * q)) * 2 ^ (8 * min 8 (m - 8 * q))
theorem keep_other (x0 x1 x2 x3 : Int) (m i : Nat) (h : i ≠ m / 8) : keep x0 x1 x2 x3 (m + 1) i = keep x0 x1 x2 x3 m i := by
  unfold keep
  rw [show min 8 (m + 1 - 8 * i) = min 8 (m - 8 * i) by omega]
def GInv (w : World) (x0 x1 x2 x3 : Int) (m : Nat) (W : World) : Prop := Below w.heap.size w W ∧ Box W w.heap.size 0 0 0 0 ∧ RowV W (w.heap.size + 1) 4 (keep x0 x1 x2 x3 m)
theorem GInv.step {w W : World} {x0 x1 x2 x3 : Int} {m q : Nat} (h : GInv w x0 x1 x2 x3 (m + 1) W) (hq : q = m / 8) (hm : m < 32) {y : Int} (ey : keep x0 x1 x2 x3 m q = y) : GInv w x0 x1 x2 x3 m (W.setCell ⟨w.heap.size + 1, q, none⟩ (.int .u64 y)) := by
  obtain ⟨hB, hA, hR⟩ := h
  refine ⟨hB.setCell (by simp) _, hA.other _ _ (by simp), (hR.set q y (by omega)).ext fun i hi => ?_⟩
  by_cases e : i = q
  · rw [if_pos e, e, ey]
  · rw [if_neg e]; exact keep_other _ _ _ _ _ _ (by omega)
end Go.Proofs.YtpadpmkfhljiiaaGreat
/- Bytes and the number that a word is. -/
namespace Go.Proofs.YtpadpmkfhljiiaaGreat
open Go.RowKit
theorem bw_dig {x0 x1 x2 x3 : Int} (h0 : U64 x0) (h1 : U64 x1) (h2 : U64 x2) (h3 : U64 x3) (X : Nat) (hX : V x0 x1 x2 x3 = (X : Int)) (i : Nat) (hi : i < 32) : bw x0 x1 x2 x3 i = ((X / 256 ^ i % 256 : Nat) : Int) := by
  have h := dig_limb h0 h1 h2 h3 X hX i hi
  unfold dig at h
  rw [if_pos hi] at h
  obtain ⟨l, hl⟩ := Int.eq_ofNat_of_zero_le (limb_u64 h0 h1 h2 h3 (i / 8)).1
  rw [hl] at h
  unfold bw
  have e : (2 : Int) ^ (8 * (i % 8)) = ((256 ^ (i % 8) : Nat) : Int) := by rw [Int.pow_mul, Int.natCast_pow]; rfl
  rw [hl, ← h, e, Int.natCast_emod, Int.natCast_ediv, Int.toNat_natCast]; rfl
end Go.Proofs.YtpadpmkfhljiiaaGreat
/- Shl, Sar, SignExtend: what they hand back, out of what below, shiftUp, signBits and shiftDown do. -/
namespace Go.Proofs.YtpadpmkfhljiiaaGreat
open Go.RowKit

theorem small_limbs {v : Int} (s0 s1 s2 s3 : Int) (h : IsW v s0 s1 s2 s3) (h0 : 0 ≤ v) (h1 : v < 256) : s0 = v ∧ s1 = 0 ∧ s2 = 0 ∧ s3 = 0 :=
  h.eq (isW_lit v h0 (by omega)) rfl
theorem mod_small {v : Int} (h0 : 0 ≤ v) (h1 : v < 256) : v % MM = v := Int.emod_eq_of_lt h0 (by unfold MM; omega)
set_option maxHeartbeats 400000 in
set_option maxRecDepth 100000 in
theorem shl_lt (n : Int) (a0 a1 a2 a3 z0 z1 z2 z3 : Int) (w : World) (h0 : 0 ≤ n) (h1 : n < 256) (U : ∀ w : World, Calls Tryz.prog 105 #[.agg #[.int .u64 a0, .int .u64 a1, .int .u64 a2, .int .u64 a3], .int .u64 n] w fun e w' => e = .returned (.agg #[.int .u64 z0, .int .u64 z1, .int .u64 z2, .int .u64 z3]) ∧ Below w.heap.size w w') :
    Calls Tryz.prog 48 #[.agg #[.int .u64 n, .int .u64 0, .int .u64 0, .int .u64 0], .agg #[.int .u64 a0, .int .u64 a1, .int .u64 a2, .int .u64 a3]] w fun e w' => e = .returned (.agg #[.int .u64 z0, .int .u64 z1, .int .u64 z2, .int .u64 z3]) ∧ Below w.heap.size w w' := by
  have BL := fun w => below_lt n 256 n 0 0 0 w (isW_lit n h0 (by omega)) (isW_lit 256 (by omega) (by omega)) (by rw [mod_small h0 h1]; show n < 256; exact h1)
  have HU : Hid _ := U
  have HL : Hid _ := BL
  clear U BL h0 h1
  go_enter Tryz.func48, Tryz.ntmps48
  go_wp2_with fail
  refine (HL.out _).mono ?_
  rintro e w1 ⟨rfl, hB⟩
  have zz : w.heap.size + 1 + 1 < w1.heap.size := by have := hB.size; simp at this; omega
  have xx0 : w1.cell? ⟨w.heap.size + 1, 0, none⟩ = some (.int .u64 a0) := (hB.cell (p := ⟨w.heap.size + 1, 0, none⟩) (by first | omega | (simp; done) | (simp; omega))).trans (by go_simp)
  have xx1 : w1.cell? ⟨w.heap.size + 1, 1, none⟩ = some (.int .u64 a1) := (hB.cell (p := ⟨w.heap.size + 1, 1, none⟩) (by first | omega | (simp; done) | (simp; omega))).trans (by go_simp)
  have xx2 : w1.cell? ⟨w.heap.size + 1, 2, none⟩ = some (.int .u64 a2) := (hB.cell (p := ⟨w.heap.size + 1, 2, none⟩) (by first | omega | (simp; done) | (simp; omega))).trans (by go_simp)
  have xx3 : w1.cell? ⟨w.heap.size + 1, 3, none⟩ = some (.int .u64 a3) := (hB.cell (p := ⟨w.heap.size + 1, 3, none⟩) (by first | omega | (simp; done) | (simp; omega))).trans (by go_simp)
  have kk0 : w1.cell? ⟨w.heap.size + 1 + 1, 0, none⟩ = some (.int .u64 0) := (hB.cell (p := ⟨w.heap.size + 1 + 1, 0, none⟩) (by first | omega | (simp; done) | (simp; omega))).trans (by go_simp)
  have kk1 : w1.cell? ⟨w.heap.size + 1 + 1, 1, none⟩ = some (.int .u64 0) := (hB.cell (p := ⟨w.heap.size + 1 + 1, 1, none⟩) (by first | omega | (simp; done) | (simp; omega))).trans (by go_simp)
  have kk2 : w1.cell? ⟨w.heap.size + 1 + 1, 2, none⟩ = some (.int .u64 0) := (hB.cell (p := ⟨w.heap.size + 1 + 1, 2, none⟩) (by first | omega | (simp; done) | (simp; omega))).trans (by go_simp)
  have kk3 : w1.cell? ⟨w.heap.size + 1 + 1, 3, none⟩ = some (.int .u64 0) := (hB.cell (p := ⟨w.heap.size + 1 + 1, 3, none⟩) (by first | omega | (simp; done) | (simp; omega))).trans (by go_simp)
  have xf0 : w1.frozen? ⟨w.heap.size + 1, 0, none⟩ = false := (hB.frozen (p := ⟨w.heap.size + 1, 0, none⟩) (by first | omega | (simp; done) | (simp; omega))).trans (by go_simp)
  have xf1 : w1.frozen? ⟨w.heap.size + 1, 1, none⟩ = false := (hB.frozen (p := ⟨w.heap.size + 1, 1, none⟩) (by first | omega | (simp; done) | (simp; omega))).trans (by go_simp)
  have xf2 : w1.frozen? ⟨w.heap.size + 1, 2, none⟩ = false := (hB.frozen (p := ⟨w.heap.size + 1, 2, none⟩) (by first | omega | (simp; done) | (simp; omega))).trans (by go_simp)
  have xf3 : w1.frozen? ⟨w.heap.size + 1, 3, none⟩ = false := (hB.frozen (p := ⟨w.heap.size + 1, 3, none⟩) (by first | omega | (simp; done) | (simp; omega))).trans (by go_simp)
  have ff0 : w1.frozen? ⟨w.heap.size + 1 + 1, 0, none⟩ = false := (hB.frozen (p := ⟨w.heap.size + 1 + 1, 0, none⟩) (by first | omega | (simp; done) | (simp; omega))).trans (by go_simp)
  have ff1 : w1.frozen? ⟨w.heap.size + 1 + 1, 1, none⟩ = false := (hB.frozen (p := ⟨w.heap.size + 1 + 1, 1, none⟩) (by first | omega | (simp; done) | (simp; omega))).trans (by go_simp)
  have ff2 : w1.frozen? ⟨w.heap.size + 1 + 1, 2, none⟩ = false := (hB.frozen (p := ⟨w.heap.size + 1 + 1, 2, none⟩) (by first | omega | (simp; done) | (simp; omega))).trans (by go_simp)
  have ff3 : w1.frozen? ⟨w.heap.size + 1 + 1, 3, none⟩ = false := (hB.frozen (p := ⟨w.heap.size + 1 + 1, 3, none⟩) (by first | omega | (simp; done) | (simp; omega))).trans (by go_simp)
  have B1 : Below w.heap.size w w1 := Below.trans (by repeat' (first | with_reducible exact Below.refl _ _ | with_reducible exact Below.refl _ _ | with_reducible refine Below.drew ?_ | with_reducible refine bdrewN ?_ _ | with_reducible refine Below.alloc ?_ ?_ _ | with_reducible refine Below.setCell ?_ ?_ _ | omega | (simp; done) | (simp; omega))) (hB.mono (by first | omega | (simp; done) | (simp; omega)))
  clear hB
  go_wp2_with fail
  refine (HU.out _).mono ?_
  rintro e w2 ⟨rfl, hB⟩
  have zy : w.heap.size + 1 + 1 < w2.heap.size := by have := hB.size; omega
  have ll0 : w2.cell? ⟨w.heap.size + 1 + 1, 0, none⟩ = some (.int .u64 0) := (hB.cell (p := ⟨w.heap.size + 1 + 1, 0, none⟩) (by first | omega | (simp; done) | (simp; omega))).trans (by go_simp)
  have ll1 : w2.cell? ⟨w.heap.size + 1 + 1, 1, none⟩ = some (.int .u64 0) := (hB.cell (p := ⟨w.heap.size + 1 + 1, 1, none⟩) (by first | omega | (simp; done) | (simp; omega))).trans (by go_simp)
  have ll2 : w2.cell? ⟨w.heap.size + 1 + 1, 2, none⟩ = some (.int .u64 0) := (hB.cell (p := ⟨w.heap.size + 1 + 1, 2, none⟩) (by first | omega | (simp; done) | (simp; omega))).trans (by go_simp)
  have ll3 : w2.cell? ⟨w.heap.size + 1 + 1, 3, none⟩ = some (.int .u64 0) := (hB.cell (p := ⟨w.heap.size + 1 + 1, 3, none⟩) (by first | omega | (simp; done) | (simp; omega))).trans (by go_simp)
  have gg0 : w2.frozen? ⟨w.heap.size + 1 + 1, 0, none⟩ = false := (hB.frozen (p := ⟨w.heap.size + 1 + 1, 0, none⟩) (by first | omega | (simp; done) | (simp; omega))).trans (by go_simp)
  have gg1 : w2.frozen? ⟨w.heap.size + 1 + 1, 1, none⟩ = false := (hB.frozen (p := ⟨w.heap.size + 1 + 1, 1, none⟩) (by first | omega | (simp; done) | (simp; omega))).trans (by go_simp)
  have gg2 : w2.frozen? ⟨w.heap.size + 1 + 1, 2, none⟩ = false := (hB.frozen (p := ⟨w.heap.size + 1 + 1, 2, none⟩) (by first | omega | (simp; done) | (simp; omega))).trans (by go_simp)
  have gg3 : w2.frozen? ⟨w.heap.size + 1 + 1, 3, none⟩ = false := (hB.frozen (p := ⟨w.heap.size + 1 + 1, 3, none⟩) (by first | omega | (simp; done) | (simp; omega))).trans (by go_simp)
  have B2 : Below w.heap.size w w2 := Below.trans (by repeat' (first | with_reducible exact B1 | with_reducible exact Below.refl _ _ | with_reducible refine Below.drew ?_ | with_reducible refine bdrewN ?_ _ | with_reducible refine Below.alloc ?_ ?_ _ | with_reducible refine Below.setCell ?_ ?_ _ | omega | (simp; done) | (simp; omega))) (hB.mono (by first | omega | (simp; done) | (simp; omega)))
  clear hB kk0 kk1 kk2 kk3 ff0 ff1 ff2 ff3 xf0 xf1 xf2 xf3 xx0 xx1 xx2 xx3
  go_wp2
  exact bodyPost_ret (v := .agg #[.int .u64 z0, .int .u64 z1, .int .u64 z2, .int .u64 z3]) (by simp [results, Tryz.results48, go_sem, ll0, ll1, ll2, ll3]) rfl ⟨rfl, by repeat' (first | with_reducible exact B2 | with_reducible exact Below.refl _ _ | with_reducible refine Below.drew ?_ | with_reducible refine bdrewN ?_ _ | with_reducible refine Below.alloc ?_ ?_ _ | with_reducible refine Below.setCell ?_ ?_ _ | omega | (simp; done) | (simp; omega))⟩

set_option maxHeartbeats 1000000 in
set_option maxRecDepth 100000 in
theorem sar_lt (n f : Int) (a0 a1 a2 a3 z0 z1 z2 z3 : Int) (w : World) (h0 : 0 ≤ n) (h1 : n < 256) (Sg : ∀ w : World, Calls Tryz.prog 102 #[.agg #[.int .u64 a0, .int .u64 a1, .int .u64 a2, .int .u64 a3]] w fun e w' => e = .returned (.int .u64 f) ∧ Below w.heap.size w w')
    (D : ∀ w : World, Calls Tryz.prog 101 #[.agg #[.int .u64 a0, .int .u64 a1, .int .u64 a2, .int .u64 a3], .int .u64 n, .int .u64 f] w fun e w' => e = .returned (.agg #[.int .u64 z0, .int .u64 z1, .int .u64 z2, .int .u64 z3]) ∧ Below w.heap.size w w') :
    Calls Tryz.prog 30 #[.agg #[.int .u64 n, .int .u64 0, .int .u64 0, .int .u64 0], .agg #[.int .u64 a0, .int .u64 a1, .int .u64 a2, .int .u64 a3]] w fun e w' => e = .returned (.agg #[.int .u64 z0, .int .u64 z1, .int .u64 z2, .int .u64 z3]) ∧ Below w.heap.size w w' := by
  have BL := fun w => below_lt n 256 n 0 0 0 w (isW_lit n h0 (by omega)) (isW_lit 256 (by omega) (by omega)) (by rw [mod_small h0 h1]; show n < 256; exact h1)
  have HS : Hid _ := Sg
  have HD : Hid _ := D
  have HL : Hid _ := BL
  clear Sg D BL h0 h1
  go_enter Tryz.func30, Tryz.ntmps30
  go_wp2_with fail
  refine (HL.out _).mono ?_
  rintro e w1 ⟨rfl, hB⟩
  have zz : w.heap.size + 1 + 1 < w1.heap.size := by have := hB.size; simp at this; omega
  have xx0 : w1.cell? ⟨w.heap.size + 1, 0, none⟩ = some (.int .u64 a0) := (hB.cell (p := ⟨w.heap.size + 1, 0, none⟩) (by first | omega | (simp; done) | (simp; omega))).trans (by go_simp)
  have xx1 : w1.cell? ⟨w.heap.size + 1, 1, none⟩ = some (.int .u64 a1) := (hB.cell (p := ⟨w.heap.size + 1, 1, none⟩) (by first | omega | (simp; done) | (simp; omega))).trans (by go_simp)
  have xx2 : w1.cell? ⟨w.heap.size + 1, 2, none⟩ = some (.int .u64 a2) := (hB.cell (p := ⟨w.heap.size + 1, 2, none⟩) (by first | omega | (simp; done) | (simp; omega))).trans (by go_simp)
  have xx3 : w1.cell? ⟨w.heap.size + 1, 3, none⟩ = some (.int .u64 a3) := (hB.cell (p := ⟨w.heap.size + 1, 3, none⟩) (by first | omega | (simp; done) | (simp; omega))).trans (by go_simp)
  have kk0 : w1.cell? ⟨w.heap.size + 1 + 1, 0, none⟩ = some (.int .u64 0) := (hB.cell (p := ⟨w.heap.size + 1 + 1, 0, none⟩) (by first | omega | (simp; done) | (simp; omega))).trans (by go_simp)
  have kk1 : w1.cell? ⟨w.heap.size + 1 + 1, 1, none⟩ = some (.int .u64 0) := (hB.cell (p := ⟨w.heap.size + 1 + 1, 1, none⟩) (by first | omega | (simp; done) | (simp; omega))).trans (by go_simp)
  have kk2 : w1.cell? ⟨w.heap.size + 1 + 1, 2, none⟩ = some (.int .u64 0) := (hB.cell (p := ⟨w.heap.size + 1 + 1, 2, none⟩) (by first | omega | (simp; done) | (simp; omega))).trans (by go_simp)
  have kk3 : w1.cell? ⟨w.heap.size + 1 + 1, 3, none⟩ = some (.int .u64 0) := (hB.cell (p := ⟨w.heap.size + 1 + 1, 3, none⟩) (by first | omega | (simp; done) | (simp; omega))).trans (by go_simp)
  have xf0 : w1.frozen? ⟨w.heap.size + 1, 0, none⟩ = false := (hB.frozen (p := ⟨w.heap.size + 1, 0, none⟩) (by first | omega | (simp; done) | (simp; omega))).trans (by go_simp)
  have xf1 : w1.frozen? ⟨w.heap.size + 1, 1, none⟩ = false := (hB.frozen (p := ⟨w.heap.size + 1, 1, none⟩) (by first | omega | (simp; done) | (simp; omega))).trans (by go_simp)
  have xf2 : w1.frozen? ⟨w.heap.size + 1, 2, none⟩ = false := (hB.frozen (p := ⟨w.heap.size + 1, 2, none⟩) (by first | omega | (simp; done) | (simp; omega))).trans (by go_simp)
  have xf3 : w1.frozen? ⟨w.heap.size + 1, 3, none⟩ = false := (hB.frozen (p := ⟨w.heap.size + 1, 3, none⟩) (by first | omega | (simp; done) | (simp; omega))).trans (by go_simp)
  have ff0 : w1.frozen? ⟨w.heap.size + 1 + 1, 0, none⟩ = false := (hB.frozen (p := ⟨w.heap.size + 1 + 1, 0, none⟩) (by first | omega | (simp; done) | (simp; omega))).trans (by go_simp)
  have ff1 : w1.frozen? ⟨w.heap.size + 1 + 1, 1, none⟩ = false := (hB.frozen (p := ⟨w.heap.size + 1 + 1, 1, none⟩) (by first | omega | (simp; done) | (simp; omega))).trans (by go_simp)
  have ff2 : w1.frozen? ⟨w.heap.size + 1 + 1, 2, none⟩ = false := (hB.frozen (p := ⟨w.heap.size + 1 + 1, 2, none⟩) (by first | omega | (simp; done) | (simp; omega))).trans (by go_simp)
  have ff3 : w1.frozen? ⟨w.heap.size + 1 + 1, 3, none⟩ = false := (hB.frozen (p := ⟨w.heap.size + 1 + 1, 3, none⟩) (by first | omega | (simp; done) | (simp; omega))).trans (by go_simp)
  have B1 : Below w.heap.size w w1 := Below.trans (by repeat' (first | with_reducible exact Below.refl _ _ | with_reducible exact Below.refl _ _ | with_reducible refine Below.drew ?_ | with_reducible refine bdrewN ?_ _ | with_reducible refine Below.alloc ?_ ?_ _ | with_reducible refine Below.setCell ?_ ?_ _ | omega | (simp; done) | (simp; omega))) (hB.mono (by first | omega | (simp; done) | (simp; omega)))
  clear hB
  go_wp2
  go_region_with (first
    | (go_at_call 102
       refine (HS.out _).mono ?_
       rintro e w2 ⟨rfl, hB⟩
       have zy : w.heap.size + 1 + 1 < w2.heap.size := by have := hB.size; (try simp at this); omega
       have yy0 : w2.cell? ⟨w.heap.size + 1, 0, none⟩ = some (.int .u64 a0) := (hB.cell (p := ⟨w.heap.size + 1, 0, none⟩) (by first | omega | (simp; done) | (simp; omega))).trans (by go_simp)
       have yy1 : w2.cell? ⟨w.heap.size + 1, 1, none⟩ = some (.int .u64 a1) := (hB.cell (p := ⟨w.heap.size + 1, 1, none⟩) (by first | omega | (simp; done) | (simp; omega))).trans (by go_simp)
       have yy2 : w2.cell? ⟨w.heap.size + 1, 2, none⟩ = some (.int .u64 a2) := (hB.cell (p := ⟨w.heap.size + 1, 2, none⟩) (by first | omega | (simp; done) | (simp; omega))).trans (by go_simp)
       have yy3 : w2.cell? ⟨w.heap.size + 1, 3, none⟩ = some (.int .u64 a3) := (hB.cell (p := ⟨w.heap.size + 1, 3, none⟩) (by first | omega | (simp; done) | (simp; omega))).trans (by go_simp)
       have ll0 : w2.cell? ⟨w.heap.size + 1 + 1, 0, none⟩ = some (.int .u64 0) := (hB.cell (p := ⟨w.heap.size + 1 + 1, 0, none⟩) (by first | omega | (simp; done) | (simp; omega))).trans (by go_simp)
       have ll1 : w2.cell? ⟨w.heap.size + 1 + 1, 1, none⟩ = some (.int .u64 0) := (hB.cell (p := ⟨w.heap.size + 1 + 1, 1, none⟩) (by first | omega | (simp; done) | (simp; omega))).trans (by go_simp)
       have ll2 : w2.cell? ⟨w.heap.size + 1 + 1, 2, none⟩ = some (.int .u64 0) := (hB.cell (p := ⟨w.heap.size + 1 + 1, 2, none⟩) (by first | omega | (simp; done) | (simp; omega))).trans (by go_simp)
       have ll3 : w2.cell? ⟨w.heap.size + 1 + 1, 3, none⟩ = some (.int .u64 0) := (hB.cell (p := ⟨w.heap.size + 1 + 1, 3, none⟩) (by first | omega | (simp; done) | (simp; omega))).trans (by go_simp)
       have gg0 : w2.frozen? ⟨w.heap.size + 1 + 1, 0, none⟩ = false := (hB.frozen (p := ⟨w.heap.size + 1 + 1, 0, none⟩) (by first | omega | (simp; done) | (simp; omega))).trans (by go_simp)
       have gg1 : w2.frozen? ⟨w.heap.size + 1 + 1, 1, none⟩ = false := (hB.frozen (p := ⟨w.heap.size + 1 + 1, 1, none⟩) (by first | omega | (simp; done) | (simp; omega))).trans (by go_simp)
       have gg2 : w2.frozen? ⟨w.heap.size + 1 + 1, 2, none⟩ = false := (hB.frozen (p := ⟨w.heap.size + 1 + 1, 2, none⟩) (by first | omega | (simp; done) | (simp; omega))).trans (by go_simp)
       have gg3 : w2.frozen? ⟨w.heap.size + 1 + 1, 3, none⟩ = false := (hB.frozen (p := ⟨w.heap.size + 1 + 1, 3, none⟩) (by first | omega | (simp; done) | (simp; omega))).trans (by go_simp)
       have B2 : Below w.heap.size w w2 := Below.trans (by repeat' (first | with_reducible exact B1 | with_reducible exact Below.refl _ _ | with_reducible refine Below.drew ?_ | with_reducible refine bdrewN ?_ _ | with_reducible refine Below.alloc ?_ ?_ _ | with_reducible refine Below.setCell ?_ ?_ _ | omega | (simp; done) | (simp; omega))) (hB.mono (by first | omega | (simp; done) | (simp; omega)))
       clear hB)
    | (go_at_call 101
       refine (HD.out _).mono ?_
       rintro e w3 ⟨rfl, hB⟩
       have zx : w.heap.size + 1 + 1 < w3.heap.size := by have := hB.size; (try simp at this); omega
       have mm0 : w3.cell? ⟨w.heap.size + 1 + 1, 0, none⟩ = some (.int .u64 0) := (hB.cell (p := ⟨w.heap.size + 1 + 1, 0, none⟩) (by first | omega | (simp; done) | (simp; omega))).trans (by go_simp)
       have mm1 : w3.cell? ⟨w.heap.size + 1 + 1, 1, none⟩ = some (.int .u64 0) := (hB.cell (p := ⟨w.heap.size + 1 + 1, 1, none⟩) (by first | omega | (simp; done) | (simp; omega))).trans (by go_simp)
       have mm2 : w3.cell? ⟨w.heap.size + 1 + 1, 2, none⟩ = some (.int .u64 0) := (hB.cell (p := ⟨w.heap.size + 1 + 1, 2, none⟩) (by first | omega | (simp; done) | (simp; omega))).trans (by go_simp)
       have mm3 : w3.cell? ⟨w.heap.size + 1 + 1, 3, none⟩ = some (.int .u64 0) := (hB.cell (p := ⟨w.heap.size + 1 + 1, 3, none⟩) (by first | omega | (simp; done) | (simp; omega))).trans (by go_simp)
       have hh0 : w3.frozen? ⟨w.heap.size + 1 + 1, 0, none⟩ = false := (hB.frozen (p := ⟨w.heap.size + 1 + 1, 0, none⟩) (by first | omega | (simp; done) | (simp; omega))).trans (by go_simp)
       have hh1 : w3.frozen? ⟨w.heap.size + 1 + 1, 1, none⟩ = false := (hB.frozen (p := ⟨w.heap.size + 1 + 1, 1, none⟩) (by first | omega | (simp; done) | (simp; omega))).trans (by go_simp)
       have hh2 : w3.frozen? ⟨w.heap.size + 1 + 1, 2, none⟩ = false := (hB.frozen (p := ⟨w.heap.size + 1 + 1, 2, none⟩) (by first | omega | (simp; done) | (simp; omega))).trans (by go_simp)
       have hh3 : w3.frozen? ⟨w.heap.size + 1 + 1, 3, none⟩ = false := (hB.frozen (p := ⟨w.heap.size + 1 + 1, 3, none⟩) (by first | omega | (simp; done) | (simp; omega))).trans (by go_simp)
       have B3 : Below w.heap.size w w3 := Below.trans (by repeat' (first | with_reducible exact B2 | with_reducible exact Below.refl _ _ | with_reducible refine Below.drew ?_ | with_reducible refine bdrewN ?_ _ | with_reducible refine Below.alloc ?_ ?_ _ | with_reducible refine Below.setCell ?_ ?_ _ | omega | (simp; done) | (simp; omega))) (hB.mono (by first | omega | (simp; done) | (simp; omega)))
       clear hB))
  all_goals (go_wp2; exact bodyPost_ret (v := .agg #[.int .u64 z0, .int .u64 z1, .int .u64 z2, .int .u64 z3]) (by simp [results, Tryz.results30, go_sem, mm0, mm1, mm2, mm3]) rfl ⟨rfl, by repeat' (first | with_reducible exact B3 | with_reducible exact Below.refl _ _ | with_reducible refine Below.drew ?_ | with_reducible refine bdrewN ?_ _ | with_reducible refine Below.alloc ?_ ?_ _ | with_reducible refine Below.setCell ?_ ?_ _ | omega | (simp; done) | (simp; omega))⟩)

set_option maxHeartbeats 1000000 in
set_option maxRecDepth 100000 in
theorem signExtend_lt (k m f : Int) (a0 a1 a2 a3 z0 z1 z2 z3 y0 y1 y2 y3 : Int) (w : World) (h0 : 0 ≤ k) (h1 : k < 31) (hm : m = 248 - 8 * k) (U : ∀ w : World, Calls Tryz.prog 105 #[.agg #[.int .u64 a0, .int .u64 a1, .int .u64 a2, .int .u64 a3], .int .u64 m] w fun e w' => e = .returned (.agg #[.int .u64 z0, .int .u64 z1, .int .u64 z2, .int .u64 z3]) ∧ Below w.heap.size w w')
    (Sg : ∀ w : World, Calls Tryz.prog 102 #[.agg #[.int .u64 z0, .int .u64 z1, .int .u64 z2, .int .u64 z3]] w fun e w' => e = .returned (.int .u64 f) ∧ Below w.heap.size w w')
    (D : ∀ w : World, Calls Tryz.prog 101 #[.agg #[.int .u64 z0, .int .u64 z1, .int .u64 z2, .int .u64 z3], .int .u64 m, .int .u64 f] w fun e w' => e = .returned (.agg #[.int .u64 y0, .int .u64 y1, .int .u64 y2, .int .u64 y3]) ∧ Below w.heap.size w w') :
    Calls Tryz.prog 32 #[.agg #[.int .u64 k, .int .u64 0, .int .u64 0, .int .u64 0], .agg #[.int .u64 a0, .int .u64 a1, .int .u64 a2, .int .u64 a3]] w fun e w' => e = .returned (.agg #[.int .u64 y0, .int .u64 y1, .int .u64 y2, .int .u64 y3]) ∧ Below w.heap.size w w' := by
  have BL := fun w => below_lt k 31 k 0 0 0 w (isW_lit k h0 (by omega)) (isW_lit 31 (by omega) (by omega)) (by rw [mod_small h0 (by omega)]; show k < 31; exact h1)
  have em : (IntKind.wrap .u64 (248 - IntKind.wrap .u64 (8 * k))) = m := by
    rw [IntKind.wrap_u64, IntKind.wrap_u64, hm]; omega
  have HU : Hid _ := U
  have HS : Hid _ := Sg
  have HD : Hid _ := D
  have HL : Hid _ := BL
  clear U Sg D BL h0 h1 hm
  go_enter Tryz.func32, Tryz.ntmps32
  go_wp2_with fail
  refine (HL.out _).mono ?_
  rintro e w1 ⟨rfl, hB⟩
  have zz : w.heap.size + 1 + 1 < w1.heap.size := by have := hB.size; simp at this; omega
  have xx0 : w1.cell? ⟨w.heap.size + 1, 0, none⟩ = some (.int .u64 a0) := (hB.cell (p := ⟨w.heap.size + 1, 0, none⟩) (by first | omega | (simp; done) | (simp; omega))).trans (by go_simp)
  have xx1 : w1.cell? ⟨w.heap.size + 1, 1, none⟩ = some (.int .u64 a1) := (hB.cell (p := ⟨w.heap.size + 1, 1, none⟩) (by first | omega | (simp; done) | (simp; omega))).trans (by go_simp)
  have xx2 : w1.cell? ⟨w.heap.size + 1, 2, none⟩ = some (.int .u64 a2) := (hB.cell (p := ⟨w.heap.size + 1, 2, none⟩) (by first | omega | (simp; done) | (simp; omega))).trans (by go_simp)
  have xx3 : w1.cell? ⟨w.heap.size + 1, 3, none⟩ = some (.int .u64 a3) := (hB.cell (p := ⟨w.heap.size + 1, 3, none⟩) (by first | omega | (simp; done) | (simp; omega))).trans (by go_simp)
  have kk0 : w1.cell? ⟨w.heap.size + 1 + 1, 0, none⟩ = some (.int .u64 0) := (hB.cell (p := ⟨w.heap.size + 1 + 1, 0, none⟩) (by first | omega | (simp; done) | (simp; omega))).trans (by go_simp)
  have kk1 : w1.cell? ⟨w.heap.size + 1 + 1, 1, none⟩ = some (.int .u64 0) := (hB.cell (p := ⟨w.heap.size + 1 + 1, 1, none⟩) (by first | omega | (simp; done) | (simp; omega))).trans (by go_simp)
  have kk2 : w1.cell? ⟨w.heap.size + 1 + 1, 2, none⟩ = some (.int .u64 0) := (hB.cell (p := ⟨w.heap.size + 1 + 1, 2, none⟩) (by first | omega | (simp; done) | (simp; omega))).trans (by go_simp)
  have kk3 : w1.cell? ⟨w.heap.size + 1 + 1, 3, none⟩ = some (.int .u64 0) := (hB.cell (p := ⟨w.heap.size + 1 + 1, 3, none⟩) (by first | omega | (simp; done) | (simp; omega))).trans (by go_simp)
  have xf0 : w1.frozen? ⟨w.heap.size + 1, 0, none⟩ = false := (hB.frozen (p := ⟨w.heap.size + 1, 0, none⟩) (by first | omega | (simp; done) | (simp; omega))).trans (by go_simp)
  have xf1 : w1.frozen? ⟨w.heap.size + 1, 1, none⟩ = false := (hB.frozen (p := ⟨w.heap.size + 1, 1, none⟩) (by first | omega | (simp; done) | (simp; omega))).trans (by go_simp)
  have xf2 : w1.frozen? ⟨w.heap.size + 1, 2, none⟩ = false := (hB.frozen (p := ⟨w.heap.size + 1, 2, none⟩) (by first | omega | (simp; done) | (simp; omega))).trans (by go_simp)
  have xf3 : w1.frozen? ⟨w.heap.size + 1, 3, none⟩ = false := (hB.frozen (p := ⟨w.heap.size + 1, 3, none⟩) (by first | omega | (simp; done) | (simp; omega))).trans (by go_simp)
  have ff0 : w1.frozen? ⟨w.heap.size + 1 + 1, 0, none⟩ = false := (hB.frozen (p := ⟨w.heap.size + 1 + 1, 0, none⟩) (by first | omega | (simp; done) | (simp; omega))).trans (by go_simp)
  have ff1 : w1.frozen? ⟨w.heap.size + 1 + 1, 1, none⟩ = false := (hB.frozen (p := ⟨w.heap.size + 1 + 1, 1, none⟩) (by first | omega | (simp; done) | (simp; omega))).trans (by go_simp)
  have ff2 : w1.frozen? ⟨w.heap.size + 1 + 1, 2, none⟩ = false := (hB.frozen (p := ⟨w.heap.size + 1 + 1, 2, none⟩) (by first | omega | (simp; done) | (simp; omega))).trans (by go_simp)
  have ff3 : w1.frozen? ⟨w.heap.size + 1 + 1, 3, none⟩ = false := (hB.frozen (p := ⟨w.heap.size + 1 + 1, 3, none⟩) (by first | omega | (simp; done) | (simp; omega))).trans (by go_simp)
  have B1 : Below w.heap.size w w1 := Below.trans (by repeat' (first | with_reducible exact Below.refl _ _ | with_reducible exact Below.refl _ _ | with_reducible refine Below.drew ?_ | with_reducible refine bdrewN ?_ _ | with_reducible refine Below.alloc ?_ ?_ _ | with_reducible refine Below.setCell ?_ ?_ _ | omega | (simp; done) | (simp; omega))) (hB.mono (by first | omega | (simp; done) | (simp; omega)))
  clear hB
  go_wp2_with fail
  refine (HU.out _).mono ?_
  rintro e w4 ⟨rfl, hB⟩
  have zw : w.heap.size + 1 + 1 < w4.heap.size := by have := hB.size; omega
  have vv0 : w4.cell? ⟨w.heap.size + 1, 0, none⟩ = some (.int .u64 a0) := (hB.cell (p := ⟨w.heap.size + 1, 0, none⟩) (by first | omega | (simp; done) | (simp; omega))).trans (by go_simp)
  have vv1 : w4.cell? ⟨w.heap.size + 1, 1, none⟩ = some (.int .u64 a1) := (hB.cell (p := ⟨w.heap.size + 1, 1, none⟩) (by first | omega | (simp; done) | (simp; omega))).trans (by go_simp)
  have vv2 : w4.cell? ⟨w.heap.size + 1, 2, none⟩ = some (.int .u64 a2) := (hB.cell (p := ⟨w.heap.size + 1, 2, none⟩) (by first | omega | (simp; done) | (simp; omega))).trans (by go_simp)
  have vv3 : w4.cell? ⟨w.heap.size + 1, 3, none⟩ = some (.int .u64 a3) := (hB.cell (p := ⟨w.heap.size + 1, 3, none⟩) (by first | omega | (simp; done) | (simp; omega))).trans (by go_simp)
  have uu0 : w4.cell? ⟨w.heap.size + 1 + 1, 0, none⟩ = some (.int .u64 0) := (hB.cell (p := ⟨w.heap.size + 1 + 1, 0, none⟩) (by first | omega | (simp; done) | (simp; omega))).trans (by go_simp)
  have uu1 : w4.cell? ⟨w.heap.size + 1 + 1, 1, none⟩ = some (.int .u64 0) := (hB.cell (p := ⟨w.heap.size + 1 + 1, 1, none⟩) (by first | omega | (simp; done) | (simp; omega))).trans (by go_simp)
  have uu2 : w4.cell? ⟨w.heap.size + 1 + 1, 2, none⟩ = some (.int .u64 0) := (hB.cell (p := ⟨w.heap.size + 1 + 1, 2, none⟩) (by first | omega | (simp; done) | (simp; omega))).trans (by go_simp)
  have uu3 : w4.cell? ⟨w.heap.size + 1 + 1, 3, none⟩ = some (.int .u64 0) := (hB.cell (p := ⟨w.heap.size + 1 + 1, 3, none⟩) (by first | omega | (simp; done) | (simp; omega))).trans (by go_simp)
  have vf0 : w4.frozen? ⟨w.heap.size + 1, 0, none⟩ = false := (hB.frozen (p := ⟨w.heap.size + 1, 0, none⟩) (by first | omega | (simp; done) | (simp; omega))).trans (by go_simp)
  have vf1 : w4.frozen? ⟨w.heap.size + 1, 1, none⟩ = false := (hB.frozen (p := ⟨w.heap.size + 1, 1, none⟩) (by first | omega | (simp; done) | (simp; omega))).trans (by go_simp)
  have vf2 : w4.frozen? ⟨w.heap.size + 1, 2, none⟩ = false := (hB.frozen (p := ⟨w.heap.size + 1, 2, none⟩) (by first | omega | (simp; done) | (simp; omega))).trans (by go_simp)
  have vf3 : w4.frozen? ⟨w.heap.size + 1, 3, none⟩ = false := (hB.frozen (p := ⟨w.heap.size + 1, 3, none⟩) (by first | omega | (simp; done) | (simp; omega))).trans (by go_simp)
  have uf0 : w4.frozen? ⟨w.heap.size + 1 + 1, 0, none⟩ = false := (hB.frozen (p := ⟨w.heap.size + 1 + 1, 0, none⟩) (by first | omega | (simp; done) | (simp; omega))).trans (by go_simp)
  have uf1 : w4.frozen? ⟨w.heap.size + 1 + 1, 1, none⟩ = false := (hB.frozen (p := ⟨w.heap.size + 1 + 1, 1, none⟩) (by first | omega | (simp; done) | (simp; omega))).trans (by go_simp)
  have uf2 : w4.frozen? ⟨w.heap.size + 1 + 1, 2, none⟩ = false := (hB.frozen (p := ⟨w.heap.size + 1 + 1, 2, none⟩) (by first | omega | (simp; done) | (simp; omega))).trans (by go_simp)
  have uf3 : w4.frozen? ⟨w.heap.size + 1 + 1, 3, none⟩ = false := (hB.frozen (p := ⟨w.heap.size + 1 + 1, 3, none⟩) (by first | omega | (simp; done) | (simp; omega))).trans (by go_simp)
  have B4 : Below w.heap.size w w4 := Below.trans (by repeat' (first | with_reducible exact B1 | with_reducible exact Below.refl _ _ | with_reducible refine Below.drew ?_ | with_reducible refine bdrewN ?_ _ | with_reducible refine Below.alloc ?_ ?_ _ | with_reducible refine Below.setCell ?_ ?_ _ | omega | (simp; done) | (simp; omega))) (hB.mono (by first | omega | (simp; done) | (simp; omega)))
  clear hB kk0 kk1 kk2 kk3 ff0 ff1 ff2 ff3 xf0 xf1 xf2 xf3 xx0 xx1 xx2 xx3
  go_wp2
  go_region_with (first
    | (go_at_call 102
       refine (HS.out _).mono ?_
       rintro e w2 ⟨rfl, hB⟩
       have zy : w.heap.size + 1 + 1 < w2.heap.size := by have := hB.size; (try simp at this); omega
       have yy0 : w2.cell? ⟨w.heap.size + 1, 0, none⟩ = some (.int .u64 z0) := (hB.cell (p := ⟨w.heap.size + 1, 0, none⟩) (by first | omega | (simp; done) | (simp; omega))).trans (by go_simp)
       have yy1 : w2.cell? ⟨w.heap.size + 1, 1, none⟩ = some (.int .u64 z1) := (hB.cell (p := ⟨w.heap.size + 1, 1, none⟩) (by first | omega | (simp; done) | (simp; omega))).trans (by go_simp)
       have yy2 : w2.cell? ⟨w.heap.size + 1, 2, none⟩ = some (.int .u64 z2) := (hB.cell (p := ⟨w.heap.size + 1, 2, none⟩) (by first | omega | (simp; done) | (simp; omega))).trans (by go_simp)
       have yy3 : w2.cell? ⟨w.heap.size + 1, 3, none⟩ = some (.int .u64 z3) := (hB.cell (p := ⟨w.heap.size + 1, 3, none⟩) (by first | omega | (simp; done) | (simp; omega))).trans (by go_simp)
       have ll0 : w2.cell? ⟨w.heap.size + 1 + 1, 0, none⟩ = some (.int .u64 0) := (hB.cell (p := ⟨w.heap.size + 1 + 1, 0, none⟩) (by first | omega | (simp; done) | (simp; omega))).trans (by go_simp)
       have ll1 : w2.cell? ⟨w.heap.size + 1 + 1, 1, none⟩ = some (.int .u64 0) := (hB.cell (p := ⟨w.heap.size + 1 + 1, 1, none⟩) (by first | omega | (simp; done) | (simp; omega))).trans (by go_simp)
       have ll2 : w2.cell? ⟨w.heap.size + 1 + 1, 2, none⟩ = some (.int .u64 0) := (hB.cell (p := ⟨w.heap.size + 1 + 1, 2, none⟩) (by first | omega | (simp; done) | (simp; omega))).trans (by go_simp)
       have ll3 : w2.cell? ⟨w.heap.size + 1 + 1, 3, none⟩ = some (.int .u64 0) := (hB.cell (p := ⟨w.heap.size + 1 + 1, 3, none⟩) (by first | omega | (simp; done) | (simp; omega))).trans (by go_simp)
       have gg0 : w2.frozen? ⟨w.heap.size + 1 + 1, 0, none⟩ = false := (hB.frozen (p := ⟨w.heap.size + 1 + 1, 0, none⟩) (by first | omega | (simp; done) | (simp; omega))).trans (by go_simp)
       have gg1 : w2.frozen? ⟨w.heap.size + 1 + 1, 1, none⟩ = false := (hB.frozen (p := ⟨w.heap.size + 1 + 1, 1, none⟩) (by first | omega | (simp; done) | (simp; omega))).trans (by go_simp)
       have gg2 : w2.frozen? ⟨w.heap.size + 1 + 1, 2, none⟩ = false := (hB.frozen (p := ⟨w.heap.size + 1 + 1, 2, none⟩) (by first | omega | (simp; done) | (simp; omega))).trans (by go_simp)
       have gg3 : w2.frozen? ⟨w.heap.size + 1 + 1, 3, none⟩ = false := (hB.frozen (p := ⟨w.heap.size + 1 + 1, 3, none⟩) (by first | omega | (simp; done) | (simp; omega))).trans (by go_simp)
       have B2 : Below w.heap.size w w2 := Below.trans (by repeat' (first | with_reducible exact B4 | with_reducible exact Below.refl _ _ | with_reducible refine Below.drew ?_ | with_reducible refine bdrewN ?_ _ | with_reducible refine Below.alloc ?_ ?_ _ | with_reducible refine Below.setCell ?_ ?_ _ | omega | (simp; done) | (simp; omega))) (hB.mono (by first | omega | (simp; done) | (simp; omega)))
       clear hB)
    | (go_at_call 101
       refine (HD.out _).mono ?_
       rintro e w3 ⟨rfl, hB⟩
       have zx : w.heap.size + 1 + 1 < w3.heap.size := by have := hB.size; (try simp at this); omega
       have mm0 : w3.cell? ⟨w.heap.size + 1 + 1, 0, none⟩ = some (.int .u64 0) := (hB.cell (p := ⟨w.heap.size + 1 + 1, 0, none⟩) (by first | omega | (simp; done) | (simp; omega))).trans (by go_simp)
       have mm1 : w3.cell? ⟨w.heap.size + 1 + 1, 1, none⟩ = some (.int .u64 0) := (hB.cell (p := ⟨w.heap.size + 1 + 1, 1, none⟩) (by first | omega | (simp; done) | (simp; omega))).trans (by go_simp)
       have mm2 : w3.cell? ⟨w.heap.size + 1 + 1, 2, none⟩ = some (.int .u64 0) := (hB.cell (p := ⟨w.heap.size + 1 + 1, 2, none⟩) (by first | omega | (simp; done) | (simp; omega))).trans (by go_simp)
       have mm3 : w3.cell? ⟨w.heap.size + 1 + 1, 3, none⟩ = some (.int .u64 0) := (hB.cell (p := ⟨w.heap.size + 1 + 1, 3, none⟩) (by first | omega | (simp; done) | (simp; omega))).trans (by go_simp)
       have hh0 : w3.frozen? ⟨w.heap.size + 1 + 1, 0, none⟩ = false := (hB.frozen (p := ⟨w.heap.size + 1 + 1, 0, none⟩) (by first | omega | (simp; done) | (simp; omega))).trans (by go_simp)
       have hh1 : w3.frozen? ⟨w.heap.size + 1 + 1, 1, none⟩ = false := (hB.frozen (p := ⟨w.heap.size + 1 + 1, 1, none⟩) (by first | omega | (simp; done) | (simp; omega))).trans (by go_simp)
       have hh2 : w3.frozen? ⟨w.heap.size + 1 + 1, 2, none⟩ = false := (hB.frozen (p := ⟨w.heap.size + 1 + 1, 2, none⟩) (by first | omega | (simp; done) | (simp; omega))).trans (by go_simp)
       have hh3 : w3.frozen? ⟨w.heap.size + 1 + 1, 3, none⟩ = false := (hB.frozen (p := ⟨w.heap.size + 1 + 1, 3, none⟩) (by first | omega | (simp; done) | (simp; omega))).trans (by go_simp)
       have B3 : Below w.heap.size w w3 := Below.trans (by repeat' (first | with_reducible exact B2 | with_reducible exact Below.refl _ _ | with_reducible refine Below.drew ?_ | with_reducible refine bdrewN ?_ _ | with_reducible refine Below.alloc ?_ ?_ _ | with_reducible refine Below.setCell ?_ ?_ _ | omega | (simp; done) | (simp; omega))) (hB.mono (by first | omega | (simp; done) | (simp; omega)))
       clear hB))
  all_goals (go_wp2; exact bodyPost_ret (v := .agg #[.int .u64 y0, .int .u64 y1, .int .u64 y2, .int .u64 y3]) (by simp [results, Tryz.results32, go_sem, mm0, mm1, mm2, mm3]) rfl ⟨rfl, by repeat' (first | with_reducible exact B3 | with_reducible exact Below.refl _ _ | with_reducible refine Below.drew ?_ | with_reducible refine bdrewN ?_ _ | with_reducible refine Below.alloc ?_ ?_ _ | with_reducible refine Below.setCell ?_ ?_ _ | omega | (simp; done) | (simp; omega))⟩)

set_option maxHeartbeats 1000000 in
set_option maxRecDepth 100000 in
theorem signExtend_ge (kv : Int) (k0 k1 k2 k3 a0 a1 a2 a3 : Int) (w : World) (hk : IsW kv k0 k1 k2 k3) (h : ¬ kv % MM < 31) :
    Calls Tryz.prog 32 #[.agg #[.int .u64 k0, .int .u64 k1, .int .u64 k2, .int .u64 k3], .agg #[.int .u64 a0, .int .u64 a1, .int .u64 a2, .int .u64 a3]] w fun e w' => e = .returned (.agg #[.int .u64 a0, .int .u64 a1, .int .u64 a2, .int .u64 a3]) ∧ Below w.heap.size w w' := by
  have BL := fun w => below_ge kv 31 k0 k1 k2 k3 w hk (isW_lit 31 (by omega) (by omega)) (by show ¬ kv % MM < 31; exact h)
  have HL : Hid _ := BL
  clear BL h hk
  go_enter Tryz.func32, Tryz.ntmps32
  go_wp2_with fail
  refine (HL.out _).mono ?_
  rintro e w1 ⟨rfl, hB⟩
  have zz : w.heap.size + 1 + 1 < w1.heap.size := by have := hB.size; simp at this; omega
  have xx0 : w1.cell? ⟨w.heap.size + 1, 0, none⟩ = some (.int .u64 a0) := (hB.cell (p := ⟨w.heap.size + 1, 0, none⟩) (by first | omega | (simp; done) | (simp; omega))).trans (by go_simp)
  have xx1 : w1.cell? ⟨w.heap.size + 1, 1, none⟩ = some (.int .u64 a1) := (hB.cell (p := ⟨w.heap.size + 1, 1, none⟩) (by first | omega | (simp; done) | (simp; omega))).trans (by go_simp)
  have xx2 : w1.cell? ⟨w.heap.size + 1, 2, none⟩ = some (.int .u64 a2) := (hB.cell (p := ⟨w.heap.size + 1, 2, none⟩) (by first | omega | (simp; done) | (simp; omega))).trans (by go_simp)
  have xx3 : w1.cell? ⟨w.heap.size + 1, 3, none⟩ = some (.int .u64 a3) := (hB.cell (p := ⟨w.heap.size + 1, 3, none⟩) (by first | omega | (simp; done) | (simp; omega))).trans (by go_simp)
  have kk0 : w1.cell? ⟨w.heap.size + 1 + 1, 0, none⟩ = some (.int .u64 0) := (hB.cell (p := ⟨w.heap.size + 1 + 1, 0, none⟩) (by first | omega | (simp; done) | (simp; omega))).trans (by go_simp)
  have kk1 : w1.cell? ⟨w.heap.size + 1 + 1, 1, none⟩ = some (.int .u64 0) := (hB.cell (p := ⟨w.heap.size + 1 + 1, 1, none⟩) (by first | omega | (simp; done) | (simp; omega))).trans (by go_simp)
  have kk2 : w1.cell? ⟨w.heap.size + 1 + 1, 2, none⟩ = some (.int .u64 0) := (hB.cell (p := ⟨w.heap.size + 1 + 1, 2, none⟩) (by first | omega | (simp; done) | (simp; omega))).trans (by go_simp)
  have kk3 : w1.cell? ⟨w.heap.size + 1 + 1, 3, none⟩ = some (.int .u64 0) := (hB.cell (p := ⟨w.heap.size + 1 + 1, 3, none⟩) (by first | omega | (simp; done) | (simp; omega))).trans (by go_simp)
  have xf0 : w1.frozen? ⟨w.heap.size + 1, 0, none⟩ = false := (hB.frozen (p := ⟨w.heap.size + 1, 0, none⟩) (by first | omega | (simp; done) | (simp; omega))).trans (by go_simp)
  have xf1 : w1.frozen? ⟨w.heap.size + 1, 1, none⟩ = false := (hB.frozen (p := ⟨w.heap.size + 1, 1, none⟩) (by first | omega | (simp; done) | (simp; omega))).trans (by go_simp)
  have xf2 : w1.frozen? ⟨w.heap.size + 1, 2, none⟩ = false := (hB.frozen (p := ⟨w.heap.size + 1, 2, none⟩) (by first | omega | (simp; done) | (simp; omega))).trans (by go_simp)
  have xf3 : w1.frozen? ⟨w.heap.size + 1, 3, none⟩ = false := (hB.frozen (p := ⟨w.heap.size + 1, 3, none⟩) (by first | omega | (simp; done) | (simp; omega))).trans (by go_simp)
  have ff0 : w1.frozen? ⟨w.heap.size + 1 + 1, 0, none⟩ = false := (hB.frozen (p := ⟨w.heap.size + 1 + 1, 0, none⟩) (by first | omega | (simp; done) | (simp; omega))).trans (by go_simp)
  have ff1 : w1.frozen? ⟨w.heap.size + 1 + 1, 1, none⟩ = false := (hB.frozen (p := ⟨w.heap.size + 1 + 1, 1, none⟩) (by first | omega | (simp; done) | (simp; omega))).trans (by go_simp)
  have ff2 : w1.frozen? ⟨w.heap.size + 1 + 1, 2, none⟩ = false := (hB.frozen (p := ⟨w.heap.size + 1 + 1, 2, none⟩) (by first | omega | (simp; done) | (simp; omega))).trans (by go_simp)
  have ff3 : w1.frozen? ⟨w.heap.size + 1 + 1, 3, none⟩ = false := (hB.frozen (p := ⟨w.heap.size + 1 + 1, 3, none⟩) (by first | omega | (simp; done) | (simp; omega))).trans (by go_simp)
  have B1 : Below w.heap.size w w1 := Below.trans (by repeat' (first | with_reducible exact Below.refl _ _ | with_reducible exact Below.refl _ _ | with_reducible refine Below.drew ?_ | with_reducible refine bdrewN ?_ _ | with_reducible refine Below.alloc ?_ ?_ _ | with_reducible refine Below.setCell ?_ ?_ _ | omega | (simp; done) | (simp; omega))) (hB.mono (by first | omega | (simp; done) | (simp; omega)))
  clear hB
  go_wp2
  exact bodyPost_ret (v := .agg #[.int .u64 a0, .int .u64 a1, .int .u64 a2, .int .u64 a3]) (by simp [results, Tryz.results32, go_sem, kk0, kk1, kk2, kk3]) rfl ⟨rfl, by repeat' (first | with_reducible exact B1 | with_reducible exact Below.refl _ _ | with_reducible refine Below.drew ?_ | with_reducible refine bdrewN ?_ _ | with_reducible refine Below.alloc ?_ ?_ _ | with_reducible refine Below.setCell ?_ ?_ _ | omega | (simp; done) | (simp; omega))⟩
theorem signExtend_is (k m f : Int) (k0 k1 k2 k3 a0 a1 a2 a3 z0 z1 z2 z3 y0 y1 y2 y3 : Int) (hk : IsW k k0 k1 k2 k3) (h0 : 0 ≤ k) (h1 : k < 31) (hm : m = 248 - 8 * k) (U : ∀ w : World, Calls Tryz.prog 105 #[.agg #[.int .u64 a0, .int .u64 a1, .int .u64 a2, .int .u64 a3], .int .u64 m] w fun e w' => e = .returned (.agg #[.int .u64 z0, .int .u64 z1, .int .u64 z2, .int .u64 z3]) ∧ Below w.heap.size w w') (Sg : ∀ w : World, Calls Tryz.prog 102 #[.agg #[.int .u64 z0, .int .u64 z1, .int .u64 z2, .int .u64 z3]] w fun e w' => e = .returned (.int .u64 f) ∧ Below w.heap.size w w') (D : ∀ w : World, Calls Tryz.prog 101 #[.agg #[.int .u64 z0, .int .u64 z1, .int .u64 z2, .int .u64 z3], .int .u64 m, .int .u64 f] w fun e w' => e = .returned (.agg #[.int .u64 y0, .int .u64 y1, .int .u64 y2, .int .u64 y3]) ∧ Below w.heap.size w w') : ∀ w : World, Calls Tryz.prog 32 #[.agg #[.int .u64 k0, .int .u64 k1, .int .u64 k2, .int .u64 k3], .agg #[.int .u64 a0, .int .u64 a1, .int .u64 a2, .int .u64 a3]] w fun e w' => e = .returned (.agg #[.int .u64 y0, .int .u64 y1, .int .u64 y2, .int .u64 y3]) ∧ Below w.heap.size w w' := by
  obtain ⟨rfl, rfl, rfl, rfl⟩ := small_limbs _ _ _ _ hk h0 (by omega)
  exact fun w => signExtend_lt _ m f a0 a1 a2 a3 z0 z1 z2 z3 y0 y1 y2 y3 w h0 h1 hm U Sg D
end Go.Proofs.YtpadpmkfhljiiaaGreat
/- Shifts down as quotients, and Not. -/
namespace Go.Proofs.YtpadpmkfhljiiaaGreat
open Go.RowKit
/-- two floors, one behind the other -/
theorem floor_of {y q P r : Int} (_hP : 0 < P) (h : q * P + r = y) (h0 : 0 ≤ r) (h1 : r < P) : y / P = q := by
  rw [← h, Int.add_comm, Int.add_mul_ediv_right _ _ (by omega), Int.ediv_eq_zero_of_lt h0 h1, Int.zero_add]
theorem fill_mod (r : Int) (h0 : 0 ≤ r) (h1 : r < 64) : (18446744073709551615 : Int) % 2 ^ r.toNat = 2 ^ r.toNat - 1 := by
  have hP : (0 : Int) < 2 ^ r.toNat := two_pos _
  have e : (18446744073709551615 : Int) = (2 ^ r.toNat - 1) + 2 ^ r.toNat * (2 ^ (64 - r).toNat - 1) := by
    have h := pq64 r h0 h1
    have h2 : (2 : Int) ^ r.toNat * 2 ^ (64 - r).toNat = 18446744073709551616 := by rw [two_s, two_s, ← Int.natCast_mul, h]; rfl
    rw [Int.mul_sub, h2]; omega
  rw [e, Int.add_mul_emod_self_left, Int.emod_eq_of_lt (by omega) (by omega)]
/-- the end of all four cases: B says whether ones come in from above -/
theorem down_end {V' Vs z P f Z : Int} (B : Bool) (hP : 0 < P) (hf : f % P = if B then P - 1 else 0) (h : Vs * P + z % P = V' + MM * (f % P)) (hZ : V' = Z + (if B then MM else 0)) : Z / P = Vs - (if B then MM else 0) := by
  have h0 := Int.emod_nonneg z (show P ≠ 0 by omega)
  have h1 := Int.emod_lt_of_pos z hP
  refine floor_of hP (r := z % P) ?_ h0 h1
  rw [hf, hZ] at h
  rcases B with _ | _
  · simp at h ⊢; omega
  · simp only [if_true] at h ⊢
    rw [Int.sub_mul]
    rw [Int.mul_sub, Int.mul_one] at h
    omega
theorem div_parts (y B P : Int) (hB : 0 ≤ B) : y / B / P = y / (P * B) := by rw [Int.ediv_ediv_of_nonneg hB, Int.mul_comm]
theorem shiftDown_ex (x n : Int) (B : Bool) (a0 a1 a2 a3 : Int) (ha : IsW x a0 a1 a2 a3) (h0 : 0 ≤ n) (h1 : n < 256) : ∃ s0 s1 s2 s3 : Int, (∀ w : World, Calls Tryz.prog 101 #[.agg #[.int .u64 a0, .int .u64 a1, .int .u64 a2, .int .u64 a3], .int .u64 n, .int .u64 (if B then 18446744073709551615 else 0)] w fun e w' => e = .returned (.agg #[.int .u64 s0, .int .u64 s1, .int .u64 s2, .int .u64 s3]) ∧ Below w.heap.size w w') ∧ IsW ((x % MM - (if B then MM else 0)) / 2 ^ n.toNat) s0 s1 s2 s3 := by
  have r0 : 0 ≤ n % 64 := by omega
  have r1 : n % 64 < 64 := by omega
  obtain ⟨f, hf⟩ : ∃ f : Int, (if B then (18446744073709551615 : Int) else 0) = f := ⟨_, rfl⟩
  have fu : U64 f := by rw [← hf]; split <;> (unfold U64 Bd; omega)
  have fm : f % 2 ^ (n % 64).toNat = if B then 2 ^ (n % 64).toNat - 1 else 0 := by
    rw [← hf]; rcases B with _ | _
    · simp
    · simp only [if_true]; exact fill_mod _ r0 r1
  have hP : (0 : Int) < 2 ^ (n % 64).toNat := two_pos _
  have fin : ∀ {s0 s1 s2 s3 Z : Int}, U64 s0 → U64 s1 → U64 s2 → U64 s3 → Z = V s0 s1 s2 s3 - (if B then MM else 0) → IsW Z s0 s1 s2 s3 := by
    intro s0 s1 s2 s3 Z u0 u1 u2 u3 e
    refine (isW_mk u0 u1 u2 u3).cong ?_
    rw [e]; rcases B with _ | _
    · simp
    · simp only [if_true]; rw [Int.sub_emod_right]
  rw [hf, ← ha.2]
  rcases q4 n h0 h1 with hq | hq | hq | hq
  · have D0 := dn_ex a0 a1 (n % 64) ha.u0 ha.u1 r0 r1
    have D1 := dn_ex a1 a2 (n % 64) ha.u1 ha.u2 r0 r1
    have D2 := dn_ex a2 a3 (n % 64) ha.u2 ha.u3 r0 r1
    have D3 := dn_ex a3 f (n % 64) ha.u3 fu r0 r1
    refine ⟨_, _, _, _, fun w => shiftDown0 a0 a1 a2 a3 n (n % 64) f w h0 h1 hq rfl r0 r1, fin D0.1 D1.1 D2.1 D3.1 ?_⟩
    rw [pow_0 n hq h0]
    exact down_end B hP fm (down_num D0.2 D1.2 D2.2 D3.2) (by omega)
  · have D0 := dn_ex a1 a2 (n % 64) ha.u1 ha.u2 r0 r1
    have D1 := dn_ex a2 a3 (n % 64) ha.u2 ha.u3 r0 r1
    have D2 := dn_ex a3 f (n % 64) ha.u3 fu r0 r1
    have D3 := dn_ex f f (n % 64) fu fu r0 r1
    refine ⟨_, _, _, _, fun w => shiftDown1 a0 a1 a2 a3 n (n % 64) f w h0 h1 hq rfl r0 r1, fin D0.1 D1.1 D2.1 D3.1 ?_⟩
    rw [pow_1 n hq h0, ← div_parts _ _ _ (by unfold Bd; omega)]
    refine down_end B hP fm (down_num D0.2 D1.2 D2.2 D3.2) ?_
    obtain ⟨⟨u0, u1, u2, u3⟩, _⟩ := ha
    rw [← hf]; rcases B with _ | _ <;> (simp; unfold V U64 Bd MM at *; omega)
  · have D0 := dn_ex a2 a3 (n % 64) ha.u2 ha.u3 r0 r1
    have D1 := dn_ex a3 f (n % 64) ha.u3 fu r0 r1
    have D2 := dn_ex f f (n % 64) fu fu r0 r1
    refine ⟨_, _, _, _, fun w => shiftDown2 a0 a1 a2 a3 n (n % 64) f w h0 h1 hq rfl r0 r1, fin D0.1 D1.1 D2.1 D2.1 ?_⟩
    rw [pow_2 n hq h0, ← div_parts _ _ _ (by unfold Bd; omega)]
    refine down_end B hP fm (down_num D0.2 D1.2 D2.2 D2.2) ?_
    obtain ⟨⟨u0, u1, u2, u3⟩, _⟩ := ha
    rw [← hf]; rcases B with _ | _ <;> (simp; unfold V U64 Bd MM at *; omega)
  · have D0 := dn_ex a3 f (n % 64) ha.u3 fu r0 r1
    have D1 := dn_ex f f (n % 64) fu fu r0 r1
    refine ⟨_, _, _, _, fun w => shiftDown3 a0 a1 a2 a3 n (n % 64) f w h0 h1 hq rfl r0 r1, fin D0.1 D1.1 D1.1 D1.1 ?_⟩
    rw [pow_3 n hq h0, ← div_parts _ _ _ (by unfold Bd; omega)]
    refine down_end B hP fm (down_num D0.2 D1.2 D1.2 D1.2) ?_
    obtain ⟨⟨u0, u1, u2, u3⟩, _⟩ := ha
    rw [← hf]; rcases B with _ | _ <;> (simp; unfold V U64 Bd MM at *; omega)
theorem not_u64 {a : Int} (h : U64 a) : bits .xor .u64 IntKind.u64.max a = 18446744073709551615 - a := by
  have h2 := h.2
  unfold Bd at h2
  have e : IntKind.u64.max = 18446744073709551615 := by kernel_rfl
  rw [e, u64_xor 18446744073709551615 a (by omega) (by omega) h.1 h2]
  have hn : ∀ k : Nat, k < 2 ^ 64 → 18446744073709551615 ^^^ k = 18446744073709551615 - k := fun k hk => by
    have h3 : (~~~(BitVec.ofNat 64 k)).toNat = 18446744073709551615 ^^^ k := by rw [← BitVec.allOnes_xor, BitVec.toNat_xor]; simp [Nat.mod_eq_of_lt hk]
    rw [← h3, BitVec.toNat_not, BitVec.toNat_ofNat, Nat.mod_eq_of_lt hk]
  have := hn a.toNat (by have := h.1; omega)
  rw [show (18446744073709551615 : Int).toNat = 18446744073709551615 from rfl, this]
  have := h.1
  omega
set_option maxHeartbeats 1000000 in
set_option maxRecDepth 100000 in
theorem not_is (x : Int) (a0 a1 a2 a3 p0 p1 p2 p3 : Int) (w : World) (ha : IsW x a0 a1 a2 a3) (hp : IsW (-1 - x) p0 p1 p2 p3) : Calls Tryz.prog 44 #[.agg #[.int .u64 a0, .int .u64 a1, .int .u64 a2, .int .u64 a3]] w fun e w' => e = .returned (.agg #[.int .u64 p0, .int .u64 p1, .int .u64 p2, .int .u64 p3]) ∧ Below w.heap.size w w' := by
  have hq : IsW (-1 - x) (18446744073709551615 - a0) (18446744073709551615 - a1) (18446744073709551615 - a2) (18446744073709551615 - a3) := by
    obtain ⟨⟨u0, u1, u2, u3⟩, e⟩ := ha
    refine ⟨⟨?_, ?_, ?_, ?_⟩, ?_⟩
    all_goals unfold U64 Bd at *
    · omega
    · omega
    · omega
    · omega
    · unfold V Bd MM at *; omega
  obtain ⟨e0, e1, e2, e3⟩ := hp.eq hq rfl
  have j0 := not_u64 ha.u0
  have j1 := not_u64 ha.u1
  have j2 := not_u64 ha.u2
  have j3 := not_u64 ha.u3
  rw [← e0] at j0
  rw [← e1] at j1
  rw [← e2] at j2
  rw [← e3] at j3
  clear ha hp hq e0 e1 e2 e3
  go_enter Tryz.func44, Tryz.ntmps44
  go_wp2
  refine wp_loop_rounds 5 ?_
  rw [rounds_succ]
  go_wp2
  rw [rounds_succ]
  go_wp2
  rw [rounds_succ]
  go_wp2
  rw [rounds_succ]
  go_wp2
  rw [rounds_succ]
  go_wp2
  exact bodyPost_ret (v := .agg #[.int .u64 p0, .int .u64 p1, .int .u64 p2, .int .u64 p3]) (by simp [results, Tryz.results44, go_sem]) rfl ⟨rfl, by repeat' (first | with_reducible exact Below.refl _ _ | with_reducible exact Below.refl _ _ | with_reducible refine Below.drew ?_ | with_reducible refine bdrewN ?_ _ | with_reducible refine Below.alloc ?_ ?_ _ | with_reducible refine Below.setCell ?_ ?_ _ | omega | (simp; done) | (simp; omega))⟩
end Go.Proofs.YtpadpmkfhljiiaaGreat
