/- The document's negative, size, signed, Byte, zeros, Clz, Size; word.Clz, word.Size. -/
import Derived.Test.YtpadpmkfhljiiaaGreatMf4
import Derived.Test.YtpadpmkfhljiiaaGreatMf2
import Derived.Laws.BitsAllLaws
import Derived.Test.YtpadpmkfhljiiaaGreatMf3
import Derived.Deep.MidRow
import Derived.Deep.QuietTactic
import Derived.BigQuiet
import Derived.Test.YtpadpmkfhljiiaaGreatMf1
namespace Go.Proofs.YtpadpmkfhljiiaaGreat
open Go.RowKit
set_option maxHeartbeats 4000000 in
set_option maxRecDepth 100000 in
theorem rsz_r (a0 a1 a2 a3 : Int) (X n : Nat) (OA : ∀ W : World, Calls Tryz.prog 79 #[.agg #[.int .u64 a0, .int .u64 a1, .int .u64 a2, .int .u64 a3]] W fun e w' => ∃ v, e = .returned v ∧ RowAt w' v 32 (dig X) ∧ Below W.heap.size W w') (NL : n ≤ 32) (Z : ∀ j, n ≤ j → j < 32 → dig X j = 0) (O : 0 < n → dig X (n - 1) ≠ 0) (w : World) :
    Calls Tryz.prog 55 #[.agg #[.int .u64 a0, .int .u64 a1, .int .u64 a2, .int .u64 a3]] w fun e w' => e = .returned (.int .i64 (n : Int)) ∧ Below w.heap.size w w' := by
  have HOA : Hid _ := OA
  have HNL : Hid (n ≤ 32) := NL
  have HZ : Hid (∀ j, n ≤ j → j < 32 → dig X j = 0) := Z
  have HO : Hid (0 < n → dig X (n - 1) ≠ 0) := O
  clear OA NL Z O
  have K0 : Hid (Bx w [(w.heap.size, a0, a1, a2, a3)] (w.alloc (.cells #[.int .u64 a0, .int .u64 a1, .int .u64 a2, .int .u64 a3] 24))) := (Bx.start w).alloc a0 a1 a2 a3
  go_enter Tryz.func55, Tryz.ntmps55
  go_upto_region 1 with fail
  generalize (w.alloc (.cells #[.int .u64 a0, .int .u64 a1, .int .u64 a2, .int .u64 a3] 24)) = W0 at K0 ⊢
  obtain ⟨c0, c1, c2, c3, _⟩ := K0.out.f0 mm0
  go_wp2_with (go_at_call 79; refine (HOA.out _).mono ?_; rintro e v1 ⟨rv, rfl, hrow, hB⟩; (have K1 : Hid (Below w.heap.size w v1 ∧ RowAt v1 rv 32 (dig X)) := ⟨K0.out.bel.trans (hB.mono K0.out.bel.size), hrow⟩); clear hB hrow c0 c1 c2 c3 K0)
  have K4 := K1.out.2
  obtain ⟨_, _, _, ad, cap, rfl, hc⟩ := K4
  obtain ⟨g, o, rfl, hc2⟩ := hc (by decide)
  have HC : Hid (∀ i, i < 32 → v1.cell? ⟨g, o + i, none⟩ = some (.int .i64 (dig X i : Int))) := hc2
  clear hc hc2
  go_loopw [4] (fun s wr => ∃ k : Nat, s = .int .i64 (k : Int) ∧ n ≤ k ∧ k ≤ 32 ∧ wr = v1) (fun s _ => (intOf s).toNat)
  case atStart => exact ⟨32, rfl, HNL.out, by omega, rfl⟩
  case round =>
    obtain ⟨k, rfl, hk, hk2, hw⟩ := hrel
    have hw2 := hw.symm
    clear hw
    subst hw2
    by_cases h0 : 0 < k
    · have kI : (0 : Int) < (k : Int) := by omega
      obtain ⟨q, eq⟩ : ∃ q, q = k - 1 := ⟨_, rfl⟩
      have w1 : (k : Int) - 1 = (q : Int) := by omega
      have w2 : IntKind.i64.wrap (q : Int) = (q : Int) := by rw [IntKind.wrap_i64]; omega
      have qI : (q : Int) < 32 := by omega
      have cz := HC.out q (by omega)
      by_cases hk5 : n < k
      · rw [HZ.out q (by omega) (by omega)] at cz
        have nq : n ≤ q := by omega
        have qk : q < k := by omega
        clear eq
        go_wp2
        go_roundw
        case rel => exact ⟨q, rfl, nq, by omega, trivial⟩
        case measure => simp [intOf]; omega
      · obtain rfl : k = n := by omega
        have hd := HO.out h0
        rw [← eq] at hd
        obtain ⟨d, ed⟩ : ∃ d, d = dig X q := ⟨_, rfl⟩
        rw [← ed] at cz hd
        have d0 : ((d : Int) == 0) = false := by simp; omega
        have d1 : ¬ (d : Int) = 0 := by omega
        clear eq ed hd
        go_wp2
        go_ret
        exact ⟨rfl, K1.out.1⟩
    · obtain rfl : k = 0 := by omega
      obtain rfl : n = 0 := by omega
      go_wp2
      go_ret
      exact ⟨rfl, K1.out.1⟩
set_option maxHeartbeats 4000000 in
set_option maxRecDepth 100000 in
theorem size_r (a0 a1 a2 a3 : Int) (B n : Nat) (ZA : ∀ W : World, Calls Tryz.prog 109 #[.agg #[.int .u64 a0, .int .u64 a1, .int .u64 a2, .int .u64 a3]] W fun e w' => e = .returned (.int .i64 (256 - (B : Int))) ∧ Below W.heap.size W w') (BL : B ≤ 256) (ND : n = (B + 7) / 8) (w : World) :
    Calls Tryz.prog 54 #[.agg #[.int .u64 a0, .int .u64 a1, .int .u64 a2, .int .u64 a3]] w fun e w' => e = .returned (.int .i64 (n : Int)) ∧ Below w.heap.size w w' := by
  have HZA : Hid _ := ZA
  have HBL : Hid (B ≤ 256) := BL
  have HND : Hid (n = (B + 7) / 8) := ND
  clear ZA BL ND
  have bl := HBL.out
  have nd := HND.out
  have bI : (B : Int) ≤ 256 := by omega
  have t1 : Int.tdiv ((B : Int) + 7) 8 = (n : Int) := by rw [Int.tdiv_eq_ediv_of_nonneg (by omega)]; omega
  have t2 : IntKind.i64.wrap (n : Int) = (n : Int) := by rw [IntKind.wrap_i64]; omega
  clear nd
  have K0 : Hid (Bx w [(w.heap.size, a0, a1, a2, a3)] (w.alloc (.cells #[.int .u64 a0, .int .u64 a1, .int .u64 a2, .int .u64 a3] 24))) := (Bx.start w).alloc a0 a1 a2 a3
  go_enter Tryz.func54, Tryz.ntmps54
  go_upto_region 1 with fail
  generalize (w.alloc (.cells #[.int .u64 a0, .int .u64 a1, .int .u64 a2, .int .u64 a3] 24)) = W0 at K0 ⊢
  obtain ⟨c0, c1, c2, c3, _⟩ := K0.out.f0 mm0
  go_wp2_with (go_at_call 109; refine (HZA.out _).mono ?_; rintro e v1 ⟨rfl, hB⟩; (have K1 : Hid (Below w.heap.size w v1) := K0.out.bel.trans (hB.mono K0.out.bel.size)); clear hB c0 c1 c2 c3 K0)
  go_ret
  exact ⟨ret_int (by have := HND.out; omega), K1.out⟩
end Go.Proofs.YtpadpmkfhljiiaaGreat
/- Numbers and their bits, as words. -/
namespace Go.Proofs.YtpadpmkfhljiiaaGreat
open Go.RowKit
theorem p256 : (2 : Nat) ^ 256 = 256 ^ 32 := by decide
theorem bits_ex (X : Nat) : ∀ n, X < 2 ^ n → ∃ B, B ≤ n ∧ X < 2 ^ B ∧ (0 < B → 2 ^ (B - 1) ≤ X)
  | 0, h => ⟨0, by omega, h, by omega⟩
  | n + 1, h => by
    by_cases h1 : X < 2 ^ n
    · obtain ⟨B, b1, b2, b3⟩ := bits_ex X n h1
      exact ⟨B, by omega, b2, b3⟩
    · exact ⟨n + 1, by omega, h, fun _ => by rw [Nat.add_sub_cancel]; omega⟩
theorem natpow (B : Nat) : ((2 ^ B : Nat) : Int) = (2 : Int) ^ B := by rw [Int.natCast_pow]; rfl
theorem bitsOf_nat {X B : Nat} (h1 : X < 2 ^ B) (h2 : 0 < B → 2 ^ (B - 1) ≤ X) : BitsOf (X : Int) B := ⟨by rw [← natpow]; omega, fun h => by rw [← natpow]; have := h2 h; omega⟩
theorem bitsOf_inj {v : Int} {B C : Nat} (hb : BitsOf v B) (hc : BitsOf v C) : B = C := by
  have key : ∀ {B C : Nat}, BitsOf v B → BitsOf v C → B ≤ C := fun {B C} hb hc => by
    rcases Nat.lt_or_ge C B with h | h
    · have h1 := hb.2 (by omega)
      have h2 := hc.1
      rw [← natpow] at h1 h2
      have h3 : 2 ^ C ≤ 2 ^ (B - 1) := Nat.pow_le_pow_right (by decide) (by omega)
      omega
    · exact h
  exact Nat.le_antisymm (key hb hc) (key hc hb)
theorem zerosAhead_is {x : Int} {a0 a1 a2 a3 : Int} (ha : IsW x a0 a1 a2 a3) {X B : Nat} (hX : V a0 a1 a2 a3 = (X : Int)) (hB : BitsOf (X : Int) B) (w : World) :
    Calls Tryz.prog 109 #[.agg #[.int .u64 a0, .int .u64 a1, .int .u64 a2, .int .u64 a3]] w fun e w' => e = .returned (.int .i64 (256 - (B : Int))) ∧ Below w.heap.size w w' := by
  refine (zerosAhead_any x a0 a1 a2 a3 w ha).mono ?_
  rintro e w' ⟨C, rfl, _, hC, hBe⟩
  rw [hX] at hC
  rw [bitsOf_inj hB hC]
  exact ⟨rfl, hBe⟩
end Go.Proofs.YtpadpmkfhljiiaaGreat
/- Rows of bytes; word.Bytes. -/
namespace Go.Proofs.YtpadpmkfhljiiaaGreat
open Go.RowKit
theorem below_setCellsB {B : Nat} {a : World} (b : Nat) (hb : B ≤ b) : ∀ (vs : List Value) (o : Nat) (w : World), Below B a w → Below B a (w.setCells b o vs)
  | [], _, _, h => h
  | v :: r, o, w, h => by rw [World.setCells]; exact below_setCellsB b hb r (o + 1) _ (h.setCell hb v)
theorem results_cellB {fn : Func} {p : Tmp} {ty : TypeId} (h : fn.results = #[.cell p ty]) (tmps : Array Value) (P : Program) (w : World) (a : Addr) (ha : tmps.getD p undef = .pointer (some a)) {v : Value} (hl : (loadVar ty a).run P w = .ok v w) : (results fn tmps).run P w = .ok v w := by
  have ha' : tmps[p]?.getD undef = .pointer (some a) := by simpa using ha
  simp only [results, h]
  simp [ha', hl, asAddr]
/-- the first n cells of block b are the numbers v, and may be written -/
def RowB (w : World) (b n : Nat) (v : Nat → Int) : Prop := ∀ i, i < n → w.cell? ⟨b, i, none⟩ = some (.int .u8 (v i)) ∧ w.frozen? ⟨b, i, none⟩ = false
def rowB (n : Nat) (v : Nat → Int) : List Value := (List.range n).map fun i => .int .u8 (v i)
theorem rowB_len (n : Nat) (v : Nat → Int) : (rowB n v).length = n := by simp [rowB]
theorem rowB_at (n : Nat) (v : Nat → Int) (i : Nat) (h : i < n) : (rowB n v)[i]? = some (.int .u8 (v i)) := by simp [rowB, h]
theorem rowB_ext {n : Nat} {u v : Nat → Int} (h : ∀ i, i < n → u i = v i) : rowB n u = rowB n v := by
  simp only [rowB]; apply List.map_congr_left; intro i hi; rw [h i (List.mem_range.1 hi)]
theorem rowB_one (n : Nat) (v : Nat → Int) : (rowB n v).toArray.all (·.oneCell') = true :=
  all_oneCell_toArray (by intro x hx; simp only [rowB, List.mem_map] at hx; obtain ⟨i, _, rfl⟩ := hx; rfl)
theorem RowB.ext {w : World} {b n : Nat} {u v : Nat → Int} (h : RowB w b n u) (e : ∀ i, i < n → u i = v i) : RowB w b n v := fun i hi => by rw [← e i hi]; exact h i hi
theorem RowB.lt {w : World} {b n : Nat} {v : Nat → Int} (h : RowB w b n v) (hn : 0 < n) : b < w.heap.size := World.block_lt_of_cell? w _ (h 0 hn).1
theorem RowB.below {w w' : World} {B b n : Nat} {v : Nat → Int} (h : RowB w b n v) (k : Below B w w') (hb : b < B) : RowB w' b n v := fun i hi =>
  ⟨(k.cell (p := ⟨b, i, none⟩) hb).trans (h i hi).1, (k.frozen (p := ⟨b, i, none⟩) hb).trans (h i hi).2⟩
theorem RowB.drew {w : World} {b n : Nat} {v : Nat → Int} (h : RowB w b n v) : RowB w.drew b n v := fun i hi => by simpa using h i hi
theorem RowB.alloc {w : World} {b n : Nat} {v : Nat → Int} (h : RowB w b n v) (o : Obj) : RowB (w.alloc o) b n v := fun i hi => by
  have hb := World.block_lt_of_cell? w _ (h i hi).1
  exact ⟨by rw [World.cell?_alloc_lt _ _ _ hb]; exact (h i hi).1, by rw [World.frozen?_alloc_past _ _ _ hb]; exact (h i hi).2⟩
theorem RowB.set_other {w : World} {b n : Nat} {v : Nat → Int} (h : RowB w b n v) (p : Addr) (x : Value) (hp : p.block ≠ b) : RowB (w.setCell p x) b n v := fun i hi =>
  ⟨by rw [World.cell?_setCell_other _ _ _ _ (by intro e; subst e; exact hp rfl)]; exact (h i hi).1, by rw [World.frozen?_setCell]; exact (h i hi).2⟩
theorem RowB.set {w : World} {b n : Nat} {v : Nat → Int} (h : RowB w b n v) (k : Nat) (x : Int) (hk : k < n) : RowB (w.setCell ⟨b, k, none⟩ (.int .u8 x)) b n (fun i => if i = k then x else v i) := fun i hi => by
  refine ⟨?_, by rw [World.frozen?_setCell]; exact (h i hi).2⟩
  dsimp only
  by_cases e : i = k
  · subst e; rw [World.cell?_setCell_same _ _ _ (h i hi).1, if_pos rfl]
  · rw [World.cell?_setCell_other _ _ _ _ (by intro e'; injection e' with _ e' _; exact e e'.symm), if_neg e]; exact (h i hi).1
theorem RowB.new (w : World) (t : TypeId) (n : Nat) (v : Nat → Int) : RowB (w.alloc (.cells (rowB n v).toArray t)) w.heap.size n v := fun i hi => by
  rw [World.cell?_alloc_at _ _ _ _ rfl]
  exact ⟨by simp [rowB, hi], by simp [World.frozen?_alloc_at]⟩
theorem RowB.range {w : World} {b n : Nat} {v : Nat → Int} (h : RowB w b n v) : w.rangeAt b 0 (rowB n v) := fun j x hx => by
  have hj : j < n := by have := (List.getElem?_eq_some_iff.1 hx).1; rwa [rowB_len] at this
  rw [rowB_at n v j hj] at hx; rw [Nat.zero_add, ← hx]; exact (h j hj).1
theorem RowB.there {w : World} {b n : Nat} {v : Nat → Int} (h : RowB w b n v) : w.there b 0 n := fun j hj => by
  rw [Nat.zero_add, (h j hj).1]; exact ⟨rfl, (h j hj).2⟩
theorem RowB.of_range {w : World} {b n : Nat} {u v : Nat → Int} (h : RowB w b n u) : RowB (w.setCells b 0 (rowB n v)) b n v := fun i hi => by
  have := World.rangeAt_setCells_same w b 0 (rowB n v) (by rw [rowB_len]; exact h.there) i _ (rowB_at n v i hi)
  rw [Nat.zero_add] at this
  exact ⟨this, by rw [World.frozen?_setCells]; exact (h i hi).2⟩
theorem zeroB32 : (#[.int .u8 0, .int .u8 0, .int .u8 0, .int .u8 0, .int .u8 0, .int .u8 0, .int .u8 0, .int .u8 0, .int .u8 0, .int .u8 0, .int .u8 0, .int .u8 0, .int .u8 0, .int .u8 0, .int .u8 0, .int .u8 0, .int .u8 0, .int .u8 0, .int .u8 0, .int .u8 0, .int .u8 0, .int .u8 0, .int .u8 0, .int .u8 0, .int .u8 0, .int .u8 0, .int .u8 0, .int .u8 0, .int .u8 0, .int .u8 0, .int .u8 0, .int .u8 0] : Array Value) = (rowB 32 fun _ => 0).toArray := by rfl
theorem store32 {ops : Array Oper} {rest : List Oper} {op : Oper} {a : Act} {w : World} {Q : Exit → Act → World → Prop} (g : Nat → Int) (b : Nat) (hgd : op.guard = none) (x y : Operand) (ho : op.op = .store 45 x y)
    (hx : a.eval x = .pointer (some ⟨b, 0, none⟩)) (hy : a.eval y = .agg (rowB 32 g).toArray) (ht : w.there b 0 32)
    (h : wpList Tryz.prog ops Q rest (a.put op.dst undef) (w.setCells b 0 (rowB 32 g))) : wpList Tryz.prog ops Q (op :: rest) a w :=
  wpList_store_mid hgd 45 x y ho b 0 (rowB 32 g).toArray hx hy (by rw [List.size_toArray, rowB_len]; exact ht) (by rw [List.size_toArray, rowB_len]; kernel_rfl) (rowB_one 32 g) h
theorem load32 {ops : Array Oper} {rest : List Oper} {op : Oper} {a : Act} {w : World} {Q : Exit → Act → World → Prop} (g : Nat → Int) (b : Nat) (hgd : op.guard = none) (x : Operand) (ho : op.op = .load 45 x)
    (hx : a.eval x = .pointer (some ⟨b, 0, none⟩)) (hr : w.rangeAt b 0 (rowB 32 g))
    (h : wpList Tryz.prog ops Q rest (a.put op.dst (.agg (rowB 32 g).toArray)) w) : wpList Tryz.prog ops Q (op :: rest) a w :=
  wpList_load_mid hgd 45 x ho b 0 hx (rowB 32 g) _ hr Tryz.underlying45 rfl (by rw [rowB_len]; kernel_rfl) h
theorem loadVar32 {w : World} {b : Nat} {g : Nat → Int} (h : w.rangeAt b 0 (rowB 32 g)) : (loadVar 45 ⟨b, 0, none⟩).run Tryz.prog w = .ok (.agg (rowB 32 g).toArray) w :=
  run_loadVar_mid w b 0 45 (rowB 32 g) _ h Tryz.underlying45 rfl (by rw [rowB_len]; kernel_rfl)
/-- byte i of a word, number 0 the lowest -/
def bw (x0 x1 x2 x3 : Int) (i : Nat) : Int := limb x0 x1 x2 x3 (i / 8) / 2 ^ (8 * (i % 8)) % 256
def bb (x0 x1 x2 x3 : Int) (j : Nat) : Int := bw x0 x1 x2 x3 (31 - j)
def ByInv (w : World) (x0 x1 x2 x3 : Int) (n : Nat) (W : World) : Prop := Below w.heap.size w W ∧ Box W w.heap.size x0 x1 x2 x3 ∧ RowB W (w.heap.size + 1) 32 (fun _ => 0) ∧ ∃ u : Nat → Int, RowB W (w.heap.size + 1 + 1) 32 u ∧ ∀ j, j < n → u (31 - j) = bw x0 x1 x2 x3 j
theorem ByInv.step {w W : World} {x0 x1 x2 x3 : Int} {n m : Nat} (h : ByInv w x0 x1 x2 x3 n W) (hn : n < 32) (hm : m + n = 31) {y : Int} (ey : bw x0 x1 x2 x3 n = y) : ByInv w x0 x1 x2 x3 (n + 1) (W.setCell ⟨w.heap.size + 1 + 1, m, none⟩ (.int .u8 y)) := by
  obtain ⟨hB, hA, hZ, u, hU, hu⟩ := h
  refine ⟨hB.setCell (by simp; omega) _, hA.other _ _ (by simp; omega), hZ.set_other _ _ (by simp), _, hU.set m y (by omega), ?_⟩
  intro j hj
  by_cases e : j = n
  · subst e; rw [if_pos (by omega), ey]
  · rw [if_neg (by omega), hu j (by omega)]
set_option maxHeartbeats 1000000 in
set_option maxRecDepth 100000 in
theorem bytes_is (x0 x1 x2 x3 : Int) (w : World) : Calls Tryz.prog 64 #[.agg #[.int .u64 x0, .int .u64 x1, .int .u64 x2, .int .u64 x3]] w fun e w' => e = .returned (.agg (rowB 32 (bb x0 x1 x2 x3)).toArray) ∧ Below w.heap.size w w' := by
  go_enter Tryz.func64, Tryz.ntmps64
  go_wp2
  go_loopw [5] (fun i wr => ∃ k : Nat, k ≤ 32 ∧ i = .int .i64 k ∧ ByInv w x0 x1 x2 x3 k wr) (fun i _ => 32 - (intOf i).toNat)
  case atStart =>
    rw [zeroB32]
    refine ⟨0, Nat.zero_le _, rfl, ?_, ((Box.new w _ x0 x1 x2 x3).alloc _).alloc _, ?_, fun _ => 0, ?_, ?_⟩
    · exact (((Below.refl _ _).alloc (by omega) _).alloc (by simp) _).alloc (by simp; omega) _
    · have := (RowB.new (w.alloc (.cells #[.int .u64 x0, .int .u64 x1, .int .u64 x2, .int .u64 x3] 24)) 45 32 fun _ => 0).alloc (.cells (rowB 32 fun _ => 0).toArray 45)
      simpa using this
    · have := RowB.new ((w.alloc (.cells #[.int .u64 x0, .int .u64 x1, .int .u64 x2, .int .u64 x3] 24)).alloc (.cells (rowB 32 fun _ => 0).toArray 45)) 45 32 fun _ => 0
      simpa using this
    · intro j hj; omega
  case round =>
    obtain ⟨k, hk, rfl, hI⟩ := hrel
    by_cases hk5 : k < 32
    · have kI : ((k : Int) < 32) := by omega
      obtain ⟨d, ed⟩ : ∃ d : Nat, d = k / 8 := ⟨_, rfl⟩
      obtain ⟨r, er⟩ : ∃ r : Nat, r = k % 8 := ⟨_, rfl⟩
      obtain ⟨s, es⟩ : ∃ s : Nat, s = 8 * r := ⟨_, rfl⟩
      obtain ⟨m, em⟩ : ∃ m : Nat, m + k = 31 := ⟨31 - k, by omega⟩
      have t0 : (31 : Int) - (k : Int) = (m : Int) := by omega
      have t1 : Int.tdiv (k : Int) 8 = (d : Int) := by rw [Int.tdiv_eq_ediv_of_nonneg (by omega)]; omega
      have t2 : Int.tmod (k : Int) 8 = (r : Int) := by rw [Int.tmod_eq_emod_of_nonneg (by omega)]; omega
      have t3 : (8 : Int) * (r : Int) = (s : Int) := by omega
      have q0 : IntKind.i64.wrap (m : Int) = (m : Int) := by rw [IntKind.wrap_i64]; omega
      have q1 : IntKind.i64.wrap (d : Int) = (d : Int) := by rw [IntKind.wrap_i64]; omega
      have q2 : IntKind.i64.wrap (r : Int) = (r : Int) := by rw [IntKind.wrap_i64]; omega
      have q3 : IntKind.i64.wrap (s : Int) = (s : Int) := by rw [IntKind.wrap_i64]; omega
      have q4 : IntKind.u64.wrap (s : Int) = (s : Int) := by rw [IntKind.wrap_u64]; omega
      have q5 : min s 64 = s := by omega
      have dI : (d : Int) < 4 := by omega
      have mI : (m : Int) < 32 := by omega
      have m0 : (0 : Int) ≤ (m : Int) := by omega
      have sI : (0 : Int) ≤ (s : Int) := by omega
      have ca := hI.2.1.1 d (by omega)
      obtain ⟨u, hU, hu⟩ := hI.2.2.2
      have cb := (hU m (by omega)).1
      have fb := (hU m (by omega)).2
      obtain ⟨y, ey⟩ : ∃ y, bw x0 x1 x2 x3 k = y := ⟨_, rfl⟩
      have HI : Hid _ := hI
      have EY : Hid (bw x0 x1 x2 x3 k = y) := ey
      have EM : Hid (m + k = 31) := em
      have ev : IntKind.u8.wrap (limb x0 x1 x2 x3 d / 2 ^ s) = y := by
        rw [← ey, bw, ← ed, ← er, ← es, IntKind.wrap_u8]
      generalize limb x0 x1 x2 x3 d = z9 at ca ev
      generalize u m = z at cb
      clear hk ed er es hU hu ey hI em
      go_wp2
      go_roundw
      case rel => exact ⟨k + 1, by omega, by go_num, ByInv.step HI.out hk5 EM.out EY.out⟩
      case measure => simp [intOf]; omega
    · obtain rfl : k = 32 := by omega
      obtain ⟨hB, hA, hZ, u, hU, hu⟩ := hI
      have hl : rowB 32 u = rowB 32 (bb x0 x1 x2 x3) := rowB_ext fun i hi => by
        have := hu (31 - i) (by omega)
        rw [show 31 - (31 - i) = i by omega] at this
        exact this
      have hr := hU.range
      rw [hl] at hr
      have hW := @RowB.of_range wr (w.heap.size + 1) 32 (fun _ => 0) (bb x0 x1 x2 x3) hZ
      have hBW := below_setCellsB (w.heap.size + 1) (by omega) (rowB 32 (bb x0 x1 x2 x3)) 0 wr hB
      have HA : Hid _ := hr
      have HZ : Hid _ := hZ.there
      clear hr hZ hA hU hu hl
      go_wp2_with (first
        | refine load32 (bb x0 x1 x2 x3) (w.heap.size + 1 + 1) rfl _ rfl rfl HA.out ?_
        | refine store32 (bb x0 x1 x2 x3) (w.heap.size + 1) rfl _ _ rfl rfl rfl HZ.out ?_)
      refine bodyPost_ret (v := .agg (rowB 32 (bb x0 x1 x2 x3)).toArray) ?_ rfl ⟨rfl, hBW⟩
      exact results_cellB Tryz.results64 _ _ _ ⟨w.heap.size + 1, 0, none⟩ rfl (loadVar32 hW.range)
end Go.Proofs.YtpadpmkfhljiiaaGreat
/- word.Byte. -/
namespace Go.Proofs.YtpadpmkfhljiiaaGreat
open Go.RowKit
end Go.Proofs.YtpadpmkfhljiiaaGreat
/- gather: a word out of its bytes; FromBytes; Size. -/
namespace Go.Proofs.YtpadpmkfhljiiaaGreat
open Go.RowKit
/-- the first n cells of block b are the numbers v, and may be written -/
def RowV (w : World) (b n : Nat) (v : Nat → Int) : Prop := ∀ i, i < n → w.cell? ⟨b, i, none⟩ = some (.int .u64 (v i)) ∧ w.frozen? ⟨b, i, none⟩ = false
theorem RowV.ext {w : World} {b n : Nat} {u v : Nat → Int} (h : RowV w b n u) (e : ∀ i, i < n → u i = v i) : RowV w b n v := fun i hi => by rw [← e i hi]; exact h i hi
theorem RowV.lt {w : World} {b n : Nat} {v : Nat → Int} (h : RowV w b n v) (hn : 0 < n) : b < w.heap.size := World.block_lt_of_cell? w _ (h 0 hn).1
theorem RowV.below {w w' : World} {B b n : Nat} {v : Nat → Int} (h : RowV w b n v) (k : Below B w w') (hb : b < B) : RowV w' b n v := fun i hi =>
  ⟨(k.cell (p := ⟨b, i, none⟩) hb).trans (h i hi).1, (k.frozen (p := ⟨b, i, none⟩) hb).trans (h i hi).2⟩
theorem RowV.alloc {w : World} {b n : Nat} {v : Nat → Int} (h : RowV w b n v) (o : Obj) : RowV (w.alloc o) b n v := fun i hi => by
  have hb := World.block_lt_of_cell? w _ (h i hi).1
  exact ⟨by rw [World.cell?_alloc_lt _ _ _ hb]; exact (h i hi).1, by rw [World.frozen?_alloc_past _ _ _ hb]; exact (h i hi).2⟩
theorem RowV.set_other {w : World} {b n : Nat} {v : Nat → Int} (h : RowV w b n v) (p : Addr) (x : Value) (hp : p.block ≠ b) : RowV (w.setCell p x) b n v := fun i hi =>
  ⟨by rw [World.cell?_setCell_other _ _ _ _ (by intro e; subst e; exact hp rfl)]; exact (h i hi).1, by rw [World.frozen?_setCell]; exact (h i hi).2⟩
theorem RowV.set {w : World} {b n : Nat} {v : Nat → Int} (h : RowV w b n v) (k : Nat) (x : Int) (hk : k < n) : RowV (w.setCell ⟨b, k, none⟩ (.int .u64 x)) b n (fun i => if i = k then x else v i) := fun i hi => by
  refine ⟨?_, by rw [World.frozen?_setCell]; exact (h i hi).2⟩
  dsimp only
  by_cases e : i = k
  · subst e; rw [World.cell?_setCell_same _ _ _ (h i hi).1, if_pos rfl]
  · rw [World.cell?_setCell_other _ _ _ _ (by intro e'; injection e' with _ e' _; exact e e'.symm), if_neg e]; exact (h i hi).1
theorem RowV.box {w : World} {b : Nat} {a0 a1 a2 a3 : Int} (h : Box w b a0 a1 a2 a3) : RowV w b 4 (limb a0 a1 a2 a3) := fun i hi => ⟨h.1 i hi, h.2 i hi⟩
theorem RowV.toBox {w : World} {b : Nat} {a0 a1 a2 a3 : Int} (h : RowV w b 4 (limb a0 a1 a2 a3)) : Box w b a0 a1 a2 a3 := ⟨fun i hi => (h i hi).1, fun i hi => (h i hi).2⟩
/-- of a word the bytes from number m on -/
def keep (x0 x1 x2 x3 : Int) (m q : Nat) : Int := limb x0 x1 x2 x3 q / 2 ^ (8 * min 8 (m - 8 * q)) * 2 ^ (8 * min 8 (m - 8 * q))
theorem keep_nat (l r : Nat) : l / 2 ^ (8 * r + 8) * 2 ^ (8 * r + 8) ||| (l / 2 ^ (8 * r) % 256) * 2 ^ (8 * r) = l / 2 ^ (8 * r) * 2 ^ (8 * r) := by
  have e8 : 2 ^ (8 * r + 8) = 2 ^ (8 * r) * 256 := by rw [Nat.pow_add]
  have hb : (l / 2 ^ (8 * r) % 256) * 2 ^ (8 * r) < 2 ^ (8 * r + 8) := by
    rw [e8, Nat.mul_comm (2 ^ (8 * r)) 256]
    exact Nat.mul_lt_mul_of_pos_right (Nat.mod_lt _ (by decide)) (Nat.two_pow_pos _)
  rw [← Nat.shiftLeft_eq (l / 2 ^ (8 * r + 8)), ← Nat.shiftLeft_add_eq_or_of_lt hb, Nat.shiftLeft_eq, e8, ← Nat.div_div_eq_div_mul]
  generalize 2 ^ (8 * r) = P
  generalize l / P = d
  rw [Nat.mul_comm P 256, ← Nat.mul_assoc, ← Nat.add_mul, Nat.mul_comm (d / 256) 256, Nat.div_add_mod]
theorem keep_step {x0 x1 x2 x3 : Int} (m q r : Nat) (hx : U64 (limb x0 x1 x2 x3 q)) (hq : q = m / 8) (hr : r = m % 8) : bits .or .u64 (keep x0 x1 x2 x3 (m + 1) q) (bw x0 x1 x2 x3 m * 2 ^ (8 * r)) = keep x0 x1 x2 x3 m q ∧ 0 ≤ bw x0 x1 x2 x3 m * 2 ^ (8 * r) ∧ bw x0 x1 x2 x3 m * 2 ^ (8 * r) < 18446744073709551616 := by
  obtain ⟨l, hl⟩ := Int.eq_ofNat_of_zero_le hx.1
  have hlt := hx.2
  unfold Bd at hlt
  have s1 : 8 * min 8 (m + 1 - 8 * q) = 8 * r + 8 := by omega
  have s2 : 8 * min 8 (m - 8 * q) = 8 * r := by omega
  have hr8 : r ≤ 7 := by omega
  unfold keep bw
  rw [s1, s2, ← hq, ← hr, hl]
  rw [hl] at hlt
  have hl9 : l < 18446744073709551616 := by omega
  have e1 : (l : Int) / 2 ^ (8 * r + 8) * 2 ^ (8 * r + 8) = ((l / 2 ^ (8 * r + 8) * 2 ^ (8 * r + 8) : Nat) : Int) := by
    rw [Int.natCast_mul, Int.natCast_ediv, Int.natCast_pow]; rfl
  have e2 : (l : Int) / 2 ^ (8 * r) % 256 * 2 ^ (8 * r) = (((l / 2 ^ (8 * r) % 256) * 2 ^ (8 * r) : Nat) : Int) := by
    rw [Int.natCast_mul, Int.natCast_emod, Int.natCast_ediv, Int.natCast_pow]; rfl
  have e3 : (l : Int) / 2 ^ (8 * r) * 2 ^ (8 * r) = ((l / 2 ^ (8 * r) * 2 ^ (8 * r) : Nat) : Int) := by
    rw [Int.natCast_mul, Int.natCast_ediv, Int.natCast_pow]; rfl
  have b1 : l / 2 ^ (8 * r + 8) * 2 ^ (8 * r + 8) < 18446744073709551616 := Nat.lt_of_le_of_lt (Nat.div_mul_le_self _ _) hl9
  have b2 : (l / 2 ^ (8 * r) % 256) * 2 ^ (8 * r) < 18446744073709551616 := by
    have h1 : (l / 2 ^ (8 * r) % 256) * 2 ^ (8 * r) ≤ l := Nat.le_trans (Nat.mul_le_mul_right _ (Nat.mod_le _ _)) (Nat.div_mul_le_self _ _)
    omega
  rw [e1, e2, e3, u64_or_nat _ _ b1 b2, keep_nat]
  exact ⟨rfl, by omega, by omega⟩
theorem keep_other (x0 x1 x2 x3 : Int) (m i : Nat) (h : i ≠ m / 8) : keep x0 x1 x2 x3 (m + 1) i = keep x0 x1 x2 x3 m i := by
  unfold keep
  rw [show min 8 (m + 1 - 8 * i) = min 8 (m - 8 * i) by omega]
theorem keep_zero (x0 x1 x2 x3 : Int) (i : Nat) : keep x0 x1 x2 x3 0 i = limb x0 x1 x2 x3 i := by
  unfold keep
  rw [show 8 * min 8 (0 - 8 * i) = 0 by omega]; simp
def GInv (w : World) (x0 x1 x2 x3 : Int) (m : Nat) (W : World) : Prop := Below w.heap.size w W ∧ Box W w.heap.size 0 0 0 0 ∧ RowV W (w.heap.size + 1) 4 (keep x0 x1 x2 x3 m)
theorem GInv.step {w W : World} {x0 x1 x2 x3 : Int} {m q : Nat} (h : GInv w x0 x1 x2 x3 (m + 1) W) (hq : q = m / 8) (hm : m < 32) {y : Int} (ey : keep x0 x1 x2 x3 m q = y) : GInv w x0 x1 x2 x3 m (W.setCell ⟨w.heap.size + 1, q, none⟩ (.int .u64 y)) := by
  obtain ⟨hB, hA, hR⟩ := h
  refine ⟨hB.setCell (by simp) _, hA.other _ _ (by simp), (hR.set q y (by omega)).ext fun i hi => ?_⟩
  by_cases e : i = q
  · rw [if_pos e, e, ey]
  · rw [if_neg e]; exact keep_other _ _ _ _ _ _ (by omega)
set_option maxHeartbeats 1000000 in
set_option maxRecDepth 100000 in
theorem gather_is (x0 x1 x2 x3 : Int) (g o n c : Nat) (w : World) (hn : n ≤ 32) (hx : ∀ q, U64 (limb x0 x1 x2 x3 q)) (hz : ∀ q, q < 4 → keep x0 x1 x2 x3 n q = 0) (hb : ∀ i, i < n → w.cell? ⟨g, o + i, none⟩ = some (.int .u8 (bw x0 x1 x2 x3 (n - 1 - i)))) : Calls Tryz.prog 114 #[.slice (some ⟨g, o, none⟩) n c] w fun e w' => e = .returned (.agg #[.int .u64 x0, .int .u64 x1, .int .u64 x2, .int .u64 x3]) ∧ Below w.heap.size w w' := by
  have HX : Hid (∀ q, U64 (limb x0 x1 x2 x3 q)) := hx
  have HBb : Hid (∀ i, i < n → w.cell? ⟨g, o + i, none⟩ = some (.int .u8 (bw x0 x1 x2 x3 (n - 1 - i)))) := hb
  have nI : (n : Int) ≤ 32 := by omega
  have I0 : Hid (∀ W, W = ((w.alloc (.cells #[.int .u64 0, .int .u64 0, .int .u64 0, .int .u64 0] 24)).alloc (.cells #[.int .u64 0, .int .u64 0, .int .u64 0, .int .u64 0] 24)) → GInv w x0 x1 x2 x3 n W) := fun W e => by
    subst e
    have h2 := Box.new (w.alloc (.cells #[.int .u64 0, .int .u64 0, .int .u64 0, .int .u64 0] 24)) 24 0 0 0 0
    rw [World.size_alloc] at h2
    refine ⟨by repeat' (first | with_reducible exact Below.refl _ _ | with_reducible exact Below.refl _ _ | with_reducible refine Below.drew ?_ | with_reducible refine bdrewN ?_ _ | with_reducible refine Below.alloc ?_ ?_ _ | with_reducible refine Below.setCell ?_ ?_ _ | omega | (simp; done) | (simp; omega)), (Box.new w 24 0 0 0 0).alloc _, (RowV.box h2).ext fun i hi => ?_⟩
    rw [hz i hi]
    obtain rfl | rfl | rfl | rfl : i = 0 ∨ i = 1 ∨ i = 2 ∨ i = 3 := by omega
    all_goals rfl
  clear hx hb hz
  go_enter Tryz.func114, Tryz.ntmps114
  go_wp2
  go_loopw [9] (fun si wr => ∃ k m : Nat, m + k = n ∧ si = .int .i64 k ∧ GInv w x0 x1 x2 x3 m wr) (fun si _ => n - (intOf si).toNat)
  case atStart => exact ⟨0, n, by omega, rfl, I0.out _ rfl⟩
  case round =>
    obtain ⟨k, m, hk, rfl, hI⟩ := hrel
    clear I0
    by_cases hk5 : k < n
    · have kI : ((k : Int) < (n : Int)) := by omega
      obtain ⟨m, rfl⟩ : ∃ m', m = m' + 1 := ⟨m - 1, by omega⟩
      obtain ⟨q, eq⟩ : ∃ d : Nat, d = m / 8 := ⟨_, rfl⟩
      obtain ⟨r, er⟩ : ∃ r : Nat, r = m % 8 := ⟨_, rfl⟩
      obtain ⟨s, es⟩ : ∃ s : Nat, s = 8 * r := ⟨_, rfl⟩
      have t0 : (n : Int) - 1 - (k : Int) = (m : Int) := by omega
      have t1 : Int.tdiv (m : Int) 8 = (q : Int) := by rw [Int.tdiv_eq_ediv_of_nonneg (by omega)]; omega
      have t2 : Int.tmod (m : Int) 8 = (r : Int) := by rw [Int.tmod_eq_emod_of_nonneg (by omega)]; omega
      have t3 : (8 : Int) * (r : Int) = (s : Int) := by omega
      have q1 : IntKind.i64.wrap (q : Int) = (q : Int) := by rw [IntKind.wrap_i64]; omega
      have q2 : IntKind.i64.wrap (r : Int) = (r : Int) := by rw [IntKind.wrap_i64]; omega
      have q3 : IntKind.i64.wrap (s : Int) = (s : Int) := by rw [IntKind.wrap_i64]; omega
      have q4 : IntKind.u64.wrap (s : Int) = (s : Int) := by rw [IntKind.wrap_u64]; omega
      have q5 : min s 64 = s := by omega
      have qI : (q : Int) < 4 := by omega
      have sI : (0 : Int) ≤ (s : Int) := by omega
      have st := keep_step (x0 := x0) (x1 := x1) (x2 := x2) (x3 := x3) m q r (HX.out q) eq er
      rw [← es] at st
      have cb0 := HBb.out k hk5
      rw [show n - 1 - k = m by omega] at cb0
      have cb := (hI.1.cell (p := ⟨g, o + k, none⟩) (World.block_lt_of_cell? w _ cb0)).trans cb0
      have ca := (hI.2.2 q (by omega)).1
      have fa := (hI.2.2 q (by omega)).2
      have yr : 0 ≤ bw x0 x1 x2 x3 m ∧ bw x0 x1 x2 x3 m < 256 := by unfold bw; omega
      obtain ⟨z, ez⟩ : ∃ z, keep x0 x1 x2 x3 m q = z := ⟨_, rfl⟩
      rw [ez] at st
      have HI : Hid (GInv w x0 x1 x2 x3 (m + 1) wr) := hI
      have EZ : Hid (keep x0 x1 x2 x3 m q = z) := ez
      have EQ : Hid (q = m / 8) := eq
      have EM : Hid (m + 1 + k = n) := hk
      generalize keep x0 x1 x2 x3 (m + 1) q = u at ca st
      generalize bw x0 x1 x2 x3 m = y at cb st yr
      have wy : IntKind.u64.wrap y = y := by rw [IntKind.wrap_u64]; omega
      obtain ⟨st1, st2, st3⟩ := st
      have ws : IntKind.u64.wrap (y * 2 ^ s) = y * 2 ^ s := by rw [IntKind.wrap_u64]; omega
      clear hk eq er es cb0 hI yr ez st2 st3
      go_wp2
      go_roundw
      case rel => exact ⟨k + 1, m, by have := EM.out; omega, by go_num, GInv.step HI.out EQ.out (by have := EM.out; omega) EZ.out⟩
      case measure => simp [intOf]; omega
    · obtain rfl : m = 0 := by omega
      obtain rfl : k = n := by omega
      have kI : ¬ ((k : Int) < (k : Int)) := by omega
      obtain ⟨hB, hA, hR⟩ := hI
      have hX : Box wr (w.heap.size + 1) x0 x1 x2 x3 := RowV.toBox (hR.ext fun i _ => keep_zero x0 x1 x2 x3 i)
      have HB : Hid (Below w.heap.size w wr) := hB
      clear hR hB
      obtain ⟨p0, p1, p2, p3, _⟩ := Box.facts hX
      obtain ⟨r0, r1, r2, r3, f0, f1, f2, f3⟩ := Box.facts hA
      clear hX hA
      go_wp2
      exact bodyPost_ret (v := .agg #[.int .u64 x0, .int .u64 x1, .int .u64 x2, .int .u64 x3]) (by simp [results, Tryz.results114, go_sem, r0, r1, r2, r3]) rfl ⟨rfl, below_put HB.out (Nat.le_refl _) x0 x1 x2 x3⟩
set_option maxHeartbeats 1000000 in
theorem fromBytes_is (x0 x1 x2 x3 : Int) (g o n c : Nat) (w : World) (hn : n ≤ 32) (hx : ∀ q, U64 (limb x0 x1 x2 x3 q)) (hz : ∀ q, q < 4 → keep x0 x1 x2 x3 n q = 0) (hb : ∀ i, i < n → w.cell? ⟨g, o + i, none⟩ = some (.int .u8 (bw x0 x1 x2 x3 (n - 1 - i)))) : Calls Tryz.prog 58 #[.slice (some ⟨g, o, none⟩) n c] w fun e w' => e = .returned (.tuple #[.agg #[.int .u64 x0, .int .u64 x1, .int .u64 x2, .int .u64 x3], .int .i64 0]) ∧ Below w.heap.size w w' := by
  have nI : (n : Int) ≤ 32 := by omega
  have I0 : Hid (∀ W, W = w.alloc (.cells #[.int .u64 0, .int .u64 0, .int .u64 0, .int .u64 0] 24) → Below w.heap.size w W ∧ Box W w.heap.size 0 0 0 0 ∧ Calls Tryz.prog 114 #[.slice (some ⟨g, o, none⟩) n c] W fun e w' => e = .returned (.agg #[.int .u64 x0, .int .u64 x1, .int .u64 x2, .int .u64 x3]) ∧ Below W.heap.size W w') := fun W e => by
    subst e
    exact ⟨(Below.refl _ _).alloc (Nat.le_refl _) _, Box.new w 24 0 0 0 0, gather_is x0 x1 x2 x3 g o n c _ hn hx hz fun i hi => (((Below.refl w.heap.size w).alloc (Nat.le_refl _) _).cell (p := ⟨g, o + i, none⟩) (World.block_lt_of_cell? w _ (hb i hi))).trans (hb i hi)⟩
  clear hx hz hb
  go_enter Tryz.func58, Tryz.ntmps58
  go_wp2_with fail
  obtain ⟨W0, e0⟩ : ∃ W0, W0 = w.alloc (.cells #[.int .u64 0, .int .u64 0, .int .u64 0, .int .u64 0] 24) := ⟨_, rfl⟩
  obtain ⟨b0, b1, b2⟩ := I0.out W0 e0
  have A0 : Hid (Below w.heap.size w W0) := b0
  have A1 : Hid (Box W0 w.heap.size 0 0 0 0) := b1
  rw [← e0]
  clear e0 b0 b1 I0
  refine b2.mono ?_
  rintro e v1 ⟨rfl, hB⟩
  have C0 : Hid (Below w.heap.size w v1) := Below.trans A0.out (hB.mono A0.out.size)
  have C1 : Hid (Box v1 w.heap.size 0 0 0 0) := Box.below A1.out hB (Box.lt A1.out)
  clear hB A0 A1
  obtain ⟨r0, r1, r2, r3, f0, f1, f2, f3⟩ := Box.facts C1.out
  go_wp2
  exact bodyPost_ret (v := .tuple #[.agg #[.int .u64 x0, .int .u64 x1, .int .u64 x2, .int .u64 x3], .int .i64 0]) (by simp [results, Tryz.results58, go_sem, r0, r1, r2, r3]) rfl ⟨rfl, below_put C0.out (Nat.le_refl _) x0 x1 x2 x3⟩
end Go.Proofs.YtpadpmkfhljiiaaGreat
/- Bytes and the number that a word is. -/
namespace Go.Proofs.YtpadpmkfhljiiaaGreat
open Go.RowKit
theorem bw_dig {x0 x1 x2 x3 : Int} (h0 : U64 x0) (h1 : U64 x1) (h2 : U64 x2) (h3 : U64 x3) (X : Nat) (hX : V x0 x1 x2 x3 = (X : Int)) (i : Nat) (hi : i < 32) : bw x0 x1 x2 x3 i = ((X / 256 ^ i % 256 : Nat) : Int) := by
  have h := dig_limb h0 h1 h2 h3 X hX i hi
  unfold dig at h
  rw [if_pos hi] at h
  obtain ⟨l, hl⟩ := Int.eq_ofNat_of_zero_le (limb_u64 h0 h1 h2 h3 (i / 8)).1
  rw [hl] at h
  unfold bw
  have e : (2 : Int) ^ (8 * (i % 8)) = ((256 ^ (i % 8) : Nat) : Int) := by rw [Int.pow_mul, Int.natCast_pow]; rfl
  rw [hl, ← h, e, Int.natCast_emod, Int.natCast_ediv, Int.toNat_natCast]; rfl
theorem keep_lead {x0 x1 x2 x3 : Int} (h0 : U64 x0) (h1 : U64 x1) (h2 : U64 x2) (h3 : U64 x3) : ∀ n, n ≤ 32 → (∀ j, 32 - n ≤ j → j < 32 → bw x0 x1 x2 x3 j = 0) → ∀ q, q < 4 → keep x0 x1 x2 x3 (32 - n) q = 0
  | 0, _, _, q, hq => by
    unfold keep
    rw [show 8 * min 8 (32 - 0 - 8 * q) = 64 by omega]
    have h := limb_u64 h0 h1 h2 h3 q
    have h2 := h.2
    unfold Bd at h2
    rw [Int.ediv_eq_zero_of_lt h.1 (by omega)]; simp
  | n + 1, hn, hz, q, hq => by
    have ih := keep_lead h0 h1 h2 h3 n (by omega) (fun j a b => hz j (by omega) b) q hq
    rw [show 32 - n = 32 - (n + 1) + 1 by omega] at ih
    by_cases e : q = (32 - (n + 1)) / 8
    · have h := (keep_step (32 - (n + 1)) q _ (limb_u64 h0 h1 h2 h3 q) e rfl).1
      rw [ih, hz _ (Nat.le_refl _) (by omega), Int.zero_mul] at h
      rw [← h]; rfl
    · rw [← keep_other _ _ _ _ _ _ e]; exact ih
end Go.Proofs.YtpadpmkfhljiiaaGreat
/- Shl, Sar, SignExtend: what they hand back, out of what below, shiftUp, signBits and shiftDown do. -/
namespace Go.Proofs.YtpadpmkfhljiiaaGreat
open Go.RowKit

end Go.Proofs.YtpadpmkfhljiiaaGreat
/- Shifts down as quotients, and Not. -/
namespace Go.Proofs.YtpadpmkfhljiiaaGreat
open Go.RowKit
end Go.Proofs.YtpadpmkfhljiiaaGreat
/- divide: the quotient of eight parts by four, and what is left: the walk. -/
namespace Go.Proofs.YtpadpmkfhljiiaaGreat
open Go.RowKit
end Go.Proofs.YtpadpmkfhljiiaaGreat
/- Div and Mod, AddMod and MulMod, their words named ahead. -/
namespace Go.Proofs.YtpadpmkfhljiiaaGreat
open Go.RowKit
theorem nv8_low {q : Nat → Int} (h : ∀ i, U64 (q i)) (hl : nv q 8 < MM) : IsW (nv q 8) (q 0) (q 1) (q 2) (q 3) := by
  have e := nv_up h 4 8 (by omega) (by rw [Bd4]; exact hl)
  have e2 : nv q 4 = V (q 0) (q 1) (q 2) (q 3) := by simp [nv, V, Bd]; omega
  rw [← e, e2]; exact isW_mk (h 0) (h 1) (h 2) (h 3)
/-- the quotient and the rest of words; by 0 both are 0 -/
def dv (x y : Int) : Int := x / y
/-- two words that came in, and the result's block -/
structure D3 (w : World) (a0 a1 a2 a3 b0 b1 b2 b3 : Int) (W : World) : Prop where
  bel : Below w.heap.size w W
  ba : Box W w.heap.size a0 a1 a2 a3
  bb : Box W (w.heap.size + 1) b0 b1 b2 b3
  br : Box W (w.heap.size + 1 + 1) 0 0 0 0
theorem D3.past {w W W' : World} {a0 a1 a2 a3 b0 b1 b2 b3 : Int} (h : D3 w a0 a1 a2 a3 b0 b1 b2 b3 W) (k : Below W.heap.size W W') : D3 w a0 a1 a2 a3 b0 b1 b2 b3 W' :=
  ⟨h.bel.trans (k.mono h.bel.size), h.ba.below k h.ba.lt, h.bb.below k h.bb.lt, h.br.below k h.br.lt⟩
theorem D3.new (w : World) (a0 a1 a2 a3 b0 b1 b2 b3 : Int) : D3 w a0 a1 a2 a3 b0 b1 b2 b3 (((w.alloc (.cells #[.int .u64 a0, .int .u64 a1, .int .u64 a2, .int .u64 a3] 24)).alloc (.cells #[.int .u64 b0, .int .u64 b1, .int .u64 b2, .int .u64 b3] 24)).alloc (.cells #[.int .u64 0, .int .u64 0, .int .u64 0, .int .u64 0] 24)) := by
  have h2 := Box.new (w.alloc (.cells #[.int .u64 a0, .int .u64 a1, .int .u64 a2, .int .u64 a3] 24)) 24 b0 b1 b2 b3
  have h3 := Box.new ((w.alloc (.cells #[.int .u64 a0, .int .u64 a1, .int .u64 a2, .int .u64 a3] 24)).alloc (.cells #[.int .u64 b0, .int .u64 b1, .int .u64 b2, .int .u64 b3] 24)) 24 0 0 0 0
  rw [World.size_alloc] at h2 h3
  rw [World.size_alloc] at h3
  exact ⟨(((Below.refl _ _).alloc (by omega) _).alloc (by simp) _).alloc (by simp; omega) _, ((Box.new w 24 a0 a1 a2 a3).alloc _).alloc _, h2.alloc _, h3⟩
/-- what is known of the quotient's parts -/
def QF (q : Nat → Int) (v : Int) : Prop := (∀ i, U64 (q i)) ∧ nv q 8 = v
theorem QF.low {q : Nat → Int} {U y : Int} (h : QF q (dv U y)) (h0 : 0 ≤ U) (h1 : U < MM) : IsW (dv U y) (q 0) (q 1) (q 2) (q 3) := by
  have h2 : dv U y ≤ U := by unfold dv; exact Int.ediv_le_self y h0
  have := nv8_low h.1 (by rw [h.2]; omega)
  rwa [h.2] at this
end Go.Proofs.YtpadpmkfhljiiaaGreat
/- Div and Mod, their words named ahead. -/
namespace Go.Proofs.YtpadpmkfhljiiaaGreat
open Go.RowKit
/-- a block of its own is written -/
theorem D3.cells {w W : World} {a0 a1 a2 a3 b0 b1 b2 b3 : Int} (h : D3 w a0 a1 a2 a3 b0 b1 b2 b3 W) (c o : Nat) (vs : List Value) (hc : w.heap.size + 1 + 1 < c) : D3 w a0 a1 a2 a3 b0 b1 b2 b3 (W.setCells c o vs) :=
  ⟨below_setCells c (by omega) vs o W h.bel, Box.set_others (by omega) vs o h.ba, Box.set_others (by omega) vs o h.bb, Box.set_others (by omega) vs o h.br⟩
theorem D3.drew {w W : World} {a0 a1 a2 a3 b0 b1 b2 b3 : Int} (h : D3 w a0 a1 a2 a3 b0 b1 b2 b3 W) : D3 w a0 a1 a2 a3 b0 b1 b2 b3 W.drew := ⟨h.bel.drew, h.ba.drew, h.bb.drew, h.br.drew⟩
theorem Box.cells {W : World} {b : Nat} {a0 a1 a2 a3 : Int} (h : Box W b a0 a1 a2 a3) (c o : Nat) (vs : List Value) (hc : c ≠ b) : Box (W.setCells c o vs) b a0 a1 a2 a3 := Box.set_others hc vs o h
end Go.Proofs.YtpadpmkfhljiiaaGreat
/- Mod, its word named ahead. -/
namespace Go.Proofs.YtpadpmkfhljiiaaGreat
open Go.RowKit
end Go.Proofs.YtpadpmkfhljiiaaGreat
/- SDiv and SMod, and the law's own sign and without: by the words that they ask for. -/
namespace Go.Proofs.YtpadpmkfhljiiaaGreat
open Go.RowKit
end Go.Proofs.YtpadpmkfhljiiaaGreat
/- Shl, Shr, Sar, by what below and the shifts themselves give. -/
namespace Go.Proofs.YtpadpmkfhljiiaaGreat
open Go.RowKit
end Go.Proofs.YtpadpmkfhljiiaaGreat
/- Word by word: the program's And, Or, Xor, Not, Byte, Shl, Shr, Clz, Size and the document's give the same. -/
namespace Go.Proofs.YtpadpmkfhljiiaaGreat
open Go.RowKit
end Go.Proofs.YtpadpmkfhljiiaaGreat
