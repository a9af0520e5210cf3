/- word.Parse: what is read out of a text. -/
import Derived.Test.YtpadpmkfhljiiaaGreatMy2
import Derived.Test.YtpadpmkfhljiiaaGreatMy1
import Derived.Deep.MidRow
import Derived.Laws.BytesString
import Derived.Deep.CutRange
import Derived.Deep.DeepCutAuto
import Derived.LoopTactic
import Derived.Deep.RegionHeld3
import Derived.Laws.BitsAllLaws
import Derived.WalkMore
namespace Go.Proofs.YtpadpmkfhljiiaaGreat
open Go.RowKit
/-- does it begin with 0x? -/
def preD (s : ByteArray) : Bool := decide (2 ≤ s.size ∧ sg s 0 = 48 ∧ sg s 1 = 120)
abbrev Pre (s : ByteArray) : Prop := preD s = true
theorem pre_iff {s : ByteArray} : Pre s ↔ (2 ≤ s.size ∧ sg s 0 = 48 ∧ sg s 1 = 120) := decide_eq_true_iff
theorem u8_lit (a : UInt8) (n : Nat) (hn : n < 256) : (a == UInt8.ofNat n) = decide (a.toNat = n) := by
  rw [Bool.eq_iff_iff]
  simp only [beq_iff_eq, decide_eq_true_eq]
  constructor
  · rintro rfl; simp; omega
  · intro h; apply UInt8.toNat_inj.1; rw [h]; simp; omega
theorem pre_of (s : ByteArray) (h : 2 ≤ s.size) : ((s.extract 0 2).toList == [48, 120]) = preD s := by
  rw [Go.Lib.extract_toList]
  obtain ⟨⟨l⟩⟩ := s
  rcases l with _ | ⟨a, _ | ⟨b, r⟩⟩
  · exact absurd h (by simp [ByteArray.size])
  · exact absurd h (by simp [ByteArray.size])
  · have e0 : (⟨⟨a :: b :: r⟩⟩ : ByteArray)[0]? = some a := rfl
    have e1 : (⟨⟨a :: b :: r⟩⟩ : ByteArray)[1]? = some b := rfl
    have h2 : (2 ≤ (⟨⟨a :: b :: r⟩⟩ : ByteArray).size) = True := eq_true h
    have h0 : (a == 48) = decide (a.toNat = 48) := u8_lit a 48 (by decide)
    have h1 : (b == 120) = decide (b.toNat = 120) := u8_lit b 120 (by decide)
    simp only [preD, sg, e0, e1, h2, true_and]
    simp [h0, h1]
set_option maxHeartbeats 1000000 in
theorem hasPrefix_is (s : ByteArray) (w : World) : Calls Tryz.prog 178 #[.string s, .string ⟨#[48, 120]⟩] w fun e w' => e = .returned (.bool (preD s)) ∧ w' = w := by
  go_enter Tryz.func178, Tryz.ntmps178
  go_wp2
  · rename_i h
    go_ret
    refine ⟨?_, rfl⟩
    rw [pre_of s (by omega)]; rfl
  · rename_i h
    go_ret
    refine ⟨?_, rfl⟩
    rw [show preD s = false from decide_eq_false (fun k => by have := k.1; omega)]; rfl
/-- the digits of a text -/
def pt (s : ByteArray) : ByteArray := if Pre s then s.extract 2 s.size else s
def pb (s : ByteArray) : Nat := if Pre s then 16 else 10
def pm (s : ByteArray) : Nat := if Pre s then 64 else 78
set_option maxHeartbeats 1000000 in
theorem cutPrefix0_is (s : ByteArray) (w : World) : Calls Tryz.prog 170 #[.string s, .string ⟨#[48, 120]⟩] w fun e w' => e = .returned (.tuple #[.string (pt s), .bool (preD s)]) ∧ w' = w := by
  have HP : Hid (∀ W, Calls Tryz.prog 178 #[.string s, .string ⟨#[48, 120]⟩] W fun e w' => e = .returned (.bool (preD s)) ∧ w' = W) := fun W => hasPrefix_is s W
  by_cases h : Pre s
  · have e1 : pt s = s.extract 2 s.size := if_pos h
    rw [show preD s = true from h] at HP ⊢
    rw [e1]
    have h2 : (2 : Int) ≤ (s.size : Int) := by have := (pre_iff.1 h).1; omega
    go_enter Tryz.func170, Tryz.ntmps170
    go_wp2_with (go_at_call 178; refine (HP.out _).mono ?_; rintro e w' ⟨rfl, hw⟩; rw [hw])
    go_ret2
    exact ⟨rfl, rfl⟩
  · have e1 : pt s = s := if_neg h
    rw [show preD s = false from by simpa using h] at HP ⊢
    rw [e1]
    go_enter Tryz.func170, Tryz.ntmps170
    go_wp2_with (go_at_call 178; refine (HP.out _).mono ?_; rintro e w' ⟨rfl, hw⟩; rw [hw])
    go_ret2
    exact ⟨rfl, rfl⟩
theorem cutPrefix_is (s : ByteArray) (w : World) : Calls Tryz.prog 115 #[.string s, .string ⟨#[48, 120]⟩] w fun e w' => e = .returned (.tuple #[.string (pt s), .bool (preD s)]) ∧ w' = w := by
  go_enter Tryz.func115, Tryz.ntmps115
  go_wp2_with (go_at_call 170; refine (cutPrefix0_is s _).mono ?_; rintro e w' ⟨rfl, hw⟩; rw [hw])
  go_ret2
  exact ⟨rfl, rfl⟩
set_option maxHeartbeats 1000000 in
theorem read_none (s : ByteArray) (n : Nat) (hs : s.size = n) (B most : Nat) (h : n = 0 ∨ (0 < n ∧ most < n)) (w : World) :
    Calls Tryz.prog 116 #[.string s, .int .u64 (B : Int), .int .i64 (most : Int)] w fun e w' => e = .returned (.tuple #[.agg #[.int .u64 0, .int .u64 0, .int .u64 0, .int .u64 0], .int .i64 10]) ∧ Below w.heap.size w w' := by
  have hsz : (s.size : Int) = (n : Int) := by omega
  have hsz2 : s.size = n := hs
  clear hs
  rcases h with h | ⟨h0, h⟩
  · subst h
    go_enter Tryz.func116, Tryz.ntmps116
    go_wp2
    exact bodyPost_ret (v := .tuple #[.agg #[.int .u64 0, .int .u64 0, .int .u64 0, .int .u64 0], .int .i64 10]) (by simp [results, Tryz.results116, go_sem]) rfl ⟨rfl, by repeat' (first | with_reducible exact Below.refl _ _ | with_reducible exact Below.refl _ _ | with_reducible refine Below.drew ?_ | with_reducible refine bdrewN ?_ _ | with_reducible refine Below.alloc ?_ ?_ _ | with_reducible refine Below.setCell ?_ ?_ _ | omega | (simp; done) | (simp; omega))⟩
  · have i0 : ((n : Int) == 0) = false := by simp; omega
    have i1 : ¬ (n : Int) = 0 := by omega
    have i2 : (most : Int) < (n : Int) := by omega
    clear h0 h
    go_enter Tryz.func116, Tryz.ntmps116
    go_wp2
    exact bodyPost_ret (v := .tuple #[.agg #[.int .u64 0, .int .u64 0, .int .u64 0, .int .u64 0], .int .i64 10]) (by simp [results, Tryz.results116, go_sem]) rfl ⟨rfl, by repeat' (first | with_reducible exact Below.refl _ _ | with_reducible exact Below.refl _ _ | with_reducible refine Below.drew ?_ | with_reducible refine bdrewN ?_ _ | with_reducible refine Below.alloc ?_ ?_ _ | with_reducible refine Below.setCell ?_ ?_ _ | omega | (simp; done) | (simp; omega))⟩
/-- is a text a number? -/
def Good (s : ByteArray) : Prop := s.size ≤ 78 ∧ 0 < (pt s).size ∧ (pt s).size ≤ pm s ∧ Reads (pb s) (sg (pt s)) (pt s).size
/-- what Parse gives -/
def PRes (s : ByteArray) (p0 p1 p2 p3 er : Int) : Prop := (Good s ∧ er = 0 ∧ IsW (rdn (pb s) (sg (pt s)) (pt s).size : Int) p0 p1 p2 p3) ∨ (¬ Good s ∧ er = (if 78 < s.size then 2 else 10) ∧ p0 = 0 ∧ p1 = 0 ∧ p2 = 0 ∧ p3 = 0)
theorem read_any (s : ByteArray) (B : Nat) (hB : 1 < B ∧ B < 200) (most : Nat) (h3 : most ≤ 100) (w : World) :
    Calls Tryz.prog 116 #[.string s, .int .u64 (B : Int), .int .i64 (most : Int)] w fun e w' => ∃ p0 p1 p2 p3 er : Int, e = .returned (.tuple #[.agg #[.int .u64 p0, .int .u64 p1, .int .u64 p2, .int .u64 p3], .int .i64 er]) ∧ Below w.heap.size w w' ∧ (((0 < s.size ∧ s.size ≤ most ∧ Reads B (sg s) s.size) ∧ er = 0 ∧ IsW (rdn B (sg s) s.size : Int) p0 p1 p2 p3) ∨ (¬ (0 < s.size ∧ s.size ≤ most ∧ Reads B (sg s) s.size) ∧ er = 10 ∧ p0 = 0 ∧ p1 = 0 ∧ p2 = 0 ∧ p3 = 0)) := by
  by_cases h : 0 < s.size ∧ s.size ≤ most
  · refine (read_is s s.size rfl B hB most h.1 h.2 h3 w).mono ?_
    rintro e w' ⟨p0, p1, p2, p3, er, rfl, hb, hh⟩
    refine ⟨p0, p1, p2, p3, er, rfl, hb, ?_⟩
    rcases hh with ⟨h1, h2⟩ | ⟨h1, h2⟩
    · exact .inl ⟨⟨h.1, h.2, h1⟩, h2⟩
    · exact .inr ⟨fun k => h1 k.2.2, h2⟩
  · refine (read_none s s.size rfl B most (by omega) w).mono ?_
    rintro e w' ⟨rfl, hb⟩
    exact ⟨0, 0, 0, 0, 10, rfl, hb, .inr ⟨fun k => h ⟨k.1, k.2.1⟩, rfl, rfl, rfl, rfl, rfl⟩⟩
set_option maxHeartbeats 2000000 in
set_option maxRecDepth 100000 in
theorem parse_is (s : ByteArray) (w : World) : Calls Tryz.prog 70 #[.string s] w fun e w' => ∃ p0 p1 p2 p3 er : Int, e = .returned (.tuple #[.agg #[.int .u64 p0, .int .u64 p1, .int .u64 p2, .int .u64 p3], .int .i64 er]) ∧ Below w.heap.size w w' ∧ PRes s p0 p1 p2 p3 er := by
  have K0 : Hid (Bx w [(w.heap.size, 0, 0, 0, 0)] (w.alloc (.cells #[.int .u64 0, .int .u64 0, .int .u64 0, .int .u64 0] 24))) := (Bx.start w).alloc 0 0 0 0
  by_cases hl : 78 < s.size
  · have hI : (78 : Int) < (s.size : Int) := by omega
    have NG : Hid (¬ Good s ∧ (2 : Int) = (if 78 < s.size then 2 else 10)) := ⟨fun k => by have := k.1; omega, by rw [if_pos hl]⟩
    clear hl
    go_enter Tryz.func70, Tryz.ntmps70
    go_wp2
    exact bodyPost_ret (v := .tuple #[.agg #[.int .u64 0, .int .u64 0, .int .u64 0, .int .u64 0], .int .i64 2]) (by simp [results, Tryz.results70, go_sem]) rfl ⟨0, 0, 0, 0, 2, rfl, by repeat' (first | with_reducible exact Below.refl _ _ | with_reducible exact Below.refl _ _ | with_reducible refine Below.drew ?_ | with_reducible refine bdrewN ?_ _ | with_reducible refine Below.alloc ?_ ?_ _ | with_reducible refine Below.setCell ?_ ?_ _ | omega | (simp; done) | (simp; omega)), .inr ⟨NG.out.1, NG.out.2, rfl, rfl, rfl, rfl⟩⟩
  · have hI : ¬ (78 : Int) < (s.size : Int) := by omega
    have HL : Hid (s.size ≤ 78 ∧ (10 : Int) = (if 78 < s.size then 2 else 10)) := ⟨by omega, by rw [if_neg hl]⟩
    have CP : Hid (∀ W, Calls Tryz.prog 115 #[.string s, .string ⟨#[48, 120]⟩] W fun e w' => e = .returned (.tuple #[.string (pt s), .bool (preD s)]) ∧ w' = W) := fun W => cutPrefix_is s W
    have RD : Hid (∀ W, Calls Tryz.prog 116 #[.string (pt s), .int .u64 (pb s : Int), .int .i64 (pm s : Int)] W fun e w' => ∃ p0 p1 p2 p3 er : Int, e = .returned (.tuple #[.agg #[.int .u64 p0, .int .u64 p1, .int .u64 p2, .int .u64 p3], .int .i64 er]) ∧ Below W.heap.size W w' ∧ PRes s p0 p1 p2 p3 er) := fun W => by
      refine (read_any (pt s) (pb s) (by unfold pb; split <;> omega) (pm s) (by unfold pm; split <;> omega) W).mono ?_
      rintro e w' ⟨p0, p1, p2, p3, er, rfl, hb, hh⟩
      refine ⟨p0, p1, p2, p3, er, rfl, hb, ?_⟩
      rcases hh with ⟨h1, h2⟩ | ⟨h1, h2, h3⟩
      · exact .inl ⟨⟨HL.out.1, h1⟩, h2⟩
      · exact .inr ⟨fun k => h1 k.2, h2.trans HL.out.2, h3⟩
    clear hl
    by_cases hp : Pre s
    · rw [show preD s = true from hp] at CP
      have e1 : pb s = 16 := if_pos hp
      have e2 : pm s = 64 := if_pos hp
      rw [e1, e2] at RD
      have RE : Hid (∀ W, Calls Tryz.prog 116 #[.string (pt s), .int .u64 16, .int .i64 64] W fun e w' => ∃ p0 p1 p2 p3 er : Int, e = .returned (.tuple #[.agg #[.int .u64 p0, .int .u64 p1, .int .u64 p2, .int .u64 p3], .int .i64 er]) ∧ Below W.heap.size W w' ∧ PRes s p0 p1 p2 p3 er) := RD.out
      clear RD e1 e2 hp
      generalize pt s = t at CP RE
      go_enter Tryz.func70, Tryz.ntmps70
      go_upto_region 1 with fail
      generalize w.alloc (.cells #[.int .u64 0, .int .u64 0, .int .u64 0, .int .u64 0] 24) = W0 at K0 ⊢
      obtain ⟨c0, c1, c2, c3, z0, z1, z2, z3⟩ := K0.out.f0 mm0
      go_wp2_with (first
        | (go_at_call 115; refine (CP.out _).mono ?_; rintro e w' ⟨rfl, hw⟩; rw [hw])
        | (go_at_call 116; refine (RE.out _).mono ?_; rintro e y1 ⟨p0, p1, p2, p3, er, rfl, hB, hP⟩; (have J1 : Hid (Bx w [(w.heap.size, 0, 0, 0, 0)] y1 ∧ PRes s p0 p1 p2 p3 er) := ⟨K0.out.past hB, hP⟩); clear hB hP c0 c1 c2 c3 z0 z1 z2 z3; obtain ⟨c0, c1, c2, c3, z0, z1, z2, z3⟩ := J1.out.1.f0 mm0))
      exact bodyPost_ret (v := .tuple #[.agg #[.int .u64 p0, .int .u64 p1, .int .u64 p2, .int .u64 p3], .int .i64 er]) (by simp [results, Tryz.results70, go_sem, c0, c1, c2, c3]) rfl ⟨p0, p1, p2, p3, er, rfl, below_put J1.out.1.bel (Nat.le_refl _) _ _ _ _, J1.out.2⟩
    · rw [show preD s = false from by simpa using hp] at CP
      have e1 : pb s = 10 := if_neg hp
      have e2 : pm s = 78 := if_neg hp
      have e3 : pt s = s := if_neg hp
      rw [e1, e2, e3] at RD
      have RE : Hid (∀ W, Calls Tryz.prog 116 #[.string s, .int .u64 10, .int .i64 78] W fun e w' => ∃ p0 p1 p2 p3 er : Int, e = .returned (.tuple #[.agg #[.int .u64 p0, .int .u64 p1, .int .u64 p2, .int .u64 p3], .int .i64 er]) ∧ Below W.heap.size W w' ∧ PRes s p0 p1 p2 p3 er) := RD.out
      clear RD e1 e2 e3 hp
      generalize pt s = t at CP
      go_enter Tryz.func70, Tryz.ntmps70
      go_upto_region 1 with fail
      generalize w.alloc (.cells #[.int .u64 0, .int .u64 0, .int .u64 0, .int .u64 0] 24) = W0 at K0 ⊢
      obtain ⟨c0, c1, c2, c3, z0, z1, z2, z3⟩ := K0.out.f0 mm0
      go_wp2_with (first
        | (go_at_call 115; refine (CP.out _).mono ?_; rintro e w' ⟨rfl, hw⟩; rw [hw])
        | (go_at_call 116; refine (RE.out _).mono ?_; rintro e y1 ⟨p0, p1, p2, p3, er, rfl, hB, hP⟩; (have J1 : Hid (Bx w [(w.heap.size, 0, 0, 0, 0)] y1 ∧ PRes s p0 p1 p2 p3 er) := ⟨K0.out.past hB, hP⟩); clear hB hP c0 c1 c2 c3 z0 z1 z2 z3; obtain ⟨c0, c1, c2, c3, z0, z1, z2, z3⟩ := J1.out.1.f0 mm0))
      exact bodyPost_ret (v := .tuple #[.agg #[.int .u64 p0, .int .u64 p1, .int .u64 p2, .int .u64 p3], .int .i64 er]) (by simp [results, Tryz.results70, go_sem, c0, c1, c2, c3]) rfl ⟨p0, p1, p2, p3, er, rfl, below_put J1.out.1.bel (Nat.le_refl _) _ _ _ _, J1.out.2⟩
end Go.Proofs.YtpadpmkfhljiiaaGreat
/- Rows of bytes; word.Bytes. -/
namespace Go.Proofs.YtpadpmkfhljiiaaGreat
open Go.RowKit
/-- the first n cells of block b are the numbers v, and may be written -/
def RowB (w : World) (b n : Nat) (v : Nat → Int) : Prop := ∀ i, i < n → w.cell? ⟨b, i, none⟩ = some (.int .u8 (v i)) ∧ w.frozen? ⟨b, i, none⟩ = false
def rowB (n : Nat) (v : Nat → Int) : List Value := (List.range n).map fun i => .int .u8 (v i)
theorem rowB_len (n : Nat) (v : Nat → Int) : (rowB n v).length = n := by simp [rowB]
theorem rowB_at (n : Nat) (v : Nat → Int) (i : Nat) (h : i < n) : (rowB n v)[i]? = some (.int .u8 (v i)) := by simp [rowB, h]
theorem RowB.lt {w : World} {b n : Nat} {v : Nat → Int} (h : RowB w b n v) (hn : 0 < n) : b < w.heap.size := World.block_lt_of_cell? w _ (h 0 hn).1
theorem RowB.below {w w' : World} {B b n : Nat} {v : Nat → Int} (h : RowB w b n v) (k : Below B w w') (hb : b < B) : RowB w' b n v := fun i hi =>
  ⟨(k.cell (p := ⟨b, i, none⟩) hb).trans (h i hi).1, (k.frozen (p := ⟨b, i, none⟩) hb).trans (h i hi).2⟩
theorem RowB.drew {w : World} {b n : Nat} {v : Nat → Int} (h : RowB w b n v) : RowB w.drew b n v := fun i hi => by simpa using h i hi
theorem RowB.alloc {w : World} {b n : Nat} {v : Nat → Int} (h : RowB w b n v) (o : Obj) : RowB (w.alloc o) b n v := fun i hi => by
  have hb := World.block_lt_of_cell? w _ (h i hi).1
  exact ⟨by rw [World.cell?_alloc_lt _ _ _ hb]; exact (h i hi).1, by rw [World.frozen?_alloc_past _ _ _ hb]; exact (h i hi).2⟩
theorem RowB.set_other {w : World} {b n : Nat} {v : Nat → Int} (h : RowB w b n v) (p : Addr) (x : Value) (hp : p.block ≠ b) : RowB (w.setCell p x) b n v := fun i hi =>
  ⟨by rw [World.cell?_setCell_other _ _ _ _ (by intro e; subst e; exact hp rfl)]; exact (h i hi).1, by rw [World.frozen?_setCell]; exact (h i hi).2⟩
theorem RowB.set {w : World} {b n : Nat} {v : Nat → Int} (h : RowB w b n v) (k : Nat) (x : Int) (hk : k < n) : RowB (w.setCell ⟨b, k, none⟩ (.int .u8 x)) b n (fun i => if i = k then x else v i) := fun i hi => by
  refine ⟨?_, by rw [World.frozen?_setCell]; exact (h i hi).2⟩
  dsimp only
  by_cases e : i = k
  · subst e; rw [World.cell?_setCell_same _ _ _ (h i hi).1, if_pos rfl]
  · rw [World.cell?_setCell_other _ _ _ _ (by intro e'; injection e' with _ e' _; exact e e'.symm), if_neg e]; exact (h i hi).1
theorem RowB.new (w : World) (t : TypeId) (n : Nat) (v : Nat → Int) : RowB (w.alloc (.cells (rowB n v).toArray t)) w.heap.size n v := fun i hi => by
  rw [World.cell?_alloc_at _ _ _ _ rfl]
  exact ⟨by simp [rowB, hi], by simp [World.frozen?_alloc_at]⟩
theorem RowB.range {w : World} {b n : Nat} {v : Nat → Int} (h : RowB w b n v) : w.rangeAt b 0 (rowB n v) := fun j x hx => by
  have hj : j < n := by have := (List.getElem?_eq_some_iff.1 hx).1; rwa [rowB_len] at this
  rw [rowB_at n v j hj] at hx; rw [Nat.zero_add, ← hx]; exact (h j hj).1
theorem RowB.there {w : World} {b n : Nat} {v : Nat → Int} (h : RowB w b n v) : w.there b 0 n := fun j hj => by
  rw [Nat.zero_add, (h j hj).1]; exact ⟨rfl, (h j hj).2⟩
/-- byte i of a word, number 0 the lowest -/
def bw (x0 x1 x2 x3 : Int) (i : Nat) : Int := limb x0 x1 x2 x3 (i / 8) / 2 ^ (8 * (i % 8)) % 256
def bb (x0 x1 x2 x3 : Int) (j : Nat) : Int := bw x0 x1 x2 x3 (31 - j)
def ByInv (w : World) (x0 x1 x2 x3 : Int) (n : Nat) (W : World) : Prop := Below w.heap.size w W ∧ Box W w.heap.size x0 x1 x2 x3 ∧ RowB W (w.heap.size + 1) 32 (fun _ => 0) ∧ ∃ u : Nat → Int, RowB W (w.heap.size + 1 + 1) 32 u ∧ ∀ j, j < n → u (31 - j) = bw x0 x1 x2 x3 j
theorem ByInv.step {w W : World} {x0 x1 x2 x3 : Int} {n m : Nat} (h : ByInv w x0 x1 x2 x3 n W) (hn : n < 32) (hm : m + n = 31) {y : Int} (ey : bw x0 x1 x2 x3 n = y) : ByInv w x0 x1 x2 x3 (n + 1) (W.setCell ⟨w.heap.size + 1 + 1, m, none⟩ (.int .u8 y)) := by
  obtain ⟨hB, hA, hZ, u, hU, hu⟩ := h
  refine ⟨hB.setCell (by simp; omega) _, hA.other _ _ (by simp; omega), hZ.set_other _ _ (by simp), _, hU.set m y (by omega), ?_⟩
  intro j hj
  by_cases e : j = n
  · subst e; rw [if_pos (by omega), ey]
  · rw [if_neg (by omega), hu j (by omega)]
end Go.Proofs.YtpadpmkfhljiiaaGreat
/- word.write: a number's digits as a text. -/
namespace Go.Proofs.YtpadpmkfhljiiaaGreat
open Go.RowKit
/-- the sign of a digit -/
def sgn16 (d : Nat) : Nat := if d < 10 then 48 + d else 87 + d
/-- so many digits a number has -/
def NDig (B N n : Nat) : Prop := 0 < n ∧ N / B ^ n = 0 ∧ ∀ j, 0 < j → j < n → N / B ^ j ≠ 0
theorem NDig.uniq {B N n m : Nat} (h : NDig B N n) (k : NDig B N m) : n = m := by
  obtain ⟨h1, h2, h3⟩ := h
  obtain ⟨k1, k2, k3⟩ := k
  rcases Nat.lt_trichotomy n m with h | h | h
  · exact absurd h2 (k3 n h1 h)
  · exact h
  · exact absurd k2 (h3 m k1 h)
/-- bytes as a text -/
def txt (u : Nat → Nat) (n : Nat) : ByteArray := ((List.range n).map fun i => (u i : Int)).foldl (fun r m => r.push (UInt8.ofNat m.toNat)) ByteArray.empty
theorem txt_ext {u v : Nat → Nat} {n : Nat} (h : ∀ i, i < n → u i = v i) : txt u n = txt v n := by
  unfold txt
  rw [List.map_congr_left (g := fun i => (v i : Int)) (fun i hi => by rw [h i (List.mem_range.1 hi)])]
/-- a number of n digits, told -/
def tell (B N n : Nat) : ByteArray := txt (fun i => sgn16 (N / B ^ (n - 1 - i) % B)) n
theorem zero78 (w : World) : (zeroValue 121).run Tryz.prog w = .ok (.agg (rowB 78 (fun _ => 0)).toArray) w := by kernel_rfl
theorem alloc78 {ops : Array Oper} {rest : List Oper} {op : Oper} {a : Act} {w : World} {Q : Exit → Act → World → Prop} (hgd : op.guard = none) (ho : op.op = .alloc 121)
    (h : ∀ W, RowB W w.heap.size 78 (fun _ => 0) → Below w.heap.size w W → wpList Tryz.prog ops Q rest (a.put op.dst (.pointer (some ⟨w.heap.size, 0, none⟩))) W) : wpList Tryz.prog ops Q (op :: rest) a w := by
  refine wpList_plain hgd fun K hK => ?_
  unfold Oper.wp execOp
  simp only [ho, Sem.run_bind, Instr.alloc, zero78, newVar, newRow, run_newObj_alloc, Sem.run_pure, Result.andThen_ok, Value.cells]
  exact hK _ _ (h _ (RowB.new _ _ _ _) ((Below.refl _ _).alloc (Nat.le_refl _) _))
theorem slice78 (g q d : Nat) (hq : q + d = 78) (hd : 0 < d) (W : World) : Sem.run Tryz.prog (Instr.sliceAt 121 (.pointer (some ⟨g, 0, none⟩)) (some (.int .i64 (q : Int))) none none) W = .ok (.slice (some ⟨g, q, none⟩) d d) W := by
  have h32 : Tryz.prog.arrayLen 121 = 78 := by kernel_rfl
  have sz : Sem.run Tryz.prog (sizeOf (Tryz.prog.elem 121)) W = .ok 1 W := by kernel_rfl
  rw [run_sliceAt_array_l W 121 ⟨g, 0, none⟩ (by kernel_rfl) .i64 (q : Int) (by omega) (by rw [h32]; omega), sz, h32, Result.andThen_ok]
  unfold slicedAt
  rw [Int.toNat_natCast, show 78 - q = d by omega, if_neg (by omega)]
  simp [Addr.add]; omega
theorem convT (W : World) (g o n cap : Nat) (u : Nat → Nat) (h : ∀ i, i < n → W.cell? ⟨g, o + i, none⟩ = some (.int .u8 (u i : Int))) : (convert 35 9 (.slice (some ⟨g, o, none⟩) n cap)).run Tryz.prog W = .ok (.string (txt u n)) W := by
  rw [run_convert_bytes_string W _ _ _ _ _ _ Tryz.underlying35 Tryz.underlying5 Tryz.underlying9]
  have hl : (loadCells ⟨g, o, none⟩ n).run Tryz.prog W = .ok (((List.range n).map fun i => (u i : Int)).map (Value.int .u8)).toArray W := by
    have hh := run_loadCells_list (P := Tryz.prog) W ⟨g, o, none⟩ (((List.range n).map fun i => (u i : Int)).map (Value.int .u8)) (fun j v hv => by
      have hj : j < n := by have := (List.getElem?_eq_some_iff.1 hv).1; simpa using this
      rw [Addr.add_mid, h j hj]
      simp [hj] at hv
      rw [← hv])
    simpa using hh
  rw [run_bytesToString W ⟨g, o, none⟩ n cap _ hl]
  rfl
def figs : ByteArray := ⟨#[48, 49, 50, 51, 52, 53, 54, 55, 56, 57, 97, 98, 99, 100, 101, 102]⟩
theorem figs_at : ∀ d : Nat, d < 16 → (figs[d]?.map UInt8.toNat) = some (sgn16 d) := by decide
theorem figs_ix (k : IntKind) (d : Nat) (hd : d < 16) (W : World) : Sem.run Tryz.prog (Instr.index 9 (.string ⟨#[48, 49, 50, 51, 52, 53, 54, 55, 56, 57, 97, 98, 99, 100, 101, 102]⟩) (.int k (d : Int))) W = .ok (.int .u8 (sgn16 d : Int)) W := by
  have hs : d < figs.size := hd
  show Sem.run Tryz.prog (Instr.index 9 (.string figs) (.int k (d : Int))) W = .ok (.int .u8 (sgn16 d : Int)) W
  rw [run_index_string W 9 figs k (d : Int) Tryz.underlying9, dif_pos ⟨by omega, by omega⟩]
  have h := figs_at d hd
  have e : figs[d]? = some figs[d] := by simp [hs]
  rw [e] at h
  have h2 := Option.some.inj h
  simp only [Int.toNat_natCast]
  rw [h2]
theorem isZero_nat (q0 q1 q2 q3 M : Nat) (h0 : q0 < 18446744073709551616) (h1 : q1 < 18446744073709551616) (h2 : q2 < 18446744073709551616) (h3 : q3 < 18446744073709551616) (e : M = q0 + 18446744073709551616 * (q1 + 18446744073709551616 * (q2 + 18446744073709551616 * q3))) (z : Bool) (hz : decide (M = 0) = z) (w : World) :
    Calls Tryz.prog 155 #[.agg #[.int .u64 (q0 : Int), .int .u64 (q1 : Int), .int .u64 (q2 : Int), .int .u64 (q3 : Int)]] w fun e w' => e = .returned (.bool z) ∧ Below w.heap.size w w' := by
  have u0 : U64 (q0 : Int) := ⟨by omega, by unfold Bd; omega⟩
  have u1 : U64 (q1 : Int) := ⟨by omega, by unfold Bd; omega⟩
  have u2 : U64 (q2 : Int) := ⟨by omega, by unfold Bd; omega⟩
  have u3 : U64 (q3 : Int) := ⟨by omega, by unfold Bd; omega⟩
  refine isZero_is _ _ _ _ w (isW_mk u0 u1 u2 u3) z ?_
  rw [← hz]
  have h := V_range u0 u1 u2 u3
  rw [Int.emod_eq_of_lt h.1 h.2]
  apply decide_eq_decide.2
  unfold V Bd
  omega
/-- behind k digits -/
def WrInv (w : World) (B N k b : Nat) (W : World) : Prop := (∃ A0 A1 A2 A3 : Nat, (A0 < 18446744073709551616 ∧ A1 < 18446744073709551616 ∧ A2 < 18446744073709551616 ∧ A3 < 18446744073709551616) ∧ N / B ^ k = A0 + 18446744073709551616 * (A1 + 18446744073709551616 * (A2 + 18446744073709551616 * A3)) ∧ Bx w [(w.heap.size, (A0 : Int), (A1 : Int), (A2 : Int), (A3 : Int))] W) ∧
  ∃ u : Nat → Int, RowB W b 78 u ∧ ∀ j, j < k → u (77 - j) = (sgn16 (N / B ^ j % B) : Int)
theorem RowB.pastT {w w' : World} {b n : Nat} {v : Nat → Int} (h : RowB w b n v) (k : Below w.heap.size w w') : RowB w' b n v := fun i hi =>
  have hb := World.block_lt_of_cell? w _ (h i hi).1
  ⟨(k.cell (p := ⟨b, i, none⟩) hb).trans (h i hi).1, (k.frozen (p := ⟨b, i, none⟩) hb).trans (h i hi).2⟩
set_option maxHeartbeats 4000000 in
set_option maxRecDepth 100000 in
theorem write_is (A0 A1 A2 A3 B N : Nat) (l0 : A0 < 18446744073709551616) (l1 : A1 < 18446744073709551616) (l2 : A2 < 18446744073709551616) (l3 : A3 < 18446744073709551616) (hN : N = A0 + 18446744073709551616 * (A1 + 18446744073709551616 * (A2 + 18446744073709551616 * A3))) (hB : 10 ≤ B) (hB2 : B ≤ 16) (w : World) :
    Calls Tryz.prog 119 #[.agg #[.int .u64 (A0 : Int), .int .u64 (A1 : Int), .int .u64 (A2 : Int), .int .u64 (A3 : Int)], .int .u64 (B : Int)] w fun e w' => ∃ n, NDig B N n ∧ n ≤ 78 ∧ e = .returned (.string (tell B N n)) ∧ Below w.heap.size w w' := by
  have HB : Hid (10 ≤ B ∧ B ≤ 16) := ⟨hB, hB2⟩
  have HN : Hid (N < 10 ^ 78) := by show N < 10 ^ 78; omega
  have K0 : Hid (Bx w [(w.heap.size, (A0 : Int), (A1 : Int), (A2 : Int), (A3 : Int))] (w.alloc (.cells #[.int .u64 (A0 : Int), .int .u64 (A1 : Int), .int .u64 (A2 : Int), .int .u64 (A3 : Int)] 24)) ∧ (A0 < 18446744073709551616 ∧ A1 < 18446744073709551616 ∧ A2 < 18446744073709551616 ∧ A3 < 18446744073709551616) ∧ N = A0 + 18446744073709551616 * (A1 + 18446744073709551616 * (A2 + 18446744073709551616 * A3))) := ⟨(Bx.start w).alloc _ _ _ _, ⟨l0, l1, l2, l3⟩, hN⟩
  clear l0 l1 l2 l3 hN hB hB2
  go_enter Tryz.func119, Tryz.ntmps119
  go_upto_region 1 with fail
  generalize w.alloc (.cells #[.int .u64 (A0 : Int), .int .u64 (A1 : Int), .int .u64 (A2 : Int), .int .u64 (A3 : Int)] 24) = W0 at K0 ⊢
  go_upto_region 2 with (refine alloc78 rfl rfl ?_; intro W1 hr hb)
  have K1 : Hid (WrInv w B N 0 W0.heap.size W1 ∧ w.heap.size < W0.heap.size) := by
    obtain ⟨h1, h2, h3⟩ := K0.out
    exact ⟨⟨⟨A0, A1, A2, A3, h2, by rw [Nat.pow_zero, Nat.div_one]; exact h3, h1.past hb⟩, _, hr, fun j hj => absurd hj (by omega)⟩, h1.lt _ mm0⟩
  generalize W0.heap.size = b at K1 ⊢
  clear hr hb K0
  have lb := K1.out.2
  go_wp2
  go_loopw [6] (fun s6 wr => ∃ k t : Nat, s6 = .int .i64 (t : Int) ∧ t + k = 78 ∧ k < 78 ∧ (∀ j, 0 < j → j ≤ k → N / B ^ j ≠ 0) ∧ WrInv w B N k b wr) (fun s6 _ => (intOf s6).toNat)
  case atStart => exact ⟨0, 78, rfl, by omega, by omega, fun j h1 h2 => absurd h1 (by omega), K1.out.1⟩
  case round =>
    obtain ⟨k, t, rfl, hk, hk2, hnz, hI⟩ := hrel
    clear K1
    obtain ⟨⟨A0, A1, A2, A3, ⟨l0, l1, l2, l3⟩, eN, hX⟩, u, hU, hu⟩ := hI
    obtain ⟨q0, q1, q2, q3, r, ⟨m0, m1, m2, m3⟩, hq, hr, SH⟩ := shorten_is A0 A1 A2 A3 B l0 l1 l2 l3 (by have := HB.out; omega) (by have := HB.out; omega)
    rw [← eN, Nat.div_div_eq_div_mul, ← Nat.pow_succ] at hq
    rw [← eN] at hr
    have rB : r < 16 := by rw [← hr]; exact Nat.lt_of_lt_of_le (Nat.mod_lt _ (by have := HB.out; omega)) HB.out.2
    obtain ⟨z, ez⟩ : ∃ z, decide (N / B ^ (k + 1) = 0) = z := ⟨_, rfl⟩
    have IZ : Hid (∀ w : World, Calls Tryz.prog 155 #[.agg #[.int .u64 (q0 : Int), .int .u64 (q1 : Int), .int .u64 (q2 : Int), .int .u64 (q3 : Int)]] w fun e w' => e = .returned (.bool z) ∧ Below w.heap.size w w') := fun w => isZero_nat q0 q1 q2 q3 (N / B ^ (k + 1)) m0 m1 m2 m3 hq z ez w
    have HSH : Hid _ := SH
    obtain ⟨s, es⟩ : ∃ s, s = t - 1 := ⟨_, rfl⟩
    have w1 : (t : Int) - 1 = (s : Int) := by omega
    have w2 : IntKind.i64.wrap (s : Int) = (s : Int) := by rw [IntKind.wrap_i64]; omega
    have s0 : (0 : Int) ≤ (s : Int) := by omega
    have sI : (s : Int) < 78 := by omega
    have hix := fun W => figs_ix .u64 r rB W
    have HX : Hid (Bx w [(w.heap.size, (A0 : Int), (A1 : Int), (A2 : Int), (A3 : Int))] wr) := hX
    have HU : Hid (RowB wr b 78 u) := hU
    have HF : Hid ((s + k = 77 ∧ s + 1 = t) ∧ (∀ j, 0 < j → j ≤ k → N / B ^ j ≠ 0) ∧ (∀ j, j < k → u (77 - j) = (sgn16 (N / B ^ j % B) : Int)) ∧ (q0 < 18446744073709551616 ∧ q1 < 18446744073709551616 ∧ q2 < 18446744073709551616 ∧ q3 < 18446744073709551616) ∧ N / B ^ (k + 1) = q0 + 18446744073709551616 * (q1 + 18446744073709551616 * (q2 + 18446744073709551616 * q3)) ∧ N / B ^ k % B = r ∧ decide (N / B ^ (k + 1) = 0) = z) := ⟨⟨by omega, by omega⟩, hnz, hu, ⟨m0, m1, m2, m3⟩, hq, hr, ez⟩
    clear SH hX hU hnz hu l0 l1 l2 l3 m0 m1 m2 m3 eN hq hr ez es rB hk hk2
    generalize ef : sgn16 r = fg at hix
    have EF : Hid (sgn16 r = fg) := ef
    clear ef
    obtain ⟨c0, c1, c2, c3, z0, z1, z2, z3⟩ := HX.out.f0 mm0
    go_upto_region 5 with (go_at_call 174; refine (HSH.out _).mono ?_; rintro e y1 ⟨rfl, hB⟩; (have J1 : Hid (Bx w [(w.heap.size, (A0 : Int), (A1 : Int), (A2 : Int), (A3 : Int))] y1 ∧ RowB y1 b 78 u) := ⟨HX.out.past hB, HU.out.pastT hB⟩); clear hB HX HU c0 c1 c2 c3 z0 z1 z2 z3; obtain ⟨c0, c1, c2, c3, z0, z1, z2, z3⟩ := J1.out.1.f0 mm0)
    have J2 : Hid (Bx w [(w.heap.size, (q0 : Int), (q1 : Int), (q2 : Int), (q3 : Int))] (put4 y1 w.heap.size q0 q1 q2 q3) ∧ RowB (put4 y1 w.heap.size q0 q1 q2 q3) b 78 u) := ⟨Bx.put J1.out.1 (by intro p hp; cases hp) _ _ _ _, (((J1.out.2.set_other _ _ (by simp; omega)).set_other _ _ (by simp; omega)).set_other _ _ (by simp; omega)).set_other _ _ (by simp; omega)⟩
    unfold put4 at J2
    generalize (((y1.setCell ⟨w.heap.size, 0, none⟩ (.int .u64 (q0 : Int))).setCell ⟨w.heap.size, 1, none⟩ (.int .u64 (q1 : Int))).setCell ⟨w.heap.size, 2, none⟩ (.int .u64 (q2 : Int))).setCell ⟨w.heap.size, 3, none⟩ (.int .u64 (q3 : Int)) = v1 at J2 ⊢
    clear c0 c1 c2 c3 z0 z1 z2 z3 J1
    have cs := (J2.out.2 s (by omega)).1
    have fs := (J2.out.2 s (by omega)).2
    generalize u s = us at cs
    go_upto_region 7 with fail
    have J3 : Hid (Bx w [(w.heap.size, (q0 : Int), (q1 : Int), (q2 : Int), (q3 : Int))] (v1.setCell ⟨b, s, none⟩ (.int .u8 (fg : Int))) ∧ RowB (v1.setCell ⟨b, s, none⟩ (.int .u8 (fg : Int))) b 78 (fun i => if i = s then (fg : Int) else u i)) := by
      obtain ⟨h1, h2⟩ := J2.out
      refine ⟨⟨h1.bel.setCell (Nat.le_of_lt lb) _, h1.low, fun p hp => ?_⟩, h2.set s _ (by omega)⟩
      have h3 := h1.box p hp
      rw [List.mem_singleton] at hp
      subst hp
      exact h3.other _ _ (by simp; omega)
    generalize v1.setCell ⟨b, s, none⟩ (.int .u8 (fg : Int)) = v2 at J3 ⊢
    clear cs fs J2
    obtain ⟨c0, c1, c2, c3, z0, z1, z2, z3⟩ := J3.out.1.f0 mm0
    have UN : Hid (∀ j, j < k + 1 → (if 77 - j = s then (fg : Int) else u (77 - j)) = (sgn16 (N / B ^ j % B) : Int)) := fun j hj => by
      obtain ⟨⟨f1, f2⟩, f3, f4, f5, f6, f7, f8⟩ := HF.out
      by_cases e : j = k
      · rw [e, if_pos (by omega), f7, EF.out]
      · rw [if_neg (by omega), f4 j (by omega)]
    obtain ⟨uf, euf⟩ : ∃ uf : Nat → Int, uf = fun i => if i = s then (fg : Int) else u i := ⟨_, rfl⟩
    have UF : Hid (∀ j, j < k + 1 → uf (77 - j) = (sgn16 (N / B ^ j % B) : Int)) := fun j hj => by rw [euf]; exact UN.out j hj
    rw [← euf] at J3
    clear UN euf
    cases z with
    | true =>
      have hsl := fun W => slice78 b s (k + 1) (by have := HF.out.1; omega) (by omega) W
      have CV : Hid (∀ W, RowB W b 78 uf → Sem.run Tryz.prog (convert 35 9 (.slice (some ⟨b, s, none⟩) (k + 1) (k + 1))) W = .ok (.string (tell B N (k + 1))) W) := fun W hW => by
        refine convT W b s (k + 1) (k + 1) _ fun i hi => ?_
        have h1 := (hW (s + i) (by have := HF.out.1; omega)).1
        have h2 := UF.out (k - i) (by omega)
        have h3 := HF.out.1
        rw [show 77 - (k - i) = s + i by omega] at h2
        rw [h1, h2, show k + 1 - 1 - i = k - i by omega]
      have ND : Hid (NDig B N (k + 1) ∧ k + 1 ≤ 78) := by
        obtain ⟨f1, f3, f4, f5, f6, f7, f8⟩ := HF.out
        exact ⟨⟨by omega, of_decide_eq_true f8, fun j h1 h2 => f3 j h1 (by omega)⟩, by omega⟩
      go_wp2_with (go_at_call 155; refine (IZ.out _).mono ?_; rintro e y4 ⟨rfl, hB⟩; (have J4 : Hid (Below w.heap.size w y4 ∧ RowB y4 b 78 uf) := ⟨(J3.out.1.past hB).bel, J3.out.2.pastT hB⟩); clear hB c0 c1 c2 c3 z0 z1 z2 z3; have hcv := CV.out _ J4.out.2)
      go_ret
      exact ⟨k + 1, ND.out.1, ND.out.2, rfl, J4.out.1⟩
    | false =>
      have NZ : Hid (N / B ^ (k + 1) ≠ 0 ∧ k + 1 < 78) := by
        obtain ⟨f1, f3, f4, f5, f6, f7, f8⟩ := HF.out
        have h := of_decide_eq_false f8
        refine ⟨h, Classical.byContradiction fun h2 => h (Nat.div_eq_of_lt ?_)⟩
        have h3 : 10 ^ 78 ≤ 10 ^ (k + 1) := Nat.pow_le_pow_right (by decide) (by omega)
        have h4 : 10 ^ (k + 1) ≤ B ^ (k + 1) := Nat.pow_le_pow_left HB.out.1 _
        have h5 := HN.out
        exact Nat.lt_of_lt_of_le h5 (Nat.le_trans h3 h4)
      go_wp2_with (go_at_call 155; refine (IZ.out _).mono ?_; rintro e y4 ⟨rfl, hB⟩; (have J4 : Hid (Bx w [(w.heap.size, (q0 : Int), (q1 : Int), (q2 : Int), (q3 : Int))] y4 ∧ RowB y4 b 78 uf) := ⟨J3.out.1.past hB, J3.out.2.pastT hB⟩); clear hB c0 c1 c2 c3 z0 z1 z2 z3)
      go_roundw
      case rel =>
        obtain ⟨f1, f3, f4, f5, f6, f7, f8⟩ := HF.out
        exact ⟨k + 1, s, rfl, by omega, NZ.out.2, fun j h1 h2 => by
          by_cases e : j = k + 1
          · rw [e]; exact NZ.out.1
          · exact f3 j h1 (by omega), ⟨q0, q1, q2, q3, f5, f6, J4.out.1⟩, uf, J4.out.2, UF.out⟩
      case measure => have := HF.out.1; simp [intOf]; omega
end Go.Proofs.YtpadpmkfhljiiaaGreat
/- word.Hex, word.Text. -/
namespace Go.Proofs.YtpadpmkfhljiiaaGreat
open Go.RowKit
set_option maxHeartbeats 2000000 in
set_option maxRecDepth 100000 in
theorem text_is (A0 A1 A2 A3 N : Nat) (l0 : A0 < 18446744073709551616) (l1 : A1 < 18446744073709551616) (l2 : A2 < 18446744073709551616) (l3 : A3 < 18446744073709551616) (hN : N = A0 + 18446744073709551616 * (A1 + 18446744073709551616 * (A2 + 18446744073709551616 * A3))) (w : World) :
    Calls Tryz.prog 74 #[.agg #[.int .u64 (A0 : Int), .int .u64 (A1 : Int), .int .u64 (A2 : Int), .int .u64 (A3 : Int)]] w fun e w' => ∃ n, NDig 10 N n ∧ n ≤ 78 ∧ e = .returned (.string (tell 10 N n)) ∧ Below w.heap.size w w' := by
  have K0 : Hid (Bx w [(w.heap.size, (A0 : Int), (A1 : Int), (A2 : Int), (A3 : Int))] (w.alloc (.cells #[.int .u64 (A0 : Int), .int .u64 (A1 : Int), .int .u64 (A2 : Int), .int .u64 (A3 : Int)] 24))) := (Bx.start w).alloc _ _ _ _
  have WR : Hid (∀ w : World, Calls Tryz.prog 119 #[.agg #[.int .u64 (A0 : Int), .int .u64 (A1 : Int), .int .u64 (A2 : Int), .int .u64 (A3 : Int)], .int .u64 10] w fun e w' => ∃ n, NDig 10 N n ∧ n ≤ 78 ∧ e = .returned (.string (tell 10 N n)) ∧ Below w.heap.size w w') := fun w => write_is A0 A1 A2 A3 10 N l0 l1 l2 l3 hN (by omega) (by omega) w
  clear l0 l1 l2 l3 hN
  go_enter Tryz.func74, Tryz.ntmps74
  go_upto_region 1 with fail
  generalize w.alloc (.cells #[.int .u64 (A0 : Int), .int .u64 (A1 : Int), .int .u64 (A2 : Int), .int .u64 (A3 : Int)] 24) = W0 at K0 ⊢
  obtain ⟨c0, c1, c2, c3, z0, z1, z2, z3⟩ := K0.out.f0 mm0
  go_wp2_with (go_at_call 119; refine (WR.out _).mono ?_; rintro e y1 ⟨n, hn, hn2, rfl, hB⟩)
  go_ret
  exact ⟨n, hn, hn2, rfl, (K0.out.past hB).bel⟩
theorem push_size (l : List Int) : ∀ b : ByteArray, (l.foldl (fun r m => r.push (UInt8.ofNat m.toNat)) b).size = b.size + l.length := by
  induction l with
  | nil => intro b; rfl
  | cons a l ih => intro b; rw [List.foldl_cons, ih, ByteArray.size_push, List.length_cons]; omega
theorem txt_size (u : Nat → Nat) (n : Nat) : (txt u n).size = n := by
  unfold txt
  rw [push_size]; simp
theorem tell_size (B N n : Nat) : (tell B N n).size = n := txt_size _ n
def ox : ByteArray := ⟨#[48, 120]⟩
set_option maxHeartbeats 2000000 in
set_option maxRecDepth 100000 in
theorem hex_is (A0 A1 A2 A3 N : Nat) (l0 : A0 < 18446744073709551616) (l1 : A1 < 18446744073709551616) (l2 : A2 < 18446744073709551616) (l3 : A3 < 18446744073709551616) (hN : N = A0 + 18446744073709551616 * (A1 + 18446744073709551616 * (A2 + 18446744073709551616 * A3))) (w : World) :
    Calls Tryz.prog 72 #[.agg #[.int .u64 (A0 : Int), .int .u64 (A1 : Int), .int .u64 (A2 : Int), .int .u64 (A3 : Int)]] w fun e w' => ∃ n, NDig 16 N n ∧ n ≤ 78 ∧ e = .returned (.string (ox ++ tell 16 N n)) ∧ Below w.heap.size w w' := by
  have K0 : Hid (Bx w [(w.heap.size, (A0 : Int), (A1 : Int), (A2 : Int), (A3 : Int))] (w.alloc (.cells #[.int .u64 (A0 : Int), .int .u64 (A1 : Int), .int .u64 (A2 : Int), .int .u64 (A3 : Int)] 24))) := (Bx.start w).alloc _ _ _ _
  have WR : Hid (∀ w : World, Calls Tryz.prog 119 #[.agg #[.int .u64 (A0 : Int), .int .u64 (A1 : Int), .int .u64 (A2 : Int), .int .u64 (A3 : Int)], .int .u64 16] w fun e w' => ∃ n, NDig 16 N n ∧ n ≤ 78 ∧ e = .returned (.string (tell 16 N n)) ∧ Below w.heap.size w w') := fun w => write_is A0 A1 A2 A3 16 N l0 l1 l2 l3 hN (by omega) (by omega) w
  clear l0 l1 l2 l3 hN
  go_enter Tryz.func72, Tryz.ntmps72
  go_upto_region 1 with fail
  generalize w.alloc (.cells #[.int .u64 (A0 : Int), .int .u64 (A1 : Int), .int .u64 (A2 : Int), .int .u64 (A3 : Int)] 24) = W0 at K0 ⊢
  obtain ⟨c0, c1, c2, c3, z0, z1, z2, z3⟩ := K0.out.f0 mm0
  go_wp2_with (go_at_call 119; refine (WR.out _).mono ?_; rintro e y1 ⟨n, hn, hn2, rfl, hB⟩; (have ht : ¬ 9223372036854775807 < 2 + (tell 16 N n).size := by rw [tell_size]; omega))
  go_ret
  refine ⟨n, hn, hn2, ?_, (K0.out.past hB).bel⟩
  rfl
end Go.Proofs.YtpadpmkfhljiiaaGreat
/- Parse, Hex and Text of word, with their answers named ahead. -/
namespace Go.Proofs.YtpadpmkfhljiiaaGreat
open Go.RowKit
theorem ndig_ex {B N : Nat} : ∀ m, 0 < m → N / B ^ m = 0 → ∃ n, NDig B N n := by
  intro m
  induction m using Nat.strongRecOn with
  | _ m ih =>
    intro h0 hm
    by_cases h : ∀ j, 0 < j → j < m → N / B ^ j ≠ 0
    · exact ⟨m, h0, hm, h⟩
    · obtain ⟨j, hj⟩ := Classical.not_forall.1 h
      rw [Classical.not_imp, Classical.not_imp] at hj
      exact ih j hj.2.1 hj.1 (Classical.not_not.1 hj.2.2)
theorem ndig_le {B N n : Nat} (h : NDig B N n) (hB : 10 ≤ B) (hN : N < 10 ^ 78) : n ≤ 78 := Classical.byContradiction fun h2 =>
  h.2.2 78 (by omega) (by omega) (Nat.div_eq_of_lt (Nat.lt_of_lt_of_le hN (Nat.pow_le_pow_left hB _)))
theorem ndig_word (B N : Nat) (hB : 10 ≤ B) (hN : N < 10 ^ 78) : ∃ n, NDig B N n ∧ n ≤ 78 := by
  obtain ⟨n, hn⟩ := ndig_ex (B := B) (N := N) 78 (by omega) (Nat.div_eq_of_lt (Nat.lt_of_lt_of_le hN (Nat.pow_le_pow_left hB _)))
  exact ⟨n, hn, ndig_le hn hB hN⟩
theorem pres_uniq {s : ByteArray} {p0 p1 p2 p3 e q0 q1 q2 q3 f : Int} (h : PRes s p0 p1 p2 p3 e) (k : PRes s q0 q1 q2 q3 f) : p0 = q0 ∧ p1 = q1 ∧ p2 = q2 ∧ p3 = q3 ∧ e = f := by
  rcases h with ⟨h1, h2, h3⟩ | ⟨h1, h2, h3, h4, h5, h6⟩ <;> rcases k with ⟨k1, k2, k3⟩ | ⟨k1, k2, k3, k4, k5, k6⟩
  · obtain ⟨a, b, c, d⟩ := h3.eq k3 rfl
    exact ⟨a, b, c, d, h2.trans k2.symm⟩
  · exact absurd h1 k1
  · exact absurd k1 h1
  · exact ⟨h3.trans k3.symm, h4.trans k4.symm, h5.trans k5.symm, h6.trans k6.symm, h2.trans k2.symm⟩
theorem pres_ex (s : ByteArray) : ∃ p0 p1 p2 p3 e : Int, PRes s p0 p1 p2 p3 e := by
  by_cases h : Good s
  · obtain ⟨p0, p1, p2, p3, hp⟩ := isW_ex (rdn (pb s) (sg (pt s)) (pt s).size : Int)
    exact ⟨p0, p1, p2, p3, 0, .inl ⟨h, rfl, hp⟩⟩
  · exact ⟨0, 0, 0, 0, _, .inr ⟨h, rfl, rfl, rfl, rfl, rfl⟩⟩
theorem parse_fix (s : ByteArray) (p0 p1 p2 p3 er : Int) (h : PRes s p0 p1 p2 p3 er) (w : World) : Calls Tryz.prog 70 #[.string s] w fun e w' => e = .returned (.tuple #[.agg #[.int .u64 p0, .int .u64 p1, .int .u64 p2, .int .u64 p3], .int .i64 er]) ∧ Below w.heap.size w w' := by
  refine (parse_is s w).mono ?_
  rintro e w' ⟨q0, q1, q2, q3, f, rfl, hb, hq⟩
  obtain ⟨rfl, rfl, rfl, rfl, rfl⟩ := pres_uniq h hq
  exact ⟨rfl, hb⟩
theorem nat_of {x : Int} {a0 a1 a2 a3 : Int} (ha : IsW x a0 a1 a2 a3) {X : Nat} (hX : V a0 a1 a2 a3 = (X : Int)) : ∃ A0 A1 A2 A3 : Nat, (a0 = (A0 : Int) ∧ a1 = (A1 : Int) ∧ a2 = (A2 : Int) ∧ a3 = (A3 : Int)) ∧ (A0 < 18446744073709551616 ∧ A1 < 18446744073709551616 ∧ A2 < 18446744073709551616 ∧ A3 < 18446744073709551616) ∧ X = A0 + 18446744073709551616 * (A1 + 18446744073709551616 * (A2 + 18446744073709551616 * A3)) := by
  obtain ⟨⟨u0, u1, u2, u3⟩, _⟩ := ha
  unfold U64 Bd at u0 u1 u2 u3
  unfold V Bd at hX
  exact ⟨a0.toNat, a1.toNat, a2.toNat, a3.toNat, ⟨by omega, by omega, by omega, by omega⟩, ⟨by omega, by omega, by omega, by omega⟩, by omega⟩
theorem text_fix {x : Int} {a0 a1 a2 a3 : Int} (ha : IsW x a0 a1 a2 a3) {X : Nat} (hX : V a0 a1 a2 a3 = (X : Int)) {n : Nat} (hn : NDig 10 X n) (w : World) : Calls Tryz.prog 74 #[.agg #[.int .u64 a0, .int .u64 a1, .int .u64 a2, .int .u64 a3]] w fun e w' => e = .returned (.string (tell 10 X n)) ∧ Below w.heap.size w w' := by
  obtain ⟨A0, A1, A2, A3, ⟨rfl, rfl, rfl, rfl⟩, ⟨l0, l1, l2, l3⟩, e⟩ := nat_of ha hX
  refine (text_is A0 A1 A2 A3 X l0 l1 l2 l3 e w).mono ?_
  rintro e w' ⟨m, hm, _, rfl, hb⟩
  rw [hm.uniq hn]
  exact ⟨rfl, hb⟩
theorem hex_fix {x : Int} {a0 a1 a2 a3 : Int} (ha : IsW x a0 a1 a2 a3) {X : Nat} (hX : V a0 a1 a2 a3 = (X : Int)) {n : Nat} (hn : NDig 16 X n) (w : World) : Calls Tryz.prog 72 #[.agg #[.int .u64 a0, .int .u64 a1, .int .u64 a2, .int .u64 a3]] w fun e w' => e = .returned (.string (ox ++ tell 16 X n)) ∧ Below w.heap.size w w' := by
  obtain ⟨A0, A1, A2, A3, ⟨rfl, rfl, rfl, rfl⟩, ⟨l0, l1, l2, l3⟩, e⟩ := nat_of ha hX
  refine (hex_is A0 A1 A2 A3 X l0 l1 l2 l3 e w).mono ?_
  rintro e w' ⟨m, hm, _, rfl, hb⟩
  rw [hm.uniq hn]
  exact ⟨rfl, hb⟩
end Go.Proofs.YtpadpmkfhljiiaaGreat
/- The document's 'plus' and 'full' (as in Rh, for the seat that has no Sum). -/
namespace Go.Proofs.YtpadpmkfhljiiaaGreat
open Go.RowKit
theorem intsD_set (f : Nat → Nat) (i y : Nat) : intsD (setD f i y) (i + 1) = intsD f i ++ [.int .i64 (y : Int)] := by
  rw [intsD_snoc]
  congr 1
  · simp only [intsD]
    apply List.map_congr_left
    intro j hj
    have : j < i := List.mem_range.1 hj
    rw [setD, if_neg (by omega)]
  · rw [setD, if_pos rfl]
theorem dsum_setD (f : Nat → Nat) (i y : Nat) : dsum (setD f i y) (i + 1) = dsum f i + y * 256 ^ i := by
  rw [dsum, dsum_ext i (d := setD f i y) (e := f) (fun j hj => by rw [setD, if_neg (by omega)])]
  rw [setD, if_pos rfl]
theorem plus_step {f d e : Nat → Nat} {i c nn : Nat} (hnn : nn = d i + e i + c) (h : dsum f i + c * 256 ^ i = dsum d i + dsum e i) : dsum (setD f i (nn % 256)) (i + 1) + nn / 256 * 256 ^ (i + 1) = dsum d (i + 1) + dsum e (i + 1) := by
  rw [dsum_setD, dsum, dsum]
  have h2 : nn / 256 * 256 ^ (i + 1) + nn % 256 * 256 ^ i = nn * 256 ^ i := by
    rw [Nat.pow_succ, Nat.mul_comm (256 ^ i) 256, ← Nat.mul_assoc, ← Nat.add_mul]
    congr 1; omega
  have h3 : nn * 256 ^ i = d i * 256 ^ i + e i * 256 ^ i + c * 256 ^ i := by rw [hnn, Nat.add_mul, Nat.add_mul]
  omega
theorem own_set {W0 wr w1 : World} {v v' : Value} {o : Obj} {f : Nat → Nat} {k y : Nat} (hown : wr.ownsRow W0.heap.size 3 1 v k (intsD f k)) (hB : Below W0.heap.size W0 wr)
    (hown' : w1.ownsRow W0.heap.size 3 1 v' (k + 1) (intsD f k ++ [.int .i64 (y : Int)])) (hg : (wr.alloc o).grownBy w1 v.ownBlock) :
    w1.ownsRow W0.heap.size 3 1 v' (k + 1) (intsD (setD f k y) (k + 1)) ∧ Below W0.heap.size W0 w1 := by
  rw [intsD_set]
  exact ⟨hown', Below.grown (hB.alloc hB.size o) hg (by have := hB.size; simp; omega) (fun q h => (hown.lt q h).1)⟩
/-- what 'plus' gives -/
def PlusRes (d e : Nat → Nat) (K : Nat) (w : World) (r : Ending) (w' : World) : Prop := ∃ x f, r = .returned x ∧ RowAt w' x (K + 1) f ∧ dsum f (K + 1) = dsum d K + dsum e K ∧ Below w.heap.size w w'
set_option maxHeartbeats 4000000 in
set_option maxRecDepth 100000 in
theorem plus_is (w : World) (v u : Value) (n m : Nat) (d e : Nat → Nat) (hv : RowAt w v n d) (hu : RowAt w u m e) (hn : n ≤ 1000) (hm : m ≤ 1000) (K : Nat) (hK : K = max n m) :
    Calls Tryz.prog 78 #[v, u] w (PlusRes d e K w) := by
  have HV : Hid (RowAt w v n d) := hv
  have HU : Hid (RowAt w u m e) := hu
  have HZ : Hid (d K = 0 ∧ e K = 0) := ⟨hv.1 K (by omega), hu.1 K (by omega)⟩
  have HD : Hid (∀ i, d i < 256) := hv.2.1
  have HE : Hid (∀ i, e i < 256) := hu.2.1
  obtain ⟨_, _, _, ad, cap, rfl, _⟩ := hv
  obtain ⟨_, _, _, bd, cap', rfl, _⟩ := hu
  obtain ⟨i0, hi, hz0, hz1, hz2⟩ := info_parts Tryz.infoI
  have LG : Hid (∀ W, Calls Tryz.prog 124 #[.slice ad n cap, .slice bd m cap'] W fun e w' => e = .returned (.int .i64 (K : Int)) ∧ w' = W) := fun W => by rw [hK]; exact longer_is W ad bd n m cap cap'
  have K1 : K ≤ 1000 := by omega
  clear hK
  go_enter Tryz.func78, Tryz.ntmps78
  go_wp2
  go_loopw [5, 6, 7] (fun s5 sc si wr => ∃ (i c : Nat) (f : Nat → Nat), i ≤ K + 1 ∧ c ≤ 1 ∧ (i = K + 1 → c = 0) ∧ sc = .int .i64 c ∧ si = .int .i64 i ∧ (∀ j, f j < 256) ∧ (∀ j, i ≤ j → f j = 0) ∧ dsum f i + c * 256 ^ i = dsum d i + dsum e i ∧ wr.ownsRow w.heap.size 3 1 s5 i (intsD f i) ∧ Below w.heap.size w wr) (fun _ _ si _ => K + 1 - (intOf si).toNat)
  case atStart => exact ⟨0, 0, fun _ => 0, by omega, by omega, fun _ => rfl, rfl, rfl, fun _ => (by decide : (0 : Nat) < 256), fun _ _ => rfl, by simp [dsum], World.ownsRow_nil _ _ _ _, Below.refl _ _⟩
  case round =>
    obtain ⟨i, c, f, hik, hc1, hend, rfl, rfl, hf, hfz, hs, hown, hB⟩ := hrel
    have HOW : Hid _ := hown
    have HB : Hid (Below w.heap.size w wr) := hB
    have HS : Hid _ := hs
    have HF : Hid (∀ j, f j < 256) := hf
    have HFZ : Hid (∀ j, i ≤ j → f j = 0) := hfz
    have b0 := hB.size
    by_cases hi5 : i < K + 1
    · have iI : (i : Int) ≤ (K : Int) := by omega
      obtain ⟨x, ex⟩ : ∃ x, x = d i := ⟨_, rfl⟩
      obtain ⟨y, ey⟩ : ∃ y, y = e i := ⟨_, rfl⟩
      have x256 : x < 256 := by rw [ex]; exact HD.out i
      have y256 : y < 256 := by rw [ey]; exact HE.out i
      have D1 : Hid (Calls Tryz.prog 123 #[.slice ad n cap, .int .i64 (i : Int)] wr fun e w' => e = .returned (.int .i64 (x : Int)) ∧ w' = wr) := by rw [ex]; exact digit_is wr _ n d i (HV.out.below hB)
      have D2 : Hid (Calls Tryz.prog 123 #[.slice bd m cap', .int .i64 (i : Int)] wr fun e w' => e = .returned (.int .i64 (y : Int)) ∧ w' = wr) := by rw [ey]; exact digit_is wr _ m e i (HU.out.below hB)
      obtain ⟨nn, enn⟩ : ∃ nn, nn = x + y + c := ⟨_, rfl⟩
      have ST : Hid (dsum (setD f i (nn % 256)) (i + 1) + nn / 256 * 256 ^ (i + 1) = dsum d (i + 1) + dsum e (i + 1)) := plus_step (by rw [enn, ex, ey]) hs
      have HC : Hid (nn / 256 ≤ 1 ∧ (i + 1 = K + 1 → nn / 256 = 0)) := ⟨by omega, fun h => by
        obtain rfl : i = K := by omega
        have h2 := HZ.out
        rw [← ex, ← ey] at h2
        omega⟩
      have b3 : (x : Int) + (y : Int) + (c : Int) = (nn : Int) := by omega
      have b4 : IntKind.i64.wrap (nn : Int) = (nn : Int) := by rw [IntKind.wrap_i64]; omega
      have b5 : IntKind.i64.wrap ((x : Int) + (y : Int)) = (x : Int) + (y : Int) := by rw [IntKind.wrap_i64]; omega
      obtain ⟨r, er⟩ : ∃ r, r = nn % 256 := ⟨_, rfl⟩
      obtain ⟨c', ec'⟩ : ∃ c', c' = nn / 256 := ⟨_, rfl⟩
      rw [← er, ← ec'] at ST
      rw [← ec'] at HC
      have b6 : Int.tmod (nn : Int) 256 = (r : Int) := by rw [Int.tmod_eq_emod_of_nonneg (by omega)]; omega
      have b7 : Int.tdiv (nn : Int) 256 = (c' : Int) := by rw [Int.tdiv_eq_ediv_of_nonneg (by omega)]; omega
      have t4 : (nn : Int) % 256 = (r : Int) := by omega
      have b8 : IntKind.i64.wrap (r : Int) = (r : Int) := by rw [IntKind.wrap_i64]; omega
      have b9 : IntKind.i64.wrap (c' : Int) = (c' : Int) := by rw [IntKind.wrap_i64]; omega
      have r256 : r < 256 := by omega
      have nnI : (nn : Int) ≤ 511 := by omega
      have iI2 : (i : Int) ≤ 1000 := by omega
      clear er ec' enn ex ey hs hf hfz hown hB hend
      go_upto_region 6 with (go_at_call 124; refine (LG.out _).mono ?_; rintro e0 w' ⟨rfl, hw⟩; (have hw2 := hw.symm); clear hw; subst hw2)
      go_wp2_with fail
      refine Calls.mono D1.out ?_
      rintro e0 w' ⟨rfl, hw⟩
      have hw2 := hw.symm
      clear hw
      subst hw2
      go_wp2_with fail
      refine Calls.mono D2.out ?_
      rintro e0 w' ⟨rfl, hw⟩
      have hw2 := hw.symm
      clear hw
      subst hw2
      go_wp2_with (at_builtin; refine wpList_append_own _ rfl _ _ 61 rfl w.heap.size 3 i0 (.int .i64 0) 1 8 Tryz.underlying61 hi hz0 hz1 hz2 rfl (by decide) _ _ _ rfl (World.ownsRow.alloc HOW.out _) ⟨wr.heap.size, 0, none⟩ 1 1 [.int .i64 (r : Int)] rfl rfl (fun j u hj => (by have hj0 : j = 0 := (by have := (List.getElem?_eq_some_iff.1 hj).1; simpa using this); subst hj0; simp at hj; subst hj; (first | (simp [Addr.add]; done) | (simp [Addr.add]; first | exact t4 | omega)))) (fun u hu => (by rw [List.mem_singleton.1 hu]; rfl)) (by unfold maxLen; omega) (by omega) (by simp; omega) ?_; intro v' w1 hown' hgrow _)
      have R : Hid _ := own_set HOW.out HB.out hown' hgrow
      clear hown' hgrow
      go_wp2
      go_roundw
      case rel => exact ⟨i + 1, c', setD f i r, by omega, HC.out.1, HC.out.2, rfl, by go_num, fun j => setD_lt HF.out i r j r256, fun j hj => by rw [setD, if_neg (by omega)]; exact HFZ.out j (by omega), ST.out, R.out⟩
      case measure => simp [intOf]; omega
    · obtain rfl : i = K + 1 := by omega
      have iI : ¬ (((K + 1 : Nat) : Int) ≤ (K : Int)) := by omega
      have hc0 := hend rfl
      have FSu : Hid (dsum f (K + 1) = dsum d K + dsum e K) := by
        have h := hs
        have e1 : dsum d (K + 1) = dsum d K := by rw [dsum, HZ.out.1]; simp
        have e2 : dsum e (K + 1) = dsum e K := by rw [dsum, HZ.out.2]; simp
        rw [hc0, e1, e2, Nat.zero_mul, Nat.add_zero] at h
        exact h
      clear hs hf hfz hown hB hend
      go_wp2_with (go_at_call 124; refine (LG.out _).mono ?_; rintro e0 w' ⟨rfl, hw⟩; (have hw2 := hw.symm); clear hw; subst hw2)
      go_ret
      exact ⟨_, f, rfl, RowAt.own HOW.out HF.out HFZ.out (by omega), FSu.out, HB.out⟩
theorem dsum_full : dsum (setD (fun _ => 0) 32 1) 33 = 256 ^ 32 := by
  rw [dsum_setD, dsum_zero 32 (fun _ _ => rfl), Nat.zero_add, Nat.one_mul]
set_option maxHeartbeats 1000000 in
set_option maxRecDepth 100000 in
theorem full_is (w : World) : Calls Tryz.prog 82 #[] w fun e w' => ∃ v, e = .returned v ∧ RowAt w' v 33 (setD (fun _ => 0) 32 1) ∧ Below w.heap.size w w' := by
  obtain ⟨i0, hi, hz0, hz1, hz2⟩ := info_parts Tryz.infoI
  go_enter Tryz.func82, Tryz.ntmps82
  go_upto_region 2 with (at_make; refine wpList_make_full _ rfl _ _ 61 rfl w.heap.size 3 i0 (.int .i64 0) 1 Tryz.underlying61 hi hz0 hz1 .i64 .i64 _ _ 33 rfl rfl rfl rfl (by rw [hz2]; omega) (by unfold maxLen; omega) (Nat.le_refl _) ?_; intro v1 hown hgrow; (have R1 : Hid (RowI v1 w.heap.size 33 (fun _ => 0)) := RowI.made hown); (have B1 : Hid (Below w.heap.size w v1) := Below.grown (Below.refl _ _) hgrow (Nat.le_refl _) (fun k h => by cases h)); clear hown hgrow)
  have c := (R1.out 32 (by omega)).1
  have f := (R1.out 32 (by omega)).2
  have R2 : Hid (RowI (v1.setCell ⟨w.heap.size, 32, none⟩ (.int .i64 1)) w.heap.size 33 (setD (fun _ => 0) 32 1)) := RowI.set R1.out 32 1
  have B2 : Hid (Below w.heap.size w (v1.setCell ⟨w.heap.size, 32, none⟩ (.int .i64 1))) := Below.setCell B1.out (Nat.le_refl _) _
  go_wp2
  go_ret
  refine ⟨_, rfl, ?_, B2.out⟩
  have h := RowAt.ofRowI (c := 33) R2.out (fun i => setD_lt (fun _ => (by decide : (0 : Nat) < 256)) 32 1 i (by omega)) (by omega)
  have e : cutD (setD (fun _ => 0) 32 1) 33 = setD (fun _ => 0) 32 1 := by
    funext i
    unfold cutD
    by_cases q : i < 33
    · rw [if_pos q]
    · rw [if_neg q, setD, if_neg (by omega)]
  rw [e] at h
  exact h
end Go.Proofs.YtpadpmkfhljiiaaGreat
/- The document's 'minus'. -/
namespace Go.Proofs.YtpadpmkfhljiiaaGreat
open Go.RowKit
/-- its block, if it has one, is not below B -/
def Above (x : Value) (B : Nat) : Prop := ∀ g o k c, x = .slice (some ⟨g, o, none⟩) k c → B ≤ g
end Go.Proofs.YtpadpmkfhljiiaaGreat
/- What the document's long division reckons, bit by bit: no Go text. -/
namespace Go.Proofs.YtpadpmkfhljiiaaGreat
theorem half_step (A j : Nat) : A / 2 ^ j = 2 * (A / 2 ^ (j + 1)) + A / 2 ^ j % 2 := by
  rw [Nat.pow_succ, ← Nat.div_div_eq_div_mul]; omega
/-- j bits are still to be done -/
structure Rd (A B n j : Nat) (f : Nat → Nat) (R : Nat) : Prop where
  r : R = A / 2 ^ j % B
  q : dsum f n = A / 2 ^ j / B * 2 ^ j
  lt : ∀ k, f k < 256
  low : ∀ k, 8 * k + 8 ≤ j → f k = 0
  mid : j % 8 ≠ 0 → f (j / 8) + 2 ^ (j % 8) ≤ 256
theorem Rd.start {A B n : Nat} (h : A < 256 ^ n) : Rd A B n (8 * n) (fun _ => 0) 0 := by
  have e : A / 2 ^ (8 * n) = 0 := Nat.div_eq_of_lt (by rw [Nat.pow_mul]; exact h)
  refine ⟨by rw [e]; simp, by rw [e, dsum_zero n (fun _ _ => rfl)]; simp, fun _ => by simp, fun _ _ => rfl, fun h => absurd (by omega) h⟩
theorem div_two {t B R b : Nat} (hB : 0 < B) (hR : R = t % B) (_hb : b ≤ 1) : (B ≤ 2 * R + b → (2 * t + b) / B = 2 * (t / B) + 1 ∧ (2 * t + b) % B = 2 * R + b - B) ∧ (2 * R + b < B → (2 * t + b) / B = 2 * (t / B) ∧ (2 * t + b) % B = 2 * R + b) := by
  have h1 := Nat.div_add_mod t B
  have h2 : R < B := by rw [hR]; exact Nat.mod_lt _ hB
  rw [← hR] at h1
  generalize t / B = q at h1 ⊢
  have h3 : 2 * t + b = B * (2 * q) + (2 * R + b) := by rw [← h1, Nat.mul_add, Nat.mul_left_comm]; omega
  refine ⟨fun hge => ?_, fun hlt => ?_⟩
  · have h4 : 2 * t + b = B * (2 * q + 1) + (2 * R + b - B) := by rw [h3, Nat.mul_add, Nat.mul_one]; omega
    refine ⟨?_, ?_⟩
    · rw [h4, Nat.mul_add_div hB, Nat.div_eq_of_lt (by omega), Nat.add_zero]
    · rw [h4, Nat.mul_add_mod, Nat.mod_eq_of_lt (by omega)]
  · refine ⟨?_, ?_⟩
    · rw [h3, Nat.mul_add_div hB, Nat.div_eq_of_lt hlt, Nat.add_zero]
    · rw [h3, Nat.mul_add_mod, Nat.mod_eq_of_lt hlt]
theorem pow_place (j : Nat) : 2 ^ (j % 8) * 256 ^ (j / 8) = 2 ^ j := by
  rw [show (256 : Nat) = 2 ^ 8 from rfl, ← Nat.pow_mul, ← Nat.pow_add]; congr 1; omega
theorem Rd.room {A B n j : Nat} {f : Nat → Nat} {R : Nat} (h : Rd A B n (j + 1) f R) : f (j / 8) + 2 ^ (j % 8) + 2 ^ (j % 8) ≤ 256 := by
  by_cases e : (j + 1) % 8 = 0
  · have h7 : j % 8 = 7 := by omega
    have h0 := h.low (j / 8) (by omega)
    rw [h0, h7]; decide
  · have h1 := h.mid e
    have e1 : (j + 1) / 8 = j / 8 := by omega
    have e2 : (j + 1) % 8 = j % 8 + 1 := by omega
    rw [e1, e2, Nat.pow_succ] at h1
    omega
theorem Rd.yes {A B n j : Nat} {f : Nat → Nat} {R b : Nat} (h : Rd A B n (j + 1) f R) (hB : 0 < B) (hj : j < 8 * n) (hb : b = A / 2 ^ j % 2) (hge : B ≤ 2 * R + b) : Rd A B n j (setD f (j / 8) (f (j / 8) + 2 ^ (j % 8))) (2 * R + b - B) := by
  have hs := half_step A j
  have hr := h.r
  have hq := h.q
  have hm := h.room
  have hp := Nat.two_pow_pos (j % 8)
  rw [← hb] at hs
  generalize A / 2 ^ (j + 1) = t at hs hr hq
  obtain ⟨e1, e2⟩ := (div_two hB hr (by omega)).1 hge
  refine ⟨by rw [hs, e2], ?_, fun k => setD_lt h.lt _ _ k (by omega), fun k hk => ?_, fun _ => ?_⟩
  · have h1 := dsum_set f (j / 8) (f (j / 8) + 2 ^ (j % 8)) n (by omega)
    have h2 := pow_place j
    rw [Nat.add_mul, h2, hq, Nat.pow_succ, Nat.mul_comm (2 ^ j) 2, ← Nat.mul_assoc] at h1
    rw [hs, e1, Nat.add_mul, Nat.one_mul, Nat.mul_comm 2 (t / B)]
    omega
  · rw [setD, if_neg (by omega)]; exact h.low k (by omega)
  · rw [setD, if_pos rfl]; exact hm
theorem Rd.no {A B n j : Nat} {f : Nat → Nat} {R b : Nat} (h : Rd A B n (j + 1) f R) (hB : 0 < B) (hb : b = A / 2 ^ j % 2) (hlt : 2 * R + b < B) : Rd A B n j f (2 * R + b) := by
  have hs := half_step A j
  have hr := h.r
  have hq := h.q
  have hm := h.room
  rw [← hb] at hs
  generalize A / 2 ^ (j + 1) = t at hs hr hq
  obtain ⟨e1, e2⟩ := (div_two hB hr (by omega)).2 hlt
  refine ⟨by rw [hs, e2], ?_, h.lt, fun k hk => h.low k (by omega), fun _ => Nat.le_trans (Nat.le_add_right _ _) hm⟩
  rw [hq, hs, e1, Nat.pow_succ, Nat.mul_comm (2 ^ j) 2, ← Nat.mul_assoc, Nat.mul_comm 2 (t / B)]
end Go.Proofs.YtpadpmkfhljiiaaGreat
/- What the document's division asks of its rows: bits, cuts, comparisons. -/
namespace Go.Proofs.YtpadpmkfhljiiaaGreat
open Go.RowKit
theorem RowI.below {W W' : World} {B g N : Nat} {f : Nat → Nat} (h : RowI W g N f) (k : Below B W W') (hb : g < B) : RowI W' g N f := fun j hj =>
  ⟨(k.cell (p := ⟨g, j, none⟩) hb).trans (h j hj).1, (k.frozen (p := ⟨g, j, none⟩) hb).trans (h j hj).2⟩
theorem RowAt.more {W : World} {v : Value} {n : Nat} {d : Nat → Nat} (h : RowAt W v n d) (m : Nat) (hm : n ≤ m) : dsum d m = dsum d n := dsum_more (fun i hi => h.1 i hi) m hm
/-- a row of no digits -/
theorem RowAt.nil (W : World) : RowAt W (.slice none 0 0) 0 (fun _ => 0) := ⟨fun _ _ => rfl, fun _ => by simp, by omega, none, 0, rfl, fun h => absurd rfl h⟩
/-- the rows while it is divided -/
structure Rw (w : World) (v u : Value) (n m : Nat) (d e : Nat → Nat) (gq : Nat) (f : Nat → Nat) (x : Value) (L : Nat) (g : Nat → Nat) (W : World) : Prop where
  bel : Below w.heap.size w W
  av : RowAt W v n d
  bv : RowAt W u m e
  rv : RowAt W x L g
  qv : RowI W gq n f
  ql : gq < W.heap.size
theorem Rw.past {w W W' : World} {v u x y : Value} {n m gq L L' : Nat} {d e f g g' : Nat → Nat} (h : Rw w v u n m d e gq f x L g W) (k : Below W.heap.size W W') (hy : RowAt W' y L' g') : Rw w v u n m d e gq f y L' g' W' :=
  ⟨h.bel.trans (k.mono h.bel.size), h.av.below k, h.bv.below k, hy, h.qv.below k h.ql, Nat.lt_of_lt_of_le h.ql k.size⟩
theorem RowAt.apart {W : World} {x : Value} {L : Nat} {g : Nat → Nat} (h : RowAt W x L g) (B gq o : Nat) (y : Value) (ha : Above x B) (hq : gq < B) : RowAt (W.setCell ⟨gq, o, none⟩ y) x L g := by
  obtain ⟨h1, h2, h3, ad, cap, rfl, hc⟩ := h
  refine ⟨h1, h2, h3, ad, cap, rfl, fun hn => ?_⟩
  obtain ⟨b, p, rfl, hcl⟩ := hc hn
  have hb := ha b p _ _ rfl
  refine ⟨b, p, rfl, fun i hi => ?_⟩
  rw [World.cell?_setCell_other _ _ _ _ (by intro e'; injection e' with e1 _ _; omega)]
  exact hcl i hi
theorem Rw.put {w W : World} {v u x : Value} {n m gq L : Nat} {d e f g : Nat → Nat} (h : Rw w v u n m d e gq f x L g W) (hv : RowAt w v n d) (hu : RowAt w u m e) (o s B : Nat) (hg : w.heap.size = gq) (ha : Above x B) (hq : gq < B) : Rw w v u n m d e gq (setD f o s) x L g (W.setCell ⟨gq, o, none⟩ (.int .i64 (s : Int))) := by
  have hb : Below w.heap.size w (W.setCell ⟨gq, o, none⟩ (.int .i64 (s : Int))) := h.bel.setCell (by simp; omega) _
  exact ⟨hb, hv.below hb, hu.below hb, h.rv.apart B gq o _ ha hq, h.qv.set o s, by simpa using h.ql⟩
end Go.Proofs.YtpadpmkfhljiiaaGreat
/- Arrays of 256 numbers in a block: new ones, loads, stores. -/
namespace Go.Proofs.YtpadpmkfhljiiaaGreat
open Go.RowKit
theorem intsD_len (f : Nat → Nat) (n : Nat) : (intsD f n).length = n := by simp [intsD]
theorem intsD_get (f : Nat → Nat) (n i : Nat) (h : i < n) : (intsD f n)[i]? = some (.int .i64 (f i : Int)) := by simp [intsD, h]
theorem RowI.past {w w' : World} {b n : Nat} {v : Nat → Nat} (h : RowI w b n v) (k : Below w.heap.size w w') : RowI w' b n v := fun i hi =>
  have hb := World.block_lt_of_cell? w _ (h i hi).1
  ⟨(k.cell (p := ⟨b, i, none⟩) hb).trans (h i hi).1, (k.frozen (p := ⟨b, i, none⟩) hb).trans (h i hi).2⟩
theorem RowI.set_other {w : World} {b n : Nat} {v : Nat → Nat} (h : RowI w b n v) (p : Addr) (x : Value) (hp : p.block ≠ b) : RowI (w.setCell p x) b n v := fun i hi =>
  ⟨by rw [World.cell?_setCell_other _ _ _ _ (by intro e; subst e; exact hp rfl)]; exact (h i hi).1, by rw [World.frozen?_setCell]; exact (h i hi).2⟩
theorem RowI.set_others {b n c : Nat} {v : Nat → Nat} (hc : c ≠ b) : ∀ (vs : List Value) (o : Nat) {w : World}, RowI w b n v → RowI (w.setCells c o vs) b n v
  | [], _, _, h => h
  | x :: r, o, w, h => by rw [World.setCells]; exact RowI.set_others hc r (o + 1) (h.set_other _ _ hc)
theorem RowI.new (w : World) (t : TypeId) (n : Nat) (v : Nat → Nat) : RowI (w.alloc (.cells (intsD v n).toArray t)) w.heap.size n v := fun i hi => by
  rw [World.cell?_alloc_at _ _ _ _ rfl]
  exact ⟨by simp [intsD, hi], by simp [World.frozen?_alloc_at]⟩
theorem RowI.range {w : World} {b n : Nat} {v : Nat → Nat} (h : RowI w b n v) : w.rangeAt b 0 (intsD v n) := fun j x hx => by
  have hj : j < n := by have := (List.getElem?_eq_some_iff.1 hx).1; rwa [intsD_len] at this
  rw [intsD_get v n j hj] at hx; rw [Nat.zero_add, ← hx]; exact (h j hj).1
theorem RowI.there {w : World} {b n : Nat} {v : Nat → Nat} (h : RowI w b n v) : w.there b 0 n := fun j hj => by
  rw [Nat.zero_add, (h j hj).1]; exact ⟨rfl, (h j hj).2⟩
/-- a new block of 256 numbers -/
structure New256 (w W : World) (f : Nat → Nat) : Prop where
  row : RowI W w.heap.size 256 f
  bel : Below w.heap.size w W
  siz : W.heap.size = w.heap.size + 1
theorem New256.of (w : World) (f : Nat → Nat) : New256 w (w.alloc (.cells (intsD f 256).toArray 85)) f := ⟨RowI.new _ _ _ _, (Below.refl _ _).alloc (Nat.le_refl _) _, by simp⟩
end Go.Proofs.YtpadpmkfhljiiaaGreat
/- The document's 'bits' of a word. -/
namespace Go.Proofs.YtpadpmkfhljiiaaGreat
open Go.RowKit
end Go.Proofs.YtpadpmkfhljiiaaGreat
/- The document's division of rows. -/
namespace Go.Proofs.YtpadpmkfhljiiaaGreat
open Go.RowKit
end Go.Proofs.YtpadpmkfhljiiaaGreat
/- guess: the digit that is tried first is no less than the true one. -/
namespace Go.Proofs.YtpadpmkfhljiiaaGreat
open Go.RowKit
end Go.Proofs.YtpadpmkfhljiiaaGreat
/- takeOff: a digit's multiple of the divisor is taken off. -/
namespace Go.Proofs.YtpadpmkfhljiiaaGreat
open Go.RowKit
/-- while parts are taken off: i of them are -/
structure Tk (w : World) (r0 : Nat → Int) (d0 d1 d2 d3 : Int) (a : Nat) (k : Int) (i : Nat) (c b : Int) (r : Nat → Int) (W : World) : Prop where
  bel : Below w.heap.size w W
  row : Row W w.heap.size 9 r
  box : Box W (w.heap.size + 1) d0 d1 d2 d3
  zer : Row W (w.heap.size + 1 + 1) 9 (fun _ => 0)
  u : ∀ j, U64 (r j)
  same : ∀ j, j < a ∨ a + i ≤ j → r j = r0 j
  eq : nv (sh r0 a) i + (b + c) * Bd ^ i = nv (sh r a) i + k * nv (limb d0 d1 d2 d3) i
  cu : U64 c
  b0 : 0 ≤ b
  b1 : b ≤ 1
theorem Tk.step {w : World} {r0 : Nat → Int} {d0 d1 d2 d3 : Int} {a : Nat} {k : Int} {i : Nat} {c b : Int} {r : Nat → Int} {W : World} (h : Tk w r0 d0 d1 d2 d3 a k i c b r W) {c' p s b' : Int} (e1 : limb d0 d1 d2 d3 i * k + c = c' * Bd + p) (e2 : r0 (a + i) - p - b = s - Bd * b')
    (hc : U64 c') (hs : U64 s) (hb0 : 0 ≤ b') (hb1 : b' ≤ 1) : Tk w r0 d0 d1 d2 d3 a k (i + 1) c' b' (fun j => if j = a + i then s else r j) (W.setCell ⟨w.heap.size, a + i, none⟩ (.int .u64 s)) := by
  refine ⟨h.bel.setCell (Nat.le_refl _) _, h.row.set _ _, h.box.other _ _ (by simp), h.zer.set_other _ _ (by simp; omega), fun j => ?_, fun j hj => ?_, off_step h.eq e1 e2, hc, hb0, hb1⟩
  · split
    · exact hs
    · exact h.u j
  · rw [if_neg (by omega)]; exact h.same j (by omega)
theorem Tk.drew {w : World} {r0 : Nat → Int} {d0 d1 d2 d3 : Int} {a n : Nat} {k : Int} {c b : Int} {r : Nat → Int} {W : World} (h : Tk w r0 d0 d1 d2 d3 a k n c b r W) : Tk w r0 d0 d1 d2 d3 a k n c b r W.drew :=
  ⟨h.bel.drew, h.row.drew, h.box.drew, h.zer.drew, h.u, h.same, h.eq, h.cu, h.b0, h.b1⟩
theorem Tk.new (w : World) (r0 : Nat → Int) (d0 d1 d2 d3 : Int) (a : Nat) (k : Int) (hu : ∀ i, U64 (r0 i)) : Tk w r0 d0 d1 d2 d3 a k 0 0 0 r0 (((w.alloc (.cells (rowL 9 r0).toArray 110)).alloc (.cells #[.int .u64 d0, .int .u64 d1, .int .u64 d2, .int .u64 d3] 24)).alloc (.cells (rowL 9 fun _ => 0).toArray 110)) := by
  have h1 := Row.new w 110 9 r0
  have h2 := Box.new (w.alloc (.cells (rowL 9 r0).toArray 110)) 24 d0 d1 d2 d3
  have h3 := Row.new ((w.alloc (.cells (rowL 9 r0).toArray 110)).alloc (.cells #[.int .u64 d0, .int .u64 d1, .int .u64 d2, .int .u64 d3] 24)) 110 9 (fun _ => 0)
  rw [World.size_alloc] at h2 h3
  rw [World.size_alloc] at h3
  refine ⟨?_, (h1.alloc _).alloc _, h2.alloc _, h3, hu, fun j _ => rfl, by simp [nv], ⟨by omega, by unfold Bd; omega⟩, by omega, by omega⟩
  exact (((Below.refl _ _).alloc (by omega) _).alloc (by simp) _).alloc (by simp; omega) _
end Go.Proofs.YtpadpmkfhljiiaaGreat
/- Plain arithmetic of shifts by less than 64 places, limb by limb. -/
namespace Go.Proofs.YtpadpmkfhljiiaaGreat
open Go.RowKit

end Go.Proofs.YtpadpmkfhljiiaaGreat
/- Plain arithmetic of shifts down by less than 64 places, limb by limb. -/
namespace Go.Proofs.YtpadpmkfhljiiaaGreat
open Go.RowKit

end Go.Proofs.YtpadpmkfhljiiaaGreat
/- Plain arithmetic: a number of many parts shifted up by less than 64 places, and down again. -/
namespace Go.Proofs.YtpadpmkfhljiiaaGreat
open Go.RowKit
theorem two_s (s : Nat) : (2 : Int) ^ s = ((2 ^ s : Nat) : Int) := by rw [Int.natCast_pow]; rfl
theorem two_pos (s : Nat) : (0 : Int) < 2 ^ s := by rw [two_s]; exact_mod_cast Nat.two_pow_pos s
theorem up_step {r u : Nat → Int} {i s : Nat} {y d : Int} (h : nv r (i + 1) = nv u i * 2 ^ s) (e : y + d * Bd = u i * 2 ^ s + r i) :
    nv (fun j => if j = i + 1 then d else if j = i then y else r j) (i + 1 + 1) = nv u (i + 1) * 2 ^ s := by
  have hx : nv (fun j => if j = i + 1 then d else if j = i then y else r j) i = nv r i := nv_ext i (fun j hj => by rw [if_neg (by omega), if_neg (by omega)])
  rw [nv, nv, hx]
  simp only [if_true, show ¬ (i = i + 1) by omega, if_false]
  rw [nv] at h
  rw [nv, Int.add_mul, ← h, Int.pow_succ, Int.mul_comm (Bd ^ i) Bd, ← Int.mul_assoc, Int.mul_right_comm (u i)]
  have e2 : (y + d * Bd) * Bd ^ i = (u i * 2 ^ s + r i) * Bd ^ i := by rw [e]
  rw [Int.add_mul, Int.add_mul] at e2
  omega
end Go.Proofs.YtpadpmkfhljiiaaGreat
/- stretch and squeeze. -/
namespace Go.Proofs.YtpadpmkfhljiiaaGreat
open Go.RowKit
/-- while it is stretched: i parts are -/
structure St (w : World) (u : Nat → Int) (s i : Nat) (r : Nat → Int) (W : World) : Prop where
  bel : Below w.heap.size w W
  rowu : Row W w.heap.size 8 u
  zer : Row W (w.heap.size + 1) 9 (fun _ => 0)
  row : Row W (w.heap.size + 1 + 1) 9 r
  u64 : ∀ j, U64 (r j)
  top : r i < 2 ^ s
  high : ∀ j, i < j → r j = 0
  eq : nv r (i + 1) = nv u i * 2 ^ s
theorem St.step {w : World} {u : Nat → Int} {s i : Nat} {r : Nat → Int} {W : World} (h : St w u s i r W) {y d : Int} (e : y + d * Bd = u i * 2 ^ s + r i) (hy : U64 y) (hd : U64 d) (hs : d < 2 ^ s) :
    St w u s (i + 1) (fun j => if j = i + 1 then d else if j = i then y else r j) ((W.setCell ⟨w.heap.size + 1 + 1, i, none⟩ (.int .u64 y)).setCell ⟨w.heap.size + 1 + 1, i + 1, none⟩ (.int .u64 d)) := by
  refine ⟨(h.bel.setCell (by simp; omega) _).setCell (by simp; omega) _, (h.rowu.set_other _ _ (by simp; omega)).set_other _ _ (by simp; omega), (h.zer.set_other _ _ (by simp)).set_other _ _ (by simp), (h.row.set _ _).set _ _, fun j => ?_, ?_, fun j hj => ?_, up_step h.eq e⟩
  · split
    · exact hd
    · split
      · exact hy
      · exact h.u64 j
  · simpa using hs
  · rw [if_neg (by omega), if_neg (by omega)]; exact h.high j (by omega)
theorem St.new (w : World) (u : Nat → Int) (s : Nat) : St w u s 0 (fun _ => 0) (((w.alloc (.cells (rowL 8 u).toArray 69)).alloc (.cells (rowL 9 fun _ => 0).toArray 110)).alloc (.cells (rowL 9 fun _ => 0).toArray 110)) := by
  have h1 := Row.new w 69 8 u
  have h2 := Row.new (w.alloc (.cells (rowL 8 u).toArray 69)) 110 9 (fun _ => 0)
  have h3 := Row.new ((w.alloc (.cells (rowL 8 u).toArray 69)).alloc (.cells (rowL 9 fun _ => 0).toArray 110)) 110 9 (fun _ => 0)
  rw [World.size_alloc] at h2 h3
  rw [World.size_alloc] at h3
  refine ⟨?_, (h1.alloc _).alloc _, h2.alloc _, h3, fun j => ⟨by simp, by unfold Bd; simp⟩, two_pos s, fun j _ => rfl, by simp [nv]⟩
  exact (((Below.refl _ _).alloc (by omega) _).alloc (by simp) _).alloc (by simp; omega) _
end Go.Proofs.YtpadpmkfhljiiaaGreat
/- Shifts: what shiftUp and shiftDown make of a word, limb by limb, by how many whole limbs they shift. -/
namespace Go.Proofs.YtpadpmkfhljiiaaGreat
open Go.RowKit

end Go.Proofs.YtpadpmkfhljiiaaGreat
/- shiftUp and shiftDown, whatever the count: the answer as four letters, and what it is worth. -/
namespace Go.Proofs.YtpadpmkfhljiiaaGreat
open Go.RowKit

theorem q4 (n : Int) (h0 : 0 ≤ n) (h1 : n < 256) : n / 64 = 0 ∨ n / 64 = 1 ∨ n / 64 = 2 ∨ n / 64 = 3 := by omega
end Go.Proofs.YtpadpmkfhljiiaaGreat
/- divide: the quotient of eight parts by four, and what is left. -/
namespace Go.Proofs.YtpadpmkfhljiiaaGreat
open Go.RowKit
/-- what lies there while it is divided: the number, and the two results -/
structure Dq (w : World) (u : Nat → Int) (W : World) : Prop where
  bel : Below w.heap.size w W
  ru : Row W w.heap.size 8 u
  z8 : Row W (w.heap.size + 1 + 1) 8 (fun _ => 0)
  z4 : Box W (w.heap.size + 1 + 1 + 1) 0 0 0 0
theorem Dq.past {w W W' : World} {u : Nat → Int} (h : Dq w u W) (k : Below W.heap.size W W') : Dq w u W' :=
  ⟨h.bel.trans (k.mono h.bel.size), h.ru.below k (h.ru.lt (by omega)), h.z8.below k (h.z8.lt (by omega)), h.z4.below k h.z4.lt⟩
theorem Dq.alloc {w W : World} {u : Nat → Int} (h : Dq w u W) (o : Obj) : Dq w u (W.alloc o) := ⟨h.bel.alloc h.bel.size _, h.ru.alloc _, h.z8.alloc _, h.z4.alloc _⟩
theorem Dq.cells {w W : World} {u : Nat → Int} (h : Dq w u W) (b o : Nat) (vs : List Value) (hb : w.heap.size + 1 + 1 + 1 < b) : Dq w u (W.setCells b o vs) :=
  ⟨below_setCells b (by omega) vs o W h.bel, Row.set_others (by omega) vs o h.ru, Row.set_others (by omega) vs o h.z8, Box.set_others (by omega) vs o h.z4⟩
theorem Dq.cell {w W : World} {u : Nat → Int} (h : Dq w u W) (b o : Nat) (x : Value) (hb : w.heap.size + 1 + 1 + 1 < b) : Dq w u (W.setCell ⟨b, o, none⟩ x) := h.cells b o [x] hb
/-- the blocks while it is divided -/
structure Dv (w : World) (u : Nat → Int) (d0 d1 d2 d3 : Int) (bd br bq : Nat) (r q : Nat → Int) (W : World) : Prop where
  bas : Dq w u W
  bd : Box W bd d0 d1 d2 d3
  rr : Row W br 9 r
  rq : Row W bq 8 q
theorem Dv.past {w W W' : World} {u : Nat → Int} {d0 d1 d2 d3 : Int} {bd br bq : Nat} {r q : Nat → Int} (h : Dv w u d0 d1 d2 d3 bd br bq r q W) (k : Below W.heap.size W W') : Dv w u d0 d1 d2 d3 bd br bq r q W' :=
  ⟨h.bas.past k, h.bd.below k h.bd.lt, h.rr.below k (h.rr.lt (by omega)), h.rq.below k (h.rq.lt (by omega))⟩
theorem Dv.drew {w W : World} {u : Nat → Int} {d0 d1 d2 d3 : Int} {bd br bq : Nat} {r q : Nat → Int} (h : Dv w u d0 d1 d2 d3 bd br bq r q W) : Dv w u d0 d1 d2 d3 bd br bq r q W.drew := ⟨⟨h.bas.bel.drew, h.bas.ru.drew, h.bas.z8.drew, h.bas.z4.drew⟩, h.bd.drew, h.rr.drew, h.rq.drew⟩
theorem Dv.alloc {w W : World} {u : Nat → Int} {d0 d1 d2 d3 : Int} {bd br bq : Nat} {r q : Nat → Int} (h : Dv w u d0 d1 d2 d3 bd br bq r q W) (o : Obj) : Dv w u d0 d1 d2 d3 bd br bq r q (W.alloc o) := ⟨h.bas.alloc _, h.bd.alloc _, h.rr.alloc _, h.rq.alloc _⟩
/-- another block is written -/
theorem Dv.cells {w W : World} {u : Nat → Int} {d0 d1 d2 d3 : Int} {bd br bq : Nat} {r q : Nat → Int} (h : Dv w u d0 d1 d2 d3 bd br bq r q W) (b o : Nat) (vs : List Value) (hb : w.heap.size + 1 + 1 + 1 < b) (h1 : b ≠ bd) (h2 : b ≠ br) (h3 : b ≠ bq) : Dv w u d0 d1 d2 d3 bd br bq r q (W.setCells b o vs) :=
  ⟨h.bas.cells b o vs hb, Box.set_others h1 vs o h.bd, Row.set_others h2 vs o h.rr, Row.set_others h3 vs o h.rq⟩
/-- the numbers while it is divided: k columns are still to be done -/
structure Dn (u d : Nat → Int) (P : Int) (n k : Nat) (r q : Nat → Int) : Prop where
  ur : ∀ i, U64 (r i)
  uq : ∀ i, U64 (q i)
  low : ∀ i, i < k → q i = 0
  eq : nv u 8 * P = nv q 8 * nv d n + nv r 9
  lt : nv r 9 < nv d n * Bd ^ k
  d0 : 0 < nv d n
  dn : nv d n < Bd ^ n
  fits : k + n ≤ 9 ∨ k = 0
theorem Dn.col {u d : Nat → Int} {P : Int} {n a : Nat} {r q : Nat → Int} (h : Dn u d P n (a + 1) r q) : Col r n a (nv d n) := ⟨h.ur, h.d0, h.dn, h.lt, by have := h.fits; omega⟩
/-- a digit was found -/
theorem Dn.step {u d : Nat → Int} {P : Int} {n a : Nat} {r q s : Nat → Int} {k : Int} (h : Dn u d P n (a + 1) r q) (o : Off r d n a k s true) (hk : k = nv (sh r a) (n + 1) / nv d n) (ha : a < 8) (hu : U64 k) : Dn u d P n a s (fun i => if i = a then k else q i) := by
  obtain ⟨e1, e2⟩ := o.left h.col rfl hk
  refine ⟨o.u, fun i => ?_, fun i hi => ?_, ?_, e2, h.d0, h.dn, by have := h.fits; omega⟩
  · split
    · exact hu
    · exact h.uq i
  · rw [if_neg (by omega)]; exact h.low i (by omega)
  · rw [nv_set q a k 8 ha (h.low a (by omega)), h.eq, e1, Int.add_mul, Int.mul_assoc k, Int.mul_comm (Bd ^ a)]; omega
theorem Dn.start {u d v : Nat → Int} {P W : Int} {n m : Nat} {r : Nat → Int} (hu : ∀ i, U64 (u i)) (hv : ∀ i, U64 (v i)) (hr : ∀ i, U64 (r i)) (hP : 0 < P) (hne : v n ≠ 0) (hm : m ≤ 8) (hz : ∀ i, m ≤ i → i < 8 → u i = 0) (e : nv r 9 = nv u 8 * P)
    (e1 : nv d (n + 1) = W * P) (e2 : nv v (n + 1) = W) (h0 : 0 < W) (hlt : W * P < Bd ^ (n + 1)) (hn : n < 4) : Dn u d P (n + 1) (m - n) r (fun _ => 0) := by
  have hs := div_start (k := m - n) hu hv hP hne hm hz (by omega)
  refine ⟨hr, fun i => ⟨by simp, by unfold Bd; simp⟩, fun _ _ => rfl, ?_, ?_, ?_, ?_, by omega⟩
  · rw [nv_zero 8 (r := fun _ => (0 : Int)) (fun _ _ => rfl), Int.zero_mul, Int.zero_add, e]
  · rw [e, e1, ← e2]; exact hs
  · rw [e1]; exact Int.mul_pos h0 hP
  · rw [e1]; exact hlt
theorem Box.range {W : World} {b : Nat} {a0 a1 a2 a3 : Int} (h : Box W b a0 a1 a2 a3) : W.rangeAt b 0 [.int .u64 a0, .int .u64 a1, .int .u64 a2, .int .u64 a3] := fun j x hx => by
  obtain ⟨c0, c1, c2, c3, _⟩ := h.facts
  rw [Nat.zero_add]
  rcases j with _ | _ | _ | _ | j
  · rw [c0]; exact hx
  · rw [c1]; exact hx
  · rw [c2]; exact hx
  · rw [c3]; exact hx
  · simp at hx
end Go.Proofs.YtpadpmkfhljiiaaGreat
/- The document's rows as numbers, and what each of its functions makes of them. -/
namespace Go.Proofs.YtpadpmkfhljiiaaGreat
open Go.RowKit
/-- a row of at most n digits whose number is N -/
def RowIs (W : World) (v : Value) (n N : Nat) : Prop := ∃ (k : Nat) (d : Nat → Nat), k ≤ n ∧ RowAt W v k d ∧ dsum d k = N
theorem RowIs.below {W W' : World} {v : Value} {n N : Nat} (h : RowIs W v n N) (k : Below W.heap.size W W') : RowIs W' v n N := by
  obtain ⟨q, d, h1, h2, h3⟩ := h
  exact ⟨q, d, h1, h2.below k, h3⟩
theorem RowIs.lt {W : World} {v : Value} {n N : Nat} (h : RowIs W v n N) : N < 256 ^ n := by
  obtain ⟨q, d, h1, h2, h3⟩ := h
  rw [← h3]
  exact Nat.lt_of_lt_of_le (dsum_lt h2.2.1 q) (Nat.pow_le_pow_right (by decide) h1)
/-- boxes of words and rows -/
structure Bw (w : World) (l : List (Nat × Int × Int × Int × Int)) (rs : List (Value × Nat × Nat)) (W : World) : Prop where
  bx : Bx w l W
  rows : ∀ p ∈ rs, RowIs W p.1 p.2.1 p.2.2
theorem Bw.of {w W : World} {l : List (Nat × Int × Int × Int × Int)} (h : Bx w l W) : Bw w l [] W := ⟨h, fun _ hp => by cases hp⟩
theorem Bw.past {w W W' : World} {l : List (Nat × Int × Int × Int × Int)} {rs : List (Value × Nat × Nat)} (h : Bw w l rs W) (k : Below W.heap.size W W') : Bw w l rs W' := ⟨h.bx.past k, fun p hp => (h.rows p hp).below k⟩
theorem Bw.drew {w W : World} {l : List (Nat × Int × Int × Int × Int)} {rs : List (Value × Nat × Nat)} (h : Bw w l rs W) : Bw w l rs W.drew := h.past (Below.refl _ _).drew
theorem Bw.row {w W : World} {l : List (Nat × Int × Int × Int × Int)} {rs : List (Value × Nat × Nat)} {v : Value} {n N : Nat} (h : Bw w l rs W) (k : RowIs W v n N) : Bw w l ((v, n, N) :: rs) W := ⟨h.bx, fun p hp => by
  rcases List.mem_cons.1 hp with rfl | hp
  · exact k
  · exact h.rows p hp⟩
theorem Bw.at {w W : World} {l : List (Nat × Int × Int × Int × Int)} {rs : List (Value × Nat × Nat)} {v : Value} {n N : Nat} (h : Bw w l rs W) (hp : (v, n, N) ∈ rs) : RowIs W v n N := h.rows _ hp
theorem V_lt {x a0 a1 a2 a3 : Int} {X : Nat} (ha : IsW x a0 a1 a2 a3) (hX : V a0 a1 a2 a3 = (X : Int)) : X < 256 ^ 32 := by
  obtain ⟨X', h1, _, h3⟩ := mod_nat ha
  have : X = X' := by rw [hX] at h1; omega
  omega
theorem ri_plus {W : World} {v u : Value} {n m A B : Nat} (h1 : RowIs W v n A) (h2 : RowIs W u m B) (q : Nat) (hq : max n m + 1 ≤ q) (hl : q ≤ 1000) :
    Calls Tryz.prog 78 #[v, u] W fun e w' => ∃ x, e = .returned x ∧ RowIs w' x q (A + B) ∧ Below W.heap.size W w' := by
  obtain ⟨k, d, a1, a2, a3⟩ := h1
  obtain ⟨j, c, b1, b2, b3⟩ := h2
  refine Calls.mono (plus_is W v u k j d c a2 b2 (by omega) (by omega) (max k j) rfl) ?_
  rintro e w' ⟨x, f, rfl, x1, x2, x3⟩
  rw [a2.more (max k j) (by omega), b2.more (max k j) (by omega), a3, b3] at x2
  exact ⟨x, rfl, ⟨_, f, by omega, x1, x2⟩, x3⟩
theorem ri_times {W : World} {v u : Value} {n m A B : Nat} (h1 : RowIs W v n A) (h2 : RowIs W u m B) (q : Nat) (hq : n + m + 1 ≤ q) (hl : q ≤ 1000) :
    Calls Tryz.prog 85 #[v, u] W fun e w' => ∃ x, e = .returned x ∧ RowIs w' x q (A * B) ∧ Below W.heap.size W w' := by
  obtain ⟨k, d, a1, a2, a3⟩ := h1
  obtain ⟨j, c, b1, b2, b3⟩ := h2
  refine (times_is W v u k j d c a2 b2 (by omega) (by omega)).mono ?_
  rintro e w' ⟨x, f, rfl, x1, x2, x3⟩
  rw [a3, b3] at x2
  exact ⟨x, rfl, ⟨_, f, by omega, x1, x2⟩, x3⟩
theorem ri_word {W : World} {v : Value} {n N : Nat} (h1 : RowIs W v n N) {p0 p1 p2 p3 : Int} (hp : IsW (N : Int) p0 p1 p2 p3) :
    Calls Tryz.prog 77 #[v] W fun e w' => e = .returned (.agg #[.int .u64 p0, .int .u64 p1, .int .u64 p2, .int .u64 p3]) ∧ Below W.heap.size W w' := by
  obtain ⟨k, d, a1, a2, a3⟩ := h1
  refine (word_is W v k d a2).mono ?_
  rintro e w' ⟨s0, s1, s2, s3, rfl, hs, hB⟩
  have h : (dsum d 32 : Int) % MM = (N : Int) % MM := by
    rw [← MM_nat, ← a3]
    by_cases hk : k ≤ 32
    · rw [a2.more 32 hk]
    · have h1 := dsum_mod a2.2.1 k 32
      have h2 := dsum_lt a2.2.1 32
      have h3 : dsum (cutD d 32) k = dsum d 32 := by
        rw [dsum_more (n := 32) (fun i hi => by rw [cutD, if_neg (by omega)]) k (by omega)]
        exact dsum_ext 32 (fun i hi => by rw [cutD, if_pos hi])
      rw [← Int.natCast_emod, ← Int.natCast_emod, Nat.mod_eq_of_lt h2, ← h3, ← cutD_sum a2.2.1]
  obtain ⟨rfl, rfl, rfl, rfl⟩ := hs.eq hp h
  exact ⟨rfl, hB⟩
theorem ri_full (W : World) : Calls Tryz.prog 82 #[] W fun e w' => ∃ x, e = .returned x ∧ RowIs w' x 33 (256 ^ 32) ∧ Below W.heap.size W w' := by
  refine (full_is W).mono ?_
  rintro e w' ⟨x, rfl, x1, x3⟩
  exact ⟨x, rfl, ⟨33, _, Nat.le_refl _, x1, dsum_full⟩, x3⟩
end Go.Proofs.YtpadpmkfhljiiaaGreat
/- Bits and their number; the document's 'joined'. -/
namespace Go.Proofs.YtpadpmkfhljiiaaGreat
open Go.RowKit
end Go.Proofs.YtpadpmkfhljiiaaGreat
/- The document's 'small' and 'upTo'. -/
namespace Go.Proofs.YtpadpmkfhljiiaaGreat
open Go.RowKit
theorem div_pow_succ (n k : Nat) : n / 256 ^ k / 256 = n / 256 ^ (k + 1) := by rw [Nat.pow_succ, Nat.div_div_eq_div_mul]
set_option maxHeartbeats 2000000 in
set_option maxRecDepth 100000 in
theorem small_is (n : Nat) (hn : n < 65536) (w : World) :
    Calls Tryz.prog 108 #[.int .i64 (n : Int)] w fun e w' => ∃ v, e = .returned v ∧ RowIs w' v 2 n ∧ Below w.heap.size w w' := by
  obtain ⟨i0, hi, hz0, hz1, hz2⟩ := info_parts Tryz.infoI
  have HN : Hid (n < 65536) := hn
  have DE : Hid (∀ k, n / 256 ^ k = 0 → ∀ i, k ≤ i → n / 256 ^ i = 0) := fun k h i hi => by
    have h1 : n < 256 ^ k := by
      rcases Nat.lt_or_ge n (256 ^ k) with h2 | h2
      · exact h2
      · have := Nat.div_pos h2 (Nat.pow_pos (by omega)); omega
    exact Nat.div_eq_of_lt (Nat.lt_of_lt_of_le h1 (Nat.pow_le_pow_right (by decide) hi))
  clear hn
  go_enter Tryz.func108, Tryz.ntmps108
  go_wp2
  go_loopw [0, 3] (fun s0 s3 wr => ∃ k m : Nat, k ≤ 2 ∧ m = n / 256 ^ k ∧ s0 = .int .i64 (m : Int) ∧ wr.ownsRow w.heap.size 3 1 s3 k (intsD (dig n) k) ∧ Below w.heap.size w wr) (fun s0 _ _ => (intOf s0).toNat)
  case atStart => exact ⟨0, n, by omega, by simp, rfl, World.ownsRow_nil _ _ _ _, Below.refl _ _⟩
  case round =>
    obtain ⟨k, m, hk, hm, rfl, hown, hB⟩ := hrel
    have HOW : Hid _ := hown
    have HB : Hid (Below w.heap.size w wr) := hB
    have HM : Hid (m = n / 256 ^ k) := hm
    have b0 := hB.size
    by_cases h0 : 0 < m
    · have mI : (0 : Int) < (m : Int) := by omega
      have mL : (m : Int) < 65536 := by
        have h2 := HN.out
        have h3 := Nat.div_le_self n (256 ^ k)
        omega
      have k2 : k < 2 := by
        rcases Nat.lt_or_ge k 2 with h | h
        · exact h
        · obtain rfl : k = 2 := by omega
          have := HN.out
          rw [Nat.div_eq_of_lt (by omega)] at hm; omega
      obtain ⟨r, er⟩ : ∃ r, r = m % 256 := ⟨_, rfl⟩
      obtain ⟨c, ec⟩ : ∃ c, c = m / 256 := ⟨_, rfl⟩
      have b6 : Int.tmod (m : Int) 256 = (r : Int) := by rw [Int.tmod_eq_emod_of_nonneg (by omega)]; omega
      have b7 : Int.tdiv (m : Int) 256 = (c : Int) := by rw [Int.tdiv_eq_ediv_of_nonneg (by omega)]; omega
      have t4 : (m : Int) % 256 = (r : Int) := by omega
      have b8 : IntKind.i64.wrap (r : Int) = (r : Int) := by rw [IntKind.wrap_i64]; omega
      have b9 : IntKind.i64.wrap (c : Int) = (c : Int) := by rw [IntKind.wrap_i64]; omega
      have r256 : r < 256 := by omega
      have ED : Hid (r = dig n k ∧ c = n / 256 ^ (k + 1) ∧ c < m) := ⟨by rw [er, hm, dig, if_pos (by omega)], by rw [ec, hm, div_pow_succ], by omega⟩
      clear er ec hown hB hm
      go_wp2_with (at_builtin; refine wpList_append_own _ rfl _ _ 61 rfl w.heap.size 3 i0 (.int .i64 0) 1 8 Tryz.underlying61 hi hz0 hz1 hz2 rfl (by decide) _ _ _ rfl (World.ownsRow.alloc HOW.out _) ⟨wr.heap.size, 0, none⟩ 1 1 [.int .i64 (r : Int)] rfl rfl (fun j u hj => (by have hj0 : j = 0 := (by have := (List.getElem?_eq_some_iff.1 hj).1; simpa using this); subst hj0; simp at hj; subst hj; (first | (simp [Addr.add]; done) | (simp [Addr.add]; first | exact t4 | omega)))) (fun u hu => (by rw [List.mem_singleton.1 hu]; rfl)) (by unfold maxLen; omega) (by omega) (by simp; omega) ?_; intro v' w1 hown' hgrow _)
      have R : Hid _ := of_step (ED.out.1) HOW.out HB.out hown' hgrow
      clear hown' hgrow
      go_wp2
      go_roundw
      case rel => exact ⟨k + 1, c, by omega, ED.out.2.1, rfl, R.out⟩
      case measure => have := ED.out.2.2; simp [intOf]; omega
    · obtain rfl : m = 0 := by omega
      clear hm hown hB
      go_wp2
      go_ret
      have hz := DE.out k HM.out.symm
      exact ⟨_, rfl, ⟨k, dig n, hk, RowAt.own HOW.out (dig_lt n) (fun i hi => by rw [dig]; split; rw [hz i hi]; rfl) (by omega), by rw [dig_sum n k (by omega)]; exact Nat.mod_eq_of_lt (by rcases Nat.lt_or_ge n (256 ^ k) with h2 | h2; exact h2; have := Nat.div_pos h2 (Nat.pow_pos (by omega)); have := HM.out; omega)⟩, HB.out⟩
end Go.Proofs.YtpadpmkfhljiiaaGreat
/- The document's And, Or, Xor, Not by its arrays of bits. -/
namespace Go.Proofs.YtpadpmkfhljiiaaGreat
open Go.RowKit
end Go.Proofs.YtpadpmkfhljiiaaGreat
/- The document's Not, Shl, lowered, Shr, Sar, SignExtend by its arrays of bits. -/
namespace Go.Proofs.YtpadpmkfhljiiaaGreat
open Go.RowKit
end Go.Proofs.YtpadpmkfhljiiaaGreat
/- The document's negative, size, signed, Byte, zeros, Clz, Size; word.Clz, word.Size. -/
namespace Go.Proofs.YtpadpmkfhljiiaaGreat
open Go.RowKit
theorem RowIs.wide {W : World} {v : Value} {n m N : Nat} (h : RowIs W v n N) (k : n ≤ m) : RowIs W v m N := by
  obtain ⟨q, d, h1, h2, h3⟩ := h
  exact ⟨q, d, by omega, h2, h3⟩
end Go.Proofs.YtpadpmkfhljiiaaGreat
/- The document's 'read'. -/
namespace Go.Proofs.YtpadpmkfhljiiaaGreat
open Go.RowKit
theorem ri_cut {W : World} {v : Value} {n N : Nat} (c : Nat) (hc : c ≤ 1048576) (h1 : RowIs W v n N) : Calls Tryz.prog 133 #[v, .int .i64 (c : Int)] W fun e w' => ∃ x, e = .returned x ∧ RowIs w' x c (N % 256 ^ c) ∧ Below W.heap.size W w' := by
  obtain ⟨k, d, a1, a2, a3⟩ := h1
  refine (cut_is W v k d a2 c hc).mono ?_
  rintro e w' ⟨x, rfl, x1, x3⟩
  refine ⟨x, rfl, ⟨_, _, by omega, x1, ?_⟩, x3⟩
  rw [← a3, ← cutD_sum a2.2.1]
  exact (dsum_more (fun i hi => x1.1 i (by omega)) k (by omega)).symm
theorem rdn_lt {B : Nat} (hB : B ≤ 16) {c : Nat → Nat} : ∀ n, (∀ i, i < n → digv (c i) < B) → rdn B c n < 16 ^ n
  | 0, _ => by simp [rdn]
  | n + 1, h => by
    have h1 := rdn_lt hB n (fun i hi => h i (by omega))
    have h2 := h n (by omega)
    have h3 : rdn B c n * B ≤ (16 ^ n - 1) * 16 := Nat.mul_le_mul (by omega) hB
    rw [rdn, Nat.pow_succ]
    have : 0 < 16 ^ n := Nat.pow_pos (by decide)
    omega
/-- what 'read' gives -/
def RrRes (B : Nat) (c : Nat → Nat) (n : Nat) (w : World) (e : Ending) (w' : World) : Prop := ∃ (x : Value) (ok : Bool), e = .returned (.tuple #[x, .bool ok]) ∧ Below w.heap.size w w' ∧ ((ok = true ∧ (∀ i, i < n → digv (c i) < B) ∧ RowIs w' x 42 (rdn B c n)) ∨ (ok = false ∧ ¬ ∀ i, i < n → digv (c i) < B))
set_option maxHeartbeats 4000000 in
set_option maxRecDepth 100000 in
theorem rread_is (s : ByteArray) (n : Nat) (hs : s.size = n) (B : Nat) (hB : 1 < B ∧ B ≤ 16) (h1 : 0 < n) (h2 : n ≤ 78) (w : World) :
    Calls Tryz.prog 117 #[.string s, .int .i64 (B : Int)] w (RrRes B (sg s) n w) := by
  have nz : ((n : Int) == 0) = false := by simp; omega
  have nz2 : ¬ (n : Int) = 0 := by omega
  have hsz : (s.size : Int) = (n : Int) := by omega
  have HS : Hid (s.size = n ∧ 1 < B ∧ B ≤ 16 ∧ 0 < n ∧ n ≤ 78) := ⟨hs, hB.1, hB.2, h1, h2⟩
  have S0 : Hid (∀ W, Calls Tryz.prog 108 #[.int .i64 0] W fun e w' => ∃ v, e = .returned v ∧ RowIs w' v 2 0 ∧ Below W.heap.size W w') := small_is 0 (by omega)
  have SB : Hid (∀ W, Calls Tryz.prog 108 #[.int .i64 (B : Int)] W fun e w' => ∃ v, e = .returned v ∧ RowIs w' v 2 B ∧ Below W.heap.size W w') := small_is B (by omega)
  clear hs
  go_enter Tryz.func117, Tryz.ntmps117
  go_upto_region 2 with (go_at_call 108; refine (S0.out _).mono ?_; rintro e v1 ⟨x0, rfl, hr, hb⟩; (have K0 : Hid (RowIs v1 x0 42 (rdn B (sg s) 0) ∧ Below w.heap.size w v1) := ⟨hr.wide (by omega), hb⟩); clear hr hb)
  go_wp2
  go_loopw [6, 7] (fun s6 s7 wr => ∃ k : Nat, s7 = .int .i64 (k : Int) ∧ k ≤ n ∧ (∀ i, i < k → digv (sg s i) < B) ∧ RowIs wr s6 42 (rdn B (sg s) k) ∧ Below w.heap.size w wr) (fun _ s7 _ => n - (intOf s7).toNat)
  case atStart => exact ⟨0, rfl, by omega, fun i hi => absurd hi (by omega), K0.out.1, K0.out.2⟩
  case round =>
    obtain ⟨k, rfl, hk, hd, hR, hB⟩ := hrel
    clear K0
    have HDg : Hid (∀ i, i < k → digv (sg s i) < B) := hd
    have HR : Hid (RowIs wr u6 42 (rdn B (sg s) k)) := hR
    have HBl : Hid (Below w.heap.size w wr) := hB
    clear hd hR hB
    by_cases hk5 : k < n
    · have kI : (k : Int) < (n : Int) := by omega
      obtain ⟨b, hb1, hb2⟩ := sg_at s k (by have := HS.out.1; omega)
      obtain ⟨c, ec⟩ : ∃ c, c = sg s k := ⟨_, rfl⟩
      have hix : ∀ W : World, Sem.run Tryz.prog (Instr.index 9 (.string s) (.int .i64 (k : Int))) W = .ok (.int .u8 (c : Int)) W := fun W => by
        have hlt : k < s.size := by have := HS.out.1; omega
        rw [run_index_string W 9 s .i64 (k : Int) Tryz.underlying9, dif_pos ⟨by omega, by omega⟩]
        have e : s[k]? = some s[k] := by simp [hlt]
        rw [e] at hb1
        have e2 := Option.some.inj hb1
        simp only [Int.toNat_natCast]
        rw [e2, hb2, ec]
      have WO := fun W => worth_is c (by rw [ec]; exact sg_lt s k) W
      obtain ⟨d, ed⟩ : ∃ d, d = digv c := ⟨_, rfl⟩
      rw [← ed] at WO
      have ED : Hid (d = digv (sg s k)) := by rw [← ec]; exact ed
      obtain ⟨dI, edI⟩ : ∃ dI : Int, dI = if d = 255 then -1 else (d : Int) := ⟨_, rfl⟩
      rw [← edI] at WO
      have HWO : Hid _ := WO
      clear hb1 hb2 ec ed WO
      by_cases hdB : d < B
      · have d255 : ¬ d = 255 := by have := HS.out; omega
        rw [if_neg d255] at edI
        subst edI
        have i0 : ¬ (d : Int) < 0 := by omega
        have i1 : ¬ (B : Int) ≤ (d : Int) := by omega
        have SD : Hid (∀ W, Calls Tryz.prog 108 #[.int .i64 (d : Int)] W fun e w' => ∃ v, e = .returned v ∧ RowIs w' v 2 d ∧ Below W.heap.size W w') := small_is d (by omega)
        go_upto_region 10 with (go_at_call 173; refine (HWO.out _).mono ?_; rintro e w' ⟨rfl, hw⟩; (have hw2 := hw.symm); clear hw; subst hw2)
        go_wp2_with fail
        refine (SB.out _).mono ?_
        rintro e y1 ⟨x1, rfl, hr1, hb⟩
        have J1 : Hid (RowIs y1 u6 42 (rdn B (sg s) k) ∧ RowIs y1 x1 2 B ∧ Below w.heap.size w y1) := ⟨HR.out.below hb, hr1, HBl.out.trans (hb.mono HBl.out.size)⟩
        clear hr1 hb HR HBl
        go_wp2_with fail
        refine (ri_times J1.out.1 J1.out.2.1 45 (by decide) (by decide)).mono ?_
        rintro e y2 ⟨x2, rfl, hr2, hb⟩
        have J2 : Hid (RowIs y2 x2 45 (rdn B (sg s) k * B) ∧ Below w.heap.size w y2) := ⟨hr2, J1.out.2.2.trans (hb.mono J1.out.2.2.size)⟩
        clear hr2 hb J1
        go_wp2_with fail
        refine (SD.out _).mono ?_
        rintro e y3 ⟨x3, rfl, hr3, hb⟩
        have J3 : Hid (RowIs y3 x2 45 (rdn B (sg s) k * B) ∧ RowIs y3 x3 2 d ∧ Below w.heap.size w y3) := ⟨J2.out.1.below hb, hr3, J2.out.2.trans (hb.mono J2.out.2.size)⟩
        clear hr3 hb J2
        go_wp2_with fail
        refine (ri_plus J3.out.1 J3.out.2.1 46 (by decide) (by decide)).mono ?_
        rintro e y4 ⟨x4, rfl, hr4, hb⟩
        have J4 : Hid (RowIs y4 x4 46 (rdn B (sg s) (k + 1)) ∧ Below w.heap.size w y4) := ⟨by rw [rdn, ← ED.out]; exact hr4, J3.out.2.2.trans (hb.mono J3.out.2.2.size)⟩
        clear hr4 hb J3
        have HDn : Hid (∀ i, i < k + 1 → digv (sg s i) < B) := fun i hi => by
          by_cases e : i = k
          · rw [e, ← ED.out]; exact hdB
          · exact HDg.out i (by omega)
        have CU : Hid (Calls Tryz.prog 133 #[x4, .int .i64 42] y4 fun e w' => ∃ x, e = .returned x ∧ RowIs w' x 42 (rdn B (sg s) (k + 1)) ∧ Below y4.heap.size y4 w') := by
          have h := ri_cut 42 (by omega) J4.out.1
          have h5 := rdn_lt (by have := HS.out; omega) (k + 1) HDn.out
          have h6 : 16 ^ (k + 1) ≤ 16 ^ 78 := Nat.pow_le_pow_right (by decide) (by have := HS.out; omega)
          have h7 : (16 : Nat) ^ 78 ≤ 256 ^ 42 := by decide
          rw [Nat.mod_eq_of_lt (Nat.lt_of_lt_of_le h5 (Nat.le_trans h6 h7))] at h
          exact h
        go_wp2_with fail
        refine Calls.mono CU.out ?_
        rintro e y5 ⟨x5, rfl, hr5, hb⟩
        have J5 : Hid (RowIs y5 x5 42 (rdn B (sg s) (k + 1)) ∧ Below w.heap.size w y5) := ⟨hr5, J4.out.2.trans (hb.mono J4.out.2.size)⟩
        clear hr5 hb J4 CU
        go_wp2
        go_roundw
        case rel => exact ⟨k + 1, by go_num, by omega, HDn.out, J5.out.1, J5.out.2⟩
        case measure => simp [intOf]; omega
      · have NR : Hid (¬ ∀ i, i < n → digv (sg s i) < B) := fun hR => by
          have := hR k hk5
          rw [← ED.out] at this
          omega
        have hb : decide (dI < 0) = true ∨ (decide (dI < 0) = false ∧ decide ((B : Int) ≤ dI) = true) := by
          rw [edI]
          by_cases h : d = 255
          · rw [if_pos h]; simp
          · rw [if_neg h]; simp; omega
        clear edI
        rcases hb with h3 | ⟨h3, h4⟩
        · go_wp2_with (go_at_call 173; refine (HWO.out _).mono ?_; rintro e w' ⟨rfl, hw⟩; (have hw2 := hw.symm); clear hw; subst hw2)
          go_ret2
          exact ⟨_, false, rfl, HBl.out, Or.inr ⟨rfl, NR.out⟩⟩
        · go_wp2_with (go_at_call 173; refine (HWO.out _).mono ?_; rintro e w' ⟨rfl, hw⟩; (have hw2 := hw.symm); clear hw; subst hw2)
          go_ret2
          exact ⟨_, false, rfl, HBl.out, Or.inr ⟨rfl, NR.out⟩⟩
    · obtain rfl : k = n := by omega
      go_wp2
      go_ret2
      exact ⟨_, true, rfl, HBl.out, Or.inl ⟨rfl, HDg.out, HR.out⟩⟩
end Go.Proofs.YtpadpmkfhljiiaaGreat
