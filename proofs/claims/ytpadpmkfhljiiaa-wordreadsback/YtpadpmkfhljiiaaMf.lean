/- word.Parse: what is read out of a text. -/
import Derived.Test.YtpadpmkfhljiiaaMc
namespace Go.Proofs.Ytpadpmkfhljiiaa
open Go.RowKit
/-- does it begin with 0x? -/
def preD (s : ByteArray) : Bool := decide (2 ≤ s.size ∧ sg s 0 = 48 ∧ sg s 1 = 120)
abbrev Pre (s : ByteArray) : Prop := preD s = true
theorem pre_iff {s : ByteArray} : Pre s ↔ (2 ≤ s.size ∧ sg s 0 = 48 ∧ sg s 1 = 120) := decide_eq_true_iff
theorem u8_lit (a : UInt8) (n : Nat) (hn : n < 256) : (a == UInt8.ofNat n) = decide (a.toNat = n) := by
  rw [Bool.eq_iff_iff]
  simp only [beq_iff_eq, decide_eq_true_eq]
  constructor
  · rintro rfl; simp; omega
  · intro h; apply UInt8.toNat_inj.1; rw [h]; simp; omega
theorem pre_of (s : ByteArray) (h : 2 ≤ s.size) : ((s.extract 0 2).toList == [48, 120]) = preD s := by
  rw [Go.Lib.extract_toList]
  obtain ⟨⟨l⟩⟩ := s
  rcases l with _ | ⟨a, _ | ⟨b, r⟩⟩
  · exact absurd h (by simp [ByteArray.size])
  · exact absurd h (by simp [ByteArray.size])
  · have e0 : (⟨⟨a :: b :: r⟩⟩ : ByteArray)[0]? = some a := rfl
    have e1 : (⟨⟨a :: b :: r⟩⟩ : ByteArray)[1]? = some b := rfl
    have h2 : (2 ≤ (⟨⟨a :: b :: r⟩⟩ : ByteArray).size) = True := eq_true h
    have h0 : (a == 48) = decide (a.toNat = 48) := u8_lit a 48 (by decide)
    have h1 : (b == 120) = decide (b.toNat = 120) := u8_lit b 120 (by decide)
    simp only [preD, sg, e0, e1, h2, true_and]
    simp [h0, h1]
set_option maxHeartbeats 1000000 in
theorem hasPrefix_is (s : ByteArray) (w : World) : Calls Try.prog 142 #[.string s, .string ⟨#[48, 120]⟩] w fun e w' => e = .returned (.bool (preD s)) ∧ w' = w := by
  go_enter Try.func142, Try.ntmps142
  go_wp2
  · rename_i h
    go_ret
    refine ⟨?_, rfl⟩
    rw [pre_of s (by omega)]; rfl
  · rename_i h
    go_ret
    refine ⟨?_, rfl⟩
    rw [show preD s = false from decide_eq_false (fun k => by have := k.1; omega)]; rfl
/-- the digits of a text -/
def pt (s : ByteArray) : ByteArray := if Pre s then s.extract 2 s.size else s
def pb (s : ByteArray) : Nat := if Pre s then 16 else 10
def pm (s : ByteArray) : Nat := if Pre s then 64 else 78
set_option maxHeartbeats 1000000 in
theorem cutPrefix0_is (s : ByteArray) (w : World) : Calls Try.prog 105 #[.string s, .string ⟨#[48, 120]⟩] w fun e w' => e = .returned (.tuple #[.string (pt s), .bool (preD s)]) ∧ w' = w := by
  have HP : Hid (∀ W, Calls Try.prog 142 #[.string s, .string ⟨#[48, 120]⟩] W fun e w' => e = .returned (.bool (preD s)) ∧ w' = W) := fun W => hasPrefix_is s W
  by_cases h : Pre s
  · have e1 : pt s = s.extract 2 s.size := if_pos h
    rw [show preD s = true from h] at HP ⊢
    rw [e1]
    have h2 : (2 : Int) ≤ (s.size : Int) := by have := (pre_iff.1 h).1; omega
    go_enter Try.func105, Try.ntmps105
    go_wp2_with (go_at_call 142; refine (HP.out _).mono ?_; rintro e w' ⟨rfl, hw⟩; rw [hw])
    go_ret2
    exact ⟨rfl, rfl⟩
  · have e1 : pt s = s := if_neg h
    rw [show preD s = false from by simpa using h] at HP ⊢
    rw [e1]
    go_enter Try.func105, Try.ntmps105
    go_wp2_with (go_at_call 142; refine (HP.out _).mono ?_; rintro e w' ⟨rfl, hw⟩; rw [hw])
    go_ret2
    exact ⟨rfl, rfl⟩
theorem cutPrefix_is (s : ByteArray) (w : World) : Calls Try.prog 91 #[.string s, .string ⟨#[48, 120]⟩] w fun e w' => e = .returned (.tuple #[.string (pt s), .bool (preD s)]) ∧ w' = w := by
  go_enter Try.func91, Try.ntmps91
  go_wp2_with (go_at_call 105; refine (cutPrefix0_is s _).mono ?_; rintro e w' ⟨rfl, hw⟩; rw [hw])
  go_ret2
  exact ⟨rfl, rfl⟩
set_option maxHeartbeats 1000000 in
theorem read_none (s : ByteArray) (n : Nat) (hs : s.size = n) (B most : Nat) (h : n = 0 ∨ (0 < n ∧ most < n)) (w : World) :
    Calls Try.prog 92 #[.string s, .int .u64 (B : Int), .int .i64 (most : Int)] w fun e w' => e = .returned (.tuple #[.agg #[.int .u64 0, .int .u64 0, .int .u64 0, .int .u64 0], .int .i64 10]) ∧ Below w.heap.size w w' := by
  have hsz : (s.size : Int) = (n : Int) := by omega
  have hsz2 : s.size = n := hs
  clear hs
  rcases h with h | ⟨h0, h⟩
  · subst h
    go_enter Try.func92, Try.ntmps92
    go_wp2
    exact bodyPost_ret (v := .tuple #[.agg #[.int .u64 0, .int .u64 0, .int .u64 0, .int .u64 0], .int .i64 10]) (by simp [results, Try.results92, go_sem]) rfl ⟨rfl, by repeat' (first | with_reducible exact Below.refl _ _ | with_reducible exact Below.refl _ _ | with_reducible refine Below.drew ?_ | with_reducible refine bdrewN ?_ _ | with_reducible refine Below.alloc ?_ ?_ _ | with_reducible refine Below.setCell ?_ ?_ _ | omega | (simp; done) | (simp; omega))⟩
  · have i0 : ((n : Int) == 0) = false := by simp; omega
    have i1 : ¬ (n : Int) = 0 := by omega
    have i2 : (most : Int) < (n : Int) := by omega
    clear h0 h
    go_enter Try.func92, Try.ntmps92
    go_wp2
    exact bodyPost_ret (v := .tuple #[.agg #[.int .u64 0, .int .u64 0, .int .u64 0, .int .u64 0], .int .i64 10]) (by simp [results, Try.results92, go_sem]) rfl ⟨rfl, by repeat' (first | with_reducible exact Below.refl _ _ | with_reducible exact Below.refl _ _ | with_reducible refine Below.drew ?_ | with_reducible refine bdrewN ?_ _ | with_reducible refine Below.alloc ?_ ?_ _ | with_reducible refine Below.setCell ?_ ?_ _ | omega | (simp; done) | (simp; omega))⟩
/-- is a text a number? -/
def Good (s : ByteArray) : Prop := s.size ≤ 78 ∧ 0 < (pt s).size ∧ (pt s).size ≤ pm s ∧ Reads (pb s) (sg (pt s)) (pt s).size
/-- what Parse gives -/
def PRes (s : ByteArray) (p0 p1 p2 p3 er : Int) : Prop := (Good s ∧ er = 0 ∧ IsW (rdn (pb s) (sg (pt s)) (pt s).size : Int) p0 p1 p2 p3) ∨ (¬ Good s ∧ er = (if 78 < s.size then 2 else 10) ∧ p0 = 0 ∧ p1 = 0 ∧ p2 = 0 ∧ p3 = 0)
theorem read_any (s : ByteArray) (B : Nat) (hB : 1 < B ∧ B < 200) (most : Nat) (h3 : most ≤ 100) (w : World) :
    Calls Try.prog 92 #[.string s, .int .u64 (B : Int), .int .i64 (most : Int)] w fun e w' => ∃ p0 p1 p2 p3 er : Int, e = .returned (.tuple #[.agg #[.int .u64 p0, .int .u64 p1, .int .u64 p2, .int .u64 p3], .int .i64 er]) ∧ Below w.heap.size w w' ∧ (((0 < s.size ∧ s.size ≤ most ∧ Reads B (sg s) s.size) ∧ er = 0 ∧ IsW (rdn B (sg s) s.size : Int) p0 p1 p2 p3) ∨ (¬ (0 < s.size ∧ s.size ≤ most ∧ Reads B (sg s) s.size) ∧ er = 10 ∧ p0 = 0 ∧ p1 = 0 ∧ p2 = 0 ∧ p3 = 0)) := by
  by_cases h : 0 < s.size ∧ s.size ≤ most
  · refine (read_is s s.size rfl B hB most h.1 h.2 h3 w).mono ?_
    rintro e w' ⟨p0, p1, p2, p3, er, rfl, hb, hh⟩
    refine ⟨p0, p1, p2, p3, er, rfl, hb, ?_⟩
    rcases hh with ⟨h1, h2⟩ | ⟨h1, h2⟩
    · exact .inl ⟨⟨h.1, h.2, h1⟩, h2⟩
    · exact .inr ⟨fun k => h1 k.2.2, h2⟩
  · refine (read_none s s.size rfl B most (by omega) w).mono ?_
    rintro e w' ⟨rfl, hb⟩
    exact ⟨0, 0, 0, 0, 10, rfl, hb, .inr ⟨fun k => h ⟨k.1, k.2.1⟩, rfl, rfl, rfl, rfl, rfl⟩⟩
set_option maxHeartbeats 2000000 in
set_option maxRecDepth 100000 in
theorem parse_is (s : ByteArray) (w : World) : Calls Try.prog 61 #[.string s] w fun e w' => ∃ p0 p1 p2 p3 er : Int, e = .returned (.tuple #[.agg #[.int .u64 p0, .int .u64 p1, .int .u64 p2, .int .u64 p3], .int .i64 er]) ∧ Below w.heap.size w w' ∧ PRes s p0 p1 p2 p3 er := by
  have K0 : Hid (Bx w [(w.heap.size, 0, 0, 0, 0)] (w.alloc (.cells #[.int .u64 0, .int .u64 0, .int .u64 0, .int .u64 0] 24))) := (Bx.start w).alloc 0 0 0 0
  by_cases hl : 78 < s.size
  · have hI : (78 : Int) < (s.size : Int) := by omega
    have NG : Hid (¬ Good s ∧ (2 : Int) = (if 78 < s.size then 2 else 10)) := ⟨fun k => by have := k.1; omega, by rw [if_pos hl]⟩
    clear hl
    go_enter Try.func61, Try.ntmps61
    go_wp2
    exact bodyPost_ret (v := .tuple #[.agg #[.int .u64 0, .int .u64 0, .int .u64 0, .int .u64 0], .int .i64 2]) (by simp [results, Try.results61, go_sem]) rfl ⟨0, 0, 0, 0, 2, rfl, by repeat' (first | with_reducible exact Below.refl _ _ | with_reducible exact Below.refl _ _ | with_reducible refine Below.drew ?_ | with_reducible refine bdrewN ?_ _ | with_reducible refine Below.alloc ?_ ?_ _ | with_reducible refine Below.setCell ?_ ?_ _ | omega | (simp; done) | (simp; omega)), .inr ⟨NG.out.1, NG.out.2, rfl, rfl, rfl, rfl⟩⟩
  · have hI : ¬ (78 : Int) < (s.size : Int) := by omega
    have HL : Hid (s.size ≤ 78 ∧ (10 : Int) = (if 78 < s.size then 2 else 10)) := ⟨by omega, by rw [if_neg hl]⟩
    have CP : Hid (∀ W, Calls Try.prog 91 #[.string s, .string ⟨#[48, 120]⟩] W fun e w' => e = .returned (.tuple #[.string (pt s), .bool (preD s)]) ∧ w' = W) := fun W => cutPrefix_is s W
    have RD : Hid (∀ W, Calls Try.prog 92 #[.string (pt s), .int .u64 (pb s : Int), .int .i64 (pm s : Int)] W fun e w' => ∃ p0 p1 p2 p3 er : Int, e = .returned (.tuple #[.agg #[.int .u64 p0, .int .u64 p1, .int .u64 p2, .int .u64 p3], .int .i64 er]) ∧ Below W.heap.size W w' ∧ PRes s p0 p1 p2 p3 er) := fun W => by
      refine (read_any (pt s) (pb s) (by unfold pb; split <;> omega) (pm s) (by unfold pm; split <;> omega) W).mono ?_
      rintro e w' ⟨p0, p1, p2, p3, er, rfl, hb, hh⟩
      refine ⟨p0, p1, p2, p3, er, rfl, hb, ?_⟩
      rcases hh with ⟨h1, h2⟩ | ⟨h1, h2, h3⟩
      · exact .inl ⟨⟨HL.out.1, h1⟩, h2⟩
      · exact .inr ⟨fun k => h1 k.2, h2.trans HL.out.2, h3⟩
    clear hl
    by_cases hp : Pre s
    · rw [show preD s = true from hp] at CP
      have e1 : pb s = 16 := if_pos hp
      have e2 : pm s = 64 := if_pos hp
      rw [e1, e2] at RD
      have RE : Hid (∀ W, Calls Try.prog 92 #[.string (pt s), .int .u64 16, .int .i64 64] W fun e w' => ∃ p0 p1 p2 p3 er : Int, e = .returned (.tuple #[.agg #[.int .u64 p0, .int .u64 p1, .int .u64 p2, .int .u64 p3], .int .i64 er]) ∧ Below W.heap.size W w' ∧ PRes s p0 p1 p2 p3 er) := RD.out
      clear RD e1 e2 hp
      generalize pt s = t at CP RE
      go_enter Try.func61, Try.ntmps61
      go_upto_region 1 with fail
      generalize w.alloc (.cells #[.int .u64 0, .int .u64 0, .int .u64 0, .int .u64 0] 24) = W0 at K0 ⊢
      obtain ⟨c0, c1, c2, c3, z0, z1, z2, z3⟩ := K0.out.f0 (List.Mem.head _)
      go_wp2_with (first
        | (go_at_call 91; refine (CP.out _).mono ?_; rintro e w' ⟨rfl, hw⟩; rw [hw])
        | (go_at_call 92; refine (RE.out _).mono ?_; rintro e y1 ⟨p0, p1, p2, p3, er, rfl, hB, hP⟩; (have J1 : Hid (Bx w [(w.heap.size, 0, 0, 0, 0)] y1 ∧ PRes s p0 p1 p2 p3 er) := ⟨K0.out.past hB, hP⟩); clear hB hP c0 c1 c2 c3 z0 z1 z2 z3; obtain ⟨c0, c1, c2, c3, z0, z1, z2, z3⟩ := J1.out.1.f0 (List.Mem.head _)))
      exact bodyPost_ret (v := .tuple #[.agg #[.int .u64 p0, .int .u64 p1, .int .u64 p2, .int .u64 p3], .int .i64 er]) (by simp [results, Try.results61, go_sem, c0, c1, c2, c3]) rfl ⟨p0, p1, p2, p3, er, rfl, below_put J1.out.1.bel (Nat.le_refl _) _ _ _ _, J1.out.2⟩
    · rw [show preD s = false from by simpa using hp] at CP
      have e1 : pb s = 10 := if_neg hp
      have e2 : pm s = 78 := if_neg hp
      have e3 : pt s = s := if_neg hp
      rw [e1, e2, e3] at RD
      have RE : Hid (∀ W, Calls Try.prog 92 #[.string s, .int .u64 10, .int .i64 78] W fun e w' => ∃ p0 p1 p2 p3 er : Int, e = .returned (.tuple #[.agg #[.int .u64 p0, .int .u64 p1, .int .u64 p2, .int .u64 p3], .int .i64 er]) ∧ Below W.heap.size W w' ∧ PRes s p0 p1 p2 p3 er) := RD.out
      clear RD e1 e2 e3 hp
      generalize pt s = t at CP
      go_enter Try.func61, Try.ntmps61
      go_upto_region 1 with fail
      generalize w.alloc (.cells #[.int .u64 0, .int .u64 0, .int .u64 0, .int .u64 0] 24) = W0 at K0 ⊢
      obtain ⟨c0, c1, c2, c3, z0, z1, z2, z3⟩ := K0.out.f0 (List.Mem.head _)
      go_wp2_with (first
        | (go_at_call 91; refine (CP.out _).mono ?_; rintro e w' ⟨rfl, hw⟩; rw [hw])
        | (go_at_call 92; refine (RE.out _).mono ?_; rintro e y1 ⟨p0, p1, p2, p3, er, rfl, hB, hP⟩; (have J1 : Hid (Bx w [(w.heap.size, 0, 0, 0, 0)] y1 ∧ PRes s p0 p1 p2 p3 er) := ⟨K0.out.past hB, hP⟩); clear hB hP c0 c1 c2 c3 z0 z1 z2 z3; obtain ⟨c0, c1, c2, c3, z0, z1, z2, z3⟩ := J1.out.1.f0 (List.Mem.head _)))
      exact bodyPost_ret (v := .tuple #[.agg #[.int .u64 p0, .int .u64 p1, .int .u64 p2, .int .u64 p3], .int .i64 er]) (by simp [results, Try.results61, go_sem, c0, c1, c2, c3]) rfl ⟨p0, p1, p2, p3, er, rfl, below_put J1.out.1.bel (Nat.le_refl _) _ _ _ _, J1.out.2⟩
end Go.Proofs.Ytpadpmkfhljiiaa
