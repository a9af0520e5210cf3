/- What the document's long division reckons, bit by bit: no Go text. -/
import Derived.Test.YtpadpmkfhljiiaaGreatMf3
import Derived.Deep.RegionHeld3
import Derived.Deep.MidRow
import Derived.Deep.CutRange
import Derived.Deep.DeepCutAuto
import Derived.Deep.QuietTactic
import Derived.BigQuiet
import Derived.Test.YtpadpmkfhljiiaaGreatMf1
import Derived.Deep.CutBlock
import Derived.LoopTactic
import Derived.Laws.BitsAllLaws
import Derived.Test.YtpadpmkfhljiiaaGreatMf2
import Derived.WalkMore
namespace Go.Proofs.YtpadpmkfhljiiaaGreat
theorem half_step (A j : Nat) : A / 2 ^ j = 2 * (A / 2 ^ (j + 1)) + A / 2 ^ j % 2 := by
  rw [Nat.pow_succ, ← Nat.div_div_eq_div_mul]; omega
/-- j bits are still to be done -/
structure Rd (A B n j : Nat) (f : Nat → Nat) (R : Nat) : Prop where
  r : R = A / 2 ^ j % B
  q : dsum f n = A / 2 ^ j / B * 2 ^ j
  lt : ∀ k, f k < 256
  low : ∀ k, 8 * k + 8 ≤ j → f k = 0
  mid : j % 8 ≠ 0 → f (j / 8) + 2 ^ (j % 8) ≤ 256
theorem Rd.start {A B n : Nat} (h : A < 256 ^ n) : Rd A B n (8 * n) (fun _ => 0) 0 := by
  have e : A / 2 ^ (8 * n) = 0 := Nat.div_eq_of_lt (by rw [Nat.pow_mul]; exact h)
  refine ⟨by rw [e]; simp, by rw [e, dsum_zero n (fun _ _ => rfl)]; simp, fun _ => by simp, fun _ _ => rfl, fun h => absurd (by omega) h⟩
theorem Rd.fin {A B n : Nat} {f : Nat → Nat} {R : Nat} (h : Rd A B n 0 f R) : dsum f n = A / B ∧ R = A % B := by
  have h1 := h.r
  have h2 := h.q
  simp only [Nat.pow_zero, Nat.div_one, Nat.mul_one] at h1 h2
  exact ⟨h2, h1⟩
theorem div_two {t B R b : Nat} (hB : 0 < B) (hR : R = t % B) (_hb : b ≤ 1) : (B ≤ 2 * R + b → (2 * t + b) / B = 2 * (t / B) + 1 ∧ (2 * t + b) % B = 2 * R + b - B) ∧ (2 * R + b < B → (2 * t + b) / B = 2 * (t / B) ∧ (2 * t + b) % B = 2 * R + b) := by
  have h1 := Nat.div_add_mod t B
  have h2 : R < B := by rw [hR]; exact Nat.mod_lt _ hB
  rw [← hR] at h1
  generalize t / B = q at h1 ⊢
  have h3 : 2 * t + b = B * (2 * q) + (2 * R + b) := by rw [← h1, Nat.mul_add, Nat.mul_left_comm]; omega
  refine ⟨fun hge => ?_, fun hlt => ?_⟩
  · have h4 : 2 * t + b = B * (2 * q + 1) + (2 * R + b - B) := by rw [h3, Nat.mul_add, Nat.mul_one]; omega
    refine ⟨?_, ?_⟩
    · rw [h4, Nat.mul_add_div hB, Nat.div_eq_of_lt (by omega), Nat.add_zero]
    · rw [h4, Nat.mul_add_mod, Nat.mod_eq_of_lt (by omega)]
  · refine ⟨?_, ?_⟩
    · rw [h3, Nat.mul_add_div hB, Nat.div_eq_of_lt hlt, Nat.add_zero]
    · rw [h3, Nat.mul_add_mod, Nat.mod_eq_of_lt hlt]
theorem pow_place (j : Nat) : 2 ^ (j % 8) * 256 ^ (j / 8) = 2 ^ j := by
  rw [show (256 : Nat) = 2 ^ 8 from rfl, ← Nat.pow_mul, ← Nat.pow_add]; congr 1; omega
theorem Rd.room {A B n j : Nat} {f : Nat → Nat} {R : Nat} (h : Rd A B n (j + 1) f R) : f (j / 8) + 2 ^ (j % 8) + 2 ^ (j % 8) ≤ 256 := by
  by_cases e : (j + 1) % 8 = 0
  · have h7 : j % 8 = 7 := by omega
    have h0 := h.low (j / 8) (by omega)
    rw [h0, h7]; decide
  · have h1 := h.mid e
    have e1 : (j + 1) / 8 = j / 8 := by omega
    have e2 : (j + 1) % 8 = j % 8 + 1 := by omega
    rw [e1, e2, Nat.pow_succ] at h1
    omega
theorem Rd.yes {A B n j : Nat} {f : Nat → Nat} {R b : Nat} (h : Rd A B n (j + 1) f R) (hB : 0 < B) (hj : j < 8 * n) (hb : b = A / 2 ^ j % 2) (hge : B ≤ 2 * R + b) : Rd A B n j (setD f (j / 8) (f (j / 8) + 2 ^ (j % 8))) (2 * R + b - B) := by
  have hs := half_step A j
  have hr := h.r
  have hq := h.q
  have hm := h.room
  have hp := Nat.two_pow_pos (j % 8)
  rw [← hb] at hs
  generalize A / 2 ^ (j + 1) = t at hs hr hq
  obtain ⟨e1, e2⟩ := (div_two hB hr (by omega)).1 hge
  refine ⟨by rw [hs, e2], ?_, fun k => setD_lt h.lt _ _ k (by omega), fun k hk => ?_, fun _ => ?_⟩
  · have h1 := dsum_set f (j / 8) (f (j / 8) + 2 ^ (j % 8)) n (by omega)
    have h2 := pow_place j
    rw [Nat.add_mul, h2, hq, Nat.pow_succ, Nat.mul_comm (2 ^ j) 2, ← Nat.mul_assoc] at h1
    rw [hs, e1, Nat.add_mul, Nat.one_mul, Nat.mul_comm 2 (t / B)]
    omega
  · rw [setD, if_neg (by omega)]; exact h.low k (by omega)
  · rw [setD, if_pos rfl]; exact hm
theorem Rd.no {A B n j : Nat} {f : Nat → Nat} {R b : Nat} (h : Rd A B n (j + 1) f R) (hB : 0 < B) (hb : b = A / 2 ^ j % 2) (hlt : 2 * R + b < B) : Rd A B n j f (2 * R + b) := by
  have hs := half_step A j
  have hr := h.r
  have hq := h.q
  have hm := h.room
  rw [← hb] at hs
  generalize A / 2 ^ (j + 1) = t at hs hr hq
  obtain ⟨e1, e2⟩ := (div_two hB hr (by omega)).2 hlt
  refine ⟨by rw [hs, e2], ?_, h.lt, fun k hk => h.low k (by omega), fun _ => Nat.le_trans (Nat.le_add_right _ _) hm⟩
  rw [hq, hs, e1, Nat.pow_succ, Nat.mul_comm (2 ^ j) 2, ← Nat.mul_assoc, Nat.mul_comm 2 (t / B)]
end Go.Proofs.YtpadpmkfhljiiaaGreat
/- The document's comparisons. -/
namespace Go.Proofs.YtpadpmkfhljiiaaGreat
open Go.RowKit
theorem mod_nat {x : Int} {a0 a1 a2 a3 : Int} (h : IsW x a0 a1 a2 a3) : ∃ X : Nat, V a0 a1 a2 a3 = (X : Int) ∧ (X : Int) = x % MM ∧ X < 256 ^ 32 := by
  have r := h.range
  have e : (256 ^ 32 : Nat) = 115792089237316195423570985008687907853269984665640564039457584007913129639936 := by decide
  unfold MM at r
  exact ⟨(V a0 a1 a2 a3).toNat, by omega, by rw [← h.2]; omega, by rw [e]; omega⟩
end Go.Proofs.YtpadpmkfhljiiaaGreat
/- What the document's division asks of its rows: bits, cuts, comparisons. -/
namespace Go.Proofs.YtpadpmkfhljiiaaGreat
open Go.RowKit
theorem RowI.below {W W' : World} {B g N : Nat} {f : Nat → Nat} (h : RowI W g N f) (k : Below B W W') (hb : g < B) : RowI W' g N f := fun j hj =>
  ⟨(k.cell (p := ⟨g, j, none⟩) hb).trans (h j hj).1, (k.frozen (p := ⟨g, j, none⟩) hb).trans (h j hj).2⟩
theorem dsum_at {d : Nat → Nat} (hd : ∀ i, d i < 256) (n k : Nat) (hk : k < n) : ∃ rest, dsum d n / 256 ^ k = d k + 256 * rest := by
  obtain ⟨t, rfl⟩ : ∃ t, n = k + (t + 1) := ⟨n - k - 1, by omega⟩
  rw [dsum_split, dsum_front]
  have h1 := dsum_lt hd k
  rw [Nat.add_comm (dsum d k), Nat.mul_add_div (Nat.pow_pos (by decide)), Nat.div_eq_of_lt h1]
  exact ⟨_, rfl⟩
theorem RowAt.more {W : World} {v : Value} {n : Nat} {d : Nat → Nat} (h : RowAt W v n d) (m : Nat) (hm : n ≤ m) : dsum d m = dsum d n := dsum_more (fun i hi => h.1 i hi) m hm
/-- a row of no digits -/
theorem RowAt.nil (W : World) : RowAt W (.slice none 0 0) 0 (fun _ => 0) := ⟨fun _ _ => rfl, fun _ => by simp, by omega, none, 0, rfl, fun h => absurd rfl h⟩
/-- the rows while it is divided -/
structure Rw (w : World) (v u : Value) (n m : Nat) (d e : Nat → Nat) (gq : Nat) (f : Nat → Nat) (x : Value) (L : Nat) (g : Nat → Nat) (W : World) : Prop where
  bel : Below w.heap.size w W
  av : RowAt W v n d
  bv : RowAt W u m e
  rv : RowAt W x L g
  qv : RowI W gq n f
  ql : gq < W.heap.size
theorem Rw.past {w W W' : World} {v u x y : Value} {n m gq L L' : Nat} {d e f g g' : Nat → Nat} (h : Rw w v u n m d e gq f x L g W) (k : Below W.heap.size W W') (hy : RowAt W' y L' g') : Rw w v u n m d e gq f y L' g' W' :=
  ⟨h.bel.trans (k.mono h.bel.size), h.av.below k, h.bv.below k, hy, h.qv.below k h.ql, Nat.lt_of_lt_of_le h.ql k.size⟩
theorem RowAt.apart {W : World} {x : Value} {L : Nat} {g : Nat → Nat} (h : RowAt W x L g) (B gq o : Nat) (y : Value) (ha : Above x B) (hq : gq < B) : RowAt (W.setCell ⟨gq, o, none⟩ y) x L g := by
  obtain ⟨h1, h2, h3, ad, cap, rfl, hc⟩ := h
  refine ⟨h1, h2, h3, ad, cap, rfl, fun hn => ?_⟩
  obtain ⟨b, p, rfl, hcl⟩ := hc hn
  have hb := ha b p _ _ rfl
  refine ⟨b, p, rfl, fun i hi => ?_⟩
  rw [World.cell?_setCell_other _ _ _ _ (by intro e'; injection e' with e1 _ _; omega)]
  exact hcl i hi
theorem Rw.put {w W : World} {v u x : Value} {n m gq L : Nat} {d e f g : Nat → Nat} (h : Rw w v u n m d e gq f x L g W) (hv : RowAt w v n d) (hu : RowAt w u m e) (o s B : Nat) (hg : w.heap.size = gq) (ha : Above x B) (hq : gq < B) : Rw w v u n m d e gq (setD f o s) x L g (W.setCell ⟨gq, o, none⟩ (.int .i64 (s : Int))) := by
  have hb : Below w.heap.size w (W.setCell ⟨gq, o, none⟩ (.int .i64 (s : Int))) := h.bel.setCell (by simp; omega) _
  exact ⟨hb, hv.below hb, hu.below hb, h.rv.apart B gq o _ ha hq, h.qv.set o s, by simpa using h.ql⟩
end Go.Proofs.YtpadpmkfhljiiaaGreat
/- Arrays of 256 numbers in a block: new ones, loads, stores. -/
namespace Go.Proofs.YtpadpmkfhljiiaaGreat
open Go.RowKit
theorem intsD_len (f : Nat → Nat) (n : Nat) : (intsD f n).length = n := by simp [intsD]
theorem intsD_get (f : Nat → Nat) (n i : Nat) (h : i < n) : (intsD f n)[i]? = some (.int .i64 (f i : Int)) := by simp [intsD, h]
theorem RowI.past {w w' : World} {b n : Nat} {v : Nat → Nat} (h : RowI w b n v) (k : Below w.heap.size w w') : RowI w' b n v := fun i hi =>
  have hb := World.block_lt_of_cell? w _ (h i hi).1
  ⟨(k.cell (p := ⟨b, i, none⟩) hb).trans (h i hi).1, (k.frozen (p := ⟨b, i, none⟩) hb).trans (h i hi).2⟩
theorem RowI.set_other {w : World} {b n : Nat} {v : Nat → Nat} (h : RowI w b n v) (p : Addr) (x : Value) (hp : p.block ≠ b) : RowI (w.setCell p x) b n v := fun i hi =>
  ⟨by rw [World.cell?_setCell_other _ _ _ _ (by intro e; subst e; exact hp rfl)]; exact (h i hi).1, by rw [World.frozen?_setCell]; exact (h i hi).2⟩
theorem RowI.set_others {b n c : Nat} {v : Nat → Nat} (hc : c ≠ b) : ∀ (vs : List Value) (o : Nat) {w : World}, RowI w b n v → RowI (w.setCells c o vs) b n v
  | [], _, _, h => h
  | x :: r, o, w, h => by rw [World.setCells]; exact RowI.set_others hc r (o + 1) (h.set_other _ _ hc)
theorem RowI.ext {w : World} {b n : Nat} {u v : Nat → Nat} (h : RowI w b n u) (e : ∀ i, i < n → u i = v i) : RowI w b n v := fun i hi => by rw [← e i hi]; exact h i hi
theorem RowI.new (w : World) (t : TypeId) (n : Nat) (v : Nat → Nat) : RowI (w.alloc (.cells (intsD v n).toArray t)) w.heap.size n v := fun i hi => by
  rw [World.cell?_alloc_at _ _ _ _ rfl]
  exact ⟨by simp [intsD, hi], by simp [World.frozen?_alloc_at]⟩
theorem RowI.range {w : World} {b n : Nat} {v : Nat → Nat} (h : RowI w b n v) : w.rangeAt b 0 (intsD v n) := fun j x hx => by
  have hj : j < n := by have := (List.getElem?_eq_some_iff.1 hx).1; rwa [intsD_len] at this
  rw [intsD_get v n j hj] at hx; rw [Nat.zero_add, ← hx]; exact (h j hj).1
theorem RowI.there {w : World} {b n : Nat} {v : Nat → Nat} (h : RowI w b n v) : w.there b 0 n := fun j hj => by
  rw [Nat.zero_add, (h j hj).1]; exact ⟨rfl, (h j hj).2⟩
theorem RowI.of_range {w : World} {b n : Nat} {u v : Nat → Nat} (h : RowI w b n u) : RowI (w.setCells b 0 (intsD v n)) b n v := fun i hi => by
  have := World.rangeAt_setCells_same w b 0 (intsD v n) (by rw [intsD_len]; exact h.there) i _ (intsD_get v n i hi)
  rw [Nat.zero_add] at this
  exact ⟨this, by rw [World.frozen?_setCells]; exact (h i hi).2⟩
theorem sz_setCells (b : Nat) : ∀ (vs : List Value) (o : Nat) (w : World), (w.setCells b o vs).heap.size = w.heap.size
  | [], _, _ => rfl
  | x :: r, o, w => by rw [World.setCells, sz_setCells b r (o + 1), World.size_setCell]
/-- a new block of 256 numbers -/
structure New256 (w W : World) (f : Nat → Nat) : Prop where
  row : RowI W w.heap.size 256 f
  bel : Below w.heap.size w W
  siz : W.heap.size = w.heap.size + 1
theorem New256.of (w : World) (f : Nat → Nat) : New256 w (w.alloc (.cells (intsD f 256).toArray 85)) f := ⟨RowI.new _ _ _ _, (Below.refl _ _).alloc (Nat.le_refl _) _, by simp⟩
end Go.Proofs.YtpadpmkfhljiiaaGreat
/- The document's 'bits' of a word. -/
namespace Go.Proofs.YtpadpmkfhljiiaaGreat
open Go.RowKit
end Go.Proofs.YtpadpmkfhljiiaaGreat
/- The document's division of rows. -/
namespace Go.Proofs.YtpadpmkfhljiiaaGreat
open Go.RowKit
end Go.Proofs.YtpadpmkfhljiiaaGreat
/- The document's Exp. -/
namespace Go.Proofs.YtpadpmkfhljiiaaGreat
open Go.RowKit
theorem MM_nat : ((256 ^ 32 : Nat) : Int) = MM := by decide
structure RExp (w : World) (a1 a2 : Value) (X Y : Nat) (W : World) : Prop where
  bel : Below w.heap.size w W
  br : Box W (w.heap.size + 1 + 1) 0 0 0 0
  re : RowAt W a1 32 (dig Y)
  ry : RowAt W a2 32 (dig X)
theorem RExp.past {w W W' : World} {a1 a2 : Value} {X Y : Nat} (h : RExp w a1 a2 X Y W) (k : Below W.heap.size W W') : RExp w a1 a2 X Y W' :=
  ⟨h.bel.trans (k.mono h.bel.size), h.br.below k h.br.lt, h.re.below k, h.ry.below k⟩
end Go.Proofs.YtpadpmkfhljiiaaGreat
/- A law's own boxes: words in blocks of the law's own, all old memory as it was. -/
namespace Go.Proofs.YtpadpmkfhljiiaaGreat
open Go.RowKit
structure Bx (w : World) (l : List (Nat × Int × Int × Int × Int)) (W : World) : Prop where
  bel : Below w.heap.size w W
  low : ∀ p ∈ l, w.heap.size ≤ p.1
  box : ∀ p ∈ l, Box W p.1 p.2.1 p.2.2.1 p.2.2.2.1 p.2.2.2.2
theorem Bx.past {w W W' : World} {l : List (Nat × Int × Int × Int × Int)} (h : Bx w l W) (k : Below W.heap.size W W') : Bx w l W' :=
  ⟨h.bel.trans (k.mono h.bel.size), h.low, fun p hp => (h.box p hp).below k (h.box p hp).lt⟩
theorem Bx.drew {w W : World} {l : List (Nat × Int × Int × Int × Int)} (h : Bx w l W) : Bx w l W.drew := ⟨h.bel.drew, h.low, fun p hp => (h.box p hp).drew⟩
theorem Bx.start (w : World) : Bx w [] w := ⟨Below.refl _ _, (fun _ h => by cases h), (fun _ h => by cases h)⟩
theorem Bx.alloc {w W : World} {l : List (Nat × Int × Int × Int × Int)} (h : Bx w l W) (a0 a1 a2 a3 : Int) : Bx w ((W.heap.size, a0, a1, a2, a3) :: l) (W.alloc (.cells #[.int .u64 a0, .int .u64 a1, .int .u64 a2, .int .u64 a3] 24)) := by
  refine ⟨h.bel.alloc h.bel.size _, fun p hp => ?_, fun p hp => ?_⟩
  · rcases List.mem_cons.1 hp with rfl | hp
    · exact h.bel.size
    · exact h.low p hp
  · rcases List.mem_cons.1 hp with rfl | hp
    · exact Box.new W 24 a0 a1 a2 a3
    · exact (h.box p hp).alloc _
theorem Bx.sub {w W : World} {l m : List (Nat × Int × Int × Int × Int)} (h : Bx w l W) (k : ∀ p ∈ m, p ∈ l) : Bx w m W := ⟨h.bel, fun p hp => h.low p (k p hp), fun p hp => h.box p (k p hp)⟩
theorem Bx.put {w W : World} {l : List (Nat × Int × Int × Int × Int)} {b : Nat} {s0 s1 s2 s3 : Int} (h : Bx w ((b, s0, s1, s2, s3) :: l) W) (hn : ∀ p ∈ l, p.1 ≠ b) (a0 a1 a2 a3 : Int) : Bx w ((b, a0, a1, a2, a3) :: l) (put4 W b a0 a1 a2 a3) := by
  have hb : w.heap.size ≤ b := h.low _ mm0
  refine ⟨below_put h.bel hb _ _ _ _, fun p hp => ?_, fun p hp => ?_⟩
  · rcases List.mem_cons.1 hp with rfl | hp
    · exact hb
    · exact h.low p (List.Mem.tail _ hp)
  · rcases List.mem_cons.1 hp with rfl | hp
    · exact (h.box _ mm0).put a0 a1 a2 a3
    · exact (h.box p (List.Mem.tail _ hp)).put_other (fun e => hn p hp e.symm) _ _ _ _
theorem Bx.lt {w W : World} {l : List (Nat × Int × Int × Int × Int)} (h : Bx w l W) (p : Nat × Int × Int × Int × Int) (hp : p ∈ l) : p.1 < W.heap.size := (h.box p hp).lt
theorem Bx.f0 {w W : World} {b : Nat} {a0 a1 a2 a3 : Int} {l : List (Nat × Int × Int × Int × Int)} (h : Bx w l W) (hp : (b, a0, a1, a2, a3) ∈ l) : W.cell? ⟨b, 0, none⟩ = some (.int .u64 a0) ∧ W.cell? ⟨b, 1, none⟩ = some (.int .u64 a1) ∧ W.cell? ⟨b, 2, none⟩ = some (.int .u64 a2) ∧ W.cell? ⟨b, 3, none⟩ = some (.int .u64 a3) ∧
    W.frozen? ⟨b, 0, none⟩ = false ∧ W.frozen? ⟨b, 1, none⟩ = false ∧ W.frozen? ⟨b, 2, none⟩ = false ∧ W.frozen? ⟨b, 3, none⟩ = false := Box.facts (h.box _ hp)
theorem op16 {q0 q1 q2 q3 q4 q5 q6 q7 q8 q9 q10 q11 q12 q13 q14 q15 x : Oper} {r : List Oper} : (q0 :: q1 :: q2 :: q3 :: q4 :: q5 :: q6 :: q7 :: q8 :: q9 :: q10 :: q11 :: q12 :: q13 :: q14 :: q15 :: x :: r).toArray[16]? = some x := rfl
theorem op17 {q0 q1 q2 q3 q4 q5 q6 q7 q8 q9 q10 q11 q12 q13 q14 q15 q16 x : Oper} {r : List Oper} : (q0 :: q1 :: q2 :: q3 :: q4 :: q5 :: q6 :: q7 :: q8 :: q9 :: q10 :: q11 :: q12 :: q13 :: q14 :: q15 :: q16 :: x :: r).toArray[17]? = some x := rfl
theorem op18 {q0 q1 q2 q3 q4 q5 q6 q7 q8 q9 q10 q11 q12 q13 q14 q15 q16 q17 x : Oper} {r : List Oper} : (q0 :: q1 :: q2 :: q3 :: q4 :: q5 :: q6 :: q7 :: q8 :: q9 :: q10 :: q11 :: q12 :: q13 :: q14 :: q15 :: q16 :: q17 :: x :: r).toArray[18]? = some x := rfl
theorem op19 {q0 q1 q2 q3 q4 q5 q6 q7 q8 q9 q10 q11 q12 q13 q14 q15 q16 q17 q18 x : Oper} {r : List Oper} : (q0 :: q1 :: q2 :: q3 :: q4 :: q5 :: q6 :: q7 :: q8 :: q9 :: q10 :: q11 :: q12 :: q13 :: q14 :: q15 :: q16 :: q17 :: q18 :: x :: r).toArray[19]? = some x := rfl
theorem op20 {q0 q1 q2 q3 q4 q5 q6 q7 q8 q9 q10 q11 q12 q13 q14 q15 q16 q17 q18 q19 x : Oper} {r : List Oper} : (q0 :: q1 :: q2 :: q3 :: q4 :: q5 :: q6 :: q7 :: q8 :: q9 :: q10 :: q11 :: q12 :: q13 :: q14 :: q15 :: q16 :: q17 :: q18 :: q19 :: x :: r).toArray[20]? = some x := rfl
theorem op21 {q0 q1 q2 q3 q4 q5 q6 q7 q8 q9 q10 q11 q12 q13 q14 q15 q16 q17 q18 q19 q20 x : Oper} {r : List Oper} : (q0 :: q1 :: q2 :: q3 :: q4 :: q5 :: q6 :: q7 :: q8 :: q9 :: q10 :: q11 :: q12 :: q13 :: q14 :: q15 :: q16 :: q17 :: q18 :: q19 :: q20 :: x :: r).toArray[21]? = some x := rfl
theorem op22 {q0 q1 q2 q3 q4 q5 q6 q7 q8 q9 q10 q11 q12 q13 q14 q15 q16 q17 q18 q19 q20 q21 x : Oper} {r : List Oper} : (q0 :: q1 :: q2 :: q3 :: q4 :: q5 :: q6 :: q7 :: q8 :: q9 :: q10 :: q11 :: q12 :: q13 :: q14 :: q15 :: q16 :: q17 :: q18 :: q19 :: q20 :: q21 :: x :: r).toArray[22]? = some x := rfl
theorem op23 {q0 q1 q2 q3 q4 q5 q6 q7 q8 q9 q10 q11 q12 q13 q14 q15 q16 q17 q18 q19 q20 q21 q22 x : Oper} {r : List Oper} : (q0 :: q1 :: q2 :: q3 :: q4 :: q5 :: q6 :: q7 :: q8 :: q9 :: q10 :: q11 :: q12 :: q13 :: q14 :: q15 :: q16 :: q17 :: q18 :: q19 :: q20 :: q21 :: q22 :: x :: r).toArray[23]? = some x := rfl
theorem op24 {q0 q1 q2 q3 q4 q5 q6 q7 q8 q9 q10 q11 q12 q13 q14 q15 q16 q17 q18 q19 q20 q21 q22 q23 x : Oper} {r : List Oper} : (q0 :: q1 :: q2 :: q3 :: q4 :: q5 :: q6 :: q7 :: q8 :: q9 :: q10 :: q11 :: q12 :: q13 :: q14 :: q15 :: q16 :: q17 :: q18 :: q19 :: q20 :: q21 :: q22 :: q23 :: x :: r).toArray[24]? = some x := rfl
theorem op25 {q0 q1 q2 q3 q4 q5 q6 q7 q8 q9 q10 q11 q12 q13 q14 q15 q16 q17 q18 q19 q20 q21 q22 q23 q24 x : Oper} {r : List Oper} : (q0 :: q1 :: q2 :: q3 :: q4 :: q5 :: q6 :: q7 :: q8 :: q9 :: q10 :: q11 :: q12 :: q13 :: q14 :: q15 :: q16 :: q17 :: q18 :: q19 :: q20 :: q21 :: q22 :: q23 :: q24 :: x :: r).toArray[25]? = some x := rfl
theorem op26 {q0 q1 q2 q3 q4 q5 q6 q7 q8 q9 q10 q11 q12 q13 q14 q15 q16 q17 q18 q19 q20 q21 q22 q23 q24 q25 x : Oper} {r : List Oper} : (q0 :: q1 :: q2 :: q3 :: q4 :: q5 :: q6 :: q7 :: q8 :: q9 :: q10 :: q11 :: q12 :: q13 :: q14 :: q15 :: q16 :: q17 :: q18 :: q19 :: q20 :: q21 :: q22 :: q23 :: q24 :: q25 :: x :: r).toArray[26]? = some x := rfl
theorem op27 {q0 q1 q2 q3 q4 q5 q6 q7 q8 q9 q10 q11 q12 q13 q14 q15 q16 q17 q18 q19 q20 q21 q22 q23 q24 q25 q26 x : Oper} {r : List Oper} : (q0 :: q1 :: q2 :: q3 :: q4 :: q5 :: q6 :: q7 :: q8 :: q9 :: q10 :: q11 :: q12 :: q13 :: q14 :: q15 :: q16 :: q17 :: q18 :: q19 :: q20 :: q21 :: q22 :: q23 :: q24 :: q25 :: q26 :: x :: r).toArray[27]? = some x := rfl
end Go.Proofs.YtpadpmkfhljiiaaGreat
/- Knuth's digit: a guess that is brought down. -/
namespace Go.Proofs.YtpadpmkfhljiiaaGreat
open Go.RowKit
def B32 : Nat := 4294967296
/-- the guess is no less than the digit, and what is left of the highest part goes with it -/
structure Kn (y1 y0 u2 u1 q r : Nat) : Prop where
  eq : u2 = q * y1 + r
  ge : (u2 * B32 + u1) / (y1 * B32 + y0) ≤ q
  le : q ≤ B32 + 1
structure Ky (y1 y0 u2 u1 : Nat) : Prop where
  y1a : 2147483648 ≤ y1
  y1b : y1 < B32
  y0b : y0 < B32
  u1b : u1 < B32
  u2b : u2 < y1 * B32 + y0
theorem Ky.lt {y1 y0 u2 u1 : Nat} (h : Ky y1 y0 u2 u1) : (u2 * B32 + u1) / (y1 * B32 + y0) < B32 := by
  refine (Nat.div_lt_iff_lt_mul (by have := h.y1a; unfold B32; omega)).2 ?_
  have h1 := h.u1b
  have h2 := h.u2b
  generalize y1 * B32 + y0 = y at h2 ⊢
  rw [Nat.mul_comm B32 y]
  have h3 : (u2 + 1) * B32 ≤ y * B32 := Nat.mul_le_mul_right _ h2
  rw [Nat.add_mul, Nat.one_mul] at h3
  omega
theorem Kn.first {y1 y0 u2 u1 : Nat} (h : Ky y1 y0 u2 u1) : Kn y1 y0 u2 u1 (u2 / y1) (u2 % y1) := by
  have ha := h.y1a
  have hb := h.y1b
  have hc := h.y0b
  have hd := h.u2b
  have he := h.u1b
  refine ⟨by rw [Nat.mul_comm]; exact (Nat.div_add_mod u2 y1).symm, ?_, ?_⟩
  · refine Nat.le_of_lt_succ ((Nat.div_lt_iff_lt_mul (by unfold B32; omega)).2 ?_)
    have h1 : u2 < (u2 / y1 + 1) * y1 := by rw [Nat.mul_comm]; exact Nat.lt_mul_div_succ u2 (by omega)
    show u2 * B32 + u1 < (u2 / y1 + 1) * (y1 * B32 + y0)
    generalize u2 / y1 + 1 = k at h1 ⊢
    have h2 : (u2 + 1) * B32 ≤ k * y1 * B32 := Nat.mul_le_mul_right _ h1
    rw [Nat.mul_add, ← Nat.mul_assoc]
    rw [Nat.add_mul, Nat.one_mul] at h2
    omega
  · refine Nat.le_of_lt_succ ((Nat.div_lt_iff_lt_mul (by omega)).2 ?_)
    unfold B32 at *
    show u2 < (4294967296 + 1 + 1) * y1
    omega
end Go.Proofs.YtpadpmkfhljiiaaGreat
/- What bits.Div64 reckons ahead of its loops. -/
namespace Go.Proofs.YtpadpmkfhljiiaaGreat
open Go.RowKit
end Go.Proofs.YtpadpmkfhljiiaaGreat
/- What bits.Div64 reckons around its loops, as rules for the walk. -/
namespace Go.Proofs.YtpadpmkfhljiiaaGreat
open Go.RowKit
end Go.Proofs.YtpadpmkfhljiiaaGreat
/- bits.Div64. -/
namespace Go.Proofs.YtpadpmkfhljiiaaGreat
open Go.RowKit
end Go.Proofs.YtpadpmkfhljiiaaGreat
/- guess: the digit that is tried first is no less than the true one. -/
namespace Go.Proofs.YtpadpmkfhljiiaaGreat
open Go.RowKit
end Go.Proofs.YtpadpmkfhljiiaaGreat
/- takeOff: a digit's multiple of the divisor is taken off. -/
namespace Go.Proofs.YtpadpmkfhljiiaaGreat
open Go.RowKit
/-- while parts are taken off: i of them are -/
structure Tk (w : World) (r0 : Nat → Int) (d0 d1 d2 d3 : Int) (a : Nat) (k : Int) (i : Nat) (c b : Int) (r : Nat → Int) (W : World) : Prop where
  bel : Below w.heap.size w W
  row : Row W w.heap.size 9 r
  box : Box W (w.heap.size + 1) d0 d1 d2 d3
  zer : Row W (w.heap.size + 1 + 1) 9 (fun _ => 0)
  u : ∀ j, U64 (r j)
  same : ∀ j, j < a ∨ a + i ≤ j → r j = r0 j
  eq : nv (sh r0 a) i + (b + c) * Bd ^ i = nv (sh r a) i + k * nv (limb d0 d1 d2 d3) i
  cu : U64 c
  b0 : 0 ≤ b
  b1 : b ≤ 1
theorem Tk.step {w : World} {r0 : Nat → Int} {d0 d1 d2 d3 : Int} {a : Nat} {k : Int} {i : Nat} {c b : Int} {r : Nat → Int} {W : World} (h : Tk w r0 d0 d1 d2 d3 a k i c b r W) {c' p s b' : Int} (e1 : limb d0 d1 d2 d3 i * k + c = c' * Bd + p) (e2 : r0 (a + i) - p - b = s - Bd * b')
    (hc : U64 c') (hs : U64 s) (hb0 : 0 ≤ b') (hb1 : b' ≤ 1) : Tk w r0 d0 d1 d2 d3 a k (i + 1) c' b' (fun j => if j = a + i then s else r j) (W.setCell ⟨w.heap.size, a + i, none⟩ (.int .u64 s)) := by
  refine ⟨h.bel.setCell (Nat.le_refl _) _, h.row.set _ _, h.box.other _ _ (by simp), h.zer.set_other _ _ (by simp; omega), fun j => ?_, fun j hj => ?_, off_step h.eq e1 e2, hc, hb0, hb1⟩
  · split
    · exact hs
    · exact h.u j
  · rw [if_neg (by omega)]; exact h.same j (by omega)
theorem Tk.fin {w : World} {r0 : Nat → Int} {d0 d1 d2 d3 : Int} {a n : Nat} {k : Int} {c b : Int} {r : Nat → Int} {W : World} (h : Tk w r0 d0 d1 d2 d3 a k n c b r W) {s b' : Int} (e2 : r0 (a + n) - c - b = s - Bd * b')
    (hs : U64 s) (hb0 : 0 ≤ b') (hb1 : b' ≤ 1) : Off r0 (limb d0 d1 d2 d3) n a k (fun j => if j = a + n then s else r j) (b' == 0) := by
  refine Off.of (fun j => ?_) (fun j hj => ?_) (off_end h.eq e2) hb0 hb1
  · split
    · exact hs
    · exact h.u j
  · rw [if_neg (by omega)]; exact h.same j (by omega)
theorem Tk.drew {w : World} {r0 : Nat → Int} {d0 d1 d2 d3 : Int} {a n : Nat} {k : Int} {c b : Int} {r : Nat → Int} {W : World} (h : Tk w r0 d0 d1 d2 d3 a k n c b r W) : Tk w r0 d0 d1 d2 d3 a k n c b r W.drew :=
  ⟨h.bel.drew, h.row.drew, h.box.drew, h.zer.drew, h.u, h.same, h.eq, h.cu, h.b0, h.b1⟩
theorem Tk.new (w : World) (r0 : Nat → Int) (d0 d1 d2 d3 : Int) (a : Nat) (k : Int) (hu : ∀ i, U64 (r0 i)) : Tk w r0 d0 d1 d2 d3 a k 0 0 0 r0 (((w.alloc (.cells (rowL 9 r0).toArray 110)).alloc (.cells #[.int .u64 d0, .int .u64 d1, .int .u64 d2, .int .u64 d3] 24)).alloc (.cells (rowL 9 fun _ => 0).toArray 110)) := by
  have h1 := Row.new w 110 9 r0
  have h2 := Box.new (w.alloc (.cells (rowL 9 r0).toArray 110)) 24 d0 d1 d2 d3
  have h3 := Row.new ((w.alloc (.cells (rowL 9 r0).toArray 110)).alloc (.cells #[.int .u64 d0, .int .u64 d1, .int .u64 d2, .int .u64 d3] 24)) 110 9 (fun _ => 0)
  rw [World.size_alloc] at h2 h3
  rw [World.size_alloc] at h3
  refine ⟨?_, (h1.alloc _).alloc _, h2.alloc _, h3, hu, fun j _ => rfl, by simp [nv], ⟨by omega, by unfold Bd; omega⟩, by omega, by omega⟩
  exact (((Below.refl _ _).alloc (by omega) _).alloc (by simp) _).alloc (by simp; omega) _
end Go.Proofs.YtpadpmkfhljiiaaGreat
/- Plain arithmetic of shifts by less than 64 places, limb by limb. -/
namespace Go.Proofs.YtpadpmkfhljiiaaGreat
open Go.RowKit

end Go.Proofs.YtpadpmkfhljiiaaGreat
/- Plain arithmetic of shifts down by less than 64 places, limb by limb. -/
namespace Go.Proofs.YtpadpmkfhljiiaaGreat
open Go.RowKit

end Go.Proofs.YtpadpmkfhljiiaaGreat
/- Plain arithmetic: a number of many parts shifted up by less than 64 places, and down again. -/
namespace Go.Proofs.YtpadpmkfhljiiaaGreat
open Go.RowKit
theorem two_s (s : Nat) : (2 : Int) ^ s = ((2 ^ s : Nat) : Int) := by rw [Int.natCast_pow]; rfl
theorem two_pos (s : Nat) : (0 : Int) < 2 ^ s := by rw [two_s]; exact_mod_cast Nat.two_pow_pos s
theorem up_step {r u : Nat → Int} {i s : Nat} {y d : Int} (h : nv r (i + 1) = nv u i * 2 ^ s) (e : y + d * Bd = u i * 2 ^ s + r i) :
    nv (fun j => if j = i + 1 then d else if j = i then y else r j) (i + 1 + 1) = nv u (i + 1) * 2 ^ s := by
  have hx : nv (fun j => if j = i + 1 then d else if j = i then y else r j) i = nv r i := nv_ext i (fun j hj => by rw [if_neg (by omega), if_neg (by omega)])
  rw [nv, nv, hx]
  simp only [if_true, show ¬ (i = i + 1) by omega, if_false]
  rw [nv] at h
  rw [nv, Int.add_mul, ← h, Int.pow_succ, Int.mul_comm (Bd ^ i) Bd, ← Int.mul_assoc, Int.mul_right_comm (u i)]
  have e2 : (y + d * Bd) * Bd ^ i = (u i * 2 ^ s + r i) * Bd ^ i := by rw [e]
  rw [Int.add_mul, Int.add_mul] at e2
  omega
theorem Bd4 : Bd ^ 4 = MM := by unfold Bd MM; decide
end Go.Proofs.YtpadpmkfhljiiaaGreat
/- stretch and squeeze. -/
namespace Go.Proofs.YtpadpmkfhljiiaaGreat
open Go.RowKit
/-- while it is stretched: i parts are -/
structure St (w : World) (u : Nat → Int) (s i : Nat) (r : Nat → Int) (W : World) : Prop where
  bel : Below w.heap.size w W
  rowu : Row W w.heap.size 8 u
  zer : Row W (w.heap.size + 1) 9 (fun _ => 0)
  row : Row W (w.heap.size + 1 + 1) 9 r
  u64 : ∀ j, U64 (r j)
  top : r i < 2 ^ s
  high : ∀ j, i < j → r j = 0
  eq : nv r (i + 1) = nv u i * 2 ^ s
theorem St.step {w : World} {u : Nat → Int} {s i : Nat} {r : Nat → Int} {W : World} (h : St w u s i r W) {y d : Int} (e : y + d * Bd = u i * 2 ^ s + r i) (hy : U64 y) (hd : U64 d) (hs : d < 2 ^ s) :
    St w u s (i + 1) (fun j => if j = i + 1 then d else if j = i then y else r j) ((W.setCell ⟨w.heap.size + 1 + 1, i, none⟩ (.int .u64 y)).setCell ⟨w.heap.size + 1 + 1, i + 1, none⟩ (.int .u64 d)) := by
  refine ⟨(h.bel.setCell (by simp; omega) _).setCell (by simp; omega) _, (h.rowu.set_other _ _ (by simp; omega)).set_other _ _ (by simp; omega), (h.zer.set_other _ _ (by simp)).set_other _ _ (by simp), (h.row.set _ _).set _ _, fun j => ?_, ?_, fun j hj => ?_, up_step h.eq e⟩
  · split
    · exact hd
    · split
      · exact hy
      · exact h.u64 j
  · simpa using hs
  · rw [if_neg (by omega), if_neg (by omega)]; exact h.high j (by omega)
theorem St.new (w : World) (u : Nat → Int) (s : Nat) : St w u s 0 (fun _ => 0) (((w.alloc (.cells (rowL 8 u).toArray 69)).alloc (.cells (rowL 9 fun _ => 0).toArray 110)).alloc (.cells (rowL 9 fun _ => 0).toArray 110)) := by
  have h1 := Row.new w 69 8 u
  have h2 := Row.new (w.alloc (.cells (rowL 8 u).toArray 69)) 110 9 (fun _ => 0)
  have h3 := Row.new ((w.alloc (.cells (rowL 8 u).toArray 69)).alloc (.cells (rowL 9 fun _ => 0).toArray 110)) 110 9 (fun _ => 0)
  rw [World.size_alloc] at h2 h3
  rw [World.size_alloc] at h3
  refine ⟨?_, (h1.alloc _).alloc _, h2.alloc _, h3, fun j => ⟨by simp, by unfold Bd; simp⟩, two_pos s, fun j _ => rfl, by simp [nv]⟩
  exact (((Below.refl _ _).alloc (by omega) _).alloc (by simp) _).alloc (by simp; omega) _
end Go.Proofs.YtpadpmkfhljiiaaGreat
/- Shifts: what shiftUp and shiftDown make of a word, limb by limb, by how many whole limbs they shift. -/
namespace Go.Proofs.YtpadpmkfhljiiaaGreat
open Go.RowKit

end Go.Proofs.YtpadpmkfhljiiaaGreat
/- shiftUp and shiftDown, whatever the count: the answer as four letters, and what it is worth. -/
namespace Go.Proofs.YtpadpmkfhljiiaaGreat
open Go.RowKit

theorem q4 (n : Int) (h0 : 0 ≤ n) (h1 : n < 256) : n / 64 = 0 ∨ n / 64 = 1 ∨ n / 64 = 2 ∨ n / 64 = 3 := by omega
end Go.Proofs.YtpadpmkfhljiiaaGreat
/- divide: the quotient of eight parts by four, and what is left. -/
namespace Go.Proofs.YtpadpmkfhljiiaaGreat
open Go.RowKit
/-- what lies there while it is divided: the number, and the two results -/
structure Dq (w : World) (u : Nat → Int) (W : World) : Prop where
  bel : Below w.heap.size w W
  ru : Row W w.heap.size 8 u
  z8 : Row W (w.heap.size + 1 + 1) 8 (fun _ => 0)
  z4 : Box W (w.heap.size + 1 + 1 + 1) 0 0 0 0
theorem Dq.past {w W W' : World} {u : Nat → Int} (h : Dq w u W) (k : Below W.heap.size W W') : Dq w u W' :=
  ⟨h.bel.trans (k.mono h.bel.size), h.ru.below k (h.ru.lt (by omega)), h.z8.below k (h.z8.lt (by omega)), h.z4.below k h.z4.lt⟩
theorem Dq.alloc {w W : World} {u : Nat → Int} (h : Dq w u W) (o : Obj) : Dq w u (W.alloc o) := ⟨h.bel.alloc h.bel.size _, h.ru.alloc _, h.z8.alloc _, h.z4.alloc _⟩
theorem Dq.cells {w W : World} {u : Nat → Int} (h : Dq w u W) (b o : Nat) (vs : List Value) (hb : w.heap.size + 1 + 1 + 1 < b) : Dq w u (W.setCells b o vs) :=
  ⟨below_setCells b (by omega) vs o W h.bel, Row.set_others (by omega) vs o h.ru, Row.set_others (by omega) vs o h.z8, Box.set_others (by omega) vs o h.z4⟩
theorem Dq.cell {w W : World} {u : Nat → Int} (h : Dq w u W) (b o : Nat) (x : Value) (hb : w.heap.size + 1 + 1 + 1 < b) : Dq w u (W.setCell ⟨b, o, none⟩ x) := h.cells b o [x] hb
/-- the blocks while it is divided -/
structure Dv (w : World) (u : Nat → Int) (d0 d1 d2 d3 : Int) (bd br bq : Nat) (r q : Nat → Int) (W : World) : Prop where
  bas : Dq w u W
  bd : Box W bd d0 d1 d2 d3
  rr : Row W br 9 r
  rq : Row W bq 8 q
theorem Dv.past {w W W' : World} {u : Nat → Int} {d0 d1 d2 d3 : Int} {bd br bq : Nat} {r q : Nat → Int} (h : Dv w u d0 d1 d2 d3 bd br bq r q W) (k : Below W.heap.size W W') : Dv w u d0 d1 d2 d3 bd br bq r q W' :=
  ⟨h.bas.past k, h.bd.below k h.bd.lt, h.rr.below k (h.rr.lt (by omega)), h.rq.below k (h.rq.lt (by omega))⟩
theorem Dv.drew {w W : World} {u : Nat → Int} {d0 d1 d2 d3 : Int} {bd br bq : Nat} {r q : Nat → Int} (h : Dv w u d0 d1 d2 d3 bd br bq r q W) : Dv w u d0 d1 d2 d3 bd br bq r q W.drew := ⟨⟨h.bas.bel.drew, h.bas.ru.drew, h.bas.z8.drew, h.bas.z4.drew⟩, h.bd.drew, h.rr.drew, h.rq.drew⟩
theorem Dv.alloc {w W : World} {u : Nat → Int} {d0 d1 d2 d3 : Int} {bd br bq : Nat} {r q : Nat → Int} (h : Dv w u d0 d1 d2 d3 bd br bq r q W) (o : Obj) : Dv w u d0 d1 d2 d3 bd br bq r q (W.alloc o) := ⟨h.bas.alloc _, h.bd.alloc _, h.rr.alloc _, h.rq.alloc _⟩
/-- another block is written -/
theorem Dv.cells {w W : World} {u : Nat → Int} {d0 d1 d2 d3 : Int} {bd br bq : Nat} {r q : Nat → Int} (h : Dv w u d0 d1 d2 d3 bd br bq r q W) (b o : Nat) (vs : List Value) (hb : w.heap.size + 1 + 1 + 1 < b) (h1 : b ≠ bd) (h2 : b ≠ br) (h3 : b ≠ bq) : Dv w u d0 d1 d2 d3 bd br bq r q (W.setCells b o vs) :=
  ⟨h.bas.cells b o vs hb, Box.set_others h1 vs o h.bd, Row.set_others h2 vs o h.rr, Row.set_others h3 vs o h.rq⟩
/-- the numbers while it is divided: k columns are still to be done -/
structure Dn (u d : Nat → Int) (P : Int) (n k : Nat) (r q : Nat → Int) : Prop where
  ur : ∀ i, U64 (r i)
  uq : ∀ i, U64 (q i)
  low : ∀ i, i < k → q i = 0
  eq : nv u 8 * P = nv q 8 * nv d n + nv r 9
  lt : nv r 9 < nv d n * Bd ^ k
  d0 : 0 < nv d n
  dn : nv d n < Bd ^ n
  fits : k + n ≤ 9 ∨ k = 0
theorem Dn.col {u d : Nat → Int} {P : Int} {n a : Nat} {r q : Nat → Int} (h : Dn u d P n (a + 1) r q) : Col r n a (nv d n) := ⟨h.ur, h.d0, h.dn, h.lt, by have := h.fits; omega⟩
/-- a digit was found -/
theorem Dn.step {u d : Nat → Int} {P : Int} {n a : Nat} {r q s : Nat → Int} {k : Int} (h : Dn u d P n (a + 1) r q) (o : Off r d n a k s true) (hk : k = nv (sh r a) (n + 1) / nv d n) (ha : a < 8) (hu : U64 k) : Dn u d P n a s (fun i => if i = a then k else q i) := by
  obtain ⟨e1, e2⟩ := o.left h.col rfl hk
  refine ⟨o.u, fun i => ?_, fun i hi => ?_, ?_, e2, h.d0, h.dn, by have := h.fits; omega⟩
  · split
    · exact hu
    · exact h.uq i
  · rw [if_neg (by omega)]; exact h.low i (by omega)
  · rw [nv_set q a k 8 ha (h.low a (by omega)), h.eq, e1, Int.add_mul, Int.mul_assoc k, Int.mul_comm (Bd ^ a)]; omega
theorem Bd_le (m : Nat) (h : m ≤ 4) : Bd ^ m ≤ MM := by
  rw [← Bd4]
  obtain ⟨k, hk⟩ := Nat.exists_eq_add_of_le h
  have h9 := Int.mul_le_mul_of_nonneg_left (show 1 ≤ Bd ^ k by have := Bp k; omega) (Int.le_of_lt (Bp m))
  rw [← Int.pow_add, ← hk, Int.mul_one] at h9
  exact h9
/-- the end: nothing is left to be done -/
theorem Dn.fin {u d : Nat → Int} {P W : Int} {n : Nat} {r q : Nat → Int} (h : Dn u d P n 0 r q) (hP : 0 < P) (e : nv d n = W * P) (h0 : 0 < W) (hn : n ≤ 4) : nv q 8 = nv u 8 / W ∧ nv r 9 = (nv u 8 % W) * P ∧ nv r 9 < MM := by
  have h1 := h.eq
  have h2 := h.lt
  have h3 := h.dn
  have h4 := Bd_le n hn
  rw [e] at h1 h2 h3
  rw [Int.pow_zero, Int.mul_one] at h2
  obtain ⟨e1, e2⟩ := div_end hP h0 h1 (nv_range h.ur 9).1 h2
  exact ⟨e1, e2, by omega⟩
theorem nv_up {r : Nat → Int} (h : ∀ i, U64 (r i)) (n m : Nat) (hn : n ≤ m) (hl : nv r m < Bd ^ n) : nv r n = nv r m := by
  obtain ⟨k, rfl⟩ := Nat.exists_eq_add_of_le hn
  rw [nv_split, nv_top h n k hl]; simp
theorem Dn.start {u d v : Nat → Int} {P W : Int} {n m : Nat} {r : Nat → Int} (hu : ∀ i, U64 (u i)) (hv : ∀ i, U64 (v i)) (hr : ∀ i, U64 (r i)) (hP : 0 < P) (hne : v n ≠ 0) (hm : m ≤ 8) (hz : ∀ i, m ≤ i → i < 8 → u i = 0) (e : nv r 9 = nv u 8 * P)
    (e1 : nv d (n + 1) = W * P) (e2 : nv v (n + 1) = W) (h0 : 0 < W) (hlt : W * P < Bd ^ (n + 1)) (hn : n < 4) : Dn u d P (n + 1) (m - n) r (fun _ => 0) := by
  have hs := div_start (k := m - n) hu hv hP hne hm hz (by omega)
  refine ⟨hr, fun i => ⟨by simp, by unfold Bd; simp⟩, fun _ _ => rfl, ?_, ?_, ?_, ?_, by omega⟩
  · rw [nv_zero 8 (r := fun _ => (0 : Int)) (fun _ _ => rfl), Int.zero_mul, Int.zero_add, e]
  · rw [e, e1, ← e2]; exact hs
  · rw [e1]; exact Int.mul_pos h0 hP
  · rw [e1]; exact hlt
theorem Box.range {W : World} {b : Nat} {a0 a1 a2 a3 : Int} (h : Box W b a0 a1 a2 a3) : W.rangeAt b 0 [.int .u64 a0, .int .u64 a1, .int .u64 a2, .int .u64 a3] := fun j x hx => by
  obtain ⟨c0, c1, c2, c3, _⟩ := h.facts
  rw [Nat.zero_add]
  rcases j with _ | _ | _ | _ | j
  · rw [c0]; exact hx
  · rw [c1]; exact hx
  · rw [c2]; exact hx
  · rw [c3]; exact hx
  · simp at hx
end Go.Proofs.YtpadpmkfhljiiaaGreat
/- The document's rows as numbers, and what each of its functions makes of them. -/
namespace Go.Proofs.YtpadpmkfhljiiaaGreat
open Go.RowKit
/-- a row of at most n digits whose number is N -/
def RowIs (W : World) (v : Value) (n N : Nat) : Prop := ∃ (k : Nat) (d : Nat → Nat), k ≤ n ∧ RowAt W v k d ∧ dsum d k = N
theorem RowIs.below {W W' : World} {v : Value} {n N : Nat} (h : RowIs W v n N) (k : Below W.heap.size W W') : RowIs W' v n N := by
  obtain ⟨q, d, h1, h2, h3⟩ := h
  exact ⟨q, d, h1, h2.below k, h3⟩
theorem RowIs.lt {W : World} {v : Value} {n N : Nat} (h : RowIs W v n N) : N < 256 ^ n := by
  obtain ⟨q, d, h1, h2, h3⟩ := h
  rw [← h3]
  exact Nat.lt_of_lt_of_le (dsum_lt h2.2.1 q) (Nat.pow_le_pow_right (by decide) h1)
/-- boxes of words and rows -/
structure Bw (w : World) (l : List (Nat × Int × Int × Int × Int)) (rs : List (Value × Nat × Nat)) (W : World) : Prop where
  bx : Bx w l W
  rows : ∀ p ∈ rs, RowIs W p.1 p.2.1 p.2.2
theorem Bw.of {w W : World} {l : List (Nat × Int × Int × Int × Int)} (h : Bx w l W) : Bw w l [] W := ⟨h, fun _ hp => by cases hp⟩
theorem Bw.past {w W W' : World} {l : List (Nat × Int × Int × Int × Int)} {rs : List (Value × Nat × Nat)} (h : Bw w l rs W) (k : Below W.heap.size W W') : Bw w l rs W' := ⟨h.bx.past k, fun p hp => (h.rows p hp).below k⟩
theorem Bw.drew {w W : World} {l : List (Nat × Int × Int × Int × Int)} {rs : List (Value × Nat × Nat)} (h : Bw w l rs W) : Bw w l rs W.drew := h.past (Below.refl _ _).drew
theorem Bw.row {w W : World} {l : List (Nat × Int × Int × Int × Int)} {rs : List (Value × Nat × Nat)} {v : Value} {n N : Nat} (h : Bw w l rs W) (k : RowIs W v n N) : Bw w l ((v, n, N) :: rs) W := ⟨h.bx, fun p hp => by
  rcases List.mem_cons.1 hp with rfl | hp
  · exact k
  · exact h.rows p hp⟩
theorem Bw.at {w W : World} {l : List (Nat × Int × Int × Int × Int)} {rs : List (Value × Nat × Nat)} {v : Value} {n N : Nat} (h : Bw w l rs W) (hp : (v, n, N) ∈ rs) : RowIs W v n N := h.rows _ hp
theorem V_lt {x a0 a1 a2 a3 : Int} {X : Nat} (ha : IsW x a0 a1 a2 a3) (hX : V a0 a1 a2 a3 = (X : Int)) : X < 256 ^ 32 := by
  obtain ⟨X', h1, _, h3⟩ := mod_nat ha
  have : X = X' := by rw [hX] at h1; omega
  omega
theorem ri_word {W : World} {v : Value} {n N : Nat} (h1 : RowIs W v n N) {p0 p1 p2 p3 : Int} (hp : IsW (N : Int) p0 p1 p2 p3) :
    Calls Tryz.prog 77 #[v] W fun e w' => e = .returned (.agg #[.int .u64 p0, .int .u64 p1, .int .u64 p2, .int .u64 p3]) ∧ Below W.heap.size W w' := by
  obtain ⟨k, d, a1, a2, a3⟩ := h1
  refine (word_is W v k d a2).mono ?_
  rintro e w' ⟨s0, s1, s2, s3, rfl, hs, hB⟩
  have h : (dsum d 32 : Int) % MM = (N : Int) % MM := by
    rw [← MM_nat, ← a3]
    by_cases hk : k ≤ 32
    · rw [a2.more 32 hk]
    · have h1 := dsum_mod a2.2.1 k 32
      have h2 := dsum_lt a2.2.1 32
      have h3 : dsum (cutD d 32) k = dsum d 32 := by
        rw [dsum_more (n := 32) (fun i hi => by rw [cutD, if_neg (by omega)]) k (by omega)]
        exact dsum_ext 32 (fun i hi => by rw [cutD, if_pos hi])
      rw [← Int.natCast_emod, ← Int.natCast_emod, Nat.mod_eq_of_lt h2, ← h3, ← cutD_sum a2.2.1]
  obtain ⟨rfl, rfl, rfl, rfl⟩ := hs.eq hp h
  exact ⟨rfl, hB⟩
end Go.Proofs.YtpadpmkfhljiiaaGreat
/- Bits and their number; the document's 'joined'. -/
namespace Go.Proofs.YtpadpmkfhljiiaaGreat
open Go.RowKit
end Go.Proofs.YtpadpmkfhljiiaaGreat
/- The document's 'small' and 'upTo'. -/
namespace Go.Proofs.YtpadpmkfhljiiaaGreat
open Go.RowKit
end Go.Proofs.YtpadpmkfhljiiaaGreat
/- The document's And, Or, Xor, Not by its arrays of bits. -/
namespace Go.Proofs.YtpadpmkfhljiiaaGreat
open Go.RowKit
end Go.Proofs.YtpadpmkfhljiiaaGreat
/- The document's Not, Shl, lowered, Shr, Sar, SignExtend by its arrays of bits. -/
namespace Go.Proofs.YtpadpmkfhljiiaaGreat
open Go.RowKit
end Go.Proofs.YtpadpmkfhljiiaaGreat
