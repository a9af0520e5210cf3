/- Package code: One. -/
import Derived.Test.YtcjmbpchdeapiaaDoorCda
import Derived.Test.YtcjmbpchdeapiaaDoorCdb
import Derived.Test.YtcjmbpchdeapiaaDoorRgn
import Derived.Test.YtcjmbpchdeapiaaDoorOq
import Derived.Deep.RegionHeld3
import Derived.IntWalk
namespace Go.Proofs.YtcjmbpchdeapiaaDoor
open Go.RowKit
/-- an instruction's cells that may be written -/
def InsF (W : World) (q : Nat) : Prop := (W.cell? ⟨q, 0, none⟩ = some (.int .i64 0) ∧ W.cell? ⟨q, 1, none⟩ = some (.int .i64 0) ∧ W.cell? ⟨q, 2, none⟩ = some (.slice none 0 0) ∧ W.cell? ⟨q, 3, none⟩ = some (.int .i64 0)) ∧ W.frozen? ⟨q, 0, none⟩ = false ∧ W.frozen? ⟨q, 1, none⟩ = false ∧ W.frozen? ⟨q, 2, none⟩ = false ∧ W.frozen? ⟨q, 3, none⟩ = false
theorem InsF.lt {W : World} {q : Nat} (h : InsF W q) : q < W.heap.size := World.block_lt_of_cell? W _ h.1.1
theorem InsF.past {W W' : World} {q : Nat} (h : InsF W q) (hB : Below W.heap.size W W') : InsF W' q := by
  have l := h.lt
  obtain ⟨⟨h0, h1, h2, h3⟩, f0, f1, f2, f3⟩ := h
  exact ⟨⟨(hB.cell (p := ⟨q, 0, none⟩) l).trans h0, (hB.cell (p := ⟨q, 1, none⟩) l).trans h1, (hB.cell (p := ⟨q, 2, none⟩) l).trans h2, (hB.cell (p := ⟨q, 3, none⟩) l).trans h3⟩, (hB.frozen (p := ⟨q, 0, none⟩) l).trans f0, (hB.frozen (p := ⟨q, 1, none⟩) l).trans f1, (hB.frozen (p := ⟨q, 2, none⟩) l).trans f2, (hB.frozen (p := ⟨q, 3, none⟩) l).trans f3⟩
theorem InsF.drew {W : World} {q : Nat} (h : InsF W q) : InsF W.drew q := h
theorem InsF.new (W : World) : InsF (W.alloc (.cells #[.int .i64 0, .int .i64 0, .slice none 0 0, .int .i64 0] 40)) W.heap.size := by
  refine ⟨⟨?_, ?_, ?_, ?_⟩, ?_, ?_, ?_, ?_⟩ <;> go_simp
def insZ : Value := .agg #[.int .i64 0, .int .i64 0, .slice none 0 0, .int .i64 0]
theorem slice_loB (g o L cap B N n : Nat) (hn : N = B + n) (hc : N ≤ cap) : ∃ ad' : Addr, (n ≠ 0 → ad' = ⟨g, o + B, none⟩) ∧ ∀ W : World, Sem.run Tryd.prog (Instr.slice 22 (.slice (some ⟨g, o, none⟩) L cap) (some (.int .i64 (B : Int))) (some (.int .i64 (N : Int))) none) W = .ok (.slice (some ad') n (cap - B)) W := by
  refine ⟨if cap - B = 0 then ⟨g, o, none⟩ else ⟨g, o + B, none⟩, fun h => by rw [if_neg (by omega)], fun W => ?_⟩
  simp [Instr.slice, Instr.sliceBounds, run_underlying Tryd.underlying22, run_sliceBound W .i64 (N : Int) cap _ (by omega) (by omega), run_sliceBound W .i64 (B : Int) N _ (by omega) (by omega), Addr.add_mid]
  refine ⟨?_, by omega⟩
  split
  · rw [if_pos (by omega)]
  · rw [if_neg (by omega)]
set_option maxHeartbeats 2000000 in
set_option maxRecDepth 100000 in
theorem one_arg (w : World) (v : Value) (L : Nat) (b : Nat → Nat) (X : Int) (hv : BytesOf w v L b) (hX : X < 0 ∨ (L : Int) ≤ X) : Calls Tryd.prog 21 #[v, .int .i64 X] w fun e w' => e = .returned (.tuple #[insZ, .int .i64 1]) ∧ Below w.heap.size w w' := by
  obtain ⟨ad, cap, rfl, _⟩ := hv
  have I0 := InsF.new w
  have B0 : Hid (Below w.heap.size w (w.alloc (.cells #[.int .i64 0, .int .i64 0, .slice none 0 0, .int .i64 0] 40))) := (Below.refl _ w).alloc (Nat.le_refl _) _
  unfold insZ
  obtain ⟨⟨d0, d1, d2, d3⟩, f0, f1, f2, f3⟩ := I0
  by_cases h0 : X < 0
  · go_enter Tryd.func21, Tryd.ntmps21
    go_wp2
    refine ⟨rfl, _, (results_cell_tmp rfl _ _ _).trans ?_, rfl, ?_⟩
    · go_simp
    · repeat' (first | with_reducible exact B0.out | with_reducible refine Below.setCell ?_ ?_ _ | (simp; done) | (simp; omega))
  · have h1 : (L : Int) ≤ X := by omega
    go_enter Tryd.func21, Tryd.ntmps21
    go_wp2
    refine ⟨rfl, _, (results_cell_tmp rfl _ _ _).trans ?_, rfl, ?_⟩
    · go_simp
    · repeat' (first | with_reducible exact B0.out | with_reducible refine Below.setCell ?_ ?_ _ | (simp; done) | (simp; omega))
theorem ofB (c : Nat) (hc : c < 256) (hb : isOp c = true) : opV (c : Int) = opv c ∧ opB (c : Int) = true := by
  have e : opB (c : Int) = true := by unfold opB; rw [decide_eq_true (by omega), Int.toNat_natCast, hb]; rfl
  exact ⟨by unfold opV; rw [e, if_pos rfl, Int.toNat_natCast], e⟩
theorem ofZ (c : Nat) (hb : isOp c = false) : opV (c : Int) = opz ∧ opB (c : Int) = false := by
  have e : opB (c : Int) = false := by unfold opB; rw [Int.toNat_natCast, hb, Bool.and_false]
  exact ⟨by unfold opV; rw [e, if_neg (by decide)], e⟩
set_option maxHeartbeats 2000000 in
set_option maxRecDepth 100000 in
theorem one_op (w : World) (v : Value) (L : Nat) (b : Nat → Nat) (A : Nat) (hN : Nms w) (hv : BytesOf w v L b) (hL : L ≤ 1000000) (hA : A < L) (ho : isOp (b A) = false) : Calls Tryd.prog 21 #[v, .int .i64 (A : Int)] w fun e w' => e = .returned (.tuple #[insZ, .int .i64 60]) ∧ Below w.heap.size w w' := by
  obtain ⟨ad, cap, rfl, hb, _, hc⟩ := hv
  obtain ⟨g, o, rfl, hcc⟩ := hc (by omega)
  have k0 := hcc A hA
  have hb0 := hb A
  generalize b A = c at k0 ho hb0
  have gl := World.block_lt_of_cell? w _ k0
  have HO : Hid (∀ W : World, Below w.heap.size w W → Calls Tryd.prog 31 #[.int .i64 (c : Int)] W fun e w' => e = .returned (.tuple #[.agg #[.int .i64 0, .string ⟨#[]⟩, .int .i64 0, .int .i64 0, .int .i64 0, .int .i64 0, .bool false], .bool false]) ∧ Below W.heap.size W w') := fun W hB => by have := of_any (c : Int) W (hN.past hB); rw [(ofZ c ho).1, (ofZ c ho).2] at this; exact this
  clear hcc hc hb
  have I0 : Hid (InsF (w.alloc (.cells #[.int .i64 0, .int .i64 0, .slice none 0 0, .int .i64 0] 40)) w.heap.size) := InsF.new w
  have B0 : Hid (Below w.heap.size w (w.alloc (.cells #[.int .i64 0, .int .i64 0, .slice none 0 0, .int .i64 0] 40))) := (Below.refl _ w).alloc (Nat.le_refl _) _
  have k1 : (w.alloc (.cells #[.int .i64 0, .int .i64 0, .slice none 0 0, .int .i64 0] 40)).cell? ⟨g, o + A, none⟩ = some (.int .u8 (c : Int)) := (B0.out.cell (p := ⟨g, o + A, none⟩) gl).trans k0
  unfold insZ
  have aI : (A : Int) < (L : Int) := by omega
  have lI : (L : Int) ≤ 1000000 := by omega
  have cI : (c : Int) < 256 := by omega
  go_enter Tryd.func21, Tryd.ntmps21
  go_upto_region 4 with (go_at_call 31; refine (HO.out _ B0.out).mono ?_; rintro e w1 ⟨rfl, hB⟩; (have B1 : Hid (Below w.heap.size w w1) := B0.out.trans (hB.mono B0.out.size)); (have I1 : Hid (InsF w1 w.heap.size) := I0.out.past hB); clear hB k1 k0 I0 B0)
  have B2 : Hid (Below w.heap.size w (w1.alloc (.cells #[.int .i64 0, .string ⟨#[]⟩, .int .i64 0, .int .i64 0, .int .i64 0, .int .i64 0, .bool false] 56))) := B1.out.alloc B1.out.size _
  have I2 := I1.out.past ((Below.refl _ w1).alloc (Nat.le_refl _) (.cells #[.int .i64 0, .string ⟨#[]⟩, .int .i64 0, .int .i64 0, .int .i64 0, .int .i64 0, .bool false] 56))
  generalize w1.alloc (.cells #[.int .i64 0, .string ⟨#[]⟩, .int .i64 0, .int .i64 0, .int .i64 0, .int .i64 0, .bool false] 56) = w2 at B2 I2 ⊢
  obtain ⟨⟨d0, d1, d2, d3⟩, f0, f1, f2, f3⟩ := I2
  clear B1 I1
  go_wp2
  refine ⟨rfl, _, (results_cell_tmp rfl _ _ _).trans ?_, rfl, ?_⟩
  · go_simp
  · repeat' (first | with_reducible exact B2.out | with_reducible refine Below.setCell ?_ ?_ _ | (simp; done) | (simp; omega))
theorem imm_range : ∀ c : Fin 256, (decide (immT c.val = -1 ∨ (0 ≤ immT c.val ∧ immT c.val ≤ 32))) = true := by decide +kernel
set_option maxHeartbeats 2000000 in
set_option maxRecDepth 100000 in
theorem one_imm (w : World) (v : Value) (L : Nat) (b : Nat → Nat) (A : Nat) (hN : Nms w) (hv : BytesOf w v L b) (hL : L ≤ 1000000) (hA : A < L) (ho : isOp (b A) = true) (hs : L < A + 1 + immN (immT (b A)) (b (A + 1))) : Calls Tryd.prog 21 #[v, .int .i64 (A : Int)] w fun e w' => e = .returned (.tuple #[insZ, .int .i64 61]) ∧ Below w.heap.size w w' := by
  have hc0 : b A < 256 := by obtain ⟨_, _, _, hb, _⟩ := hv; exact hb A
  have hri := of_decide_eq_true (imm_range ⟨b A, hc0⟩)
  obtain ⟨ad, cap, rfl, hb, _, hc⟩ := hv
  obtain ⟨g, o, rfl, hcc⟩ := hc (by omega)
  have k0 := hcc A hA
  have gl := World.block_lt_of_cell? w _ k0
  have HBV : Hid (∀ W : World, Below w.heap.size w W → Calls Tryd.prog 32 #[.slice (some ⟨g, o, none⟩) L cap, .int .i64 (A : Int), .int .i64 (immT (b A))] W fun e w' => e = .returned (BeV L A (immN (immT (b A)) (b (A + 1)))) ∧ w' = W) := fun W hB => behind_is W g o L cap A (b (A + 1)) _ (by omega) hA hri (hb _) (fun h => (hB.cell (p := ⟨g, o + (A + 1), none⟩) gl).trans (hcc (A + 1) h))
  have HO : Hid (∀ W : World, Below w.heap.size w W → Calls Tryd.prog 31 #[.int .i64 (b A : Int)] W fun e w' => e = .returned (.tuple #[opv (b A), .bool true]) ∧ Below W.heap.size W w') := fun W hB => by have := of_any (b A : Int) W (hN.past hB); rw [(ofB (b A) hc0 ho).1, (ofB (b A) hc0 ho).2] at this; exact this
  unfold opv at HO
  generalize b (A + 1) = t at hs HBV
  generalize b A = c at k0 ho hc0 hs HBV HO hri
  generalize nameT c = s at HO
  generalize immT c = i1 at HO HBV hs hri
  generalize inT c = i2 at HO
  generalize outT c = i3 at HO
  generalize gasT c = i4 at HO
  generalize endsT c = b5 at HO
  clear hcc hc hb
  have HBE : Hid (∀ W : World, Below w.heap.size w W → Calls Tryd.prog 32 #[.slice (some ⟨g, o, none⟩) L cap, .int .i64 (A : Int), .int .i64 i1] W fun e w' => e = .returned (.tuple #[.int .i64 0, .bool false]) ∧ w' = W) := fun W hB => by have := HBV.out W hB; unfold BeV at this; rw [if_neg (by omega)] at this; exact this
  clear hs HBV
  have I0 : Hid (InsF (w.alloc (.cells #[.int .i64 0, .int .i64 0, .slice none 0 0, .int .i64 0] 40)) w.heap.size) := InsF.new w
  have B0 : Hid (Below w.heap.size w (w.alloc (.cells #[.int .i64 0, .int .i64 0, .slice none 0 0, .int .i64 0] 40))) := (Below.refl _ w).alloc (Nat.le_refl _) _
  have k1 : (w.alloc (.cells #[.int .i64 0, .int .i64 0, .slice none 0 0, .int .i64 0] 40)).cell? ⟨g, o + A, none⟩ = some (.int .u8 (c : Int)) := (B0.out.cell (p := ⟨g, o + A, none⟩) gl).trans k0
  unfold insZ
  have aI : (A : Int) < (L : Int) := by omega
  have lI : (L : Int) ≤ 1000000 := by omega
  have cI : (c : Int) < 256 := by omega
  go_enter Tryd.func21, Tryd.ntmps21
  go_upto_region 4 with (go_at_call 31; refine (HO.out _ B0.out).mono ?_; rintro e w1 ⟨rfl, hB⟩; (have B1 : Hid (Below w.heap.size w w1) := B0.out.trans (hB.mono B0.out.size)); (have I1 : Hid (InsF w1 w.heap.size) := I0.out.past hB); clear hB k1 k0 I0 B0)
  have B2 : Hid (Below w.heap.size w (w1.alloc (.cells #[.int .i64 (c : Int), .string s, .int .i64 i1, .int .i64 i2, .int .i64 i3, .int .i64 i4, .bool b5] 56))) := B1.out.alloc B1.out.size _
  have I2 : Hid (InsF (w1.alloc (.cells #[.int .i64 (c : Int), .string s, .int .i64 i1, .int .i64 i2, .int .i64 i3, .int .i64 i4, .bool b5] 56)) w.heap.size) := I1.out.past ((Below.refl _ w1).alloc (Nat.le_refl _) _)
  have O2 : Hid (Op7 (w1.alloc (.cells #[.int .i64 (c : Int), .string s, .int .i64 i1, .int .i64 i2, .int .i64 i3, .int .i64 i4, .bool b5] 56)) w1.heap.size (c : Int) s i1 i2 i3 i4 b5) := Op7.new w1 _ s i1 i2 i3 i4 b5
  have qw : w.heap.size < w1.heap.size := I1.out.lt
  generalize w1.alloc (.cells #[.int .i64 (c : Int), .string s, .int .i64 i1, .int .i64 i2, .int .i64 i3, .int .i64 i4, .bool b5] 56) = w2 at B2 I2 O2 ⊢
  generalize w1.heap.size = q6 at O2 qw ⊢
  obtain ⟨o0, o1, o2, _⟩ := O2.out
  obtain ⟨⟨d0, d1, d2, d3⟩, f0, f1, f2, f3⟩ := I2.out
  clear B1 I1 HO
  go_wp2_with (go_at_call 32; refine (HBE.out _ B2.out).mono ?_; rintro e w' ⟨rfl, hw⟩; rw [hw]; clear hw)
  refine ⟨rfl, _, (results_cell_tmp rfl _ _ _).trans ?_, rfl, ?_⟩
  · go_simp
  · repeat' (first | with_reducible exact B2.out | with_reducible refine Below.setCell ?_ ?_ _ | (simp; done) | (simp; omega))
/-- an instruction's cells, whatever they hold -/
def InsA (W : World) (q : Nat) : Prop := ∃ x0 x1 x2 x3 : Value, (W.cell? ⟨q, 0, none⟩ = some x0 ∧ W.cell? ⟨q, 1, none⟩ = some x1 ∧ W.cell? ⟨q, 2, none⟩ = some x2 ∧ W.cell? ⟨q, 3, none⟩ = some x3) ∧ W.frozen? ⟨q, 0, none⟩ = false ∧ W.frozen? ⟨q, 1, none⟩ = false ∧ W.frozen? ⟨q, 2, none⟩ = false ∧ W.frozen? ⟨q, 3, none⟩ = false
theorem InsF.any {W : World} {q : Nat} (h : InsF W q) : InsA W q := ⟨_, _, _, _, h⟩
theorem InsA.lt {W : World} {q : Nat} (h : InsA W q) : q < W.heap.size := by obtain ⟨_, _, _, _, h, _⟩ := h; exact World.block_lt_of_cell? W _ h.1
theorem InsA.past {W W' : World} {q : Nat} (h : InsA W q) (hB : Below W.heap.size W W') : InsA W' q := by
  have l := h.lt
  obtain ⟨x0, x1, x2, x3, ⟨h0, h1, h2, h3⟩, f0, f1, f2, f3⟩ := h
  exact ⟨x0, x1, x2, x3, ⟨(hB.cell (p := ⟨q, 0, none⟩) l).trans h0, (hB.cell (p := ⟨q, 1, none⟩) l).trans h1, (hB.cell (p := ⟨q, 2, none⟩) l).trans h2, (hB.cell (p := ⟨q, 3, none⟩) l).trans h3⟩, (hB.frozen (p := ⟨q, 0, none⟩) l).trans f0, (hB.frozen (p := ⟨q, 1, none⟩) l).trans f1, (hB.frozen (p := ⟨q, 2, none⟩) l).trans f2, (hB.frozen (p := ⟨q, 3, none⟩) l).trans f3⟩
/-- a block that holds these bytes and no other cell -/
def InsB (W : World) (g m : Nat) (b : Nat → Nat) : Prop := (∀ j, b j < 256) ∧ W.heap[g]? = some (.cells (bsL m b).toArray 5 (0, 0))
theorem InsB.other {W : World} {g m q k : Nat} {b : Nat → Nat} {v : Value} (h : InsB W g m b) (hq : g ≠ q) : InsB (W.setCell ⟨q, k, none⟩ v) g m b := ⟨h.1, (Below.heap_setCell W ⟨q, k, none⟩ v g hq).trans h.2⟩
theorem InsB.past {W W' : World} {g m : Nat} {b : Nat → Nat} (h : InsB W g m b) (hB : Below W.heap.size W W') : InsB W' g m b := ⟨h.1, (hB.block g (Array.getElem?_eq_some_iff.1 h.2).1).trans h.2⟩
theorem InsB.kept {W W' : World} {g m : Nat} {b : Nat → Nat} {row : Option Nat} (h : InsB W g m b) (hg : W.grownBy W' row) (hr : some g ≠ row) : InsB W' g m b := ⟨h.1, (hg.block g (Array.getElem?_eq_some_iff.1 h.2).1 hr).trans h.2⟩
theorem InsB.lt {W : World} {g m : Nat} {b : Nat → Nat} (h : InsB W g m b) : g < W.heap.size := (Array.getElem?_eq_some_iff.1 h.2).1
theorem InsB.cell {W : World} {g m : Nat} {b : Nat → Nat} (h : InsB W g m b) {j : Nat} (hj : j < m) : W.cell? ⟨g, j, none⟩ = some (.int .u8 (b j : Int)) := by
  simp only [World.cell?, h.2]
  simp [bsL, hj]
theorem InsB.frozen {W : World} {g m : Nat} {b : Nat → Nat} (h : InsB W g m b) (j : Nat) : W.frozen? ⟨g, j, none⟩ = false := by
  simp [World.frozen?, h.2]
theorem InsB.owns {W : World} {g m : Nat} {b : Nat → Nat} (h : InsB W g m b) (hm : m ≤ maxLen) (base : Nat) (hb : base ≤ g) : W.ownsRow base 5 1 (.slice (some ⟨g, 0, none⟩) m m) m (bsL m b) :=
  ⟨by rw [bsL_len]; omega, Or.inr ⟨g, m, (bsL m b).toArray, rfl, hb, h.2, Nat.le_refl _, hm, by simp [bsL_len], by rw [Nat.mul_one]; exact List.take_of_length_le (by simp [bsL_len])⟩⟩
theorem InsB.bytes {W : World} {g m : Nat} {b : Nat → Nat} (h : InsB W g m b) : BytesOf W (.slice (some ⟨g, 0, none⟩) m m) m b := ⟨_, _, rfl, h.1, fun e => (by cases e), fun _ => ⟨g, 0, rfl, fun j hj => by rw [Nat.zero_add]; exact h.cell hj⟩⟩
set_option maxHeartbeats 4000000 in
set_option maxRecDepth 100000 in
theorem one_ok (w : World) (v : Value) (L : Nat) (b : Nat → Nat) (A : Nat) (hN : Nms w) (hv : BytesOf w v L b) (hcp : ∀ ad cap, v = .slice ad L cap → L ≤ cap) (hL : L ≤ 1000000) (hA : A < L) (ho : isOp (b A) = true) (hs : A + 1 + immN (immT (b A)) (b (A + 1)) ≤ L) : Calls Tryd.prog 21 #[v, .int .i64 (A : Int)] w fun e w' => ∃ q, w.heap.size ≤ q ∧ q < w'.heap.size ∧
    e = .returned (.tuple #[.agg #[.int .i64 (A : Int), .int .i64 (b A : Int), .slice (some ⟨q, 0, none⟩) (immN (immT (b A)) (b (A + 1))) (immN (immT (b A)) (b (A + 1))), .int .i64 ((A + 1 + immN (immT (b A)) (b (A + 1)) : Nat) : Int)], .int .i64 0]) ∧ Below w.heap.size w w' ∧
    InsB w' q (immN (immT (b A)) (b (A + 1))) (fun j => b (A + 1 + j)) := by
  have hc0 : b A < 256 := by obtain ⟨_, _, _, hb, _⟩ := hv; exact hb A
  have hri := of_decide_eq_true (imm_range ⟨b A, hc0⟩)
  obtain ⟨ad, cap, rfl, hb, _, hc⟩ := hv
  obtain ⟨g, o, rfl, hcc⟩ := hc (by omega)
  have k0 := hcc A hA
  have gl := World.block_lt_of_cell? w _ k0
  have HBV : Hid (∀ W : World, Below w.heap.size w W → Calls Tryd.prog 32 #[.slice (some ⟨g, o, none⟩) L cap, .int .i64 (A : Int), .int .i64 (immT (b A))] W fun e w' => e = .returned (BeV L A (immN (immT (b A)) (b (A + 1)))) ∧ w' = W) := fun W hB => behind_is W g o L cap A (b (A + 1)) _ (by omega) hA hri (hb _) (fun h => (hB.cell (p := ⟨g, o + (A + 1), none⟩) gl).trans (hcc (A + 1) h))
  have HO : Hid (∀ W : World, Below w.heap.size w W → Calls Tryd.prog 31 #[.int .i64 (b A : Int)] W fun e w' => e = .returned (.tuple #[opv (b A), .bool true]) ∧ Below W.heap.size W w') := fun W hB => by have := of_any (b A : Int) W (hN.past hB); rw [(ofB (b A) hc0 ho).1, (ofB (b A) hc0 ho).2] at this; exact this
  obtain ⟨n, en⟩ : ∃ n, n = immN (immT (b A)) (b (A + 1)) := ⟨_, rfl⟩
  rw [← en] at hs HBV ⊢
  have nn : n ≤ 1000000 := by omega
  have hcap := hcp _ _ rfl
  have HCC : Hid (∀ j, j < L → w.cell? ⟨g, o + j, none⟩ = some (.int .u8 (b j : Int))) := hcc
  have HBB : Hid (∀ j, b j < 256) := hb
  clear en
  unfold opv at HO
  generalize b A = c at k0 ho hc0 HBV HO hri ⊢
  generalize nameT c = s at HO
  generalize immT c = i1 at HO HBV hri
  generalize inT c = i2 at HO
  generalize outT c = i3 at HO
  generalize gasT c = i4 at HO
  generalize endsT c = b5 at HO
  clear hcc hc hb
  obtain ⟨B, eB⟩ : ∃ B, B = A + 1 := ⟨_, rfl⟩
  obtain ⟨N, eN⟩ : ∃ N, N = A + 1 + n := ⟨_, rfl⟩
  have HBE : Hid (∀ W : World, Below w.heap.size w W → Calls Tryd.prog 32 #[.slice (some ⟨g, o, none⟩) L cap, .int .i64 (A : Int), .int .i64 i1] W fun e w' => e = .returned (.tuple #[.int .i64 (N : Int), .bool true]) ∧ w' = W) := fun W hB => by have := HBV.out W hB; unfold BeV at this; rw [if_pos (by omega), ← eN] at this; exact this
  rw [← eN, ← eB]
  obtain ⟨ad', had, hst⟩ := slice_loB g o L cap B N n (by omega) (by omega)
  have ST : Hid _ := hst
  have SB : Hid (∀ W : World, Below w.heap.size w W → BytesOf W (.slice (some ad') n (cap - B)) n (fun j => b (B + j))) := fun W hB => ⟨_, _, rfl, fun j => HBB.out _, fun e => (by cases e), fun hn => ⟨g, o + B, by rw [had hn], fun j hj => by
    have := (hB.cell (p := ⟨g, o + (B + j), none⟩) gl).trans (HCC.out (B + j) (by omega))
    rw [show o + B + j = o + (B + j) by omega]; exact this⟩⟩
  have HB2 : Hid (∀ j, b (B + j) < 256) := fun j => HBB.out _
  have ab : (A : Int) + 1 = (B : Int) := by omega
  have bI : (B : Int) ≤ 1000000 := by omega
  have bw : IntKind.i64.wrap (B : Int) = (B : Int) := Go.IntWalk.i64_in _ (by omega)
  have HE : Hid (B = A + 1 ∧ N = A + 1 + n) := ⟨eB, eN⟩
  clear HBV hs hst had eB eN HCC HBB
  have I0 : Hid (InsF (w.alloc (.cells #[.int .i64 0, .int .i64 0, .slice none 0 0, .int .i64 0] 40)) w.heap.size) := InsF.new w
  have B0 : Hid (Below w.heap.size w (w.alloc (.cells #[.int .i64 0, .int .i64 0, .slice none 0 0, .int .i64 0] 40))) := (Below.refl _ w).alloc (Nat.le_refl _) _
  have k1 : (w.alloc (.cells #[.int .i64 0, .int .i64 0, .slice none 0 0, .int .i64 0] 40)).cell? ⟨g, o + A, none⟩ = some (.int .u8 (c : Int)) := (B0.out.cell (p := ⟨g, o + A, none⟩) gl).trans k0
  have aI : (A : Int) < (L : Int) := by omega
  have lI : (L : Int) ≤ 1000000 := by omega
  have cI : (c : Int) < 256 := by omega
  go_enter Tryd.func21, Tryd.ntmps21
  go_upto_region 4 with (go_at_call 31; refine (HO.out _ B0.out).mono ?_; rintro e w1 ⟨rfl, hB⟩; (have B1 : Hid (Below w.heap.size w w1) := B0.out.trans (hB.mono B0.out.size)); (have I1 : Hid (InsF w1 w.heap.size) := I0.out.past hB); clear hB k1 k0 I0 B0)
  have B2 : Hid (Below w.heap.size w (w1.alloc (.cells #[.int .i64 (c : Int), .string s, .int .i64 i1, .int .i64 i2, .int .i64 i3, .int .i64 i4, .bool b5] 56))) := B1.out.alloc B1.out.size _
  have I2 : Hid (InsF (w1.alloc (.cells #[.int .i64 (c : Int), .string s, .int .i64 i1, .int .i64 i2, .int .i64 i3, .int .i64 i4, .bool b5] 56)) w.heap.size) := I1.out.past ((Below.refl _ w1).alloc (Nat.le_refl _) _)
  have O2 : Hid (Op7 (w1.alloc (.cells #[.int .i64 (c : Int), .string s, .int .i64 i1, .int .i64 i2, .int .i64 i3, .int .i64 i4, .bool b5] 56)) w1.heap.size (c : Int) s i1 i2 i3 i4 b5) := Op7.new w1 _ s i1 i2 i3 i4 b5
  have qw : w.heap.size < w1.heap.size := I1.out.lt
  generalize w1.alloc (.cells #[.int .i64 (c : Int), .string s, .int .i64 i1, .int .i64 i2, .int .i64 i3, .int .i64 i4, .bool b5] 56) = w2 at B2 I2 O2 ⊢
  generalize w1.heap.size = q6 at O2 qw ⊢
  obtain ⟨o0, o1, o2, _⟩ := O2.out
  obtain ⟨⟨d0, d1, d2, d3⟩, f0, f1, f2, f3⟩ := I2.out
  clear B1 I1 HO
  clear o0 o1 d0 d1 d2 d3 f0 f1 f2 f3
  go_upto_region 9 with (go_at_call 32; refine (HBE.out _ B2.out).mono ?_; rintro e w' ⟨rfl, hw⟩; rw [hw]; clear hw)
  clear o2
  refine wp_region_held_drew (S := fun V' => Below w.heap.size w V' ∧ Op7 V' q6 (c : Int) s i1 i2 i3 i4 b5 ∧ InsA V' w.heap.size) (by kernel_rfl) ⟨B2.out.drew, O2.out, I2.out.drew.any⟩ (fun hHeld => ?_)
  generalize w2.drew = z0 at hHeld ⊢
  clear B2 O2 I2 HBE
  refine wpAnyH_take (i := 0) (v := .int .i64 (A : Int)) op0 (by kernel_rfl) (by kernel_rfl) (by kernel_rfl) (fun _ _ _ h => h) (Or.inl ⟨by rfl, fun V' hS => ?_⟩) hHeld ?_
  · go_simp
  simp only [Act.put, List.setIfInBounds_toArray, List.set_cons_zero, List.set_cons_succ]
  refine wpAnyH_take (i := 1) (v := .pointer (some ⟨q6, 0, none⟩)) op1 (by kernel_rfl) (by kernel_rfl) (by kernel_rfl) (fun _ _ _ h => h) (Or.inl ⟨by rfl, fun V' hS => ?_⟩) hHeld ?_
  · go_simp
  simp only [Act.put, List.setIfInBounds_toArray, List.set_cons_zero, List.set_cons_succ]
  refine wpAnyH_take (i := 2) (v := .int .i64 (c : Int)) op2 (by kernel_rfl) (by kernel_rfl) (by kernel_rfl) (fun _ _ _ h => h) (Or.inl ⟨by rfl, fun V' hS => ?_⟩) hHeld ?_
  · have k0 := hS.2.1.1
    go_simp
  simp only [Act.put, List.setIfInBounds_toArray, List.set_cons_zero, List.set_cons_succ]
  refine wpAnyH_take (i := 3) (v := .slice (some ⟨g, o, none⟩) L cap) op3 (by kernel_rfl) (by kernel_rfl) (by kernel_rfl) (fun _ _ _ h => h) (Or.inl ⟨by rfl, fun V' hS => ?_⟩) hHeld ?_
  · go_simp
  simp only [Act.put, List.setIfInBounds_toArray, List.set_cons_zero, List.set_cons_succ]
  refine wpAnyH_take (i := 4) (v := .int .i64 (A : Int)) op4 (by kernel_rfl) (by kernel_rfl) (by kernel_rfl) (fun _ _ _ h => h) (Or.inl ⟨by rfl, fun V' hS => ?_⟩) hHeld ?_
  · go_simp
  simp only [Act.put, List.setIfInBounds_toArray, List.set_cons_zero, List.set_cons_succ]
  refine wpAnyH_take (i := 5) (v := .int .i64 (B : Int)) op5 (by kernel_rfl) (by kernel_rfl) (by kernel_rfl) (fun _ _ _ h => h) (Or.inl ⟨by rfl, fun V' hS => ?_⟩) hHeld ?_
  · go_simp
  simp only [Act.put, List.setIfInBounds_toArray, List.set_cons_zero, List.set_cons_succ]
  refine wpAnyH_take (i := 6) (v := .int .i64 (N : Int)) op6 (by kernel_rfl) (by kernel_rfl) (by kernel_rfl) (fun _ _ _ h => h) (Or.inl ⟨by rfl, fun V' hS => ?_⟩) hHeld ?_
  · go_simp
  simp only [Act.put, List.setIfInBounds_toArray, List.set_cons_zero, List.set_cons_succ]
  refine wpAnyH_take (i := 7) (v := .slice (some ad') n (cap - B)) op7 (by kernel_rfl) (by kernel_rfl) (by kernel_rfl) (fun _ _ _ h => h) (Or.inl ⟨by rfl, fun V' hS => ?_⟩) hHeld ?_
  · have st := ST.out V'
    go_simp
  simp only [Act.put, List.setIfInBounds_toArray, List.set_cons_zero, List.set_cons_succ]
  refine wpAnyH_take (i := 9) (v := .int .i64 (N : Int)) op9 (by kernel_rfl) (by kernel_rfl) (by kernel_rfl) (fun _ _ _ h => h) (Or.inl ⟨by rfl, fun V' hS => ?_⟩) hHeld ?_
  · go_simp
  simp only [Act.put, List.setIfInBounds_toArray, List.set_cons_zero, List.set_cons_succ]
  refine wpAnyH_ready (rs := [8]) (by kernel_rfl) (by simp) ?_
  refine AllReadyH.cons op8 (fun K hK => ?_) AllReadyH.nil
  rw [if_pos (by rfl)]
  go_simp
  refine (copied_is z0 _ n _ nn (SB.out z0 hHeld.1)).mono ?_
  rintro e z1 ⟨rfl, hz1⟩
  have hB : Below z0.heap.size z0 z1 := by rw [hz1]; exact (Below.refl _ _).alloc (Nat.le_refl _) _
  have hF : Below w.heap.size w z1 ∧ Op7 z1 q6 (c : Int) s i1 i2 i3 i4 b5 ∧ InsA z1 w.heap.size := ⟨hHeld.1.trans (hB.mono hHeld.1.size), hHeld.2.1.past hB, hHeld.2.2.past hB⟩
  have OW : Hid (InsB z1 z0.heap.size n (fun j => b (B + j))) := ⟨HB2.out, by rw [hz1]; exact heap_alloc_new z0 _⟩
  have qz : w.heap.size < z0.heap.size := hHeld.2.2.lt
  have q9l : z0.heap.size < z1.heap.size := by rw [hz1]; simp
  clear hB hz1 hHeld
  generalize z0.heap.size = q9 at OW qz q9l ⊢
  (try go_wp2_with fail)
  refine hK.out _ _ hF (fun _ => ?_)
  clear hK K
  (try simp only [Act.put, List.setIfInBounds_toArray, List.set_cons_zero, List.set_cons_succ])
  refine wpAnyH_take (i := 10) (v := .agg #[.int .i64 (A : Int), .int .i64 (c : Int), .slice (some ⟨q9, 0, none⟩) n n, .int .i64 (N : Int)]) op10 (by kernel_rfl) (by kernel_rfl) (by kernel_rfl) (fun _ _ _ h => h) (Or.inl ⟨by rfl, fun V' hS => ?_⟩) hF ?_
  · go_simp
  simp only [Act.put, List.setIfInBounds_toArray, List.set_cons_zero, List.set_cons_succ]
  refine wpAnyH_ready (rs := [11]) (by kernel_rfl) (by simp) ?_
  refine AllReadyH.cons op11 (fun K hK => ?_) AllReadyH.nil
  rw [if_pos (by rfl)]
  obtain ⟨x0, x1, x2, x3, ⟨d0, d1, d2, d3⟩, f0, f1, f2, f3⟩ := hF.2.2
  have O6 := hF.2.1
  have ql := hF.2.2.lt
  have q67 : q6 ≠ w.heap.size := by omega
  have E5 : Hid (((((z1.setCell ⟨w.heap.size, 0, none⟩ (.int .i64 (A : Int))).setCell ⟨w.heap.size, 1, none⟩ (.int .i64 (c : Int))).setCell ⟨w.heap.size, 2, none⟩ (.slice (some ⟨q9, 0, none⟩) n n)).setCell ⟨w.heap.size, 3, none⟩ (.int .i64 (N : Int))).cell? ⟨w.heap.size, 0, none⟩ = some (.int .i64 (A : Int)) ∧ ((((z1.setCell ⟨w.heap.size, 0, none⟩ (.int .i64 (A : Int))).setCell ⟨w.heap.size, 1, none⟩ (.int .i64 (c : Int))).setCell ⟨w.heap.size, 2, none⟩ (.slice (some ⟨q9, 0, none⟩) n n)).setCell ⟨w.heap.size, 3, none⟩ (.int .i64 (N : Int))).cell? ⟨w.heap.size, 1, none⟩ = some (.int .i64 (c : Int)) ∧ ((((z1.setCell ⟨w.heap.size, 0, none⟩ (.int .i64 (A : Int))).setCell ⟨w.heap.size, 1, none⟩ (.int .i64 (c : Int))).setCell ⟨w.heap.size, 2, none⟩ (.slice (some ⟨q9, 0, none⟩) n n)).setCell ⟨w.heap.size, 3, none⟩ (.int .i64 (N : Int))).cell? ⟨w.heap.size, 2, none⟩ = some (.slice (some ⟨q9, 0, none⟩) n n) ∧ ((((z1.setCell ⟨w.heap.size, 0, none⟩ (.int .i64 (A : Int))).setCell ⟨w.heap.size, 1, none⟩ (.int .i64 (c : Int))).setCell ⟨w.heap.size, 2, none⟩ (.slice (some ⟨q9, 0, none⟩) n n)).setCell ⟨w.heap.size, 3, none⟩ (.int .i64 (N : Int))).cell? ⟨w.heap.size, 3, none⟩ = some (.int .i64 (N : Int))) := by refine ⟨?_, ?_, ?_, ?_⟩ <;> go_simp
  have G5 : Hid (((((z1.setCell ⟨w.heap.size, 0, none⟩ (.int .i64 (A : Int))).setCell ⟨w.heap.size, 1, none⟩ (.int .i64 (c : Int))).setCell ⟨w.heap.size, 2, none⟩ (.slice (some ⟨q9, 0, none⟩) n n)).setCell ⟨w.heap.size, 3, none⟩ (.int .i64 (N : Int))).frozen? ⟨w.heap.size, 0, none⟩ = false ∧ ((((z1.setCell ⟨w.heap.size, 0, none⟩ (.int .i64 (A : Int))).setCell ⟨w.heap.size, 1, none⟩ (.int .i64 (c : Int))).setCell ⟨w.heap.size, 2, none⟩ (.slice (some ⟨q9, 0, none⟩) n n)).setCell ⟨w.heap.size, 3, none⟩ (.int .i64 (N : Int))).frozen? ⟨w.heap.size, 1, none⟩ = false ∧ ((((z1.setCell ⟨w.heap.size, 0, none⟩ (.int .i64 (A : Int))).setCell ⟨w.heap.size, 1, none⟩ (.int .i64 (c : Int))).setCell ⟨w.heap.size, 2, none⟩ (.slice (some ⟨q9, 0, none⟩) n n)).setCell ⟨w.heap.size, 3, none⟩ (.int .i64 (N : Int))).frozen? ⟨w.heap.size, 2, none⟩ = false ∧ ((((z1.setCell ⟨w.heap.size, 0, none⟩ (.int .i64 (A : Int))).setCell ⟨w.heap.size, 1, none⟩ (.int .i64 (c : Int))).setCell ⟨w.heap.size, 2, none⟩ (.slice (some ⟨q9, 0, none⟩) n n)).setCell ⟨w.heap.size, 3, none⟩ (.int .i64 (N : Int))).frozen? ⟨w.heap.size, 3, none⟩ = false) := by refine ⟨?_, ?_, ?_, ?_⟩ <;> go_simp
  have P5 : Op7 ((((z1.setCell ⟨w.heap.size, 0, none⟩ (.int .i64 (A : Int))).setCell ⟨w.heap.size, 1, none⟩ (.int .i64 (c : Int))).setCell ⟨w.heap.size, 2, none⟩ (.slice (some ⟨q9, 0, none⟩) n n)).setCell ⟨w.heap.size, 3, none⟩ (.int .i64 (N : Int))) q6 (c : Int) s i1 i2 i3 i4 b5 := by obtain ⟨p0, p1, p2, p3, p4, p5, p6⟩ := O6; refine ⟨?_, ?_, ?_, ?_, ?_, ?_, ?_⟩ <;> go_simp
  have F5 : Below w.heap.size w ((((z1.setCell ⟨w.heap.size, 0, none⟩ (.int .i64 (A : Int))).setCell ⟨w.heap.size, 1, none⟩ (.int .i64 (c : Int))).setCell ⟨w.heap.size, 2, none⟩ (.slice (some ⟨q9, 0, none⟩) n n)).setCell ⟨w.heap.size, 3, none⟩ (.int .i64 (N : Int))) := by repeat' (first | with_reducible exact hF.1 | with_reducible refine Below.setCell ?_ ?_ _ | (simp; done) | (simp; omega))
  have W5 : Hid (InsB ((((z1.setCell ⟨w.heap.size, 0, none⟩ (.int .i64 (A : Int))).setCell ⟨w.heap.size, 1, none⟩ (.int .i64 (c : Int))).setCell ⟨w.heap.size, 2, none⟩ (.slice (some ⟨q9, 0, none⟩) n n)).setCell ⟨w.heap.size, 3, none⟩ (.int .i64 (N : Int))) q9 n (fun j => b (B + j))) := InsB.other (InsB.other (InsB.other (InsB.other OW.out (by omega)) (by omega)) (by omega)) (by omega)
  have L5 : Hid (q9 < ((((z1.setCell ⟨w.heap.size, 0, none⟩ (.int .i64 (A : Int))).setCell ⟨w.heap.size, 1, none⟩ (.int .i64 (c : Int))).setCell ⟨w.heap.size, 2, none⟩ (.slice (some ⟨q9, 0, none⟩) n n)).setCell ⟨w.heap.size, 3, none⟩ (.int .i64 (N : Int))).heap.size) := by unfold Hid; simp; omega
  go_simp
  generalize (((z1.setCell ⟨w.heap.size, 0, none⟩ (.int .i64 (A : Int))).setCell ⟨w.heap.size, 1, none⟩ (.int .i64 (c : Int))).setCell ⟨w.heap.size, 2, none⟩ (.slice (some ⟨q9, 0, none⟩) n n)).setCell ⟨w.heap.size, 3, none⟩ (.int .i64 (N : Int)) = z2 at E5 G5 P5 F5 W5 L5 ⊢
  have hF2 : Below w.heap.size w z2 ∧ Op7 z2 q6 (c : Int) s i1 i2 i3 i4 b5 ∧ InsA z2 w.heap.size := ⟨F5, P5, _, _, _, _, E5.out, G5.out⟩
  clear d0 d1 d2 d3 f0 f1 f2 f3 hF OW
  refine hK.out _ _ hF2 (fun _ => ?_)
  clear hK K
  (try simp only [Act.put, List.setIfInBounds_toArray, List.set_cons_zero, List.set_cons_succ])
  refine wpAnyH_take (i := 12) (v := .int .i64 0) op12 (by kernel_rfl) (by kernel_rfl) (by kernel_rfl) (fun _ _ _ h => h) (Or.inl ⟨by rfl, fun V' hS => ?_⟩) hF2 ?_
  · go_simp
  simp only [Act.put, List.setIfInBounds_toArray, List.set_cons_zero, List.set_cons_succ]
  refine wpAnyH_done (by kernel_rfl) ?_ _
  obtain ⟨d0, d1, d2, d3⟩ := E5.out
  go_wp2
  refine ⟨rfl, _, (results_cell_tmp rfl _ _ _).trans ?_, q9, by omega, L5.out, rfl, F5, ?_⟩
  · go_simp
  · have := W5.out; exact this
end Go.Proofs.YtcjmbpchdeapiaaDoor
