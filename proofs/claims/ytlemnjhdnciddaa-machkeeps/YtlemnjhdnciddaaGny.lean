/- gather: a word out of its bytes; FromBytes; Size. -/
import Derived.Test.YtlemnjhdnciddaaGnx
namespace Go.Proofs.Ytlemnjhdnciddaa
open Go.RowKit
/-- the first n cells of block b are the numbers v, and may be written -/
def RowV (w : World) (b n : Nat) (v : Nat → Int) : Prop := ∀ i, i < n → w.cell? ⟨b, i, none⟩ = some (.int .u64 (v i)) ∧ w.frozen? ⟨b, i, none⟩ = false
theorem RowV.ext {w : World} {b n : Nat} {u v : Nat → Int} (h : RowV w b n u) (e : ∀ i, i < n → u i = v i) : RowV w b n v := fun i hi => by rw [← e i hi]; exact h i hi
theorem RowV.lt {w : World} {b n : Nat} {v : Nat → Int} (h : RowV w b n v) (hn : 0 < n) : b < w.heap.size := World.block_lt_of_cell? w _ (h 0 hn).1
theorem RowV.below {w w' : World} {B b n : Nat} {v : Nat → Int} (h : RowV w b n v) (k : Below B w w') (hb : b < B) : RowV w' b n v := fun i hi =>
  ⟨(k.cell (p := ⟨b, i, none⟩) hb).trans (h i hi).1, (k.frozen (p := ⟨b, i, none⟩) hb).trans (h i hi).2⟩
theorem RowV.alloc {w : World} {b n : Nat} {v : Nat → Int} (h : RowV w b n v) (o : Obj) : RowV (w.alloc o) b n v := fun i hi => by
  have hb := World.block_lt_of_cell? w _ (h i hi).1
  exact ⟨by rw [World.cell?_alloc_lt _ _ _ hb]; exact (h i hi).1, by rw [World.frozen?_alloc_past _ _ _ hb]; exact (h i hi).2⟩
theorem RowV.set_other {w : World} {b n : Nat} {v : Nat → Int} (h : RowV w b n v) (p : Addr) (x : Value) (hp : p.block ≠ b) : RowV (w.setCell p x) b n v := fun i hi =>
  ⟨by rw [World.cell?_setCell_other _ _ _ _ (by intro e; subst e; exact hp rfl)]; exact (h i hi).1, by rw [World.frozen?_setCell]; exact (h i hi).2⟩
theorem RowV.set {w : World} {b n : Nat} {v : Nat → Int} (h : RowV w b n v) (k : Nat) (x : Int) (hk : k < n) : RowV (w.setCell ⟨b, k, none⟩ (.int .u64 x)) b n (fun i => if i = k then x else v i) := fun i hi => by
  refine ⟨?_, by rw [World.frozen?_setCell]; exact (h i hi).2⟩
  dsimp only
  by_cases e : i = k
  · subst e; rw [World.cell?_setCell_same _ _ _ (h i hi).1, if_pos rfl]
  · rw [World.cell?_setCell_other _ _ _ _ (by intro e'; injection e' with _ e' _; exact e e'.symm), if_neg e]; exact (h i hi).1
theorem RowV.box {w : World} {b : Nat} {a0 a1 a2 a3 : Int} (h : Box w b a0 a1 a2 a3) : RowV w b 4 (limb a0 a1 a2 a3) := fun i hi => ⟨h.1 i hi, h.2 i hi⟩
theorem RowV.toBox {w : World} {b : Nat} {a0 a1 a2 a3 : Int} (h : RowV w b 4 (limb a0 a1 a2 a3)) : Box w b a0 a1 a2 a3 := ⟨fun i hi => (h i hi).1, fun i hi => (h i hi).2⟩
/-- of a word the bytes from number m on -/
def keep (x0 x1 x2 x3 : Int) (m q : Nat) : Int := limb x0 x1 x2 x3 q / 2 ^ (8 * min 8 (m - 8 * q)) * 2 ^ (8 * min 8 (m - 8 * q))
theorem keep_nat (l r : Nat) : l / 2 ^ (8 * r + 8) * 2 ^ (8 * r + 8) ||| (l / 2 ^ (8 * r) % 256) * 2 ^ (8 * r) = l / 2 ^ (8 * r) * 2 ^ (8 * r) := by
  have e8 : 2 ^ (8 * r + 8) = 2 ^ (8 * r) * 256 := by rw [Nat.pow_add]
  have hb : (l / 2 ^ (8 * r) % 256) * 2 ^ (8 * r) < 2 ^ (8 * r + 8) := by
    rw [e8, Nat.mul_comm (2 ^ (8 * r)) 256]
    exact Nat.mul_lt_mul_of_pos_right (Nat.mod_lt _ (by decide)) (Nat.two_pow_pos _)
  rw [← Nat.shiftLeft_eq (l / 2 ^ (8 * r + 8)), ← Nat.shiftLeft_add_eq_or_of_lt hb, Nat.shiftLeft_eq, e8, ← Nat.div_div_eq_div_mul]
  generalize 2 ^ (8 * r) = P
  generalize l / P = d
  rw [Nat.mul_comm P 256, ← Nat.mul_assoc, ← Nat.add_mul, Nat.mul_comm (d / 256) 256, Nat.div_add_mod]
theorem keep_step {x0 x1 x2 x3 : Int} (m q r : Nat) (hx : U64 (limb x0 x1 x2 x3 q)) (hq : q = m / 8) (hr : r = m % 8) : bits .or .u64 (keep x0 x1 x2 x3 (m + 1) q) (bw x0 x1 x2 x3 m * 2 ^ (8 * r)) = keep x0 x1 x2 x3 m q ∧ 0 ≤ bw x0 x1 x2 x3 m * 2 ^ (8 * r) ∧ bw x0 x1 x2 x3 m * 2 ^ (8 * r) < 18446744073709551616 := by
  obtain ⟨l, hl⟩ := Int.eq_ofNat_of_zero_le hx.1
  have hlt := hx.2
  unfold Bd at hlt
  have s1 : 8 * min 8 (m + 1 - 8 * q) = 8 * r + 8 := by omega
  have s2 : 8 * min 8 (m - 8 * q) = 8 * r := by omega
  have hr8 : r ≤ 7 := by omega
  unfold keep bw
  rw [s1, s2, ← hq, ← hr, hl]
  rw [hl] at hlt
  have hl9 : l < 18446744073709551616 := by omega
  have e1 : (l : Int) / 2 ^ (8 * r + 8) * 2 ^ (8 * r + 8) = ((l / 2 ^ (8 * r + 8) * 2 ^ (8 * r + 8) : Nat) : Int) := by
    rw [Int.natCast_mul, Int.natCast_ediv, Int.natCast_pow]; rfl
  have e2 : (l : Int) / 2 ^ (8 * r) % 256 * 2 ^ (8 * r) = (((l / 2 ^ (8 * r) % 256) * 2 ^ (8 * r) : Nat) : Int) := by
    rw [Int.natCast_mul, Int.natCast_emod, Int.natCast_ediv, Int.natCast_pow]; rfl
  have e3 : (l : Int) / 2 ^ (8 * r) * 2 ^ (8 * r) = ((l / 2 ^ (8 * r) * 2 ^ (8 * r) : Nat) : Int) := by
    rw [Int.natCast_mul, Int.natCast_ediv, Int.natCast_pow]; rfl
  have b1 : l / 2 ^ (8 * r + 8) * 2 ^ (8 * r + 8) < 18446744073709551616 := Nat.lt_of_le_of_lt (Nat.div_mul_le_self _ _) hl9
  have b2 : (l / 2 ^ (8 * r) % 256) * 2 ^ (8 * r) < 18446744073709551616 := by
    have h1 : (l / 2 ^ (8 * r) % 256) * 2 ^ (8 * r) ≤ l := Nat.le_trans (Nat.mul_le_mul_right _ (Nat.mod_le _ _)) (Nat.div_mul_le_self _ _)
    omega
  rw [e1, e2, e3, u64_or_nat _ _ b1 b2, keep_nat]
  exact ⟨rfl, by omega, by omega⟩
theorem keep_other (x0 x1 x2 x3 : Int) (m i : Nat) (h : i ≠ m / 8) : keep x0 x1 x2 x3 (m + 1) i = keep x0 x1 x2 x3 m i := by
  unfold keep
  rw [show min 8 (m + 1 - 8 * i) = min 8 (m - 8 * i) by omega]
theorem keep_zero (x0 x1 x2 x3 : Int) (i : Nat) : keep x0 x1 x2 x3 0 i = limb x0 x1 x2 x3 i := by
  unfold keep
  rw [show 8 * min 8 (0 - 8 * i) = 0 by omega]; simp
def GInv (w : World) (x0 x1 x2 x3 : Int) (m : Nat) (W : World) : Prop := Below w.heap.size w W ∧ Box W w.heap.size 0 0 0 0 ∧ RowV W (w.heap.size + 1) 4 (keep x0 x1 x2 x3 m)
theorem GInv.step {w W : World} {x0 x1 x2 x3 : Int} {m q : Nat} (h : GInv w x0 x1 x2 x3 (m + 1) W) (hq : q = m / 8) (hm : m < 32) {y : Int} (ey : keep x0 x1 x2 x3 m q = y) : GInv w x0 x1 x2 x3 m (W.setCell ⟨w.heap.size + 1, q, none⟩ (.int .u64 y)) := by
  obtain ⟨hB, hA, hR⟩ := h
  refine ⟨hB.setCell (by simp) _, hA.other _ _ (by simp), (hR.set q y (by omega)).ext fun i hi => ?_⟩
  by_cases e : i = q
  · rw [if_pos e, e, ey]
  · rw [if_neg e]; exact keep_other _ _ _ _ _ _ (by omega)
set_option maxHeartbeats 1000000 in
set_option maxRecDepth 100000 in
theorem gather_is (x0 x1 x2 x3 : Int) (g o n c : Nat) (w : World) (hn : n ≤ 32) (hx : ∀ q, U64 (limb x0 x1 x2 x3 q)) (hz : ∀ q, q < 4 → keep x0 x1 x2 x3 n q = 0) (hb : ∀ i, i < n → w.cell? ⟨g, o + i, none⟩ = some (.int .u8 (bw x0 x1 x2 x3 (n - 1 - i)))) : Calls Try.prog 49 #[.slice (some ⟨g, o, none⟩) n c] w fun e w' => e = .returned (.agg #[.int .u64 x0, .int .u64 x1, .int .u64 x2, .int .u64 x3]) ∧ Below w.heap.size w w' := by
  have HX : Hid (∀ q, U64 (limb x0 x1 x2 x3 q)) := hx
  have HBb : Hid (∀ i, i < n → w.cell? ⟨g, o + i, none⟩ = some (.int .u8 (bw x0 x1 x2 x3 (n - 1 - i)))) := hb
  have nI : (n : Int) ≤ 32 := by omega
  have I0 : Hid (∀ W, W = ((w.alloc (.cells #[.int .u64 0, .int .u64 0, .int .u64 0, .int .u64 0] 30)).alloc (.cells #[.int .u64 0, .int .u64 0, .int .u64 0, .int .u64 0] 30)) → GInv w x0 x1 x2 x3 n W) := fun W e => by
    subst e
    have h2 := Box.new (w.alloc (.cells #[.int .u64 0, .int .u64 0, .int .u64 0, .int .u64 0] 30)) 30 0 0 0 0
    rw [World.size_alloc] at h2
    refine ⟨by repeat' (first | with_reducible exact Below.refl _ _ | with_reducible exact Below.refl _ _ | with_reducible refine Below.drew ?_ | with_reducible refine bdrewN ?_ _ | with_reducible refine Below.alloc ?_ ?_ _ | with_reducible refine Below.setCell ?_ ?_ _ | omega | (simp; done) | (simp; omega)), (Box.new w 30 0 0 0 0).alloc _, (RowV.box h2).ext fun i hi => ?_⟩
    rw [hz i hi]
    obtain rfl | rfl | rfl | rfl : i = 0 ∨ i = 1 ∨ i = 2 ∨ i = 3 := by omega
    all_goals rfl
  clear hx hb hz
  go_enter Try.func49, Try.ntmps49
  go_wp2
  go_loopw [9] (fun si wr => ∃ k m : Nat, m + k = n ∧ si = .int .i64 k ∧ GInv w x0 x1 x2 x3 m wr) (fun si _ => n - (intOf si).toNat)
  case atStart => exact ⟨0, n, by omega, rfl, I0.out _ rfl⟩
  case round =>
    obtain ⟨k, m, hk, rfl, hI⟩ := hrel
    clear I0
    by_cases hk5 : k < n
    · have kI : ((k : Int) < (n : Int)) := by omega
      obtain ⟨m, rfl⟩ : ∃ m', m = m' + 1 := ⟨m - 1, by omega⟩
      obtain ⟨q, eq⟩ : ∃ d : Nat, d = m / 8 := ⟨_, rfl⟩
      obtain ⟨r, er⟩ : ∃ r : Nat, r = m % 8 := ⟨_, rfl⟩
      obtain ⟨s, es⟩ : ∃ s : Nat, s = 8 * r := ⟨_, rfl⟩
      have t0 : (n : Int) - 1 - (k : Int) = (m : Int) := by omega
      have t1 : Int.tdiv (m : Int) 8 = (q : Int) := by rw [Int.tdiv_eq_ediv_of_nonneg (by omega)]; omega
      have t2 : Int.tmod (m : Int) 8 = (r : Int) := by rw [Int.tmod_eq_emod_of_nonneg (by omega)]; omega
      have t3 : (8 : Int) * (r : Int) = (s : Int) := by omega
      have q1 : IntKind.i64.wrap (q : Int) = (q : Int) := by rw [IntKind.wrap_i64]; omega
      have q2 : IntKind.i64.wrap (r : Int) = (r : Int) := by rw [IntKind.wrap_i64]; omega
      have q3 : IntKind.i64.wrap (s : Int) = (s : Int) := by rw [IntKind.wrap_i64]; omega
      have q4 : IntKind.u64.wrap (s : Int) = (s : Int) := by rw [IntKind.wrap_u64]; omega
      have q5 : min s 64 = s := by omega
      have qI : (q : Int) < 4 := by omega
      have sI : (0 : Int) ≤ (s : Int) := by omega
      have st := keep_step (x0 := x0) (x1 := x1) (x2 := x2) (x3 := x3) m q r (HX.out q) eq er
      rw [← es] at st
      have cb0 := HBb.out k hk5
      rw [show n - 1 - k = m by omega] at cb0
      have cb := (hI.1.cell (p := ⟨g, o + k, none⟩) (World.block_lt_of_cell? w _ cb0)).trans cb0
      have ca := (hI.2.2 q (by omega)).1
      have fa := (hI.2.2 q (by omega)).2
      have yr : 0 ≤ bw x0 x1 x2 x3 m ∧ bw x0 x1 x2 x3 m < 256 := by unfold bw; omega
      obtain ⟨z, ez⟩ : ∃ z, keep x0 x1 x2 x3 m q = z := ⟨_, rfl⟩
      rw [ez] at st
      have HI : Hid (GInv w x0 x1 x2 x3 (m + 1) wr) := hI
      have EZ : Hid (keep x0 x1 x2 x3 m q = z) := ez
      have EQ : Hid (q = m / 8) := eq
      have EM : Hid (m + 1 + k = n) := hk
      generalize keep x0 x1 x2 x3 (m + 1) q = u at ca st
      generalize bw x0 x1 x2 x3 m = y at cb st yr
      have wy : IntKind.u64.wrap y = y := by rw [IntKind.wrap_u64]; omega
      obtain ⟨st1, st2, st3⟩ := st
      have ws : IntKind.u64.wrap (y * 2 ^ s) = y * 2 ^ s := by rw [IntKind.wrap_u64]; omega
      clear hk eq er es cb0 hI yr ez st2 st3
      go_wp2
      go_roundw
      case rel => exact ⟨k + 1, m, by have := EM.out; omega, by go_num, GInv.step HI.out EQ.out (by have := EM.out; omega) EZ.out⟩
      case measure => simp [intOf]; omega
    · obtain rfl : m = 0 := by omega
      obtain rfl : k = n := by omega
      have kI : ¬ ((k : Int) < (k : Int)) := by omega
      obtain ⟨hB, hA, hR⟩ := hI
      have hX : Box wr (w.heap.size + 1) x0 x1 x2 x3 := RowV.toBox (hR.ext fun i _ => keep_zero x0 x1 x2 x3 i)
      have HB : Hid (Below w.heap.size w wr) := hB
      clear hR hB
      obtain ⟨p0, p1, p2, p3, _⟩ := Box.facts hX
      obtain ⟨r0, r1, r2, r3, f0, f1, f2, f3⟩ := Box.facts hA
      clear hX hA
      go_wp2
      exact bodyPost_ret (v := .agg #[.int .u64 x0, .int .u64 x1, .int .u64 x2, .int .u64 x3]) (by simp [results, Try.results49, go_sem, r0, r1, r2, r3]) rfl ⟨rfl, below_put HB.out (Nat.le_refl _) x0 x1 x2 x3⟩
set_option maxHeartbeats 1000000 in
theorem fromBytes_is (x0 x1 x2 x3 : Int) (g o n c : Nat) (w : World) (hn : n ≤ 32) (hx : ∀ q, U64 (limb x0 x1 x2 x3 q)) (hz : ∀ q, q < 4 → keep x0 x1 x2 x3 n q = 0) (hb : ∀ i, i < n → w.cell? ⟨g, o + i, none⟩ = some (.int .u8 (bw x0 x1 x2 x3 (n - 1 - i)))) : Calls Try.prog 28 #[.slice (some ⟨g, o, none⟩) n c] w fun e w' => e = .returned (.tuple #[.agg #[.int .u64 x0, .int .u64 x1, .int .u64 x2, .int .u64 x3], .int .i64 0]) ∧ Below w.heap.size w w' := by
  have nI : (n : Int) ≤ 32 := by omega
  have I0 : Hid (∀ W, W = w.alloc (.cells #[.int .u64 0, .int .u64 0, .int .u64 0, .int .u64 0] 30) → Below w.heap.size w W ∧ Box W w.heap.size 0 0 0 0 ∧ Calls Try.prog 49 #[.slice (some ⟨g, o, none⟩) n c] W fun e w' => e = .returned (.agg #[.int .u64 x0, .int .u64 x1, .int .u64 x2, .int .u64 x3]) ∧ Below W.heap.size W w') := fun W e => by
    subst e
    exact ⟨(Below.refl _ _).alloc (Nat.le_refl _) _, Box.new w 30 0 0 0 0, gather_is x0 x1 x2 x3 g o n c _ hn hx hz fun i hi => (((Below.refl w.heap.size w).alloc (Nat.le_refl _) _).cell (p := ⟨g, o + i, none⟩) (World.block_lt_of_cell? w _ (hb i hi))).trans (hb i hi)⟩
  clear hx hz hb
  go_enter Try.func28, Try.ntmps28
  go_wp2_with fail
  obtain ⟨W0, e0⟩ : ∃ W0, W0 = w.alloc (.cells #[.int .u64 0, .int .u64 0, .int .u64 0, .int .u64 0] 30) := ⟨_, rfl⟩
  obtain ⟨b0, b1, b2⟩ := I0.out W0 e0
  have A0 : Hid (Below w.heap.size w W0) := b0
  have A1 : Hid (Box W0 w.heap.size 0 0 0 0) := b1
  rw [← e0]
  clear e0 b0 b1 I0
  refine b2.mono ?_
  rintro e v1 ⟨rfl, hB⟩
  have C0 : Hid (Below w.heap.size w v1) := Below.trans A0.out (hB.mono A0.out.size)
  have C1 : Hid (Box v1 w.heap.size 0 0 0 0) := Box.below A1.out hB (Box.lt A1.out)
  clear hB A0 A1
  obtain ⟨r0, r1, r2, r3, f0, f1, f2, f3⟩ := Box.facts C1.out
  go_wp2
  exact bodyPost_ret (v := .tuple #[.agg #[.int .u64 x0, .int .u64 x1, .int .u64 x2, .int .u64 x3], .int .i64 0]) (by simp [results, Try.results28, go_sem, r0, r1, r2, r3]) rfl ⟨rfl, below_put C0.out (Nat.le_refl _) x0 x1 x2 x3⟩
end Go.Proofs.Ytlemnjhdnciddaa
