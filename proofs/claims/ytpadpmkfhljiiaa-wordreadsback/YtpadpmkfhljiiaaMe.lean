/- word.write: a number's digits as a text. -/
import Derived.Test.YtpadpmkfhljiiaaMa
import Derived.Test.YtpadpmkfhljiiaaBa
import Derived.Test.YtpadpmkfhljiiaaWis
import Derived.Laws.BytesString
namespace Go.Proofs.Ytpadpmkfhljiiaa
open Go.RowKit
/-- the sign of a digit -/
def sgn16 (d : Nat) : Nat := if d < 10 then 48 + d else 87 + d
theorem sgn16_lt (d : Nat) (h : d < 16) : sgn16 d < 256 := by unfold sgn16; split <;> omega
/-- so many digits a number has -/
def NDig (B N n : Nat) : Prop := 0 < n ∧ N / B ^ n = 0 ∧ ∀ j, 0 < j → j < n → N / B ^ j ≠ 0
theorem NDig.uniq {B N n m : Nat} (h : NDig B N n) (k : NDig B N m) : n = m := by
  obtain ⟨h1, h2, h3⟩ := h
  obtain ⟨k1, k2, k3⟩ := k
  rcases Nat.lt_trichotomy n m with h | h | h
  · exact absurd h2 (k3 n h1 h)
  · exact h
  · exact absurd k2 (h3 m k1 h)
/-- bytes as a text -/
def txt (u : Nat → Nat) (n : Nat) : ByteArray := ((List.range n).map fun i => (u i : Int)).foldl (fun r m => r.push (UInt8.ofNat m.toNat)) ByteArray.empty
theorem txt_ext {u v : Nat → Nat} {n : Nat} (h : ∀ i, i < n → u i = v i) : txt u n = txt v n := by
  unfold txt
  rw [List.map_congr_left (g := fun i => (v i : Int)) (fun i hi => by rw [h i (List.mem_range.1 hi)])]
/-- a number of n digits, told -/
def tell (B N n : Nat) : ByteArray := txt (fun i => sgn16 (N / B ^ (n - 1 - i) % B)) n
theorem zero78 (w : World) : (zeroValue 98).run Try.prog w = .ok (.agg (rowB 78 (fun _ => 0)).toArray) w := by kernel_rfl
theorem alloc78 {ops : Array Oper} {rest : List Oper} {op : Oper} {a : Act} {w : World} {Q : Exit → Act → World → Prop} (hgd : op.guard = none) (ho : op.op = .alloc 98)
    (h : ∀ W, RowB W w.heap.size 78 (fun _ => 0) → Below w.heap.size w W → wpList Try.prog ops Q rest (a.put op.dst (.pointer (some ⟨w.heap.size, 0, none⟩))) W) : wpList Try.prog ops Q (op :: rest) a w := by
  refine wpList_plain hgd fun K hK => ?_
  unfold Oper.wp execOp
  simp only [ho, Sem.run_bind, Instr.alloc, zero78, newVar, newRow, run_newObj_alloc, Sem.run_pure, Result.andThen_ok, Value.cells]
  exact hK _ _ (h _ (RowB.new _ _ _ _) ((Below.refl _ _).alloc (Nat.le_refl _) _))
theorem slice78 (g q d : Nat) (hq : q + d = 78) (hd : 0 < d) (W : World) : Sem.run Try.prog (Instr.sliceAt 98 (.pointer (some ⟨g, 0, none⟩)) (some (.int .i64 (q : Int))) none none) W = .ok (.slice (some ⟨g, q, none⟩) d d) W := by
  have h32 : Try.prog.arrayLen 98 = 78 := by kernel_rfl
  have sz : Sem.run Try.prog (sizeOf (Try.prog.elem 98)) W = .ok 1 W := by kernel_rfl
  rw [run_sliceAt_array_l W 98 ⟨g, 0, none⟩ (by kernel_rfl) .i64 (q : Int) (by omega) (by rw [h32]; omega), sz, h32, Result.andThen_ok]
  unfold slicedAt
  rw [Int.toNat_natCast, show 78 - q = d by omega, if_neg (by omega)]
  simp [Addr.add]; omega
theorem convT (W : World) (g o n cap : Nat) (u : Nat → Nat) (h : ∀ i, i < n → W.cell? ⟨g, o + i, none⟩ = some (.int .u8 (u i : Int))) : (convert 44 9 (.slice (some ⟨g, o, none⟩) n cap)).run Try.prog W = .ok (.string (txt u n)) W := by
  rw [run_convert_bytes_string W _ _ _ _ _ _ Try.underlying44 Try.underlying5 Try.underlying9]
  have hl : (loadCells ⟨g, o, none⟩ n).run Try.prog W = .ok (((List.range n).map fun i => (u i : Int)).map (Value.int .u8)).toArray W := by
    have hh := run_loadCells_list (P := Try.prog) W ⟨g, o, none⟩ (((List.range n).map fun i => (u i : Int)).map (Value.int .u8)) (fun j v hv => by
      have hj : j < n := by have := (List.getElem?_eq_some_iff.1 hv).1; simpa using this
      rw [Addr.add_mid, h j hj]
      simp [hj] at hv
      rw [← hv])
    simpa using hh
  rw [run_bytesToString W ⟨g, o, none⟩ n cap _ hl]
  rfl
def figs : ByteArray := ⟨#[48, 49, 50, 51, 52, 53, 54, 55, 56, 57, 97, 98, 99, 100, 101, 102]⟩
theorem figs_at : ∀ d : Nat, d < 16 → (figs[d]?.map UInt8.toNat) = some (sgn16 d) := by decide
theorem figs_ix (k : IntKind) (d : Nat) (hd : d < 16) (W : World) : Sem.run Try.prog (Instr.index 9 (.string ⟨#[48, 49, 50, 51, 52, 53, 54, 55, 56, 57, 97, 98, 99, 100, 101, 102]⟩) (.int k (d : Int))) W = .ok (.int .u8 (sgn16 d : Int)) W := by
  have hs : d < figs.size := hd
  show Sem.run Try.prog (Instr.index 9 (.string figs) (.int k (d : Int))) W = .ok (.int .u8 (sgn16 d : Int)) W
  rw [run_index_string W 9 figs k (d : Int) Try.underlying9, dif_pos ⟨by omega, by omega⟩]
  have h := figs_at d hd
  have e : figs[d]? = some figs[d] := by simp [hs]
  rw [e] at h
  have h2 := Option.some.inj h
  simp only [Int.toNat_natCast]
  rw [h2]
theorem isZero_nat (q0 q1 q2 q3 M : Nat) (h0 : q0 < 18446744073709551616) (h1 : q1 < 18446744073709551616) (h2 : q2 < 18446744073709551616) (h3 : q3 < 18446744073709551616) (e : M = q0 + 18446744073709551616 * (q1 + 18446744073709551616 * (q2 + 18446744073709551616 * q3))) (z : Bool) (hz : decide (M = 0) = z) (w : World) :
    Calls Try.prog 26 #[.agg #[.int .u64 (q0 : Int), .int .u64 (q1 : Int), .int .u64 (q2 : Int), .int .u64 (q3 : Int)]] w fun e w' => e = .returned (.bool z) ∧ Below w.heap.size w w' := by
  have u0 : U64 (q0 : Int) := ⟨by omega, by unfold Bd; omega⟩
  have u1 : U64 (q1 : Int) := ⟨by omega, by unfold Bd; omega⟩
  have u2 : U64 (q2 : Int) := ⟨by omega, by unfold Bd; omega⟩
  have u3 : U64 (q3 : Int) := ⟨by omega, by unfold Bd; omega⟩
  refine isZero_is _ _ _ _ w (isW_mk u0 u1 u2 u3) z ?_
  rw [← hz]
  have h := V_range u0 u1 u2 u3
  rw [Int.emod_eq_of_lt h.1 h.2]
  apply decide_eq_decide.2
  unfold V Bd
  omega
/-- behind k digits -/
def WrInv (w : World) (B N k b : Nat) (W : World) : Prop := (∃ A0 A1 A2 A3 : Nat, (A0 < 18446744073709551616 ∧ A1 < 18446744073709551616 ∧ A2 < 18446744073709551616 ∧ A3 < 18446744073709551616) ∧ N / B ^ k = A0 + 18446744073709551616 * (A1 + 18446744073709551616 * (A2 + 18446744073709551616 * A3)) ∧ Bx w [(w.heap.size, (A0 : Int), (A1 : Int), (A2 : Int), (A3 : Int))] W) ∧
  ∃ u : Nat → Int, RowB W b 78 u ∧ ∀ j, j < k → u (77 - j) = (sgn16 (N / B ^ j % B) : Int)
theorem RowB.pastT {w w' : World} {b n : Nat} {v : Nat → Int} (h : RowB w b n v) (k : Below w.heap.size w w') : RowB w' b n v := fun i hi =>
  have hb := World.block_lt_of_cell? w _ (h i hi).1
  ⟨(k.cell (p := ⟨b, i, none⟩) hb).trans (h i hi).1, (k.frozen (p := ⟨b, i, none⟩) hb).trans (h i hi).2⟩
set_option maxHeartbeats 4000000 in
set_option maxRecDepth 100000 in
theorem write_is (A0 A1 A2 A3 B N : Nat) (l0 : A0 < 18446744073709551616) (l1 : A1 < 18446744073709551616) (l2 : A2 < 18446744073709551616) (l3 : A3 < 18446744073709551616) (hN : N = A0 + 18446744073709551616 * (A1 + 18446744073709551616 * (A2 + 18446744073709551616 * A3))) (hB : 10 ≤ B) (hB2 : B ≤ 16) (w : World) :
    Calls Try.prog 93 #[.agg #[.int .u64 (A0 : Int), .int .u64 (A1 : Int), .int .u64 (A2 : Int), .int .u64 (A3 : Int)], .int .u64 (B : Int)] w fun e w' => ∃ n, NDig B N n ∧ n ≤ 78 ∧ e = .returned (.string (tell B N n)) ∧ Below w.heap.size w w' := by
  have HB : Hid (10 ≤ B ∧ B ≤ 16) := ⟨hB, hB2⟩
  have HN : Hid (N < 10 ^ 78) := by show N < 10 ^ 78; omega
  have K0 : Hid (Bx w [(w.heap.size, (A0 : Int), (A1 : Int), (A2 : Int), (A3 : Int))] (w.alloc (.cells #[.int .u64 (A0 : Int), .int .u64 (A1 : Int), .int .u64 (A2 : Int), .int .u64 (A3 : Int)] 24)) ∧ (A0 < 18446744073709551616 ∧ A1 < 18446744073709551616 ∧ A2 < 18446744073709551616 ∧ A3 < 18446744073709551616) ∧ N = A0 + 18446744073709551616 * (A1 + 18446744073709551616 * (A2 + 18446744073709551616 * A3))) := ⟨(Bx.start w).alloc _ _ _ _, ⟨l0, l1, l2, l3⟩, hN⟩
  clear l0 l1 l2 l3 hN hB hB2
  go_enter Try.func93, Try.ntmps93
  go_upto_region 1 with fail
  generalize w.alloc (.cells #[.int .u64 (A0 : Int), .int .u64 (A1 : Int), .int .u64 (A2 : Int), .int .u64 (A3 : Int)] 24) = W0 at K0 ⊢
  go_upto_region 2 with (refine alloc78 rfl rfl ?_; intro W1 hr hb)
  have K1 : Hid (WrInv w B N 0 W0.heap.size W1 ∧ w.heap.size < W0.heap.size) := by
    obtain ⟨h1, h2, h3⟩ := K0.out
    exact ⟨⟨⟨A0, A1, A2, A3, h2, by rw [Nat.pow_zero, Nat.div_one]; exact h3, h1.past hb⟩, _, hr, fun j hj => absurd hj (by omega)⟩, h1.lt _ (List.Mem.head _)⟩
  generalize W0.heap.size = b at K1 ⊢
  clear hr hb K0
  have lb := K1.out.2
  go_wp2
  go_loopw [6] (fun s6 wr => ∃ k t : Nat, s6 = .int .i64 (t : Int) ∧ t + k = 78 ∧ k < 78 ∧ (∀ j, 0 < j → j ≤ k → N / B ^ j ≠ 0) ∧ WrInv w B N k b wr) (fun s6 _ => (intOf s6).toNat)
  case atStart => exact ⟨0, 78, rfl, by omega, by omega, fun j h1 h2 => absurd h1 (by omega), K1.out.1⟩
  case round =>
    obtain ⟨k, t, rfl, hk, hk2, hnz, hI⟩ := hrel
    clear K1
    obtain ⟨⟨A0, A1, A2, A3, ⟨l0, l1, l2, l3⟩, eN, hX⟩, u, hU, hu⟩ := hI
    obtain ⟨q0, q1, q2, q3, r, ⟨m0, m1, m2, m3⟩, hq, hr, SH⟩ := shorten_is A0 A1 A2 A3 B l0 l1 l2 l3 (by have := HB.out; omega) (by have := HB.out; omega)
    rw [← eN, Nat.div_div_eq_div_mul, ← Nat.pow_succ] at hq
    rw [← eN] at hr
    have rB : r < 16 := by rw [← hr]; exact Nat.lt_of_lt_of_le (Nat.mod_lt _ (by have := HB.out; omega)) HB.out.2
    obtain ⟨z, ez⟩ : ∃ z, decide (N / B ^ (k + 1) = 0) = z := ⟨_, rfl⟩
    have IZ : Hid (∀ w : World, Calls Try.prog 26 #[.agg #[.int .u64 (q0 : Int), .int .u64 (q1 : Int), .int .u64 (q2 : Int), .int .u64 (q3 : Int)]] w fun e w' => e = .returned (.bool z) ∧ Below w.heap.size w w') := fun w => isZero_nat q0 q1 q2 q3 (N / B ^ (k + 1)) m0 m1 m2 m3 hq z ez w
    have HSH : Hid (∀ w : World, Calls Try.prog 108 #[.agg #[.int .u64 (A0 : Int), .int .u64 (A1 : Int), .int .u64 (A2 : Int), .int .u64 (A3 : Int)], .int .u64 (B : Int)] w fun e w' => e = .returned (.tuple #[.agg #[.int .u64 (q0 : Int), .int .u64 (q1 : Int), .int .u64 (q2 : Int), .int .u64 (q3 : Int)], .int .u64 (r : Int)]) ∧ Below w.heap.size w w') := SH
    obtain ⟨s, es⟩ : ∃ s, s = t - 1 := ⟨_, rfl⟩
    have w1 : (t : Int) - 1 = (s : Int) := by omega
    have w2 : IntKind.i64.wrap (s : Int) = (s : Int) := by rw [IntKind.wrap_i64]; omega
    have s0 : (0 : Int) ≤ (s : Int) := by omega
    have sI : (s : Int) < 78 := by omega
    have hix := fun W => figs_ix .u64 r rB W
    have HX : Hid (Bx w [(w.heap.size, (A0 : Int), (A1 : Int), (A2 : Int), (A3 : Int))] wr) := hX
    have HU : Hid (RowB wr b 78 u) := hU
    have HF : Hid ((s + k = 77 ∧ s + 1 = t) ∧ (∀ j, 0 < j → j ≤ k → N / B ^ j ≠ 0) ∧ (∀ j, j < k → u (77 - j) = (sgn16 (N / B ^ j % B) : Int)) ∧ (q0 < 18446744073709551616 ∧ q1 < 18446744073709551616 ∧ q2 < 18446744073709551616 ∧ q3 < 18446744073709551616) ∧ N / B ^ (k + 1) = q0 + 18446744073709551616 * (q1 + 18446744073709551616 * (q2 + 18446744073709551616 * q3)) ∧ N / B ^ k % B = r ∧ decide (N / B ^ (k + 1) = 0) = z) := ⟨⟨by omega, by omega⟩, hnz, hu, ⟨m0, m1, m2, m3⟩, hq, hr, ez⟩
    clear SH hX hU hnz hu l0 l1 l2 l3 m0 m1 m2 m3 eN hq hr ez es rB hk hk2
    generalize ef : sgn16 r = fg at hix
    have EF : Hid (sgn16 r = fg) := ef
    clear ef
    obtain ⟨c0, c1, c2, c3, z0, z1, z2, z3⟩ := HX.out.f0 (List.Mem.head _)
    go_upto_region 5 with (go_at_call 108; refine (HSH.out _).mono ?_; rintro e y1 ⟨rfl, hB⟩; (have J1 : Hid (Bx w [(w.heap.size, (A0 : Int), (A1 : Int), (A2 : Int), (A3 : Int))] y1 ∧ RowB y1 b 78 u) := ⟨HX.out.past hB, HU.out.pastT hB⟩); clear hB HX HU c0 c1 c2 c3 z0 z1 z2 z3; obtain ⟨c0, c1, c2, c3, z0, z1, z2, z3⟩ := J1.out.1.f0 (List.Mem.head _))
    have J2 : Hid (Bx w [(w.heap.size, (q0 : Int), (q1 : Int), (q2 : Int), (q3 : Int))] (put4 y1 w.heap.size q0 q1 q2 q3) ∧ RowB (put4 y1 w.heap.size q0 q1 q2 q3) b 78 u) := ⟨Bx.put J1.out.1 (by intro p hp; cases hp) _ _ _ _, (((J1.out.2.set_other _ _ (by simp; omega)).set_other _ _ (by simp; omega)).set_other _ _ (by simp; omega)).set_other _ _ (by simp; omega)⟩
    unfold put4 at J2
    generalize (((y1.setCell ⟨w.heap.size, 0, none⟩ (.int .u64 (q0 : Int))).setCell ⟨w.heap.size, 1, none⟩ (.int .u64 (q1 : Int))).setCell ⟨w.heap.size, 2, none⟩ (.int .u64 (q2 : Int))).setCell ⟨w.heap.size, 3, none⟩ (.int .u64 (q3 : Int)) = v1 at J2 ⊢
    clear c0 c1 c2 c3 z0 z1 z2 z3 J1
    have cs := (J2.out.2 s (by omega)).1
    have fs := (J2.out.2 s (by omega)).2
    generalize u s = us at cs
    go_upto_region 7 with fail
    have J3 : Hid (Bx w [(w.heap.size, (q0 : Int), (q1 : Int), (q2 : Int), (q3 : Int))] (v1.setCell ⟨b, s, none⟩ (.int .u8 (fg : Int))) ∧ RowB (v1.setCell ⟨b, s, none⟩ (.int .u8 (fg : Int))) b 78 (fun i => if i = s then (fg : Int) else u i)) := by
      obtain ⟨h1, h2⟩ := J2.out
      refine ⟨⟨h1.bel.setCell (Nat.le_of_lt lb) _, h1.low, fun p hp => ?_⟩, h2.set s _ (by omega)⟩
      have h3 := h1.box p hp
      rw [List.mem_singleton] at hp
      subst hp
      exact h3.other _ _ (by simp; omega)
    generalize v1.setCell ⟨b, s, none⟩ (.int .u8 (fg : Int)) = v2 at J3 ⊢
    clear cs fs J2
    obtain ⟨c0, c1, c2, c3, z0, z1, z2, z3⟩ := J3.out.1.f0 (List.Mem.head _)
    have UN : Hid (∀ j, j < k + 1 → (if 77 - j = s then (fg : Int) else u (77 - j)) = (sgn16 (N / B ^ j % B) : Int)) := fun j hj => by
      obtain ⟨⟨f1, f2⟩, f3, f4, f5, f6, f7, f8⟩ := HF.out
      by_cases e : j = k
      · rw [e, if_pos (by omega), f7, EF.out]
      · rw [if_neg (by omega), f4 j (by omega)]
    obtain ⟨uf, euf⟩ : ∃ uf : Nat → Int, uf = fun i => if i = s then (fg : Int) else u i := ⟨_, rfl⟩
    have UF : Hid (∀ j, j < k + 1 → uf (77 - j) = (sgn16 (N / B ^ j % B) : Int)) := fun j hj => by rw [euf]; exact UN.out j hj
    rw [← euf] at J3
    clear UN euf
    cases z with
    | true =>
      have hsl := fun W => slice78 b s (k + 1) (by have := HF.out.1; omega) (by omega) W
      have CV : Hid (∀ W, RowB W b 78 uf → Sem.run Try.prog (convert 44 9 (.slice (some ⟨b, s, none⟩) (k + 1) (k + 1))) W = .ok (.string (tell B N (k + 1))) W) := fun W hW => by
        refine convT W b s (k + 1) (k + 1) _ fun i hi => ?_
        have h1 := (hW (s + i) (by have := HF.out.1; omega)).1
        have h2 := UF.out (k - i) (by omega)
        have h3 := HF.out.1
        rw [show 77 - (k - i) = s + i by omega] at h2
        rw [h1, h2, show k + 1 - 1 - i = k - i by omega]
      have ND : Hid (NDig B N (k + 1) ∧ k + 1 ≤ 78) := by
        obtain ⟨f1, f3, f4, f5, f6, f7, f8⟩ := HF.out
        exact ⟨⟨by omega, of_decide_eq_true f8, fun j h1 h2 => f3 j h1 (by omega)⟩, by omega⟩
      go_wp2_with (go_at_call 26; refine (IZ.out _).mono ?_; rintro e y4 ⟨rfl, hB⟩; (have J4 : Hid (Below w.heap.size w y4 ∧ RowB y4 b 78 uf) := ⟨(J3.out.1.past hB).bel, J3.out.2.pastT hB⟩); clear hB c0 c1 c2 c3 z0 z1 z2 z3; have hcv := CV.out _ J4.out.2)
      go_ret
      exact ⟨k + 1, ND.out.1, ND.out.2, rfl, J4.out.1⟩
    | false =>
      have NZ : Hid (N / B ^ (k + 1) ≠ 0 ∧ k + 1 < 78) := by
        obtain ⟨f1, f3, f4, f5, f6, f7, f8⟩ := HF.out
        have h := of_decide_eq_false f8
        refine ⟨h, Classical.byContradiction fun h2 => h (Nat.div_eq_of_lt ?_)⟩
        have h3 : 10 ^ 78 ≤ 10 ^ (k + 1) := Nat.pow_le_pow_right (by decide) (by omega)
        have h4 : 10 ^ (k + 1) ≤ B ^ (k + 1) := Nat.pow_le_pow_left HB.out.1 _
        have h5 := HN.out
        exact Nat.lt_of_lt_of_le h5 (Nat.le_trans h3 h4)
      go_wp2_with (go_at_call 26; refine (IZ.out _).mono ?_; rintro e y4 ⟨rfl, hB⟩; (have J4 : Hid (Bx w [(w.heap.size, (q0 : Int), (q1 : Int), (q2 : Int), (q3 : Int))] y4 ∧ RowB y4 b 78 uf) := ⟨J3.out.1.past hB, J3.out.2.pastT hB⟩); clear hB c0 c1 c2 c3 z0 z1 z2 z3)
      go_roundw
      case rel =>
        obtain ⟨f1, f3, f4, f5, f6, f7, f8⟩ := HF.out
        exact ⟨k + 1, s, rfl, by omega, NZ.out.2, fun j h1 h2 => by
          by_cases e : j = k + 1
          · rw [e]; exact NZ.out.1
          · exact f3 j h1 (by omega), ⟨q0, q1, q2, q3, f5, f6, J4.out.1⟩, uf, J4.out.2, UF.out⟩
      case measure => have := HF.out.1; simp [intOf]; omega
end Go.Proofs.Ytpadpmkfhljiiaa
