/- Uint and FromUint of either side. -/
import Derived.Test.YtpadpmkfhljiiaaGreatMf5
import Derived.Test.YtpadpmkfhljiiaaGreatMf2
import Derived.Test.YtpadpmkfhljiiaaGreatMf4
import Derived.Laws.Slices
namespace Go.Proofs.YtpadpmkfhljiiaaGreat
open Go.RowKit
set_option maxHeartbeats 1000000 in
theorem rfromUint_is (n : Int) (w : World) : Calls Tryz.prog 67 #[.int .u64 n] w fun e w' => e = .returned (.agg #[.int .u64 n, .int .u64 0, .int .u64 0, .int .u64 0]) ∧ Below w.heap.size w w' := by
  go_enter Tryz.func67, Tryz.ntmps67
  go_wp2
  exact bodyPost_ret (v := .agg #[.int .u64 n, .int .u64 0, .int .u64 0, .int .u64 0]) (by simp [results, Tryz.results67, go_sem]) rfl ⟨rfl, by repeat' (first | with_reducible exact Below.refl _ _ | with_reducible exact Below.refl _ _ | with_reducible refine Below.drew ?_ | with_reducible refine bdrewN ?_ _ | with_reducible refine Below.alloc ?_ ?_ _ | with_reducible refine Below.setCell ?_ ?_ _ | omega | (simp; done) | (simp; omega))⟩
set_option maxHeartbeats 1000000 in
set_option maxRecDepth 100000 in
theorem uint_r (a0 a1 a2 a3 : Int) (b : Bool) (hb : b = decide (a1 = 0 ∧ a2 = 0 ∧ a3 = 0)) (w : World) : Calls Tryz.prog 60 #[.agg #[.int .u64 a0, .int .u64 a1, .int .u64 a2, .int .u64 a3]] w fun e w' => e = .returned (.tuple #[.int .u64 (if b then a0 else 0), .bool b]) ∧ Below w.heap.size w w' := by
  have HQ : Hid (∀ W : World, Sem.run Tryz.prog (Op.equalIn 10000 24 (.agg #[.int .u64 a0, .int .u64 a1, .int .u64 a2, .int .u64 a3]) (.agg #[.int .u64 a0, .int .u64 0, .int .u64 0, .int .u64 0])) W = .ok b W) := fun W => by
    rw [eqw_run, hb]; congr 1; simp [eqw]
    by_cases h1 : a1 = 0 <;> by_cases h2 : a2 = 0 <;> by_cases h3 : a3 = 0 <;> simp [h1, h2, h3]
  have K0 : Hid (Bx w [(w.heap.size, a0, a1, a2, a3)] (w.alloc (.cells #[.int .u64 a0, .int .u64 a1, .int .u64 a2, .int .u64 a3] 24))) := (Bx.start w).alloc a0 a1 a2 a3
  have hq := HQ.out
  clear hb
  go_enter Tryz.func60, Tryz.ntmps60
  go_upto_region 1 with fail
  generalize w.alloc (.cells #[.int .u64 a0, .int .u64 a1, .int .u64 a2, .int .u64 a3] 24) = W0 at K0 ⊢
  refine wp_region_held_drew (S := fun w' => Bx w [(w.heap.size, a0, a1, a2, a3)] w') (by kernel_rfl) K0.out.drew (fun hHeld => ?_)
  generalize W0.drew = g1 at hHeld ⊢
  clear K0
  refine wpAnyH_take (i := 0) (v := .agg #[.int .u64 a0, .int .u64 a1, .int .u64 a2, .int .u64 a3]) op0 (by kernel_rfl) (by kernel_rfl) (by kernel_rfl) (fun _ _ _ h => h) (Or.inl ⟨by rfl, fun W hS => ?_⟩) hHeld ?_
  · obtain ⟨c0, c1, c2, c3, _⟩ := hS.f0 mm0
    go_simp
  simp only [Act.put, List.setIfInBounds_toArray, List.set_cons_zero, List.set_cons_succ]
  refine wpAnyH_take (i := 1) (v := .pointer (some ⟨w.heap.size, 0, none⟩)) op1 (by kernel_rfl) (by kernel_rfl) (by kernel_rfl) (fun _ _ _ h => h) (Or.inl ⟨by rfl, fun W hS => ?_⟩) hHeld ?_
  · go_simp
  simp only [Act.put, List.setIfInBounds_toArray, List.set_cons_zero, List.set_cons_succ]
  refine wpAnyH_take (i := 2) (v := .int .u64 a0) op2 (by kernel_rfl) (by kernel_rfl) (by kernel_rfl) (fun _ _ _ h => h) (Or.inl ⟨by rfl, fun W hS => ?_⟩) hHeld ?_
  · obtain ⟨c0, c1, c2, c3, _⟩ := hS.f0 mm0
    go_simp
  simp only [Act.put, List.setIfInBounds_toArray, List.set_cons_zero, List.set_cons_succ]
  refine wpAnyH_ready (rs := [3]) (by kernel_rfl) (by simp) ?_
  refine AllReadyH.cons op3 (fun K hK => ?_) AllReadyH.nil
  rw [if_pos (by rfl)]
  go_simp
  refine (fromUint_any a0 _).mono ?_
  rintro e g2 ⟨rfl, hB⟩
  have x2 := hHeld.past hB
  clear hB hHeld
  (try go_wp2_with fail)
  refine hK.out _ _ x2 (fun _ => ?_)
  clear hK K
  refine wpAnyH_take (i := 4) (v := .bool (!b)) op4 (by kernel_rfl) (by kernel_rfl) (by kernel_rfl) (fun _ _ _ h => h) (Or.inl ⟨by rfl, fun W hS => ?_⟩) x2 ?_
  · go_simp
  simp only [Act.put, List.setIfInBounds_toArray, List.set_cons_zero, List.set_cons_succ]
  refine wpAnyH_done (by kernel_rfl) ?_ _
  obtain ⟨c0, c1, c2, c3, _⟩ := x2.f0 mm0
  clear hq HQ
  cases b
  · go_wp2
    go_ret2
    exact ⟨rfl, x2.bel⟩
  · go_wp2
    go_ret2
    exact ⟨rfl, x2.bel⟩
set_option maxHeartbeats 1000000 in
set_option maxRecDepth 100000 in
theorem ruint_r (a0 a1 a2 a3 : Int) (b : Bool) (n : Nat) (SZ : ∀ W : World, Calls Tryz.prog 55 #[.agg #[.int .u64 a0, .int .u64 a1, .int .u64 a2, .int .u64 a3]] W fun e w' => e = .returned (.int .i64 (n : Int)) ∧ Below W.heap.size W w') (hb : b = decide (n ≤ 8)) (w : World) : Calls Tryz.prog 61 #[.agg #[.int .u64 a0, .int .u64 a1, .int .u64 a2, .int .u64 a3]] w fun e w' => e = .returned (.tuple #[.int .u64 (if b then a0 else 0), .bool b]) ∧ Below w.heap.size w w' := by
  have HSZ : Hid _ := SZ
  have K0 : Hid (Bx w [(w.heap.size, a0, a1, a2, a3)] (w.alloc (.cells #[.int .u64 a0, .int .u64 a1, .int .u64 a2, .int .u64 a3] 24))) := (Bx.start w).alloc a0 a1 a2 a3
  clear SZ
  go_enter Tryz.func61, Tryz.ntmps61
  go_upto_region 1 with fail
  generalize w.alloc (.cells #[.int .u64 a0, .int .u64 a1, .int .u64 a2, .int .u64 a3] 24) = W0 at K0 ⊢
  obtain ⟨c0, c1, c2, c3, _⟩ := K0.out.f0 mm0
  by_cases h : n ≤ 8
  · obtain rfl : b = true := by simpa [h] using hb
    have nI : ¬ (8 : Int) < (n : Int) := by omega
    clear hb
    go_wp2_with (go_at_call 55; refine (HSZ.out _).mono ?_; rintro e v1 ⟨rfl, hB⟩; (have K1 : Hid _ := K0.out.past hB); clear hB c0 c1 c2 c3 K0; obtain ⟨c0, c1, c2, c3, _⟩ := K1.out.f0 mm0)
    go_ret2
    exact ⟨rfl, K1.out.bel⟩
  · obtain rfl : b = false := by simpa [h] using hb
    have nI : (8 : Int) < (n : Int) := by omega
    clear hb
    go_wp2_with (go_at_call 55; refine (HSZ.out _).mono ?_; rintro e v1 ⟨rfl, hB⟩; (have K1 : Hid _ := K0.out.past hB); clear hB c0 c1 c2 c3 K0; obtain ⟨c0, c1, c2, c3, _⟩ := K1.out.f0 mm0)
    go_ret2
    exact ⟨rfl, K1.out.bel⟩
end Go.Proofs.YtpadpmkfhljiiaaGreat
/- The document's Bytes of a word. -/
namespace Go.Proofs.YtpadpmkfhljiiaaGreat
open Go.RowKit
theorem zero32 (w : World) : (zeroValue 45).run Tryz.prog w = .ok (.agg (rowB 32 (fun _ => 0)).toArray) w := by kernel_rfl
/-- a new block of bytes -/
structure NewB (w W : World) (n : Nat) (f : Nat → Int) : Prop where
  row : RowB W w.heap.size n f
  bel : Below w.heap.size w W
  siz : W.heap.size = w.heap.size + 1
theorem NewB.of (w : World) (t : TypeId) (n : Nat) (f : Nat → Int) : NewB w (w.alloc (.cells (rowB n f).toArray t)) n f := ⟨RowB.new _ _ _ _, (Below.refl _ _).alloc (Nat.le_refl _) _, by simp⟩
theorem alloc32 {ops : Array Oper} {rest : List Oper} {op : Oper} {a : Act} {w : World} {Q : Exit → Act → World → Prop} (hgd : op.guard = none) (ho : op.op = .alloc 45)
    (h : ∀ W, NewB w W 32 (fun _ => 0) → wpList Tryz.prog ops Q rest (a.put op.dst (.pointer (some ⟨w.heap.size, 0, none⟩))) W) : wpList Tryz.prog ops Q (op :: rest) a w := by
  refine wpList_plain hgd fun K hK => ?_
  unfold Oper.wp execOp
  simp only [ho, Sem.run_bind, Instr.alloc, zero32, newVar, newRow, run_newObj_alloc, Sem.run_pure, Result.andThen_ok, Value.cells]
  exact hK _ _ (h _ (NewB.of w _ 32 _))
theorem RowB.past {w w' : World} {b n : Nat} {v : Nat → Int} (h : RowB w b n v) (k : Below w.heap.size w w') : RowB w' b n v := fun i hi =>
  have hb := World.block_lt_of_cell? w _ (h i hi).1
  ⟨(k.cell (p := ⟨b, i, none⟩) hb).trans (h i hi).1, (k.frozen (p := ⟨b, i, none⟩) hb).trans (h i hi).2⟩
/-- the first k bytes of f, none behind -/
def uptoB (f : Nat → Int) (k i : Nat) : Int := if i < k then f i else 0
set_option maxHeartbeats 2000000 in
set_option maxRecDepth 100000 in
theorem rbytes_is (x : Int) (a0 a1 a2 a3 : Int) (w : World) (ha : IsW x a0 a1 a2 a3) (X : Nat) (hX : V a0 a1 a2 a3 = (X : Int)) :
    Calls Tryz.prog 65 #[.agg #[.int .u64 a0, .int .u64 a1, .int .u64 a2, .int .u64 a3]] w fun e w' => e = .returned (.agg (rowB 32 (fun i => ((dig X (31 - i) : Nat) : Int))).toArray) ∧ Below w.heap.size w w' := by
  have OA : Hid (∀ W, Calls Tryz.prog 79 #[.agg #[.int .u64 a0, .int .u64 a1, .int .u64 a2, .int .u64 a3]] W fun e w' => ∃ v, e = .returned v ∧ RowAt w' v 32 (dig X) ∧ Below W.heap.size W w') := fun W => of_is x a0 a1 a2 a3 W ha X hX
  have B0 : Hid (Below w.heap.size w (w.alloc (.cells #[.int .u64 a0, .int .u64 a1, .int .u64 a2, .int .u64 a3] 24)) ∧ Box (w.alloc (.cells #[.int .u64 a0, .int .u64 a1, .int .u64 a2, .int .u64 a3] 24)) w.heap.size a0 a1 a2 a3 ∧ (w.alloc (.cells #[.int .u64 a0, .int .u64 a1, .int .u64 a2, .int .u64 a3] 24)).heap.size = w.heap.size + 1) := ⟨(Below.refl _ _).alloc (by omega) _, Box.new w 24 a0 a1 a2 a3, by simp⟩
  clear ha hX
  obtain ⟨F, eF⟩ : ∃ F : Nat → Int, F = fun i => ((dig X (31 - i) : Nat) : Int) := ⟨_, rfl⟩
  rw [← eF]
  have EF : Hid (∀ i, F i = ((dig X (31 - i) : Nat) : Int)) := fun i => by rw [eF]
  clear eF
  go_enter Tryz.func65, Tryz.ntmps65
  go_upto_region 1 with (refine alloc32 rfl rfl ?_; intro W0 hW0)
  generalize w.alloc (.cells #[.int .u64 a0, .int .u64 a1, .int .u64 a2, .int .u64 a3] 24) = V0 at *
  have K0 : Hid (Below w.heap.size w W0 ∧ Box W0 w.heap.size a0 a1 a2 a3 ∧ RowB W0 (w.heap.size + 1) 32 (fun _ => 0)) := by
    obtain ⟨b1, b2, b3⟩ := B0.out
    exact ⟨b1.trans (hW0.bel.mono b1.size), b2.below hW0.bel b2.lt, by rw [← b3]; exact hW0.row⟩
  rw [B0.out.2.2]
  clear B0 hW0
  obtain ⟨c0, c1, c2, c3, _⟩ := Box.facts K0.out.2.1
  go_upto_region 2 with (go_at_call 79; refine (OA.out _).mono ?_; rintro e v1 ⟨rv, rfl, hrow, hB⟩)
  have K1 : Hid (Below w.heap.size w v1 ∧ RowB v1 (w.heap.size + 1) 32 (fun _ => 0) ∧ RowAt v1 rv 32 (dig X)) := ⟨K0.out.1.trans (hB.mono K0.out.1.size), K0.out.2.2.past hB, hrow⟩
  clear K0 hrow hB c0 c1 c2 c3 OA
  go_wp2_with (refine alloc32 rfl rfl ?_; intro W2 hW2)
  have K2 : Hid (RowB W2 v1.heap.size 32 (uptoB F 0) ∧ Below v1.heap.size v1 W2) := ⟨hW2.row.ext (fun i _ => by unfold uptoB; rw [if_neg (by omega)]), hW2.bel⟩
  clear hW2
  obtain ⟨l, el⟩ : ∃ l, v1.heap.size = l := ⟨_, rfl⟩
  have EL : Hid (v1.heap.size = l) := el
  rw [el] at K2 ⊢
  clear el
  have K4 := K1.out.2.2
  obtain ⟨_, _, _, ad, cap, rfl, hc⟩ := K4
  obtain ⟨g, o, rfl, hc2⟩ := hc (by decide)
  have lg : g < v1.heap.size := World.block_lt_of_cell? v1 _ (hc2 0 (by decide))
  have HC : Hid (∀ i, i < 32 → v1.cell? ⟨g, o + i, none⟩ = some (.int .i64 (dig X i : Int))) := hc2
  clear hc hc2
  go_loopw [5] (fun s wr => ∃ k : Nat, s = .int .i64 (k : Int) ∧ k ≤ 32 ∧ RowB wr l 32 (uptoB F k) ∧ Below l v1 wr) (fun s _ => 32 - (intOf s).toNat)
  case atStart => exact ⟨0, rfl, by omega, K2.out.1, K2.out.2⟩
  case round =>
    obtain ⟨k, rfl, hk, hR, hB⟩ := hrel
    clear K2
    have HR : Hid (RowB wr l 32 (uptoB F k)) := hR
    have HB : Hid (Below l v1 wr) := hB
    clear hR hB
    by_cases hk5 : k < 32
    · have kI : (k : Int) < 32 := by omega
      obtain ⟨q, eq⟩ : ∃ q, q = 31 - k := ⟨_, rfl⟩
      have w1 : (31 : Int) - (k : Int) = (q : Int) := by omega
      have w2 : IntKind.i64.wrap (q : Int) = (q : Int) := by rw [IntKind.wrap_i64]; omega
      have qI : (q : Int) < 32 := by omega
      have cq := (HB.out.cell (p := ⟨g, o + q, none⟩) (by rw [← EL.out]; exact lg)).trans (HC.out q (by omega))
      have fk := EF.out k
      rw [← eq] at fk
      have hd := dig_lt X q
      generalize dig X q = y at cq fk hd
      have w3 : IntKind.u8.wrap (y : Int) = (y : Int) := by rw [IntKind.wrap_u8]; omega
      have N1 : Hid (RowB (wr.setCell ⟨l, k, none⟩ (.int .u8 (y : Int))) l 32 (uptoB F (k + 1)) ∧ Below l v1 (wr.setCell ⟨l, k, none⟩ (.int .u8 (y : Int)))) := by
        refine ⟨(RowB.set HR.out k (y : Int) hk5).ext (fun i hi => ?_), HB.out.setCell (Nat.le_refl _) _⟩
        unfold uptoB
        by_cases h : i = k
        · subst h; rw [if_pos rfl, if_pos (by omega), fk]
        · rw [if_neg h]
          by_cases h2 : i < k
          · rw [if_pos h2, if_pos (by omega)]
          · rw [if_neg h2, if_neg (by omega)]
      have cz := (HR.out k hk5).1
      have fz := (HR.out k hk5).2
      clear eq fk hd
      go_wp2
      go_roundw
      case rel => exact ⟨k + 1, by go_num, by omega, N1.out.1, N1.out.2⟩
      case measure => simp [intOf]; omega
    · obtain rfl : k = 32 := by omega
      have R1 : Hid (RowB wr (w.heap.size + 1) 32 (fun _ => 0)) := K1.out.2.1.past (by rw [EL.out]; exact HB.out)
      have R2 : Hid (RowB wr l 32 F) := HR.out.ext (fun i hi => by unfold uptoB; rw [if_pos hi])
      have B3 : Hid (Below w.heap.size w wr) := by
        have := K1.out.1.size
        exact K1.out.1.trans (HB.out.mono (by have := EL.out; omega))
      clear HR HB K1
      go_wp2_with (first
        | (refine load32 F l rfl _ rfl rfl R2.out.range ?_)
        | (refine store32 F (w.heap.size + 1) rfl _ _ rfl rfl rfl R1.out.there ?_))
      refine bodyPost_ret (v := .agg (rowB 32 F).toArray) ?_ rfl ⟨rfl, below_setCellsB _ (by omega) _ _ _ B3.out⟩
      exact results_c Tryz.results65 _ _ _ ⟨w.heap.size + 1, 0, none⟩ rfl (loadVar32 R1.out.of_range.range)
end Go.Proofs.YtpadpmkfhljiiaaGreat
/- The document's FromBytes. -/
namespace Go.Proofs.YtpadpmkfhljiiaaGreat
open Go.RowKit
/-- a list of n bytes -/
def BytesAt (W : World) (v : Value) (n : Nat) (u : Nat → Nat) : Prop := (∀ i, u i < 256) ∧ ∃ ad cap, v = .slice ad n cap ∧ (n ≠ 0 → ∃ g o, ad = some ⟨g, o, none⟩ ∧ ∀ i, i < n → W.cell? ⟨g, o + i, none⟩ = some (.int .u8 (u i : Int)))
theorem BytesAt.past {W W' : World} {v : Value} {n : Nat} {u : Nat → Nat} (h : BytesAt W v n u) (k : Below W.heap.size W W') : BytesAt W' v n u := by
  obtain ⟨h1, ad, cap, rfl, hc⟩ := h
  refine ⟨h1, ad, cap, rfl, fun hn => ?_⟩
  obtain ⟨g, o, e, hc2⟩ := hc hn
  exact ⟨g, o, e, fun i hi => (k.cell (p := ⟨g, o + i, none⟩) (World.block_lt_of_cell? W _ (hc2 i hi))).trans (hc2 i hi)⟩
/-- the bytes as digits, the lowest first -/
def revd (u : Nat → Nat) (n t : Nat) : Nat := if t < n then u (n - 1 - t) else 0
theorem revd_lt {u : Nat → Nat} (h : ∀ i, u i < 256) (n t : Nat) : revd u n t < 256 := by unfold revd; split; exact h _; omega
set_option maxHeartbeats 2000000 in
set_option maxRecDepth 100000 in
theorem rfromBytes_long (w : World) (ad : Option Addr) (n cap : Nat) (hn : 32 < n) : Calls Tryz.prog 59 #[.slice ad n cap] w fun e w' => e = .returned (.tuple #[.agg #[.int .u64 0, .int .u64 0, .int .u64 0, .int .u64 0], .int .i64 2]) ∧ Below w.heap.size w w' := by
  have nI : (32 : Int) < (n : Int) := by omega
  go_enter Tryz.func59, Tryz.ntmps59
  go_wp2
  exact bodyPost_ret (v := .tuple #[.agg #[.int .u64 0, .int .u64 0, .int .u64 0, .int .u64 0], .int .i64 2]) (by simp [results, Tryz.results59, go_sem]) rfl ⟨rfl, by repeat' (first | with_reducible exact Below.refl _ _ | with_reducible exact Below.refl _ _ | with_reducible refine Below.drew ?_ | with_reducible refine bdrewN ?_ _ | with_reducible refine Below.alloc ?_ ?_ _ | with_reducible refine Below.setCell ?_ ?_ _ | omega | (simp; done) | (simp; omega))⟩
set_option maxHeartbeats 2000000 in
set_option maxRecDepth 100000 in
theorem rfromBytes_is (w : World) (v : Value) (n : Nat) (u : Nat → Nat) (hv : BytesAt w v n u) (hn : n ≤ 32) (p0 p1 p2 p3 : Int) (hp : IsW (dsum (revd u n) n : Int) p0 p1 p2 p3) :
    Calls Tryz.prog 59 #[v] w fun e w' => e = .returned (.tuple #[.agg #[.int .u64 p0, .int .u64 p1, .int .u64 p2, .int .u64 p3], .int .i64 0]) ∧ Below w.heap.size w w' := by
  obtain ⟨i0, hi, hz0, hz1, hz2⟩ := info_parts Tryz.infoI
  have HP : Hid (IsW (dsum (revd u n) n : Int) p0 p1 p2 p3) := hp
  obtain ⟨hu, ad, cap, rfl, hc⟩ := hv
  have HU : Hid (∀ i, u i < 256) := hu
  have HC : Hid (n ≠ 0 → ∃ g o, ad = some ⟨g, o, none⟩ ∧ ∀ i, i < n → w.cell? ⟨g, o + i, none⟩ = some (.int .u8 (u i : Int))) := hc
  have nI : (n : Int) ≤ 32 := by omega
  have K0 : Hid (Bx w [(w.heap.size, 0, 0, 0, 0)] (w.alloc (.cells #[.int .u64 0, .int .u64 0, .int .u64 0, .int .u64 0] 24))) := (Bx.start w).alloc 0 0 0 0
  clear hp hu hc
  go_enter Tryz.func59, Tryz.ntmps59
  go_upto_region 1 with fail
  generalize w.alloc (.cells #[.int .u64 0, .int .u64 0, .int .u64 0, .int .u64 0] 24) = W0 at K0 ⊢
  go_wp2
  go_loopw [4, 5] (fun s4 s5 wr => ∃ j : Nat, s5 = .int .i64 ((j : Int) - 1) ∧ j ≤ n ∧ wr.ownsRow W0.heap.size 3 1 s4 (n - j) (intsD (revd u n) (n - j)) ∧ Below W0.heap.size W0 wr) (fun _ s5 _ => (intOf s5 + 1).toNat)
  case atStart => exact ⟨n, by first | rfl | go_num, by omega, by rw [Nat.sub_self]; exact World.ownsRow_nil _ _ _ _, Below.refl _ _⟩
  case round =>
    obtain ⟨j, rfl, hj, hown, hB⟩ := hrel
    have HOW : Hid _ := hown
    have HB : Hid (Below W0.heap.size W0 wr) := hB
    have b0 := hB.size
    clear hown hB
    rcases j with _ | j
    · have RI : Hid (RowIs wr u4 32 (dsum (revd u n) n)) := ⟨n, _, hn, RowAt.own (by have := HOW.out; rwa [Nat.sub_zero] at this) (revd_lt HU.out n) (fun i hi => by unfold revd; rw [if_neg (by omega)]) (by omega), rfl⟩
      have K1 : Hid (Bx w [(w.heap.size, 0, 0, 0, 0)] wr) := K0.out.past HB.out
      have WD : Hid _ := ri_word RI.out HP.out
      clear HOW HB RI K0
      go_wp2_with fail
      refine Calls.mono WD.out ?_
      rintro e x1 ⟨rfl, hB⟩
      have K2 : Hid _ := K1.out.past hB
      clear hB WD K1
      obtain ⟨r0, r1, r2, r3, f0, f1, f2, f3⟩ := K2.out.f0 mm0
      go_wp2
      exact bodyPost_ret (v := .tuple #[.agg #[.int .u64 p0, .int .u64 p1, .int .u64 p2, .int .u64 p3], .int .i64 0]) (by simp [results, Tryz.results59, go_sem, r0, r1, r2, r3]) rfl ⟨rfl, below_put K2.out.bel (by omega) _ _ _ _⟩
    · rw [show ((j + 1 : Nat) : Int) - 1 = (j : Int) by omega]
      have jI : (0 : Int) ≤ (j : Int) := by omega
      have jN : (j : Int) < (n : Int) := by omega
      obtain ⟨g, o, rfl, hc⟩ := HC.out (by omega)
      have lg : g < w.heap.size := World.block_lt_of_cell? w _ (hc j (by omega))
      have cj := ((K0.out.bel.trans (HB.out.mono K0.out.bel.size)).cell (p := ⟨g, o + j, none⟩) lg).trans (hc j (by omega))
      have hl := HU.out j
      have ed : u j = revd u n (n - (j + 1)) := by unfold revd; rw [if_pos (by omega)]; congr 1; omega
      generalize u j = y at cj hl ed
      have ED : Hid (y = revd u n (n - (j + 1))) := ed
      have w3 : IntKind.i64.wrap (y : Int) = (y : Int) := by rw [IntKind.wrap_i64]; omega
      clear hc ed
      obtain ⟨k, ek⟩ : ∃ k, k = n - (j + 1) := ⟨_, rfl⟩
      have EK : Hid (k + 1 = n - j ∧ k ≤ 32) := ⟨by omega, by omega⟩
      rw [← ek] at HOW ED
      have kL : k ≤ 32 := by omega
      clear ek
      go_wp2_with (at_builtin; refine wpList_append_own _ rfl _ _ 61 rfl W0.heap.size 3 i0 (.int .i64 0) 1 8 Tryz.underlying61 hi hz0 hz1 hz2 rfl (by decide) _ _ _ rfl (World.ownsRow.alloc HOW.out _) ⟨wr.heap.size, 0, none⟩ 1 1 [.int .i64 (y : Int)] rfl rfl (fun j u hj => (by have hj0 : j = 0 := (by have := (List.getElem?_eq_some_iff.1 hj).1; simpa using this); subst hj0; simp at hj; subst hj; (first | (simp [Addr.add]; done) | (simp [Addr.add]; omega)))) (fun u hu => (by rw [List.mem_singleton.1 hu]; rfl)) (by unfold maxLen; omega) (by omega) (by simp; omega) ?_; intro v' w1 hown' hgrow _)
      have R : Hid _ := of_step ED.out HOW.out HB.out hown' hgrow
      clear hown' hgrow
      go_wp2
      go_roundw
      case rel => exact ⟨j, by go_num, by omega, by rw [← EK.out.1]; exact R.out.1, R.out.2⟩
      case measure => simp [intOf]
end Go.Proofs.YtpadpmkfhljiiaaGreat
/- The document's SDiv, SMod, SLt, SGt. -/
namespace Go.Proofs.YtpadpmkfhljiiaaGreat
open Go.RowKit
end Go.Proofs.YtpadpmkfhljiiaaGreat
/- Word by word: the program's SDiv, SMod, SLt, SGt and the document's give the same. -/
namespace Go.Proofs.YtpadpmkfhljiiaaGreat
open Go.RowKit
theorem nat_small {U : Nat} (h : U < 256 ^ 32) : (U : Int) % MM = (U : Int) := Int.emod_eq_of_lt (by omega) (by rw [← MM_nat]; exact_mod_cast h)
end Go.Proofs.YtpadpmkfhljiiaaGreat
/- FromBytes and Bytes of either side give the same. -/
namespace Go.Proofs.YtpadpmkfhljiiaaGreat
open Go.RowKit
/-- the digits of a row are those of its number -/
theorem dsum_digit {d : Nat → Nat} (hd : ∀ i, d i < 256) {n k : Nat} (hk : k < n) : dsum d n / 256 ^ k % 256 = d k := by
  obtain ⟨r, h⟩ := dsum_at hd n k hk
  have := hd k
  rw [h]; omega
theorem dsum_above {d : Nat → Nat} (hd : ∀ i, d i < 256) {n k : Nat} (hk : n ≤ k) : dsum d n / 256 ^ k = 0 :=
  Nat.div_eq_of_lt (Nat.lt_of_lt_of_le (dsum_lt hd n) (Nat.pow_le_pow_right (by decide) hk))
theorem wfromBytes_is (w : World) (g o n c : Nat) (u : Nat → Nat) (hv : BytesAt w (.slice (some ⟨g, o, none⟩) n c) n u) (hn : n ≤ 32) (p0 p1 p2 p3 : Int) (hp : IsW (dsum (revd u n) n : Int) p0 p1 p2 p3) :
    Calls Tryz.prog 58 #[.slice (some ⟨g, o, none⟩) n c] w fun e w' => e = .returned (.tuple #[.agg #[.int .u64 p0, .int .u64 p1, .int .u64 p2, .int .u64 p3], .int .i64 0]) ∧ Below w.heap.size w w' := by
  obtain ⟨hu, ad, cap, e, hc⟩ := hv
  injection e with e1 _ _
  have hr := revd_lt hu n
  have hlt : dsum (revd u n) n < 256 ^ 32 := Nat.lt_of_lt_of_le (dsum_lt hr n) (Nat.pow_le_pow_right (by decide) hn)
  have hV : V p0 p1 p2 p3 = ((dsum (revd u n) n : Nat) : Int) := hp.2.trans (nat_small hlt)
  have hd := fun j (hj : j < 32) => bw_dig hp.u0 hp.u1 hp.u2 hp.u3 _ hV j hj
  refine fromBytes_is p0 p1 p2 p3 g o n c w hn (fun q => limb_u64 hp.u0 hp.u1 hp.u2 hp.u3 q) (fun q hq => ?_) (fun i hi => ?_)
  · have h := keep_lead hp.u0 hp.u1 hp.u2 hp.u3 (32 - n) (by omega) (fun j h1 h2 => by rw [hd j h2, dsum_above hr (by omega)]; rfl) q hq
    rwa [show 32 - (32 - n) = n by omega] at h
  · obtain ⟨g', o', e2, hc2⟩ := hc (by omega)
    rw [← e1] at e2
    injection e2 with e2
    injection e2 with e3 e4 _
    rw [e3, e4, hc2 i hi, hd (n - 1 - i) (by omega), dsum_digit hr (by omega), revd, if_pos (by omega), show n - 1 - (n - 1 - i) = i by omega]
set_option maxHeartbeats 1000000 in
theorem wfromBytes_long (w : World) (ad : Option Addr) (n cap : Nat) (hn : 32 < n) : Calls Tryz.prog 58 #[.slice ad n cap] w fun e w' => e = .returned (.tuple #[.agg #[.int .u64 0, .int .u64 0, .int .u64 0, .int .u64 0], .int .i64 2]) ∧ Below w.heap.size w w' := by
  have nI : (32 : Int) < (n : Int) := by omega
  go_enter Tryz.func58, Tryz.ntmps58
  go_wp2
  exact bodyPost_ret (v := .tuple #[.agg #[.int .u64 0, .int .u64 0, .int .u64 0, .int .u64 0], .int .i64 2]) (by simp [results, Tryz.results58, go_sem]) rfl ⟨rfl, by repeat' (first | with_reducible exact Below.refl _ _ | with_reducible exact Below.refl _ _ | with_reducible refine Below.drew ?_ | with_reducible refine bdrewN ?_ _ | with_reducible refine Below.alloc ?_ ?_ _ | with_reducible refine Below.setCell ?_ ?_ _ | omega | (simp; done) | (simp; omega))⟩
/-- the same bytes, wherever they lie: the same word and error by either side -/
theorem fromBytes_both (n : Nat) (u : Nat → Nat) : ∃ (p0 p1 p2 p3 : Int) (e : Int), (∀ (w : World) (g o c : Nat), BytesAt w (.slice (some ⟨g, o, none⟩) n c) n u → Calls Tryz.prog 58 #[.slice (some ⟨g, o, none⟩) n c] w fun r w' => r = .returned (.tuple #[.agg #[.int .u64 p0, .int .u64 p1, .int .u64 p2, .int .u64 p3], .int .i64 e]) ∧ Below w.heap.size w w') ∧
    (∀ (w : World) (v : Value), BytesAt w v n u → Calls Tryz.prog 59 #[v] w fun r w' => r = .returned (.tuple #[.agg #[.int .u64 p0, .int .u64 p1, .int .u64 p2, .int .u64 p3], .int .i64 e]) ∧ Below w.heap.size w w') := by
  by_cases hn : n ≤ 32
  · obtain ⟨p0, p1, p2, p3, hp⟩ := isW_ex ((dsum (revd u n) n : Nat) : Int)
    exact ⟨p0, p1, p2, p3, 0, fun w g o c h => wfromBytes_is w g o n c u h hn p0 p1 p2 p3 hp, fun w v h => rfromBytes_is w v n u h hn p0 p1 p2 p3 hp⟩
  · refine ⟨0, 0, 0, 0, 2, fun w g o c _ => wfromBytes_long w _ n c (by omega), fun w v h => ?_⟩
    obtain ⟨_, ad, cap, rfl, _⟩ := h
    exact rfromBytes_long w ad n cap (by omega)
theorem bytes_both {x : Int} {a0 a1 a2 a3 : Int} (ha : IsW x a0 a1 a2 a3) : ∃ f : Nat → Int, (∀ w : World, Calls Tryz.prog 64 #[.agg #[.int .u64 a0, .int .u64 a1, .int .u64 a2, .int .u64 a3]] w fun e w' => e = .returned (.agg (rowB 32 f).toArray) ∧ Below w.heap.size w w') ∧ (∀ w : World, Calls Tryz.prog 65 #[.agg #[.int .u64 a0, .int .u64 a1, .int .u64 a2, .int .u64 a3]] w fun e w' => e = .returned (.agg (rowB 32 f).toArray) ∧ Below w.heap.size w w') := by
  obtain ⟨X, hX, eX, lX⟩ := mod_nat ha
  refine ⟨bb a0 a1 a2 a3, fun w => bytes_is a0 a1 a2 a3 w, fun w => ?_⟩
  have h := rbytes_is x a0 a1 a2 a3 w ha X hX
  rwa [rowB_ext (u := fun i => ((dig X (31 - i) : Nat) : Int)) (v := bb a0 a1 a2 a3) (fun i hi => by unfold bb; rw [bw_dig ha.u0 ha.u1 ha.u2 ha.u3 X hX (31 - i) (by omega), dig, if_pos (by omega)])] at h
theorem pair_sizeN {x : Int} {a0 a1 a2 a3 : Int} (ha : IsW x a0 a1 a2 a3) (X : Nat) (hX : V a0 a1 a2 a3 = (X : Int)) : ∃ n : Nat, (∀ k, n ≤ k ↔ X < 256 ^ k) ∧ (∀ w : World, Calls Tryz.prog 54 #[.agg #[.int .u64 a0, .int .u64 a1, .int .u64 a2, .int .u64 a3]] w fun e w' => e = .returned (.int .i64 (n : Int)) ∧ Below w.heap.size w w') ∧ (∀ w : World, Calls Tryz.prog 55 #[.agg #[.int .u64 a0, .int .u64 a1, .int .u64 a2, .int .u64 a3]] w fun e w' => e = .returned (.int .i64 (n : Int)) ∧ Below w.heap.size w w') := by
  have lX : X < 256 ^ 32 := V_lt ha hX
  obtain ⟨B, b1, b2, b3⟩ := bits_ex X 256 (by rw [p256]; exact lX)
  obtain ⟨n, en⟩ : ∃ n, n = (B + 7) / 8 := ⟨_, rfl⟩
  have e256 : ∀ k : Nat, (256 : Nat) ^ k = 2 ^ (8 * k) := fun k => by rw [show (256 : Nat) = 2 ^ 8 by decide, ← Nat.pow_mul]
  refine ⟨n, fun k => ?_, size_r a0 a1 a2 a3 B n (fun w => zerosAhead_is ha hX (bitsOf_nat b2 b3) w) b1 en, rsz_r a0 a1 a2 a3 X n (fun W => of_is x a0 a1 a2 a3 W ha X hX) (by omega) (fun j h1 h2 => ?_) (fun hn => ?_)⟩
  · constructor
    · intro h
      exact Nat.lt_of_lt_of_le b2 (by rw [e256]; exact Nat.pow_le_pow_right (by decide) (by omega))
    · intro h
      rcases Nat.lt_or_ge k n with h3 | h3
      · have h1 := b3 (by omega)
        have h2 : 256 ^ k ≤ 2 ^ (B - 1) := by rw [e256]; exact Nat.pow_le_pow_right (by decide) (by omega)
        omega
      · exact h3
  · rw [dig, if_pos h2, Nat.div_eq_of_lt (Nat.lt_of_lt_of_le b2 (by rw [e256]; exact Nat.pow_le_pow_right (by decide) (by omega)))]
  · rw [dig, if_pos (by omega)]
    have h1 := b3 (by omega)
    have h2 : 256 ^ (n - 1) ≤ X := Nat.le_trans (by rw [e256]; exact Nat.pow_le_pow_right (by decide) (by omega)) h1
    have h3 : X < 256 * 256 ^ (n - 1) := Nat.lt_of_lt_of_le b2 (by rw [Nat.mul_comm, ← Nat.pow_succ, e256]; exact Nat.pow_le_pow_right (by decide) (by omega))
    have p : 0 < 256 ^ (n - 1) := Nat.pow_pos (by decide)
    have h4 : 1 ≤ X / 256 ^ (n - 1) := (Nat.le_div_iff_mul_le p).2 (by omega)
    have h5 : X / 256 ^ (n - 1) < 256 := (Nat.div_lt_iff_lt_mul p).2 h3
    omega
theorem uint_both {x : Int} {a0 a1 a2 a3 : Int} (ha : IsW x a0 a1 a2 a3) : ∃ (n : Int) (b : Bool), (∀ w : World, Calls Tryz.prog 60 #[.agg #[.int .u64 a0, .int .u64 a1, .int .u64 a2, .int .u64 a3]] w fun e w' => e = .returned (.tuple #[.int .u64 n, .bool b]) ∧ Below w.heap.size w w') ∧ (∀ w : World, Calls Tryz.prog 61 #[.agg #[.int .u64 a0, .int .u64 a1, .int .u64 a2, .int .u64 a3]] w fun e w' => e = .returned (.tuple #[.int .u64 n, .bool b]) ∧ Below w.heap.size w w') := by
  obtain ⟨X, hX, eX, lX⟩ := mod_nat ha
  obtain ⟨n, hn, _, h2⟩ := pair_sizeN ha X hX
  refine ⟨_, _, uint_r a0 a1 a2 a3 _ rfl, ruint_r a0 a1 a2 a3 _ n h2 ?_⟩
  have h3 := hn 8
  rw [show (256 : Nat) ^ 8 = 18446744073709551616 by decide] at h3
  obtain ⟨u00, u01⟩ := ha.u0
  obtain ⟨u10, u11⟩ := ha.u1
  obtain ⟨u20, u21⟩ := ha.u2
  obtain ⟨u30, u31⟩ := ha.u3
  unfold Bd at u01 u11 u21 u31
  unfold V Bd at hX
  have key : (a1 = 0 ∧ a2 = 0 ∧ a3 = 0) ↔ n ≤ 8 := by
    rw [h3]
    constructor
    · rintro ⟨rfl, rfl, rfl⟩; omega
    · intro h; omega
  exact decide_eq_decide.2 key
end Go.Proofs.YtpadpmkfhljiiaaGreat
/- Addresses: arrays of 20 bytes; FromAddress of either side. -/
namespace Go.Proofs.YtpadpmkfhljiiaaGreat
open Go.RowKit
theorem store20 {ops : Array Oper} {rest : List Oper} {op : Oper} {a : Act} {w : World} {Q : Exit → Act → World → Prop} (g : Nat → Int) (b : Nat) (hgd : op.guard = none) (x y : Operand) (ho : op.op = .store 37 x y)
    (hx : a.eval x = .pointer (some ⟨b, 0, none⟩)) (hy : a.eval y = .agg (rowB 20 g).toArray) (ht : w.there b 0 20)
    (h : wpList Tryz.prog ops Q rest (a.put op.dst undef) (w.setCells b 0 (rowB 20 g))) : wpList Tryz.prog ops Q (op :: rest) a w :=
  wpList_store_mid hgd 37 x y ho b 0 (rowB 20 g).toArray hx hy (by rw [List.size_toArray, rowB_len]; exact ht) (by rw [List.size_toArray, rowB_len]; kernel_rfl) (rowB_one 20 g) h
theorem load20 {ops : Array Oper} {rest : List Oper} {op : Oper} {a : Act} {w : World} {Q : Exit → Act → World → Prop} (g : Nat → Int) (b : Nat) (hgd : op.guard = none) (x : Operand) (ho : op.op = .load 37 x)
    (hx : a.eval x = .pointer (some ⟨b, 0, none⟩)) (hr : w.rangeAt b 0 (rowB 20 g))
    (h : wpList Tryz.prog ops Q rest (a.put op.dst (.agg (rowB 20 g).toArray)) w) : wpList Tryz.prog ops Q (op :: rest) a w :=
  wpList_load_mid hgd 37 x ho b 0 hx (rowB 20 g) _ hr Tryz.underlying37 rfl (by rw [rowB_len]; kernel_rfl) h
theorem loadVar20 {w : World} {b : Nat} {g : Nat → Int} (h : w.rangeAt b 0 (rowB 20 g)) : (loadVar 37 ⟨b, 0, none⟩).run Tryz.prog w = .ok (.agg (rowB 20 g).toArray) w :=
  run_loadVar_mid w b 0 37 (rowB 20 g) _ h Tryz.underlying37 rfl (by rw [rowB_len]; kernel_rfl)
theorem zero20 (w : World) : (zeroValue 37).run Tryz.prog w = .ok (.agg (rowB 20 (fun _ => 0)).toArray) w := by kernel_rfl
theorem alloc20 {ops : Array Oper} {rest : List Oper} {op : Oper} {a : Act} {w : World} {Q : Exit → Act → World → Prop} (hgd : op.guard = none) (ho : op.op = .alloc 37)
    (h : ∀ W, NewB w W 20 (fun _ => 0) → wpList Tryz.prog ops Q rest (a.put op.dst (.pointer (some ⟨w.heap.size, 0, none⟩))) W) : wpList Tryz.prog ops Q (op :: rest) a w := by
  refine wpList_plain hgd fun K hK => ?_
  unfold Oper.wp execOp
  simp only [ho, Sem.run_bind, Instr.alloc, zero20, newVar, newRow, run_newObj_alloc, Sem.run_pure, Result.andThen_ok, Value.cells]
  exact hK _ _ (h _ (NewB.of w _ 20 _))
theorem box20 {ops : Array Oper} {rest : List Oper} {op : Oper} {a : Act} {w : World} {Q : Exit → Act → World → Prop} (f : Nat → Int) (hgd : op.guard = none) (x : Operand) (ho : op.op = .box 37 x) (hx : a.eval x = .agg (rowB 20 f).toArray)
    (h : ∀ W, NewB w W 20 f → wpList Tryz.prog ops Q rest (a.put op.dst (.pointer (some ⟨w.heap.size, 0, none⟩))) W) : wpList Tryz.prog ops Q (op :: rest) a w := by
  refine wpList_plain hgd fun K hK => ?_
  unfold Oper.wp execOp
  simp only [ho, Sem.run_bind, Instr.box, newVar, newRow, run_newObj_alloc, Sem.run_pure, Result.andThen_ok, hx, Value.cells]
  exact hK _ _ (h _ (NewB.of w _ 20 f))
theorem slice_all20 (g : Nat) (W : World) : Sem.run Tryz.prog (Instr.sliceAt 37 (.pointer (some ⟨g, 0, none⟩)) none none none) W = .ok (.slice (some ⟨g, 0, none⟩) 20 20) W := by
  have h32 : Tryz.prog.arrayLen 37 = 20 := by kernel_rfl
  have sz : Sem.run Tryz.prog (sizeOf (Tryz.prog.elem 37)) W = .ok 1 W := by kernel_rfl
  rw [run_sliceAt_array_all W 37 ⟨g, 0, none⟩ (by kernel_rfl), sz, h32, Result.andThen_ok]
  rfl
set_option maxHeartbeats 2000000 in
set_option maxRecDepth 100000 in
theorem rfromAddress_is (w : World) (u : Nat → Nat) (hu : ∀ i, u i < 256) (p0 p1 p2 p3 : Int) (hp : IsW (dsum (revd u 20) 20 : Int) p0 p1 p2 p3) :
    Calls Tryz.prog 69 #[.agg (rowB 20 (fun i => (u i : Int))).toArray] w fun e w' => e = .returned (.agg #[.int .u64 p0, .int .u64 p1, .int .u64 p2, .int .u64 p3]) ∧ Below w.heap.size w w' := by
  obtain ⟨i0, hi, hz0, hz1, hz2⟩ := info_parts Tryz.infoI
  have HP : Hid (IsW (dsum (revd u 20) 20 : Int) p0 p1 p2 p3) := hp
  have HU : Hid (∀ i, u i < 256) := hu
  clear hp hu
  go_enter Tryz.func69, Tryz.ntmps69
  go_upto_region 1 with (refine box20 (fun i => (u i : Int)) rfl _ rfl rfl ?_; intro V0 hV0)
  have K0 : Hid (Bx w [(w.heap.size + 1, 0, 0, 0, 0)] (V0.alloc (.cells #[.int .u64 0, .int .u64 0, .int .u64 0, .int .u64 0] 24)) ∧ RowB (V0.alloc (.cells #[.int .u64 0, .int .u64 0, .int .u64 0, .int .u64 0] 24)) w.heap.size 20 (fun i => (u i : Int))) := by
    refine ⟨?_, hV0.row.past ((Below.refl _ _).alloc (Nat.le_refl _) _)⟩
    have h := (show Bx w [] V0 from ⟨hV0.bel, (fun _ h => by cases h), (fun _ h => by cases h)⟩).alloc 0 0 0 0
    rwa [hV0.siz] at h
  have e0 := hV0.siz
  (try rw [e0])
  clear hV0 e0
  generalize V0.alloc (.cells #[.int .u64 0, .int .u64 0, .int .u64 0, .int .u64 0] 24) = W0 at K0 ⊢
  go_wp2
  go_loopw [3, 4] (fun s3 s4 wr => ∃ j : Nat, s4 = .int .i64 ((j : Int) - 1) ∧ j ≤ 20 ∧ wr.ownsRow W0.heap.size 3 1 s3 (20 - j) (intsD (revd u 20) (20 - j)) ∧ Below W0.heap.size W0 wr) (fun _ s4 _ => (intOf s4 + 1).toNat)
  case atStart => exact ⟨20, by first | rfl | go_num, by omega, by rw [Nat.sub_self]; exact World.ownsRow_nil _ _ _ _, Below.refl _ _⟩
  case round =>
    obtain ⟨j, rfl, hj, hown, hB⟩ := hrel
    have HOW : Hid _ := hown
    have HB : Hid (Below W0.heap.size W0 wr) := hB
    have b0 := hB.size
    clear hown hB
    rcases j with _ | j
    · have RI : Hid (RowIs wr u3 32 (dsum (revd u 20) 20)) := ⟨20, _, by omega, RowAt.own (by have := HOW.out; rwa [Nat.sub_zero] at this) (revd_lt HU.out 20) (fun i hi => by unfold revd; rw [if_neg (by omega)]) (by omega), rfl⟩
      have K1 : Hid (Bx w [(w.heap.size + 1, 0, 0, 0, 0)] wr) := K0.out.1.past HB.out
      have WD : Hid _ := ri_word RI.out HP.out
      clear HOW HB RI K0
      go_wp2_with fail
      refine Calls.mono WD.out ?_
      rintro e x1 ⟨rfl, hB⟩
      have K2 : Hid _ := K1.out.past hB
      clear hB WD K1
      obtain ⟨r0, r1, r2, r3, f0, f1, f2, f3⟩ := K2.out.f0 mm0
      go_wp2
      exact bodyPost_ret (v := .agg #[.int .u64 p0, .int .u64 p1, .int .u64 p2, .int .u64 p3]) (by simp [results, Tryz.results69, go_sem, r0, r1, r2, r3]) rfl ⟨rfl, below_put K2.out.bel (by omega) _ _ _ _⟩
    · rw [show ((j + 1 : Nat) : Int) - 1 = (j : Int) by omega]
      have jI : (0 : Int) ≤ (j : Int) := by omega
      have jN : (j : Int) < 20 := by omega
      have cj := ((K0.out.2.past HB.out) j (by omega)).1
      have hl := HU.out j
      have ed : u j = revd u 20 (20 - (j + 1)) := by unfold revd; rw [if_pos (by omega)]; congr 1; omega
      generalize u j = y at cj hl ed
      have ED : Hid (y = revd u 20 (20 - (j + 1))) := ed
      have w3 : IntKind.i64.wrap (y : Int) = (y : Int) := by rw [IntKind.wrap_i64]; omega
      clear ed
      obtain ⟨k, ek⟩ : ∃ k, k = 20 - (j + 1) := ⟨_, rfl⟩
      have EK : Hid (k + 1 = 20 - j ∧ k ≤ 20) := ⟨by omega, by omega⟩
      rw [← ek] at HOW ED
      have kL : k ≤ 20 := by omega
      clear ek
      go_wp2_with (at_builtin; refine wpList_append_own _ rfl _ _ 61 rfl W0.heap.size 3 i0 (.int .i64 0) 1 8 Tryz.underlying61 hi hz0 hz1 hz2 rfl (by decide) _ _ _ rfl (World.ownsRow.alloc HOW.out _) ⟨wr.heap.size, 0, none⟩ 1 1 [.int .i64 (y : Int)] rfl rfl (fun j u hj => (by have hj0 : j = 0 := (by have := (List.getElem?_eq_some_iff.1 hj).1; simpa using this); subst hj0; simp at hj; subst hj; (first | (simp [Addr.add]; done) | (simp [Addr.add]; omega)))) (fun u hu => (by rw [List.mem_singleton.1 hu]; rfl)) (by unfold maxLen; omega) (by omega) (by simp; omega) ?_; intro v' w1 hown' hgrow _)
      have R : Hid _ := of_step ED.out HOW.out HB.out hown' hgrow
      clear hown' hgrow
      go_wp2
      go_roundw
      case rel => exact ⟨j, by go_num, by omega, by rw [← EK.out.1]; exact R.out.1, R.out.2⟩
      case measure => simp [intOf]
set_option maxHeartbeats 2000000 in
set_option maxRecDepth 100000 in
theorem wfromAddress_is (w : World) (u : Nat → Nat) (hu : ∀ i, u i < 256) (p0 p1 p2 p3 : Int) (hp : IsW (dsum (revd u 20) 20 : Int) p0 p1 p2 p3) :
    Calls Tryz.prog 68 #[.agg (rowB 20 (fun i => (u i : Int))).toArray] w fun e w' => e = .returned (.agg #[.int .u64 p0, .int .u64 p1, .int .u64 p2, .int .u64 p3]) ∧ Below w.heap.size w w' := by
  have hr := revd_lt hu 20
  have hlt : dsum (revd u 20) 20 < 256 ^ 32 := Nat.lt_of_lt_of_le (dsum_lt hr 20) (Nat.pow_le_pow_right (by decide) (by decide))
  have hV : V p0 p1 p2 p3 = ((dsum (revd u 20) 20 : Nat) : Int) := hp.2.trans (nat_small hlt)
  have hd := fun j (hj : j < 32) => bw_dig hp.u0 hp.u1 hp.u2 hp.u3 _ hV j hj
  have GA : Hid (∀ (W : World) (g : Nat), RowB W g 20 (fun i => (u i : Int)) → Calls Tryz.prog 114 #[.slice (some ⟨g, 0, none⟩) 20 20] W fun e w' => e = .returned (.agg #[.int .u64 p0, .int .u64 p1, .int .u64 p2, .int .u64 p3]) ∧ Below W.heap.size W w') := fun W g hW => by
    refine gather_is p0 p1 p2 p3 g 0 20 20 W (by omega) (fun q => limb_u64 hp.u0 hp.u1 hp.u2 hp.u3 q) (fun q hq => ?_) (fun i hi => ?_)
    · have h := keep_lead hp.u0 hp.u1 hp.u2 hp.u3 12 (by omega) (fun j h1 h2 => by rw [hd j h2, dsum_above hr (by omega)]; rfl) q hq
      exact h
    · rw [Nat.zero_add, (hW i hi).1, hd (20 - 1 - i) (by omega), dsum_digit hr (by omega), revd, if_pos (by omega), show 20 - 1 - (20 - 1 - i) = i by omega]
  have hsl := slice_all20
  clear hr hlt hV hd hp hu
  go_enter Tryz.func68, Tryz.ntmps68
  go_upto_region 1 with (refine box20 (fun i => (u i : Int)) rfl _ rfl rfl ?_; intro V0 hV0)
  have K0 : Hid (Bx w [(w.heap.size + 1, 0, 0, 0, 0)] (V0.alloc (.cells #[.int .u64 0, .int .u64 0, .int .u64 0, .int .u64 0] 24)) ∧ RowB (V0.alloc (.cells #[.int .u64 0, .int .u64 0, .int .u64 0, .int .u64 0] 24)) w.heap.size 20 (fun i => (u i : Int))) := by
    refine ⟨?_, hV0.row.past ((Below.refl _ _).alloc (Nat.le_refl _) _)⟩
    have h := (show Bx w [] V0 from ⟨hV0.bel, (fun _ h => by cases h), (fun _ h => by cases h)⟩).alloc 0 0 0 0
    rwa [hV0.siz] at h
  have e0 := hV0.siz
  (try rw [e0])
  clear hV0 e0
  generalize V0.alloc (.cells #[.int .u64 0, .int .u64 0, .int .u64 0, .int .u64 0] 24) = W0 at K0 ⊢
  go_wp2_with (go_at_call 114; refine (GA.out _ _ K0.out.2).mono ?_; rintro e x9 ⟨rfl, hB⟩; (have K9 : Hid (Bx w [(w.heap.size + 1, 0, 0, 0, 0)] x9) := K0.out.1.past hB); clear hB; obtain ⟨r0, r1, r2, r3, f0, f1, f2, f3⟩ := K9.out.f0 mm0)
  exact bodyPost_ret (v := .agg #[.int .u64 p0, .int .u64 p1, .int .u64 p2, .int .u64 p3]) (by simp [results, Tryz.results68, go_sem, r0, r1, r2, r3]) rfl ⟨rfl, below_put K9.out.bel (by omega) _ _ _ _⟩
end Go.Proofs.YtpadpmkfhljiiaaGreat
/- b[n:] and b[:] of an array of bytes; num. -/
namespace Go.Proofs.YtpadpmkfhljiiaaGreat
open Go.RowKit
theorem slice_arr (g q d : Nat) (hq : q + d = 32) (W : World) : Sem.run Tryz.prog (Instr.sliceAt 45 (.pointer (some ⟨g, 0, none⟩)) (some (.int .i64 (q : Int))) none none) W = .ok (.slice (some ⟨g, if d = 0 then 0 else q, none⟩) d d) W := by
  have h32 : Tryz.prog.arrayLen 45 = 32 := by kernel_rfl
  have sz : Sem.run Tryz.prog (sizeOf (Tryz.prog.elem 45)) W = .ok 1 W := by kernel_rfl
  rw [run_sliceAt_array_l W 45 ⟨g, 0, none⟩ (by kernel_rfl) .i64 (q : Int) (by omega) (by rw [h32]; omega), sz, h32, Result.andThen_ok]
  unfold slicedAt
  rw [Int.toNat_natCast, show 32 - q = d by omega]
  by_cases e : d = 0
  · rw [if_pos e, if_pos (by omega)]
  · rw [if_neg e, if_neg (by omega)]; simp [Addr.add]; omega
end Go.Proofs.YtpadpmkfhljiiaaGreat
