/- Bytes and FromBytes of the document; words and their 32 bytes. -/
import Derived.Test.YtbjijbgjnammhaaDoorGnx
import Derived.Test.YtbjijbgjnammhaaDoorUo
import Derived.Test.YtbjijbgjnammhaaDoorQa
namespace Go.Proofs.YtbjijbgjnammhaaDoor.Wds
open Go.RowKit
theorem mod_nat {x : Int} {a0 a1 a2 a3 : Int} (h : IsW x a0 a1 a2 a3) : ∃ X : Nat, V a0 a1 a2 a3 = (X : Int) ∧ (X : Int) = x % MM ∧ X < 256 ^ 32 := by
  have r := h.range
  have e : (256 ^ 32 : Nat) = 115792089237316195423570985008687907853269984665640564039457584007913129639936 := by decide
  unfold MM at r
  exact ⟨(V a0 a1 a2 a3).toNat, by omega, by rw [← h.2]; omega, by rw [e]; omega⟩
theorem zero32 (w : World) : (zeroValue 29).run Tryd.prog w = .ok (.agg (rowB 32 (fun _ => 0)).toArray) w := by kernel_rfl
/-- a new block of bytes -/
structure NewB (w W : World) (n : Nat) (f : Nat → Int) : Prop where
  row : RowB W w.heap.size n f
  bel : Below w.heap.size w W
  siz : W.heap.size = w.heap.size + 1
theorem NewB.of (w : World) (t : TypeId) (n : Nat) (f : Nat → Int) : NewB w (w.alloc (.cells (rowB n f).toArray t)) n f := ⟨RowB.new _ _ _ _, (Below.refl _ _).alloc (Nat.le_refl _) _, by simp⟩
theorem alloc32 {ops : Array Oper} {rest : List Oper} {op : Oper} {a : Act} {w : World} {Q : Exit → Act → World → Prop} (hgd : op.guard = none) (ho : op.op = .alloc 29)
    (h : ∀ W, NewB w W 32 (fun _ => 0) → wpList Tryd.prog ops Q rest (a.put op.dst (.pointer (some ⟨w.heap.size, 0, none⟩))) W) : wpList Tryd.prog ops Q (op :: rest) a w := by
  refine wpList_plain hgd fun K hK => ?_
  unfold Oper.wp execOp
  simp only [ho, Sem.run_bind, Instr.alloc, zero32, newVar, newRow, run_newObj_alloc, Sem.run_pure, Result.andThen_ok, Value.cells]
  exact hK _ _ (h _ (NewB.of w _ 32 _))
theorem RowB.past {w w' : World} {b n : Nat} {v : Nat → Int} (h : RowB w b n v) (k : Below w.heap.size w w') : RowB w' b n v := fun i hi =>
  have hb := World.block_lt_of_cell? w _ (h i hi).1
  ⟨(k.cell (p := ⟨b, i, none⟩) hb).trans (h i hi).1, (k.frozen (p := ⟨b, i, none⟩) hb).trans (h i hi).2⟩
/-- the first k bytes of f, none behind -/
def uptoB (f : Nat → Int) (k i : Nat) : Int := if i < k then f i else 0
set_option maxHeartbeats 2000000 in
set_option maxRecDepth 100000 in
theorem rbytes_is (x : Int) (a0 a1 a2 a3 : Int) (w : World) (ha : IsW x a0 a1 a2 a3) (X : Nat) (hX : V a0 a1 a2 a3 = (X : Int)) :
    Calls Tryd.prog 8 #[.agg #[.int .u64 a0, .int .u64 a1, .int .u64 a2, .int .u64 a3]] w fun e w' => e = .returned (.agg (rowB 32 (fun i => ((dig X (31 - i) : Nat) : Int))).toArray) ∧ Below w.heap.size w w' := by
  have OA : Hid (∀ W, Calls Tryd.prog 12 #[.agg #[.int .u64 a0, .int .u64 a1, .int .u64 a2, .int .u64 a3]] W fun e w' => ∃ v, e = .returned v ∧ RowAt w' v 32 (dig X) ∧ Below W.heap.size W w') := fun W => of_is x a0 a1 a2 a3 W ha X hX
  have B0 : Hid (Below w.heap.size w (w.alloc (.cells #[.int .u64 a0, .int .u64 a1, .int .u64 a2, .int .u64 a3] 26)) ∧ Box (w.alloc (.cells #[.int .u64 a0, .int .u64 a1, .int .u64 a2, .int .u64 a3] 26)) w.heap.size a0 a1 a2 a3 ∧ (w.alloc (.cells #[.int .u64 a0, .int .u64 a1, .int .u64 a2, .int .u64 a3] 26)).heap.size = w.heap.size + 1) := ⟨(Below.refl _ _).alloc (by omega) _, Box.new w 26 a0 a1 a2 a3, by simp⟩
  clear ha hX
  obtain ⟨F, eF⟩ : ∃ F : Nat → Int, F = fun i => ((dig X (31 - i) : Nat) : Int) := ⟨_, rfl⟩
  rw [← eF]
  have EF : Hid (∀ i, F i = ((dig X (31 - i) : Nat) : Int)) := fun i => by rw [eF]
  clear eF
  go_enter Tryd.func8, Tryd.ntmps8
  go_upto_region 1 with (refine alloc32 rfl rfl ?_; intro W0 hW0)
  generalize w.alloc (.cells #[.int .u64 a0, .int .u64 a1, .int .u64 a2, .int .u64 a3] 26) = V0 at *
  have K0 : Hid (Below w.heap.size w W0 ∧ Box W0 w.heap.size a0 a1 a2 a3 ∧ RowB W0 (w.heap.size + 1) 32 (fun _ => 0)) := by
    obtain ⟨b1, b2, b3⟩ := B0.out
    exact ⟨b1.trans (hW0.bel.mono b1.size), b2.below hW0.bel b2.lt, by rw [← b3]; exact hW0.row⟩
  rw [B0.out.2.2]
  clear B0 hW0
  obtain ⟨c0, c1, c2, c3, _⟩ := Box.facts K0.out.2.1
  go_upto_region 2 with (go_at_call 12; refine (OA.out _).mono ?_; rintro e v1 ⟨rv, rfl, hrow, hB⟩)
  have K1 : Hid (Below w.heap.size w v1 ∧ RowB v1 (w.heap.size + 1) 32 (fun _ => 0) ∧ RowAt v1 rv 32 (dig X)) := ⟨K0.out.1.trans (hB.mono K0.out.1.size), K0.out.2.2.past hB, hrow⟩
  clear K0 hrow hB c0 c1 c2 c3 OA
  go_wp2_with (refine alloc32 rfl rfl ?_; intro W2 hW2)
  have K2 : Hid (RowB W2 v1.heap.size 32 (uptoB F 0) ∧ Below v1.heap.size v1 W2) := ⟨hW2.row.ext (fun i _ => by unfold uptoB; rw [if_neg (by omega)]), hW2.bel⟩
  clear hW2
  obtain ⟨l, el⟩ : ∃ l, v1.heap.size = l := ⟨_, rfl⟩
  have EL : Hid (v1.heap.size = l) := el
  rw [el] at K2 ⊢
  clear el
  have K4 := K1.out.2.2
  obtain ⟨_, _, _, ad, cap, rfl, hc⟩ := K4
  obtain ⟨g, o, rfl, hc2⟩ := hc (by decide)
  have lg : g < v1.heap.size := World.block_lt_of_cell? v1 _ (hc2 0 (by decide))
  have HC : Hid (∀ i, i < 32 → v1.cell? ⟨g, o + i, none⟩ = some (.int .i64 (dig X i : Int))) := hc2
  clear hc hc2
  go_loopw [5] (fun s wr => ∃ k : Nat, s = .int .i64 (k : Int) ∧ k ≤ 32 ∧ RowB wr l 32 (uptoB F k) ∧ Below l v1 wr) (fun s _ => 32 - (intOf s).toNat)
  case atStart => exact ⟨0, rfl, by omega, K2.out.1, K2.out.2⟩
  case round =>
    obtain ⟨k, rfl, hk, hR, hB⟩ := hrel
    clear K2
    have HR : Hid (RowB wr l 32 (uptoB F k)) := hR
    have HB : Hid (Below l v1 wr) := hB
    clear hR hB
    by_cases hk5 : k < 32
    · have kI : (k : Int) < 32 := by omega
      obtain ⟨q, eq⟩ : ∃ q, q = 31 - k := ⟨_, rfl⟩
      have w1 : (31 : Int) - (k : Int) = (q : Int) := by omega
      have w2 : IntKind.i64.wrap (q : Int) = (q : Int) := by rw [IntKind.wrap_i64]; omega
      have qI : (q : Int) < 32 := by omega
      have cq := (HB.out.cell (p := ⟨g, o + q, none⟩) (by rw [← EL.out]; exact lg)).trans (HC.out q (by omega))
      have fk := EF.out k
      rw [← eq] at fk
      have hd := dig_lt X q
      generalize dig X q = y at cq fk hd
      have w3 : IntKind.u8.wrap (y : Int) = (y : Int) := by rw [IntKind.wrap_u8]; omega
      have N1 : Hid (RowB (wr.setCell ⟨l, k, none⟩ (.int .u8 (y : Int))) l 32 (uptoB F (k + 1)) ∧ Below l v1 (wr.setCell ⟨l, k, none⟩ (.int .u8 (y : Int)))) := by
        refine ⟨(RowB.set HR.out k (y : Int) hk5).ext (fun i hi => ?_), HB.out.setCell (Nat.le_refl _) _⟩
        unfold uptoB
        by_cases h : i = k
        · subst h; rw [if_pos rfl, if_pos (by omega), fk]
        · rw [if_neg h]
          by_cases h2 : i < k
          · rw [if_pos h2, if_pos (by omega)]
          · rw [if_neg h2, if_neg (by omega)]
      have cz := (HR.out k hk5).1
      have fz := (HR.out k hk5).2
      clear eq fk hd
      go_wp2
      go_roundw
      case rel => exact ⟨k + 1, by go_num, by omega, N1.out.1, N1.out.2⟩
      case measure => simp [intOf]; omega
    · obtain rfl : k = 32 := by omega
      have R1 : Hid (RowB wr (w.heap.size + 1) 32 (fun _ => 0)) := K1.out.2.1.past (by rw [EL.out]; exact HB.out)
      have R2 : Hid (RowB wr l 32 F) := HR.out.ext (fun i hi => by unfold uptoB; rw [if_pos hi])
      have B3 : Hid (Below w.heap.size w wr) := by
        have := K1.out.1.size
        exact K1.out.1.trans (HB.out.mono (by have := EL.out; omega))
      clear HR HB K1
      go_wp2_with (first
        | (refine load32 F l rfl _ rfl rfl R2.out.range ?_)
        | (refine store32 F (w.heap.size + 1) rfl _ _ rfl rfl rfl R1.out.there ?_))
      refine bodyPost_ret (v := .agg (rowB 32 F).toArray) ?_ rfl ⟨rfl, below_setCellsB _ (by omega) _ _ _ B3.out⟩
      exact results_cellB Tryd.results8 _ _ _ ⟨w.heap.size + 1, 0, none⟩ rfl (loadVar32 R1.out.of_range.range)
theorem bw_dig {x0 x1 x2 x3 : Int} (h0 : U64 x0) (h1 : U64 x1) (h2 : U64 x2) (h3 : U64 x3) (X : Nat) (hX : V x0 x1 x2 x3 = (X : Int)) (i : Nat) (hi : i < 32) : bw x0 x1 x2 x3 i = ((X / 256 ^ i % 256 : Nat) : Int) := by
  have h := dig_limb h0 h1 h2 h3 X hX i hi
  unfold dig at h
  rw [if_pos hi] at h
  obtain ⟨l, hl⟩ := Int.eq_ofNat_of_zero_le (limb_u64 h0 h1 h2 h3 (i / 8)).1
  rw [hl] at h
  unfold bw
  have e : (2 : Int) ^ (8 * (i % 8)) = ((256 ^ (i % 8) : Nat) : Int) := by rw [Int.pow_mul, Int.natCast_pow]; rfl
  rw [hl, ← h, e, Int.natCast_emod, Int.natCast_ediv, Int.toNat_natCast]; rfl
/-- the 32 bytes of a word -/
def bN (x : W4) (i : Nat) : Nat := (bb x.a x.b x.c x.d i).toNat
theorem bN_lt (x : W4) (i : Nat) : bN x i < 256 := by have := bb_range x.a x.b x.c x.d i; unfold bN; omega
theorem bN_int (x : W4) (i : Nat) : (bN x i : Int) = bb x.a x.b x.c x.d i := by have := bb_range x.a x.b x.c x.d i; unfold bN; omega
theorem rbytesN (w : World) (x : W4) (h : IsW (V x.a x.b x.c x.d) x.a x.b x.c x.d) : Calls Tryd.prog 8 #[x.v] w fun e w' => e = .returned (.agg (rowB 32 (fun i => (bN x i : Int))).toArray) ∧ Below w.heap.size w w' := by
  obtain ⟨X, hX, eX, lX⟩ := mod_nat h
  have h1 := rbytes_is _ x.a x.b x.c x.d w h X hX
  rw [rowB_ext (u := fun i => ((dig X (31 - i) : Nat) : Int)) (v := fun i => (bN x i : Int)) (fun i hi => by rw [bN_int]; unfold bb; rw [bw_dig (IsW.u0 h) (IsW.u1 h) (IsW.u2 h) (IsW.u3 h) X hX (31 - i) (by omega), dig, if_pos (by omega)])] at h1
  exact h1
theorem bytesN (w : World) (x : W4) : Calls Tryd.prog 6 #[x.v] w fun e w' => e = .returned (.agg (rowB 32 (fun i => (bN x i : Int))).toArray) ∧ Below w.heap.size w w' := by
  have h1 := bytes_is x.a x.b x.c x.d w
  rw [rowB_ext (u := bb x.a x.b x.c x.d) (v := fun i => (bN x i : Int)) (fun i _ => (bN_int x i).symm)] at h1
  exact h1
end Go.Proofs.YtbjijbgjnammhaaDoor.Wds
