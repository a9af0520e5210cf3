/- Bytes and FromBytes of the document; words and their 32 bytes. -/
import Derived.Test.YtlemnjhdnciddaaGob
import Derived.Test.YtlemnjhdnciddaaGny
namespace Go.Proofs.Ytlemnjhdnciddaa
open Go.RowKit
theorem dsum_at {d : Nat → Nat} (hd : ∀ i, d i < 256) (n k : Nat) (hk : k < n) : ∃ rest, dsum d n / 256 ^ k = d k + 256 * rest := by
  obtain ⟨t, rfl⟩ : ∃ t, n = k + (t + 1) := ⟨n - k - 1, by omega⟩
  rw [dsum_split, dsum_front]
  have h1 := dsum_lt hd k
  rw [Nat.add_comm (dsum d k), Nat.mul_add_div (Nat.pow_pos (by decide)), Nat.div_eq_of_lt h1]
  exact ⟨_, rfl⟩
theorem nat_small {U : Nat} (h : U < 256 ^ 32) : (U : Int) % MM = (U : Int) := Int.emod_eq_of_lt (by omega) (by rw [← MM_nat]; exact_mod_cast h)
theorem isW_ex (v : Int) : ∃ a0 a1 a2 a3 : Int, IsW v a0 a1 a2 a3 := by
  refine ⟨v % 18446744073709551616, v / 18446744073709551616 % 18446744073709551616, v / 340282366920938463463374607431768211456 % 18446744073709551616, v / 6277101735386680763835789423207666416102355444464034512896 % 18446744073709551616, ⟨⟨by omega, by unfold Bd; omega⟩, ⟨by omega, by unfold Bd; omega⟩, ⟨by omega, by unfold Bd; omega⟩, ⟨by omega, by unfold Bd; omega⟩⟩, ?_⟩
  unfold V Bd MM; omega
theorem zero32 (w : World) : (zeroValue 46).run Try.prog w = .ok (.agg (rowB 32 (fun _ => 0)).toArray) w := by kernel_rfl
/-- a new block of bytes -/
structure NewB (w W : World) (n : Nat) (f : Nat → Int) : Prop where
  row : RowB W w.heap.size n f
  bel : Below w.heap.size w W
  siz : W.heap.size = w.heap.size + 1
theorem NewB.of (w : World) (t : TypeId) (n : Nat) (f : Nat → Int) : NewB w (w.alloc (.cells (rowB n f).toArray t)) n f := ⟨RowB.new _ _ _ _, (Below.refl _ _).alloc (Nat.le_refl _) _, by simp⟩
theorem alloc32 {ops : Array Oper} {rest : List Oper} {op : Oper} {a : Act} {w : World} {Q : Exit → Act → World → Prop} (hgd : op.guard = none) (ho : op.op = .alloc 46)
    (h : ∀ W, NewB w W 32 (fun _ => 0) → wpList Try.prog ops Q rest (a.put op.dst (.pointer (some ⟨w.heap.size, 0, none⟩))) W) : wpList Try.prog ops Q (op :: rest) a w := by
  refine wpList_plain hgd fun K hK => ?_
  unfold Oper.wp execOp
  simp only [ho, Sem.run_bind, Instr.alloc, zero32, newVar, newRow, run_newObj_alloc, Sem.run_pure, Result.andThen_ok, Value.cells]
  exact hK _ _ (h _ (NewB.of w _ 32 _))
theorem RowB.past {w w' : World} {b n : Nat} {v : Nat → Int} (h : RowB w b n v) (k : Below w.heap.size w w') : RowB w' b n v := fun i hi =>
  have hb := World.block_lt_of_cell? w _ (h i hi).1
  ⟨(k.cell (p := ⟨b, i, none⟩) hb).trans (h i hi).1, (k.frozen (p := ⟨b, i, none⟩) hb).trans (h i hi).2⟩
/-- the first k bytes of f, none behind -/
def uptoB (f : Nat → Int) (k i : Nat) : Int := if i < k then f i else 0
set_option maxHeartbeats 2000000 in
set_option maxRecDepth 100000 in
theorem rbytes_is (x : Int) (a0 a1 a2 a3 : Int) (w : World) (ha : IsW x a0 a1 a2 a3) (X : Nat) (hX : V a0 a1 a2 a3 = (X : Int)) :
    Calls Try.prog 66 #[.agg #[.int .u64 a0, .int .u64 a1, .int .u64 a2, .int .u64 a3]] w fun e w' => e = .returned (.agg (rowB 32 (fun i => ((dig X (31 - i) : Nat) : Int))).toArray) ∧ Below w.heap.size w w' := by
  have OA : Hid (∀ W, Calls Try.prog 75 #[.agg #[.int .u64 a0, .int .u64 a1, .int .u64 a2, .int .u64 a3]] W fun e w' => ∃ v, e = .returned v ∧ RowAt w' v 32 (dig X) ∧ Below W.heap.size W w') := fun W => of_is x a0 a1 a2 a3 W ha X hX
  have B0 : Hid (Below w.heap.size w (w.alloc (.cells #[.int .u64 a0, .int .u64 a1, .int .u64 a2, .int .u64 a3] 30)) ∧ Box (w.alloc (.cells #[.int .u64 a0, .int .u64 a1, .int .u64 a2, .int .u64 a3] 30)) w.heap.size a0 a1 a2 a3 ∧ (w.alloc (.cells #[.int .u64 a0, .int .u64 a1, .int .u64 a2, .int .u64 a3] 30)).heap.size = w.heap.size + 1) := ⟨(Below.refl _ _).alloc (by omega) _, Box.new w 30 a0 a1 a2 a3, by simp⟩
  clear ha hX
  obtain ⟨F, eF⟩ : ∃ F : Nat → Int, F = fun i => ((dig X (31 - i) : Nat) : Int) := ⟨_, rfl⟩
  rw [← eF]
  have EF : Hid (∀ i, F i = ((dig X (31 - i) : Nat) : Int)) := fun i => by rw [eF]
  clear eF
  go_enter Try.func66, Try.ntmps66
  go_upto_region 1 with (refine alloc32 rfl rfl ?_; intro W0 hW0)
  generalize w.alloc (.cells #[.int .u64 a0, .int .u64 a1, .int .u64 a2, .int .u64 a3] 30) = V0 at *
  have K0 : Hid (Below w.heap.size w W0 ∧ Box W0 w.heap.size a0 a1 a2 a3 ∧ RowB W0 (w.heap.size + 1) 32 (fun _ => 0)) := by
    obtain ⟨b1, b2, b3⟩ := B0.out
    exact ⟨b1.trans (hW0.bel.mono b1.size), b2.below hW0.bel b2.lt, by rw [← b3]; exact hW0.row⟩
  rw [B0.out.2.2]
  clear B0 hW0
  obtain ⟨c0, c1, c2, c3, _⟩ := Box.facts K0.out.2.1
  go_upto_region 2 with (go_at_call 75; refine (OA.out _).mono ?_; rintro e v1 ⟨rv, rfl, hrow, hB⟩)
  have K1 : Hid (Below w.heap.size w v1 ∧ RowB v1 (w.heap.size + 1) 32 (fun _ => 0) ∧ RowAt v1 rv 32 (dig X)) := ⟨K0.out.1.trans (hB.mono K0.out.1.size), K0.out.2.2.past hB, hrow⟩
  clear K0 hrow hB c0 c1 c2 c3 OA
  go_wp2_with (refine alloc32 rfl rfl ?_; intro W2 hW2)
  have K2 : Hid (RowB W2 v1.heap.size 32 (uptoB F 0) ∧ Below v1.heap.size v1 W2) := ⟨hW2.row.ext (fun i _ => by unfold uptoB; rw [if_neg (by omega)]), hW2.bel⟩
  clear hW2
  obtain ⟨l, el⟩ : ∃ l, v1.heap.size = l := ⟨_, rfl⟩
  have EL : Hid (v1.heap.size = l) := el
  rw [el] at K2 ⊢
  clear el
  have K4 := K1.out.2.2
  obtain ⟨_, _, _, ad, cap, rfl, hc⟩ := K4
  obtain ⟨g, o, rfl, hc2⟩ := hc (by decide)
  have lg : g < v1.heap.size := World.block_lt_of_cell? v1 _ (hc2 0 (by decide))
  have HC : Hid (∀ i, i < 32 → v1.cell? ⟨g, o + i, none⟩ = some (.int .i64 (dig X i : Int))) := hc2
  clear hc hc2
  go_loopw [5] (fun s wr => ∃ k : Nat, s = .int .i64 (k : Int) ∧ k ≤ 32 ∧ RowB wr l 32 (uptoB F k) ∧ Below l v1 wr) (fun s _ => 32 - (intOf s).toNat)
  case atStart => exact ⟨0, rfl, by omega, K2.out.1, K2.out.2⟩
  case round =>
    obtain ⟨k, rfl, hk, hR, hB⟩ := hrel
    clear K2
    have HR : Hid (RowB wr l 32 (uptoB F k)) := hR
    have HB : Hid (Below l v1 wr) := hB
    clear hR hB
    by_cases hk5 : k < 32
    · have kI : (k : Int) < 32 := by omega
      obtain ⟨q, eq⟩ : ∃ q, q = 31 - k := ⟨_, rfl⟩
      have w1 : (31 : Int) - (k : Int) = (q : Int) := by omega
      have w2 : IntKind.i64.wrap (q : Int) = (q : Int) := by rw [IntKind.wrap_i64]; omega
      have qI : (q : Int) < 32 := by omega
      have cq := (HB.out.cell (p := ⟨g, o + q, none⟩) (by rw [← EL.out]; exact lg)).trans (HC.out q (by omega))
      have fk := EF.out k
      rw [← eq] at fk
      have hd := dig_lt X q
      generalize dig X q = y at cq fk hd
      have w3 : IntKind.u8.wrap (y : Int) = (y : Int) := by rw [IntKind.wrap_u8]; omega
      have N1 : Hid (RowB (wr.setCell ⟨l, k, none⟩ (.int .u8 (y : Int))) l 32 (uptoB F (k + 1)) ∧ Below l v1 (wr.setCell ⟨l, k, none⟩ (.int .u8 (y : Int)))) := by
        refine ⟨(RowB.set HR.out k (y : Int) hk5).ext (fun i hi => ?_), HB.out.setCell (Nat.le_refl _) _⟩
        unfold uptoB
        by_cases h : i = k
        · subst h; rw [if_pos rfl, if_pos (by omega), fk]
        · rw [if_neg h]
          by_cases h2 : i < k
          · rw [if_pos h2, if_pos (by omega)]
          · rw [if_neg h2, if_neg (by omega)]
      have cz := (HR.out k hk5).1
      have fz := (HR.out k hk5).2
      clear eq fk hd
      go_wp2
      go_roundw
      case rel => exact ⟨k + 1, by go_num, by omega, N1.out.1, N1.out.2⟩
      case measure => simp [intOf]; omega
    · obtain rfl : k = 32 := by omega
      have R1 : Hid (RowB wr (w.heap.size + 1) 32 (fun _ => 0)) := K1.out.2.1.past (by rw [EL.out]; exact HB.out)
      have R2 : Hid (RowB wr l 32 F) := HR.out.ext (fun i hi => by unfold uptoB; rw [if_pos hi])
      have B3 : Hid (Below w.heap.size w wr) := by
        have := K1.out.1.size
        exact K1.out.1.trans (HB.out.mono (by have := EL.out; omega))
      clear HR HB K1
      go_wp2_with (first
        | (refine load32 F l rfl _ rfl rfl R2.out.range ?_)
        | (refine store32 F (w.heap.size + 1) rfl _ _ rfl rfl rfl R1.out.there ?_))
      refine bodyPost_ret (v := .agg (rowB 32 F).toArray) ?_ rfl ⟨rfl, below_setCellsB _ (by omega) _ _ _ B3.out⟩
      exact results_cellB Try.results66 _ _ _ ⟨w.heap.size + 1, 0, none⟩ rfl (loadVar32 R1.out.of_range.range)
/-- the bytes as digits, the lowest first -/
def revd (u : Nat → Nat) (n t : Nat) : Nat := if t < n then u (n - 1 - t) else 0
theorem revd_lt {u : Nat → Nat} (h : ∀ i, u i < 256) (n t : Nat) : revd u n t < 256 := by unfold revd; split; exact h _; omega
/-- the digits of a row are those of its number -/
theorem dsum_digit {d : Nat → Nat} (hd : ∀ i, d i < 256) {n k : Nat} (hk : k < n) : dsum d n / 256 ^ k % 256 = d k := by
  obtain ⟨r, h⟩ := dsum_at hd n k hk
  have := hd k
  rw [h]; omega
theorem dsum_above {d : Nat → Nat} (hd : ∀ i, d i < 256) {n k : Nat} (hk : n ≤ k) : dsum d n / 256 ^ k = 0 :=
  Nat.div_eq_of_lt (Nat.lt_of_lt_of_le (dsum_lt hd n) (Nat.pow_le_pow_right (by decide) hk))
theorem bw_dig {x0 x1 x2 x3 : Int} (h0 : U64 x0) (h1 : U64 x1) (h2 : U64 x2) (h3 : U64 x3) (X : Nat) (hX : V x0 x1 x2 x3 = (X : Int)) (i : Nat) (hi : i < 32) : bw x0 x1 x2 x3 i = ((X / 256 ^ i % 256 : Nat) : Int) := by
  have h := dig_limb h0 h1 h2 h3 X hX i hi
  unfold dig at h
  rw [if_pos hi] at h
  obtain ⟨l, hl⟩ := Int.eq_ofNat_of_zero_le (limb_u64 h0 h1 h2 h3 (i / 8)).1
  rw [hl] at h
  unfold bw
  have e : (2 : Int) ^ (8 * (i % 8)) = ((256 ^ (i % 8) : Nat) : Int) := by rw [Int.pow_mul, Int.natCast_pow]; rfl
  rw [hl, ← h, e, Int.natCast_emod, Int.natCast_ediv, Int.toNat_natCast]; rfl
set_option maxHeartbeats 2000000 in
set_option maxRecDepth 100000 in
theorem rfromBytes_is (w : World) (v : Value) (n : Nat) (u : Nat → Nat) (hv : By w v n u) (hu : ∀ i, u i < 256) (hn : n ≤ 32) (p0 p1 p2 p3 : Int) (hp : IsW (dsum (revd u n) n : Int) p0 p1 p2 p3) :
    Calls Try.prog 65 #[v] w fun e w' => e = .returned (.tuple #[.agg #[.int .u64 p0, .int .u64 p1, .int .u64 p2, .int .u64 p3], .int .i64 0]) ∧ Below w.heap.size w w' := by
  obtain ⟨i0, hi, hz0, hz1, hz2⟩ := info_parts Try.infoI
  have HP : Hid (IsW (dsum (revd u n) n : Int) p0 p1 p2 p3) := hp
  obtain ⟨ad, cap, rfl, _, _, hc⟩ := hv
  have HU : Hid (∀ i, u i < 256) := hu
  have HC : Hid (n ≠ 0 → ∃ g o, ad = some ⟨g, o, none⟩ ∧ ∀ i, i < n → w.cell? ⟨g, o + i, none⟩ = some (.int .u8 (u i : Int))) := fun h0 => hc (by omega)
  have nI : (n : Int) ≤ 32 := by omega
  have K0 : Hid (Below w.heap.size w (w.alloc (.cells #[.int .u64 0, .int .u64 0, .int .u64 0, .int .u64 0] 30)) ∧ Box (w.alloc (.cells #[.int .u64 0, .int .u64 0, .int .u64 0, .int .u64 0] 30)) w.heap.size 0 0 0 0) := ⟨(Below.refl _ _).alloc (Nat.le_refl _) _, Box.new w _ 0 0 0 0⟩
  clear hp hu hc
  go_enter Try.func65, Try.ntmps65
  go_upto_region 1 with fail
  generalize w.alloc (.cells #[.int .u64 0, .int .u64 0, .int .u64 0, .int .u64 0] 30) = W0 at K0 ⊢
  go_wp2
  go_loopw [4, 5] (fun s4 s5 wr => ∃ j : Nat, s5 = .int .i64 ((j : Int) - 1) ∧ j ≤ n ∧ wr.ownsRow W0.heap.size 3 1 s4 (n - j) (intsD (revd u n) (n - j)) ∧ Below W0.heap.size W0 wr) (fun _ s5 _ => (intOf s5 + 1).toNat)
  case atStart => exact ⟨n, by first | rfl | go_num, by omega, by rw [Nat.sub_self]; exact World.ownsRow_nil _ _ _ _, Below.refl _ _⟩
  case round =>
    obtain ⟨j, rfl, hj, hown, hB⟩ := hrel
    have HOW : Hid _ := hown
    have HB : Hid (Below W0.heap.size W0 wr) := hB
    have b0 := hB.size
    clear hown hB
    rcases j with _ | j
    · have RI : Hid (RowAt wr u4 n (revd u n)) := RowAt.own (by have := HOW.out; rwa [Nat.sub_zero] at this) (revd_lt HU.out n) (fun i hi => by unfold revd; rw [if_neg (by omega)]) (by omega)
      have K1 : Hid (Below w.heap.size w wr ∧ Box wr w.heap.size 0 0 0 0) := ⟨K0.out.1.trans (HB.out.mono K0.out.1.size), K0.out.2.below HB.out K0.out.2.lt⟩
      have WD : Hid _ := word_is wr u4 n (revd u n) RI.out
      clear HOW HB RI K0
      go_wp2_with fail
      refine Calls.mono WD.out ?_
      rintro e x1 ⟨s0, s1, s2, s3, rfl, hs, hB⟩
      obtain ⟨rfl, rfl, rfl, rfl⟩ := hs.eq HP.out (by rw [dsum_more (n := n) (fun i hi => by unfold revd; rw [if_neg (by omega)]) 32 hn])
      have K2 : Hid (Below w.heap.size w x1 ∧ Box x1 w.heap.size 0 0 0 0) := ⟨K1.out.1.trans (hB.mono K1.out.1.size), K1.out.2.below hB K1.out.2.lt⟩
      clear hs
      clear hB WD K1
      obtain ⟨r0, r1, r2, r3, f0, f1, f2, f3⟩ := Box.facts K2.out.2
      go_wp2
      exact bodyPost_ret (v := .tuple #[.agg #[.int .u64 s0, .int .u64 s1, .int .u64 s2, .int .u64 s3], .int .i64 0]) (by simp [results, Try.results65, go_sem, r0, r1, r2, r3]) rfl ⟨rfl, below_put K2.out.1 (Nat.le_refl _) _ _ _ _⟩
    · rw [show ((j + 1 : Nat) : Int) - 1 = (j : Int) by omega]
      have jI : (0 : Int) ≤ (j : Int) := by omega
      have jN : (j : Int) < (n : Int) := by omega
      obtain ⟨g, o, rfl, hc⟩ := HC.out (by omega)
      have lg : g < w.heap.size := World.block_lt_of_cell? w _ (hc j (by omega))
      have cj := ((K0.out.1.trans (HB.out.mono K0.out.1.size)).cell (p := ⟨g, o + j, none⟩) lg).trans (hc j (by omega))
      have hl := HU.out j
      have ed : u j = revd u n (n - (j + 1)) := by unfold revd; rw [if_pos (by omega)]; congr 1; omega
      generalize u j = y at cj hl ed
      have ED : Hid (y = revd u n (n - (j + 1))) := ed
      have w3 : IntKind.i64.wrap (y : Int) = (y : Int) := by rw [IntKind.wrap_i64]; omega
      clear hc ed
      obtain ⟨k, ek⟩ : ∃ k, k = n - (j + 1) := ⟨_, rfl⟩
      have EK : Hid (k + 1 = n - j ∧ k ≤ 32) := ⟨by omega, by omega⟩
      rw [← ek] at HOW ED
      have kL : k ≤ 32 := by omega
      clear ek
      go_wp2_with (at_builtin; refine wpList_append_own _ rfl _ _ 111 rfl W0.heap.size 3 i0 (.int .i64 0) 1 8 Try.underlying111 hi hz0 hz1 hz2 rfl (by decide) _ _ _ rfl (World.ownsRow.alloc HOW.out _) ⟨wr.heap.size, 0, none⟩ 1 1 [.int .i64 (y : Int)] rfl rfl (fun j u hj => (by have hj0 : j = 0 := (by have := (List.getElem?_eq_some_iff.1 hj).1; simpa using this); subst hj0; simp at hj; subst hj; (first | (simp [Addr.add]; done) | (simp [Addr.add]; omega)))) (fun u hu => (by rw [List.mem_singleton.1 hu]; rfl)) (by unfold maxLen; omega) (by omega) (by simp; omega) ?_; intro v' w1 hown' hgrow _)
      have R : Hid _ := of_step ED.out HOW.out HB.out hown' hgrow
      clear hown' hgrow
      go_wp2
      go_roundw
      case rel => exact ⟨j, by go_num, by omega, by rw [← EK.out.1]; exact R.out.1, R.out.2⟩
      case measure => simp [intOf]
/-- the word that these 32 bytes are -/
def LdW (f : Nat → Nat) (x : W4) : Prop := IsW ((dsum (revd f 32) 32 : Nat) : Int) x.a x.b x.c x.d
theorem ldW_ex (f : Nat → Nat) : ∃ x : W4, LdW f x := by
  obtain ⟨a, b, c, d, h⟩ := isW_ex ((dsum (revd f 32) 32 : Nat) : Int)
  exact ⟨⟨a, b, c, d⟩, h⟩
theorem LdW.ext {f g : Nat → Nat} {x : W4} (h : LdW f x) (e : ∀ i, i < 32 → f i = g i) : LdW g x := by
  unfold LdW at h ⊢
  rw [← dsum_ext 32 (d := revd f 32) (e := revd g 32) (fun i hi => by unfold revd; rw [if_pos hi, if_pos hi]; exact e _ (by omega))]
  exact h
theorem LdW.bytes {f : Nat → Nat} {x : W4} (hf : ∀ i, f i < 256) (h : LdW f x) (i : Nat) (hi : i < 32) : bb x.a x.b x.c x.d i = (f i : Int) := by
  have hr := revd_lt hf 32
  have hlt : dsum (revd f 32) 32 < 256 ^ 32 := dsum_lt hr 32
  have hV : V x.a x.b x.c x.d = ((dsum (revd f 32) 32 : Nat) : Int) := IsW.val h |>.trans (nat_small hlt)
  unfold bb
  rw [bw_dig (IsW.u0 h) (IsW.u1 h) (IsW.u2 h) (IsW.u3 h) _ hV (31 - i) (by omega), dsum_digit hr (by omega), revd, if_pos (by omega), show 32 - 1 - (31 - i) = i by omega]
/-- the 32 bytes of a word -/
def bN (x : W4) (i : Nat) : Nat := (bb x.a x.b x.c x.d i).toNat
theorem bN_lt (x : W4) (i : Nat) : bN x i < 256 := by have := bb_range x.a x.b x.c x.d i; unfold bN; omega
theorem bN_int (x : W4) (i : Nat) : (bN x i : Int) = bb x.a x.b x.c x.d i := by have := bb_range x.a x.b x.c x.d i; unfold bN; omega
theorem ldW_self {x : W4} (h : IsW (V x.a x.b x.c x.d) x.a x.b x.c x.d) : LdW (bN x) x := by
  obtain ⟨X, hX, eX, lX⟩ := mod_nat h
  have e : dsum (revd (bN x) 32) 32 = X := by
    rw [← dig_all X lX]
    refine dsum_ext 32 fun i hi => ?_
    have h1 := bN_int x (31 - i)
    unfold bb at h1
    rw [show 31 - (31 - i) = i by omega, bw_dig (IsW.u0 h) (IsW.u1 h) (IsW.u2 h) (IsW.u3 h) X hX i hi] at h1
    rw [revd, if_pos hi, dig, if_pos hi, show 32 - 1 - i = 31 - i by omega]
    omega
  unfold LdW
  rw [e, ← hX]
  exact h
theorem LdW.eq {f : Nat → Nat} {x y : W4} (h : LdW f x) (k : LdW f y) : x = y := by
  obtain ⟨e1, e2, e3, e4⟩ := IsW.eq h k rfl
  cases x; cases y
  simp_all
theorem rbytesN (w : World) (x : W4) (h : IsW (V x.a x.b x.c x.d) x.a x.b x.c x.d) : Calls Try.prog 66 #[x.v] w fun e w' => e = .returned (.agg (rowB 32 (fun i => (bN x i : Int))).toArray) ∧ Below w.heap.size w w' := by
  obtain ⟨X, hX, eX, lX⟩ := mod_nat h
  have h1 := rbytes_is _ x.a x.b x.c x.d w h X hX
  rw [rowB_ext (u := fun i => ((dig X (31 - i) : Nat) : Int)) (v := fun i => (bN x i : Int)) (fun i hi => by rw [bN_int]; unfold bb; rw [bw_dig (IsW.u0 h) (IsW.u1 h) (IsW.u2 h) (IsW.u3 h) X hX (31 - i) (by omega), dig, if_pos (by omega)])] at h1
  exact h1
theorem bytesN (w : World) (x : W4) : Calls Try.prog 21 #[x.v] w fun e w' => e = .returned (.agg (rowB 32 (fun i => (bN x i : Int))).toArray) ∧ Below w.heap.size w w' := by
  have h1 := bytes_is x.a x.b x.c x.d w
  rw [rowB_ext (u := bb x.a x.b x.c x.d) (v := fun i => (bN x i : Int)) (fun i _ => (bN_int x i).symm)] at h1
  exact h1
theorem fromBytesN (w : World) (g o c : Nat) (f : Nat → Nat) (hf : ∀ i, f i < 256) (x : W4) (hx : LdW f x) (hb : ByC w g o 32 f) : Calls Try.prog 28 #[.slice (some ⟨g, o, none⟩) 32 c] w fun e w' => e = .returned (.tuple #[x.v, .int .i64 0]) ∧ Below w.heap.size w w' := by
  refine fromBytes_is x.a x.b x.c x.d g o 32 c w (Nat.le_refl _) (fun q => limb_u64 (IsW.u0 hx) (IsW.u1 hx) (IsW.u2 hx) (IsW.u3 hx) q) (fun q hq => ?_) (fun i hi => ?_)
  · unfold keep
    rw [show 8 * min 8 (32 - 8 * q) = 64 by omega]
    have h := limb_u64 (IsW.u0 hx) (IsW.u1 hx) (IsW.u2 hx) (IsW.u3 hx) q
    have h2 := h.2
    unfold Bd at h2
    rw [Int.ediv_eq_zero_of_lt h.1 (by omega)]; simp
  · have h1 := hx.bytes hf i hi
    unfold bb at h1
    rw [show 32 - 1 - i = 31 - i by omega, h1]
    exact hb i hi
theorem rfromBytesN (w : World) (v : Value) (f : Nat → Nat) (hf : ∀ i, f i < 256) (x : W4) (hx : LdW f x) (hb : By w v 32 f) : Calls Try.prog 65 #[v] w fun e w' => e = .returned (.tuple #[x.v, .int .i64 0]) ∧ Below w.heap.size w w' :=
  rfromBytes_is w v 32 f hb hf (Nat.le_refl _) x.a x.b x.c x.d hx
end Go.Proofs.Ytlemnjhdnciddaa
