/- WordForms: the walk. -/
import Derived.Test.YtpadpmkfhljiiaaGreatMf7
import Derived.Test.YtpadpmkfhljiiaaGreatMf2
namespace Go.Proofs.YtpadpmkfhljiiaaGreat
open Go.RowKit
/-- the bytes, and nine marks behind them -/
def extB (u : Nat → Nat) (n i : Nat) : Nat := if i < n then u i else 91 + (i - n) % 9
/-- the bytes written over -/
def xorB (u : Nat → Nat) (i : Nat) : Nat := u i ^^^ ((85 + i) % 256)
theorem xorB_lt {u : Nat → Nat} (h : ∀ i, u i < 256) (i : Nat) : xorB u i < 256 := Nat.xor_lt_two_pow (n := 8) (h i) (by omega)
/-- as far as they are written over -/
def mixB (u : Nat → Nat) (n k i : Nat) : Nat := if i < k then xorB u i else extB u n i
def nine : Nat → Nat := fun i => 91 + i % 9
theorem rowB_app (u : Nat → Nat) (n : Nat) : rowB n (fun i => (u i : Int)) ++ [.int .u8 91, .int .u8 92, .int .u8 93, .int .u8 94, .int .u8 95, .int .u8 96, .int .u8 97, .int .u8 98, .int .u8 99] = rowB (n + 9) (fun i => (extB u n i : Int)) := by
  apply List.ext_getElem?
  intro j
  by_cases h : j < n
  · rw [List.getElem?_append_left (by rw [rowB_len]; exact h), rowB_at n _ j h, rowB_at (n + 9) _ j (by omega), extB, if_pos h]
  · rw [List.getElem?_append_right (by rw [rowB_len]; omega), rowB_len]
    by_cases h2 : j < n + 9
    · rw [rowB_at (n + 9) _ j h2, extB, if_neg h]
      obtain ⟨k, rfl⟩ : ∃ k, j = n + k := ⟨j - n, by omega⟩
      rw [show n + k - n = k by omega]
      have hk : k = 0 ∨ k = 1 ∨ k = 2 ∨ k = 3 ∨ k = 4 ∨ k = 5 ∨ k = 6 ∨ k = 7 ∨ k = 8 := by omega
      rcases hk with rfl | rfl | rfl | rfl | rfl | rfl | rfl | rfl | rfl <;> rfl
    · rw [List.getElem?_eq_none (by simp; omega), List.getElem?_eq_none (by rw [rowB_len]; omega)]
theorem RowB.ownB {W : World} {B g N c : Nat} {b : Nat → Int} (h : W.ownsRow B 5 1 (.slice (some ⟨g, 0, none⟩) N c) N (rowB N b)) : RowB W g N b := fun i hi =>
  ⟨by rw [h.cellAt i (by omega), rowB_at N b i hi], h.frozenAt _⟩
theorem RowB.bytes {W : World} {g N n o c : Nat} {u : Nat → Nat} {b : Nat → Int} (h : RowB W g N b) (hu : ∀ i, u i < 256) (hn : o + n ≤ N) (e : ∀ i, i < n → b (o + i) = (u i : Int)) : BytesAt W (.slice (some ⟨g, o, none⟩) n c) n u :=
  ⟨hu, _, c, rfl, fun _ => ⟨g, o, rfl, fun i hi => by rw [(h (o + i) (by omega)).1, e i hi]⟩⟩
theorem load20g {ops : Array Oper} {rest : List Oper} {op : Oper} {a : Act} {w : World} {Q : Exit → Act → World → Prop} (g : Nat → Int) (b : Nat) (x : Operand) (ho : op.op = .load 37 x)
    (hx : a.eval x = .pointer (some ⟨b, 0, none⟩)) (hr : w.rangeAt b 0 (rowB 20 g)) (hgd : Region.wanted op (yielded ops a.tmps) = true)
    (h : wpList Tryz.prog ops Q rest (a.put op.dst (.agg (rowB 20 g).toArray)) w) : wpList Tryz.prog ops Q (op :: rest) a w := by
  rw [wpList, if_pos hgd]
  exact Or.inl (wp_load_mid 37 x ho b 0 hx (rowB 20 g) _ hr Tryz.underlying37 rfl (by rw [rowB_len]; kernel_rfl) h)
theorem new20 {ops : Array Oper} {rest : List Oper} {op1 op2 : Oper} {a : Act} {w : World} {Q : Exit → Act → World → Prop} (g : Nat → Int) (h1 : op1.guard = none) (o1 : op1.op = .alloc 37) (t : Tmp) (d1 : op1.dst = some t) (h2 : op2.guard = none) (y : Operand) (o2 : op2.op = .store 37 (.tmp t) y) (d2 : op2.dst = none)
    (hx : (a.put (some t) (.pointer (some ⟨w.heap.size, 0, none⟩))).eval (.tmp t) = .pointer (some ⟨w.heap.size, 0, none⟩)) (hy : (a.put (some t) (.pointer (some ⟨w.heap.size, 0, none⟩))).eval y = .agg (rowB 20 g).toArray)
    (h : ∀ W, NewB w W 20 g → wpList Tryz.prog ops Q rest (a.put (some t) (.pointer (some ⟨w.heap.size, 0, none⟩))) W) : wpList Tryz.prog ops Q (op1 :: op2 :: rest) a w := by
  refine alloc20 h1 o1 fun W hW => ?_
  rw [d1]
  refine store20 g w.heap.size h2 _ y o2 hx hy hW.row.there ?_
  rw [d2]
  refine h _ ⟨hW.row.of_range, below_setCellsB _ (Nat.le_refl _) _ _ _ hW.bel, ?_⟩
  rw [sz_setCells]; exact hW.siz
/-- what the law holds: the word's box, the address, the argument, its own bytes -/
structure Fm (w : World) (l : List (Nat × Int × Int × Int × Int)) (f : Nat → Int) (v : Value) (n : Nat) (u : Nat → Nat) (g : Nat) (b : Nat → Int) (W : World) : Prop where
  bx : Bx w l W
  ad : RowB W (w.heap.size + 1) 20 f
  av : BytesAt W v n u
  rw : RowB W g (n + 9) b
theorem Fm.past {w W W' : World} {l : List (Nat × Int × Int × Int × Int)} {f : Nat → Int} {v : Value} {n : Nat} {u : Nat → Nat} {g : Nat} {b : Nat → Int} (h : Fm w l f v n u g b W) (k : Below W.heap.size W W') : Fm w l f v n u g b W' := ⟨h.bx.past k, h.ad.past k, h.av.past k, h.rw.past k⟩
theorem Fm.box {w W : World} {l : List (Nat × Int × Int × Int × Int)} {f : Nat → Int} {v : Value} {n : Nat} {u : Nat → Nat} {g : Nat} {b : Nat → Int} (h : Fm w l f v n u g b W) (a0 a1 a2 a3 : Int) : Fm w ((W.heap.size, a0, a1, a2, a3) :: l) f v n u g b (W.alloc (.cells #[.int .u64 a0, .int .u64 a1, .int .u64 a2, .int .u64 a3] 24)) :=
  have k := (Below.refl W.heap.size W).alloc (Nat.le_refl _) (.cells #[.int .u64 a0, .int .u64 a1, .int .u64 a2, .int .u64 a3] 24)
  ⟨h.bx.alloc a0 a1 a2 a3, h.ad.past k, h.av.past k, h.rw.past k⟩
theorem Bx.far {w W : World} {l : List (Nat × Int × Int × Int × Int)} (h : Bx w l W) (p : Addr) (x : Value) (hg : w.heap.size ≤ p.block) (hne : ∀ q ∈ l, p.block ≠ q.1) : Bx w l (W.setCell p x) := ⟨h.bel.setCell hg x, h.low, fun q hq => (h.box q hq).other _ _ (hne q hq)⟩
theorem Fm.put {w W : World} {l : List (Nat × Int × Int × Int × Int)} {f : Nat → Int} {v : Value} {n : Nat} {u : Nat → Nat} {g : Nat} {b b' : Nat → Int} (h : Fm w l f v n u g b W) (hv : BytesAt w v n u) (hg : w.heap.size + 1 < g) (k : Nat) (hk : k < n + 9) (y : Int) (hb : ∀ j, b' j = if j = k then y else b j) : Fm w l f v n u g b' (W.setCell ⟨g, k, none⟩ (.int .u8 y)) := by
  have hbx : Bx w l (W.setCell ⟨g, k, none⟩ (.int .u8 y)) := h.bx.far _ _ (by show w.heap.size ≤ g; omega) (fun q hq e => by
    have h1 := (h.bx.f0 (b := q.1) (a0 := q.2.1) (a1 := q.2.2.1) (a2 := q.2.2.2.1) (a3 := q.2.2.2.2) hq).1
    have h2 := (h.rw 0 (by omega)).1
    have e2 : g = q.1 := e
    rw [← e2, h2] at h1
    cases h1)
  refine ⟨hbx, h.ad.set_other _ _ (by show g ≠ _; omega), hv.past hbx.bel, ?_⟩
  exact (RowB.set h.rw k y hk).ext (fun i _ => (hb i).symm)
theorem own_bytes {W : World} {B n : Nat} {v : Value} {u : Nat → Nat} (hu : ∀ i, u i < 256) (h : W.ownsRow B 5 1 v n (rowB n (fun i => (u i : Int)))) : BytesAt W v n u := by
  have h1 := h
  obtain ⟨_, ⟨rfl, rfl⟩ | ⟨g, c, cur, rfl, _⟩⟩ := h1
  · exact ⟨hu, none, 0, rfl, fun h => absurd rfl h⟩
  · exact RowB.bytes (RowB.ownB h) hu (by omega) (fun i hi => by rw [Nat.zero_add])
set_option maxHeartbeats 4000000 in
set_option maxRecDepth 100000 in
theorem forms_walk (w : World) (v : Value) (n : Nat) (u : Nat → Nat) (hv : BytesAt w v n u) (hn : n ≤ 1048576) (X : Int) (x0 x1 x2 x3 : Int) (hx : IsW X x0 x1 x2 x3) (m : Int) (f : Nat → Nat) (hf : ∀ i, f i < 256) :
    Calls Tryz.prog 8 #[v, .agg #[.int .u64 x0, .int .u64 x1, .int .u64 x2, .int .u64 x3], .int .u64 m, .agg (rowB 20 (fun i => (f i : Int))).toArray] w fun e w' => e = .returned (.bool true) ∧ Below w.heap.size w w' := by
  obtain ⟨i0, hi, hz0, hz1, hz2⟩ := info_parts Tryz.infoB
  have HV : Hid (BytesAt w v n u) := hv
  have HU : Hid (∀ i, u i < 256) := hv.1
  obtain ⟨_, ad, cap, rfl, hc⟩ := hv
  have HC : Hid (n ≠ 0 → ∃ g o, ad = some ⟨g, o, none⟩ ∧ ∀ i, i < n → w.cell? ⟨g, o + i, none⟩ = some (.int .u8 (u i : Int))) := hc
  have HX : Hid (IsW X x0 x1 x2 x3) := hx
  have HF : Hid (∀ i, f i < 256) := hf
  have nI : (n : Int) ≤ 1048576 := by omega
  obtain ⟨p0, p1, p2, p3, er, FW, FR⟩ := fromBytes_both n u
  have HFW : Hid (∀ (w : World) (g o c : Nat), BytesAt w (.slice (some ⟨g, o, none⟩) n c) n u → Calls Tryz.prog 58 #[.slice (some ⟨g, o, none⟩) n c] w fun r w' => r = .returned (.tuple #[.agg #[.int .u64 p0, .int .u64 p1, .int .u64 p2, .int .u64 p3], .int .i64 er]) ∧ Below w.heap.size w w') := FW
  have HFR : Hid (∀ (w : World) (v : Value), BytesAt w v n u → Calls Tryz.prog 59 #[v] w fun r w' => r = .returned (.tuple #[.agg #[.int .u64 p0, .int .u64 p1, .int .u64 p2, .int .u64 p3], .int .i64 er]) ∧ Below w.heap.size w w') := FR
  obtain ⟨s0, s1, s2, s3, es, GW, GR⟩ := fromBytes_both n (xorB u)
  have HGW : Hid (∀ (w : World) (g o c : Nat), BytesAt w (.slice (some ⟨g, o, none⟩) n c) n (xorB u) → Calls Tryz.prog 58 #[.slice (some ⟨g, o, none⟩) n c] w fun r w' => r = .returned (.tuple #[.agg #[.int .u64 s0, .int .u64 s1, .int .u64 s2, .int .u64 s3], .int .i64 es]) ∧ Below w.heap.size w w') := GW
  have HGR : Hid (∀ (w : World) (v : Value), BytesAt w v n (xorB u) → Calls Tryz.prog 59 #[v] w fun r w' => r = .returned (.tuple #[.agg #[.int .u64 s0, .int .u64 s1, .int .u64 s2, .int .u64 s3], .int .i64 es]) ∧ Below w.heap.size w w') := GR
  obtain ⟨nu, bu, UW, UR⟩ := uint_both HX.out
  have HUW : Hid _ := UW
  have HUR : Hid _ := UR
  obtain ⟨th, bt, TW, TR⟩ := toAddress_both HX.out
  have HTW : Hid _ := TW
  have HTR : Hid _ := TR
  obtain ⟨bh, YW, YR⟩ := bytes_both HX.out
  have HYW : Hid _ := YW
  have HYR : Hid _ := YR
  obtain ⟨d0, d1, d2, d3, hd⟩ := isW_ex ((dsum (revd f 20) 20 : Nat) : Int)
  have HAW : Hid (∀ w : World, Calls Tryz.prog 68 #[.agg (rowB 20 (fun i => (f i : Int))).toArray] w fun e w' => e = .returned (.agg #[.int .u64 d0, .int .u64 d1, .int .u64 d2, .int .u64 d3]) ∧ Below w.heap.size w w') := fun w => wfromAddress_is w f HF.out d0 d1 d2 d3 hd
  have HAR : Hid (∀ w : World, Calls Tryz.prog 69 #[.agg (rowB 20 (fun i => (f i : Int))).toArray] w fun e w' => e = .returned (.agg #[.int .u64 d0, .int .u64 d1, .int .u64 d2, .int .u64 d3]) ∧ Below w.heap.size w w') := fun w => rfromAddress_is w f HF.out d0 d1 d2 d3 hd
  have HMW : Hid (∀ w : World, Calls Tryz.prog 66 #[.int .u64 m] w fun e w' => e = .returned (.agg #[.int .u64 m, .int .u64 0, .int .u64 0, .int .u64 0]) ∧ Below w.heap.size w w') := fun w => fromUint_any m w
  have HMR : Hid (∀ w : World, Calls Tryz.prog 67 #[.int .u64 m] w fun e w' => e = .returned (.agg #[.int .u64 m, .int .u64 0, .int .u64 0, .int .u64 0]) ∧ Below w.heap.size w w') := fun w => rfromUint_is m w
  have eqs := eqw_same
  have eq2 := eq20_same
  have eq3 := eq32_same
  clear UW UR TW TR YW YR hd
  clear hc hx hf FW FR GW GR
  go_enter Tryz.func8, Tryz.ntmps8
  go_upto_region 1 with (refine box20 (fun i => (f i : Int)) rfl _ rfl rfl ?_; intro W0 hW0)
  have K0 : Hid (Bx w [(w.heap.size, x0, x1, x2, x3)] W0 ∧ RowB W0 (w.heap.size + 1) 20 (fun i => (f i : Int)) ∧ W0.heap.size = w.heap.size + 1 + 1) := by
    have h := (Bx.start w).alloc x0 x1 x2 x3
    have h2 := hW0.row
    have h3 := hW0.siz
    simp only [World.size_alloc] at h2 h3
    exact ⟨h.past hW0.bel, h2, h3⟩
  (try simp only [World.size_alloc])
  clear hW0
  have BE : Hid (Below W0.heap.size W0 (W0.alloc (.cells #[] 5))) := (Below.refl _ _).alloc (Nat.le_refl _) _
  have OE : Hid ((W0.alloc (.cells #[] 5)).ownsRow W0.heap.size 5 1 (.slice (some ⟨W0.heap.size, 0, none⟩) 0 0) 0 []) := owns_emptyB W0
  go_upto_region 3 with fail
  go_cut [9] (fun s9 wx => wx.ownsRow W0.heap.size 5 1 s9 n (rowB n (fun i => (u i : Int))) ∧ Below W0.heap.size W0 wx)
  case first =>
    rcases ad with _ | ad
    · have hn0 : n = 0 := Classical.byContradiction fun h => by obtain ⟨_, _, h', _⟩ := HC.out h; cases h'
      subst hn0
      go_wp2_with (at_builtin; refine wpList_append_own_none rfl _ _ 35 rfl W0.heap.size 5 i0 1 Tryz.underlying35 hi _ 0 [] rfl OE.out rfl ?_)
      go_wp2
      go_meet
      case rel => exact ⟨OE.out, BE.out⟩
    · have HN : Hid (∀ j z, (rowB n (fun i => (u i : Int)))[j]? = some z → (W0.alloc (.cells #[] 5)).cell? (ad.add j) = some z) := by
        intro j z hj
        have hl : j < n := by have := (List.getElem?_eq_some_iff.1 hj).1; rwa [rowB_len] at this
        obtain ⟨g, o, e1, hcl⟩ := HC.out (by omega)
        obtain rfl := Option.some.inj e1
        rw [rowB_at n _ j hl] at hj
        rw [Addr.add_mid, ← hj]
        have hb := World.block_lt_of_cell? w _ (hcl j hl)
        exact ((K0.out.1.bel.trans (BE.out.mono K0.out.1.bel.size)).cell (p := ⟨g, o + j, none⟩) hb).trans (hcl j hl)
      go_wp2_with (at_builtin; refine wpList_append_own _ rfl _ _ 35 rfl W0.heap.size 5 i0 (.int .u8 0) 1 1 Tryz.underlying35 hi hz0 hz1 hz2 rfl (by decide) _ 0 [] rfl OE.out ad n cap (rowB n (fun i => (u i : Int))) rfl (by rw [rowB_len]; omega) HN.out (by intro x hx; simp only [rowB, List.mem_map] at hx; obtain ⟨i, _, rfl⟩ := hx; rfl) (by unfold maxLen; omega) (by omega) (by simp) ?_; intro v' w1 hown' hgrow _)
      have R : Hid (w1.ownsRow W0.heap.size 5 1 v' n (rowB n (fun i => (u i : Int))) ∧ Below W0.heap.size W0 w1) := ⟨by simpa using hown', Below.grown BE.out hgrow BE.out.size (fun k h => by cases h; exact Nat.le_refl _)⟩
      clear hown' hgrow
      go_wp2
      go_meet
      case rel => exact R.out
  case rest =>
    obtain ⟨hown, hB⟩ := hcut
    have HOW0 : Hid (wc.ownsRow W0.heap.size 5 1 u9 n (rowB n (fun i => (u i : Int)))) := hown
    have HB0 : Hid (Below W0.heap.size W0 wc) := hB
    have b0 := hB.size
    clear hown hB BE OE
    go_upto_region 5 with (at_builtin; refine wpList_append_own _ rfl _ _ 35 rfl W0.heap.size 5 i0 (.int .u8 0) 1 1 Tryz.underlying35 hi hz0 hz1 hz2 rfl (by decide) _ _ _ rfl (World.ownsRow.alloc HOW0.out _) ⟨wc.heap.size, 0, none⟩ 9 9 [.int .u8 91, .int .u8 92, .int .u8 93, .int .u8 94, .int .u8 95, .int .u8 96, .int .u8 97, .int .u8 98, .int .u8 99] rfl rfl (fun j z hj => (by have hj9 : j < 9 := (List.getElem?_eq_some_iff.1 hj).1; have hk : j = 0 ∨ j = 1 ∨ j = 2 ∨ j = 3 ∨ j = 4 ∨ j = 5 ∨ j = 6 ∨ j = 7 ∨ j = 8 := (by omega); rcases hk with rfl | rfl | rfl | rfl | rfl | rfl | rfl | rfl | rfl <;> (simp at hj; subst hj; simp [Addr.add]))) (fun z hz => (by simp at hz; rcases hz with rfl | rfl | rfl | rfl | rfl | rfl | rfl | rfl | rfl <;> rfl)) (by unfold maxLen; omega) (by omega) (by simp; omega) ?_; intro v' w1 hown' hgrow _)
    have R1 : Hid (w1.ownsRow W0.heap.size 5 1 v' (n + 9) (rowB (n + 9) (fun i => (extB u n i : Int))) ∧ Below W0.heap.size W0 w1) := by
      rw [rowB_app] at hown'
      exact ⟨hown', Below.grown (HB0.out.alloc HB0.out.size _) hgrow (by simp; omega) (fun k h => (HOW0.out.lt k h).1)⟩
    clear hown' hgrow HOW0 HB0
    have R2 := R1.out.1
    obtain ⟨_, ⟨_, h0⟩ | ⟨g, c, cur, rfl, hb, hh, hcap, hmax, _⟩⟩ := R2
    · omega
    have F0 : Hid (Fm w [(w.heap.size, x0, x1, x2, x3)] (fun i => (f i : Int)) (.slice ad n cap) n u g (fun i => (extB u n i : Int)) w1) := ⟨K0.out.1.past R1.out.2, K0.out.2.1.past R1.out.2, (HV.out.past K0.out.1.bel).past R1.out.2, RowB.ownB R1.out.1⟩
    have CP : Hid (n + 9 ≤ c ∧ c ≤ maxLen) := ⟨hcap, hmax⟩
    have sl := slice_toB g (n + 9) c n (by omega)
    have sf := slice_fromB g (n + 9) c n (by omega) (by omega)
    rw [show n + 9 - n = 9 by omega] at sf
    clear R1 hh
    have gB : w.heap.size ≤ g := Nat.le_trans K0.out.1.bel.size hb
    have g2 : w.heap.size + 1 < g := by have := K0.out.2.2; omega
    clear K0 hb hcap hmax
    have BI : Hid (BytesAt w1 (.slice (some ⟨g, 0, none⟩) n c) n u) := F0.out.rw.bytes HU.out (by omega) (fun i hi => by rw [Nat.zero_add, extB, if_pos hi])
    go_upto_region 6 with (go_at_call 58; refine (HFW.out _ g 0 c BI.out).mono ?_; rintro e y1 ⟨rfl, hB⟩; (have F1 : Hid (Fm w [(w.heap.size, x0, x1, x2, x3)] (fun i => (f i : Int)) (.slice ad n cap) n u g (fun i => (extB u n i : Int)) y1) := F0.out.past hB); clear hB F0 BI)
    have F2 : Hid (Fm w [(y1.heap.size, p0, p1, p2, p3), (w.heap.size, x0, x1, x2, x3)] (fun i => (f i : Int)) (.slice ad n cap) n u g (fun i => (extB u n i : Int)) (y1.alloc (.cells #[.int .u64 p0, .int .u64 p1, .int .u64 p2, .int .u64 p3] 24))) := F1.out.box p0 p1 p2 p3
    generalize y1.alloc (.cells #[.int .u64 p0, .int .u64 p1, .int .u64 p2, .int .u64 p3] 24) = z1 at F2 ⊢
    generalize y1.heap.size = q1 at F2 ⊢
    clear F1
    go_upto_region 7 with (go_at_call 59; refine (HFR.out _ _ F2.out.av).mono ?_; rintro e y2 ⟨rfl, hB⟩; (have F3 : Hid (Fm w [(q1, p0, p1, p2, p3), (w.heap.size, x0, x1, x2, x3)] (fun i => (f i : Int)) (.slice ad n cap) n u g (fun i => (extB u n i : Int)) y2) := F2.out.past hB); clear hB F2)
    have F4 : Hid (Fm w [(y2.heap.size, p0, p1, p2, p3), (q1, p0, p1, p2, p3), (w.heap.size, x0, x1, x2, x3)] (fun i => (f i : Int)) (.slice ad n cap) n u g (fun i => (extB u n i : Int)) (y2.alloc (.cells #[.int .u64 p0, .int .u64 p1, .int .u64 p2, .int .u64 p3] 24))) := F3.out.box p0 p1 p2 p3
    generalize y2.alloc (.cells #[.int .u64 p0, .int .u64 p1, .int .u64 p2, .int .u64 p3] 24) = z2 at F4 ⊢
    generalize y2.heap.size = q2 at F4 ⊢
    clear F3
    refine wp_region_held_drew (S := fun w' => Fm w [(q2, p0, p1, p2, p3), (q1, p0, p1, p2, p3), (w.heap.size, x0, x1, x2, x3)] (fun i => (f i : Int)) (.slice ad n cap) n u g (fun i => (extB u n i : Int)) w') (by kernel_rfl) (F4.out.past (Below.refl _ _).drew) (fun hF => ?_)
    generalize z2.drew = z3 at hF ⊢
    clear F4
    refine wpAnyH_take (i := 0) (v := .agg #[.int .u64 p0, .int .u64 p1, .int .u64 p2, .int .u64 p3]) op0 (by kernel_rfl) (by kernel_rfl) (by kernel_rfl) (fun _ _ _ h => h) (Or.inl ⟨by rfl, fun W hS => ?_⟩) hF ?_
    · obtain ⟨d0, d1, d2, d3, _⟩ := hS.bx.f0 mm1
      go_simp
    simp only [Act.put, List.setIfInBounds_toArray, List.set_cons_zero, List.set_cons_succ]
    refine wpAnyH_take (i := 1) (v := .agg #[.int .u64 p0, .int .u64 p1, .int .u64 p2, .int .u64 p3]) op1 (by kernel_rfl) (by kernel_rfl) (by kernel_rfl) (fun _ _ _ h => h) (Or.inl ⟨by rfl, fun W hS => ?_⟩) hF ?_
    · obtain ⟨d0, d1, d2, d3, _⟩ := hS.bx.f0 mm0
      go_simp
    simp only [Act.put, List.setIfInBounds_toArray, List.set_cons_zero, List.set_cons_succ]
    refine wpAnyH_take (i := 2) (v := .bool false) op2 (by kernel_rfl) (by kernel_rfl) (by kernel_rfl) (fun _ _ _ h => h) (Or.inl ⟨by rfl, fun W hS => ?_⟩) hF ?_
    · go_simp
    simp only [Act.put, List.setIfInBounds_toArray, List.set_cons_zero, List.set_cons_succ]
    refine wpAnyH_take (i := 3) (v := .bool false) op3 (by kernel_rfl) (by kernel_rfl) (by kernel_rfl) (fun _ _ _ h => h) (Or.inl ⟨by rfl, fun W hS => ?_⟩) hF ?_
    · go_simp
    simp only [Act.put, List.setIfInBounds_toArray, List.set_cons_zero, List.set_cons_succ]
    refine wpAnyH_take (i := 4) (v := .int .i64 er) op4 (by kernel_rfl) (by kernel_rfl) (by kernel_rfl) (fun _ _ _ h => h) (Or.inl ⟨by rfl, fun W hS => ?_⟩) hF ?_
    · go_simp
    simp only [Act.put, List.setIfInBounds_toArray, List.set_cons_zero, List.set_cons_succ]
    refine wpAnyH_take (i := 5) (v := .int .i64 er) op5 (by kernel_rfl) (by kernel_rfl) (by kernel_rfl) (fun _ _ _ h => h) (Or.inl ⟨by rfl, fun W hS => ?_⟩) hF ?_
    · go_simp
    simp only [Act.put, List.setIfInBounds_toArray, List.set_cons_zero, List.set_cons_succ]
    refine wpAnyH_take (i := 6) (v := .bool false) op6 (by kernel_rfl) (by kernel_rfl) (by kernel_rfl) (fun _ _ _ h => h) (Or.inl ⟨by rfl, fun W hS => ?_⟩) hF ?_
    · go_simp
    simp only [Act.put, List.setIfInBounds_toArray, List.set_cons_zero, List.set_cons_succ]
    refine wpAnyH_take (i := 7) (v := .bool false) op7 (by kernel_rfl) (by kernel_rfl) (by kernel_rfl) (fun _ _ _ h => h) (Or.inl ⟨by rfl, fun W hS => ?_⟩) hF ?_
    · go_simp
    simp only [Act.put, List.setIfInBounds_toArray, List.set_cons_zero, List.set_cons_succ]
    refine wpAnyH_take (i := 8) (v := .bool false) op8 (by kernel_rfl) (by kernel_rfl) (by kernel_rfl) (fun _ _ _ h => h) (Or.inl ⟨by rfl, fun W hS => ?_⟩) hF ?_
    · go_simp
    simp only [Act.put, List.setIfInBounds_toArray, List.set_cons_zero, List.set_cons_succ]
    refine wpAnyH_take (i := 9) (v := .slice (some ⟨g, 0, none⟩) (n + 9) c) op9 (by kernel_rfl) (by kernel_rfl) (by kernel_rfl) (fun _ _ _ h => h) (Or.inl ⟨by rfl, fun W hS => ?_⟩) hF ?_
    · go_simp
    simp only [Act.put, List.setIfInBounds_toArray, List.set_cons_zero, List.set_cons_succ]
    refine wpAnyH_take (i := 10) (v := .slice ad n cap) op10 (by kernel_rfl) (by kernel_rfl) (by kernel_rfl) (fun _ _ _ h => h) (Or.inl ⟨by rfl, fun W hS => ?_⟩) hF ?_
    · go_simp
    simp only [Act.put, List.setIfInBounds_toArray, List.set_cons_zero, List.set_cons_succ]
    refine wpAnyH_take (i := 11) (v := .int .i64 (n : Int)) op11 (by kernel_rfl) (by kernel_rfl) (by kernel_rfl) (fun _ _ _ h => h) (Or.inl ⟨by rfl, fun W hS => ?_⟩) hF ?_
    · go_simp
    simp only [Act.put, List.setIfInBounds_toArray, List.set_cons_zero, List.set_cons_succ]
    refine wpAnyH_take (i := 12) (v := .slice (some ⟨g, 0, none⟩) n c) op12 (by kernel_rfl) (by kernel_rfl) (by kernel_rfl) (fun _ _ _ h => h) (Or.inl ⟨by rfl, fun W hS => ?_⟩) hF ?_
    · go_simp
    simp only [Act.put, List.setIfInBounds_toArray, List.set_cons_zero, List.set_cons_succ]
    refine wpAnyH_take (i := 13) (v := .string (text u n)) op13 (by kernel_rfl) (by kernel_rfl) (by kernel_rfl) (fun _ _ _ h => h) (Or.inl ⟨by rfl, fun W hS => ?_⟩) hF ?_
    · have e1 := hS.rw.bytes (c := c) HU.out (n := n) (o := 0) (by omega) (fun i hi => by rw [Nat.zero_add, extB, if_pos hi])
      have e2 := conv_is W _ n u e1
      go_simp
    simp only [Act.put, List.setIfInBounds_toArray, List.set_cons_zero, List.set_cons_succ]
    refine wpAnyH_take (i := 14) (v := .slice ad n cap) op14 (by kernel_rfl) (by kernel_rfl) (by kernel_rfl) (fun _ _ _ h => h) (Or.inl ⟨by rfl, fun W hS => ?_⟩) hF ?_
    · go_simp
    simp only [Act.put, List.setIfInBounds_toArray, List.set_cons_zero, List.set_cons_succ]
    refine wpAnyH_take (i := 15) (v := .string (text u n)) op15 (by kernel_rfl) (by kernel_rfl) (by kernel_rfl) (fun _ _ _ h => h) (Or.inl ⟨by rfl, fun W hS => ?_⟩) hF ?_
    · have e2 := conv_is W _ n u hS.av
      go_simp
    simp only [Act.put, List.setIfInBounds_toArray, List.set_cons_zero, List.set_cons_succ]
    refine wpAnyH_take (i := 16) (v := .bool false) op16 (by kernel_rfl) (by kernel_rfl) (by kernel_rfl) (fun _ _ _ h => h) (Or.inl ⟨by rfl, fun W hS => ?_⟩) hF ?_
    · go_simp
    simp only [Act.put, List.setIfInBounds_toArray, List.set_cons_zero, List.set_cons_succ]
    refine wpAnyH_take (i := 17) (v := .bool false) op17 (by kernel_rfl) (by kernel_rfl) (by kernel_rfl) (fun _ _ _ h => h) (Or.inl ⟨by rfl, fun W hS => ?_⟩) hF ?_
    · go_simp
    simp only [Act.put, List.setIfInBounds_toArray, List.set_cons_zero, List.set_cons_succ]
    refine wpAnyH_take (i := 18) (v := .bool false) op18 (by kernel_rfl) (by kernel_rfl) (by kernel_rfl) (fun _ _ _ h => h) (Or.inl ⟨by rfl, fun W hS => ?_⟩) hF ?_
    · go_simp
    simp only [Act.put, List.setIfInBounds_toArray, List.set_cons_zero, List.set_cons_succ]
    refine wpAnyH_take (i := 19) (v := .slice (some ⟨g, 0, none⟩) (n + 9) c) op19 (by kernel_rfl) (by kernel_rfl) (by kernel_rfl) (fun _ _ _ h => h) (Or.inl ⟨by rfl, fun W hS => ?_⟩) hF ?_
    · go_simp
    simp only [Act.put, List.setIfInBounds_toArray, List.set_cons_zero, List.set_cons_succ]
    refine wpAnyH_take (i := 20) (v := .slice ad n cap) op20 (by kernel_rfl) (by kernel_rfl) (by kernel_rfl) (fun _ _ _ h => h) (Or.inl ⟨by rfl, fun W hS => ?_⟩) hF ?_
    · go_simp
    simp only [Act.put, List.setIfInBounds_toArray, List.set_cons_zero, List.set_cons_succ]
    refine wpAnyH_take (i := 21) (v := .int .i64 (n : Int)) op21 (by kernel_rfl) (by kernel_rfl) (by kernel_rfl) (fun _ _ _ h => h) (Or.inl ⟨by rfl, fun W hS => ?_⟩) hF ?_
    · go_simp
    simp only [Act.put, List.setIfInBounds_toArray, List.set_cons_zero, List.set_cons_succ]
    refine wpAnyH_take (i := 22) (v := .slice (some ⟨g, n, none⟩) 9 (c - n)) op22 (by kernel_rfl) (by kernel_rfl) (by kernel_rfl) (fun _ _ _ h => h) (Or.inl ⟨by rfl, fun W hS => ?_⟩) hF ?_
    · go_simp
    simp only [Act.put, List.setIfInBounds_toArray, List.set_cons_zero, List.set_cons_succ]
    refine wpAnyH_take (i := 23) (v := .string (text nine 9)) op23 (by kernel_rfl) (by kernel_rfl) (by kernel_rfl) (fun _ _ _ h => h) (Or.inl ⟨by rfl, fun W hS => ?_⟩) hF ?_
    · have e1 := hS.rw.bytes (c := c - n) (u := nine) (fun i => by unfold nine; omega) (n := 9) (o := n) (by omega) (fun i hi => by unfold extB nine; rw [if_neg (by omega), show n + i - n = i by omega])
      have e2 := conv_is W _ 9 nine e1
      go_simp
    simp only [Act.put, List.setIfInBounds_toArray, List.set_cons_zero, List.set_cons_succ]
    refine wpAnyH_ready (rs := [24]) (by kernel_rfl) (by simp) ?_
    refine AllReadyH.cons op24 (fun K hK => ?_) AllReadyH.nil
    rw [if_pos (by rfl)]
    go_simp
    have hG : Fm w [(q2, p0, p1, p2, p3), (q1, p0, p1, p2, p3), (w.heap.size, x0, x1, x2, x3)] (fun i => (f i : Int)) (.slice ad n cap) n u g (fun i => (extB u n i : Int)) (z3.alloc (.cells #[.int .u8 91, .int .u8 92, .int .u8 93, .int .u8 94, .int .u8 95, .int .u8 96, .int .u8 97, .int .u8 98, .int .u8 99] 5)) := hF.past ((Below.refl _ _).alloc (Nat.le_refl _) _)
    have hN : BytesAt (z3.alloc (.cells #[.int .u8 91, .int .u8 92, .int .u8 93, .int .u8 94, .int .u8 95, .int .u8 96, .int .u8 97, .int .u8 98, .int .u8 99] 5)) (.slice (some ⟨z3.heap.size, 0, none⟩) 9 9) 9 nine := ⟨fun i => by unfold nine; omega, _, _, rfl, fun _ => ⟨_, _, rfl, fun i hi => by
        rw [World.cell?_alloc_at _ _ _ _ rfl, Nat.zero_add]
        have hk : i = 0 ∨ i = 1 ∨ i = 2 ∨ i = 3 ∨ i = 4 ∨ i = 5 ∨ i = 6 ∨ i = 7 ∨ i = 8 := by omega
        rcases hk with rfl | rfl | rfl | rfl | rfl | rfl | rfl | rfl | rfl <;> rfl⟩⟩
    generalize z3.alloc (.cells #[.int .u8 91, .int .u8 92, .int .u8 93, .int .u8 94, .int .u8 95, .int .u8 96, .int .u8 97, .int .u8 98, .int .u8 99] 5) = z4 at hG hN ⊢
    generalize z3.heap.size = q3 at hN ⊢
    refine hK.out _ _ hG (fun _ => ?_)
    clear hK K hF
    (try simp only [Act.put, List.setIfInBounds_toArray, List.set_cons_zero, List.set_cons_succ])
    refine wpAnyH_ready (rs := [25]) (by kernel_rfl) (by simp) ?_
    refine AllReadyH.cons op25 (fun K hK => ?_) AllReadyH.nil
    rw [if_pos (by rfl)]
    have e2 := conv_is z4 _ 9 nine hN
    go_simp
    refine hK.out _ _ hG (fun _ => ?_)
    clear hK K hN e2
    (try simp only [Act.put, List.setIfInBounds_toArray, List.set_cons_zero, List.set_cons_succ])
    refine wpAnyH_take (i := 26) (v := .bool false) op26 (by kernel_rfl) (by kernel_rfl) (by kernel_rfl) (fun _ _ _ h => h) (Or.inl ⟨by rfl, fun W hS => ?_⟩) hG ?_
    · go_simp
    simp only [Act.put, List.setIfInBounds_toArray, List.set_cons_zero, List.set_cons_succ]
    refine wpAnyH_take (i := 27) (v := .bool false) op27 (by kernel_rfl) (by kernel_rfl) (by kernel_rfl) (fun _ _ _ h => h) (Or.inl ⟨by rfl, fun W hS => ?_⟩) hG ?_
    · go_simp
    simp only [Act.put, List.setIfInBounds_toArray, List.set_cons_zero, List.set_cons_succ]
    refine wpAnyH_done (by kernel_rfl) ?_ _
    have F5 : Hid (Fm w [(q2, p0, p1, p2, p3), (q1, p0, p1, p2, p3), (w.heap.size, x0, x1, x2, x3)] (fun i => (f i : Int)) (.slice ad n cap) n u g (fun i => (extB u n i : Int)) z4) := hG
    clear hG
    have F6 : Hid (Fm w [(q2, p0, p1, p2, p3), (q1, p0, p1, p2, p3), (w.heap.size, x0, x1, x2, x3)] (fun i => (f i : Int)) (.slice ad n cap) n u g (fun i => (mixB u n 0 i : Int)) z4) := ⟨F5.out.bx, F5.out.ad, F5.out.av, F5.out.rw.ext (fun i _ => by unfold mixB; rw [if_neg (by omega)])⟩
    clear F5
    go_wp2
    go_loopw [14] (fun si wr => ∃ k : Nat, si = .int .i64 (k : Int) ∧ k ≤ n ∧ Fm w [(q2, p0, p1, p2, p3), (q1, p0, p1, p2, p3), (w.heap.size, x0, x1, x2, x3)] (fun i => (f i : Int)) (.slice ad n cap) n u g (fun i => (mixB u n k i : Int)) wr) (fun si _ => n - (intOf si).toNat)
    case atStart => exact ⟨0, rfl, by omega, F6.out⟩
    case round =>
      obtain ⟨k, rfl, hk, hF⟩ := hrel
      clear F6
      have HFm : Hid (Fm w [(q2, p0, p1, p2, p3), (q1, p0, p1, p2, p3), (w.heap.size, x0, x1, x2, x3)] (fun i => (f i : Int)) (.slice ad n cap) n u g (fun i => (mixB u n k i : Int)) wr) := hF
      clear hF
      by_cases hk5 : k < n
      · have kI : (k : Int) < (n : Int) := by omega
        have kN : (k : Int) < ((n + 9 : Nat) : Int) := by omega
        obtain ⟨gv, ov, rfl, hcv⟩ := HC.out (by omega)
        have lg : gv < w.heap.size := World.block_lt_of_cell? w _ (hcv k hk5)
        have cu := (HFm.out.bx.bel.cell (p := ⟨gv, ov + k, none⟩) lg).trans (hcv k hk5)
        have cg := (HFm.out.rw k (by omega)).1
        have fg := (HFm.out.rw k (by omega)).2
        have hul := HU.out k
        obtain ⟨t, et⟩ : ∃ t, t = (85 + k) % 256 := ⟨_, rfl⟩
        obtain ⟨sm, esm⟩ : ∃ sm, sm = 85 + k := ⟨_, rfl⟩
        have v1 : (85 : Int) + (k : Int) = (sm : Int) := by omega
        have v2 : IntKind.i64.wrap (sm : Int) = (sm : Int) := by rw [IntKind.wrap_i64]; omega
        have v3 : IntKind.u8.wrap (sm : Int) = (t : Int) := by rw [IntKind.wrap_u8]; omega
        obtain ⟨y, ey⟩ : ∃ y, y = xorB u k := ⟨_, rfl⟩
        have v4 : bits .xor .u8 (u k : Int) (t : Int) = (y : Int) := by rw [u8_xor_nat _ _ hul (by omega), ey, xorB, ← et]
        have N1 := HFm.out.put HV.out g2 k (by omega) (y : Int) (b' := (fun i => (mixB u n (k + 1) i : Int))) (fun j => by
          unfold mixB
          by_cases h : j = k
          · subst h; rw [if_pos rfl, if_pos (by omega), ey]
          · rw [if_neg h]
            by_cases h3 : j < k
            · rw [if_pos h3, if_pos (by omega)]
            · rw [if_neg h3, if_neg (by omega)])
        have HN1 : Hid _ := N1
        generalize u k = uk at cu v4 hul
        clear N1 et esm ey hcv
        go_wp2
        go_roundw
        case rel => exact ⟨k + 1, by go_num, by omega, HN1.out⟩
        case measure => simp [intOf]; omega
      · obtain rfl : k = n := by omega
        have HB0 : Hid (BytesAt wr (.slice (some ⟨g, 0, none⟩) k c) k (xorB u)) := HFm.out.rw.bytes (xorB_lt HU.out) (by omega) (fun i hi => by rw [Nat.zero_add, mixB, if_pos hi])
        have BE : Hid (Below wr.heap.size wr (wr.alloc (.cells #[] 5))) := (Below.refl _ _).alloc (Nat.le_refl _) _
        have OE : Hid ((wr.alloc (.cells #[] 5)).ownsRow wr.heap.size 5 1 (.slice (some ⟨wr.heap.size, 0, none⟩) 0 0) 0 []) := owns_emptyB wr
        have HN : Hid (∀ j z, (rowB k (fun i => (xorB u i : Int)))[j]? = some z → (wr.alloc (.cells #[] 5)).cell? (Addr.add ⟨g, 0, none⟩ j) = some z) := by
          intro j z hj
          have hl : j < k := by have := (List.getElem?_eq_some_iff.1 hj).1; rwa [rowB_len] at this
          rw [rowB_at k _ j hl] at hj
          rw [Addr.add_mid, ← hj, Nat.zero_add]
          have h := (HFm.out.rw.past BE.out j (by omega)).1
          rw [h, mixB, if_pos hl]
        go_upto_region 13 with fail
        go_upto_region 14 with (at_builtin; refine wpList_append_own _ rfl _ _ 35 rfl wr.heap.size 5 i0 (.int .u8 0) 1 1 Tryz.underlying35 hi hz0 hz1 hz2 rfl (by decide) _ 0 [] rfl OE.out ⟨g, 0, none⟩ k c (rowB k (fun i => (xorB u i : Int))) rfl (by rw [rowB_len]; omega) HN.out (by intro x hx; simp only [rowB, List.mem_map] at hx; obtain ⟨i, _, rfl⟩ := hx; rfl) (by unfold maxLen; omega) (by omega) (by simp) ?_; intro v' w1 hown' hgrow _)
        have G0 : Hid (Fm w [(q2, p0, p1, p2, p3), (q1, p0, p1, p2, p3), (w.heap.size, x0, x1, x2, x3)] (fun i => (f i : Int)) (.slice ad k cap) k u g (fun i => (mixB u k k i : Int)) w1 ∧ BytesAt w1 v' k (xorB u) ∧ BytesAt w1 (.slice (some ⟨g, 0, none⟩) k c) k (xorB u)) := by
          have hb1 : Below wr.heap.size wr w1 := Below.grown BE.out hgrow BE.out.size (fun k h => by cases h; exact Nat.le_refl _)
          exact ⟨HFm.out.past hb1, own_bytes (xorB_lt HU.out) (by simpa using hown'), HB0.out.past hb1⟩
        clear hown' hgrow BE OE HN HB0 HFm
        go_upto_region 15 with (go_at_call 58; refine (HGW.out _ g 0 c G0.out.2.2).mono ?_; rintro e y3 ⟨rfl, hB⟩; (have G1 : Hid (Fm w [(q2, p0, p1, p2, p3), (q1, p0, p1, p2, p3), (w.heap.size, x0, x1, x2, x3)] (fun i => (f i : Int)) (.slice ad k cap) k u g (fun i => (mixB u k k i : Int)) y3 ∧ BytesAt y3 v' k (xorB u)) := ⟨G0.out.1.past hB, G0.out.2.1.past hB⟩); clear hB G0)
        have G2 : Hid (Fm w [(y3.heap.size, s0, s1, s2, s3), (q2, p0, p1, p2, p3), (q1, p0, p1, p2, p3), (w.heap.size, x0, x1, x2, x3)] (fun i => (f i : Int)) (.slice ad k cap) k u g (fun i => (mixB u k k i : Int)) (y3.alloc (.cells #[.int .u64 s0, .int .u64 s1, .int .u64 s2, .int .u64 s3] 24)) ∧ BytesAt (y3.alloc (.cells #[.int .u64 s0, .int .u64 s1, .int .u64 s2, .int .u64 s3] 24)) v' k (xorB u)) := ⟨G1.out.1.box s0 s1 s2 s3, G1.out.2.past ((Below.refl _ _).alloc (Nat.le_refl _) _)⟩
        generalize y3.alloc (.cells #[.int .u64 s0, .int .u64 s1, .int .u64 s2, .int .u64 s3] 24) = z5 at G2 ⊢
        generalize y3.heap.size = q4 at G2 ⊢
        clear G1
        go_upto_region 16 with (go_at_call 59; refine (HGR.out _ _ G2.out.2).mono ?_; rintro e y4 ⟨rfl, hB⟩; (have G3 : Hid (Fm w [(q4, s0, s1, s2, s3), (q2, p0, p1, p2, p3), (q1, p0, p1, p2, p3), (w.heap.size, x0, x1, x2, x3)] (fun i => (f i : Int)) (.slice ad k cap) k u g (fun i => (mixB u k k i : Int)) y4) := G2.out.1.past hB); clear hB G2)
        have G4 : Hid (Fm w [(y4.heap.size, s0, s1, s2, s3), (q4, s0, s1, s2, s3), (q2, p0, p1, p2, p3), (q1, p0, p1, p2, p3), (w.heap.size, x0, x1, x2, x3)] (fun i => (f i : Int)) (.slice ad k cap) k u g (fun i => (mixB u k k i : Int)) (y4.alloc (.cells #[.int .u64 s0, .int .u64 s1, .int .u64 s2, .int .u64 s3] 24))) := G3.out.box s0 s1 s2 s3
        generalize y4.alloc (.cells #[.int .u64 s0, .int .u64 s1, .int .u64 s2, .int .u64 s3] 24) = z6 at G4 ⊢
        generalize y4.heap.size = q5 at G4 ⊢
        clear G3
        obtain ⟨r0, r1, r2, r3, _⟩ := G4.out.bx.f0 mm0
        obtain ⟨t0, t1, t2, t3, _⟩ := G4.out.bx.f0 mm1
        go_upto_region 18 with fail
        clear r0 r1 r2 r3 t0 t1 t2 t3
        have H0 : Hid (Bx w [(w.heap.size, x0, x1, x2, x3)] z6 ∧ RowB z6 (w.heap.size + 1) 20 (fun i => (f i : Int))) := ⟨G4.out.bx.sub (fun p hp => by rw [List.mem_singleton.1 hp]; exact mm4), G4.out.ad⟩
        clear G4
        obtain ⟨k0, k1, k2, k3, _⟩ := H0.out.1.f0 mm0
        go_upto_region 19 with (go_at_call 60; refine (HUW.out _).mono ?_; rintro e h1 ⟨rfl, hB⟩; (have H1 : Hid (Bx w [(w.heap.size, x0, x1, x2, x3)] h1 ∧ RowB h1 (w.heap.size + 1) 20 (fun i => (f i : Int))) := ⟨H0.out.1.past hB, H0.out.2.past hB⟩); clear hB H0 k0 k1 k2 k3)
        obtain ⟨k0, k1, k2, k3, _⟩ := H1.out.1.f0 mm0
        go_upto_region 20 with (go_at_call 61; refine (HUR.out _).mono ?_; rintro e h2 ⟨rfl, hB⟩; (have H2 : Hid (Bx w [(w.heap.size, x0, x1, x2, x3)] h2 ∧ RowB h2 (w.heap.size + 1) 20 (fun i => (f i : Int))) := ⟨H1.out.1.past hB, H1.out.2.past hB⟩); clear hB H1 k0 k1 k2 k3)
        obtain ⟨k0, k1, k2, k3, _⟩ := H2.out.1.f0 mm0
        go_upto_region 21 with (first | (go_at_call 62; refine (HTW.out _).mono ?_; rintro e h3 ⟨rfl, hB⟩; (have H3 : Hid (Bx w [(w.heap.size, x0, x1, x2, x3)] h3 ∧ RowB h3 (w.heap.size + 1) 20 (fun i => (f i : Int))) := ⟨H2.out.1.past hB, H2.out.2.past hB⟩); clear hB H2 k0 k1 k2 k3) | (refine new20 th rfl rfl _ rfl rfl _ rfl rfl rfl rfl ?_; intro h4 hN))
        have H4 : Hid (Bx w [(w.heap.size, x0, x1, x2, x3)] h4 ∧ RowB h4 (w.heap.size + 1) 20 (fun i => (f i : Int)) ∧ RowB h4 h3.heap.size 20 th) := ⟨H3.out.1.past hN.bel, H3.out.2.past hN.bel, hN.row⟩
        generalize h3.heap.size = j1 at H4 ⊢
        clear hN H3
        obtain ⟨k0, k1, k2, k3, _⟩ := H4.out.1.f0 mm0
        go_upto_region 22 with (first | (go_at_call 63; refine (HTR.out _).mono ?_; rintro e h5 ⟨rfl, hB⟩; (have H5 : Hid (Bx w [(w.heap.size, x0, x1, x2, x3)] h5 ∧ RowB h5 (w.heap.size + 1) 20 (fun i => (f i : Int)) ∧ RowB h5 j1 20 th) := ⟨H4.out.1.past hB, H4.out.2.1.past hB, H4.out.2.2.past hB⟩); clear hB H4 k0 k1 k2 k3) | (refine new20 th rfl rfl _ rfl rfl _ rfl rfl rfl rfl ?_; intro h6 hN))
        have H6 : Hid (Bx w [(w.heap.size, x0, x1, x2, x3)] h6 ∧ RowB h6 (w.heap.size + 1) 20 (fun i => (f i : Int)) ∧ RowB h6 j1 20 th ∧ RowB h6 h5.heap.size 20 th) := ⟨H5.out.1.past hN.bel, H5.out.2.1.past hN.bel, H5.out.2.2.past hN.bel, hN.row⟩
        generalize h5.heap.size = j2 at H6 ⊢
        clear hN H5
        go_upto_region 24 with (first | (go_at_call 21; refine (awake_any _).mono ?_; rintro e h7 ⟨rfl, hB⟩; (have H7 : Hid (Bx w [(w.heap.size, x0, x1, x2, x3)] h7 ∧ RowB h7 (w.heap.size + 1) 20 (fun i => (f i : Int))) := ⟨H6.out.1.past hB, H6.out.2.1.past hB⟩); clear hB) | (refine load20g th j1 _ rfl rfl H6.out.2.2.1.range ?_ ?_; rfl) | (refine load20g th j2 _ rfl rfl H6.out.2.2.2.range ?_ ?_; rfl))
        clear H6
        refine wp_region_held_drew (S := fun w' => Bx w [(w.heap.size, x0, x1, x2, x3)] w' ∧ RowB w' (w.heap.size + 1) 20 (fun i => (f i : Int))) (by kernel_rfl) ⟨H7.out.1.past (Below.refl _ _).drew, H7.out.2.past (Below.refl _ _).drew⟩ (fun hH => ?_)
        generalize h7.drew = m0 at hH ⊢
        clear H7
        refine wpAnyH_take (i := 0) (v := .agg #[.int .u64 x0, .int .u64 x1, .int .u64 x2, .int .u64 x3]) op0 (by kernel_rfl) (by kernel_rfl) (by kernel_rfl) (fun _ _ _ h => h) (Or.inl ⟨by rfl, fun W hS => ?_⟩) hH ?_
        · obtain ⟨e0, e1, e2, e3, _⟩ := hS.1.f0 mm0
          go_simp
        simp only [Act.put, List.setIfInBounds_toArray, List.set_cons_zero, List.set_cons_succ]
        refine wpAnyH_take (i := 2) (v := .agg #[.int .u64 x0, .int .u64 x1, .int .u64 x2, .int .u64 x3]) op2 (by kernel_rfl) (by kernel_rfl) (by kernel_rfl) (fun _ _ _ h => h) (Or.inl ⟨by rfl, fun W hS => ?_⟩) hH ?_
        · obtain ⟨e0, e1, e2, e3, _⟩ := hS.1.f0 mm0
          go_simp
        simp only [Act.put, List.setIfInBounds_toArray, List.set_cons_zero, List.set_cons_succ]
        refine wpAnyH_ready (rs := [1]) (by kernel_rfl) (by simp) ?_
        refine AllReadyH.cons op1 (fun K hK => ?_) AllReadyH.nil
        rw [if_pos (by rfl)]
        go_simp
        refine (HYW.out _).mono ?_
        rintro e m1 ⟨rfl, hB⟩
        have hH2 : Bx w [(w.heap.size, x0, x1, x2, x3)] m1 ∧ RowB m1 (w.heap.size + 1) 20 (fun i => (f i : Int)) := ⟨hH.1.past hB, hH.2.past hB⟩
        clear hB hH
        have hH := hH2
        clear hH2
        (try go_wp2_with fail)
        refine hK.out _ _ hH (fun _ => ?_)
        clear hK K
        refine wpAnyH_ready (rs := [3]) (by kernel_rfl) (by simp) ?_
        refine AllReadyH.cons op3 (fun K hK => ?_) AllReadyH.nil
        rw [if_pos (by rfl)]
        go_simp
        refine (HYR.out _).mono ?_
        rintro e m2 ⟨rfl, hB⟩
        have hH2 : Bx w [(w.heap.size, x0, x1, x2, x3)] m2 ∧ RowB m2 (w.heap.size + 1) 20 (fun i => (f i : Int)) := ⟨hH.1.past hB, hH.2.past hB⟩
        clear hB hH
        have hH := hH2
        clear hH2
        (try go_wp2_with fail)
        refine hK.out _ _ hH (fun _ => ?_)
        clear hK K
        refine wpAnyH_take (i := 4) (v := .bool true) op4 (by kernel_rfl) (by kernel_rfl) (by kernel_rfl) (fun _ _ _ h => h) (Or.inl ⟨by rfl, fun W hS => ?_⟩) hH ?_
        · go_simp
        simp only [Act.put, List.setIfInBounds_toArray, List.set_cons_zero, List.set_cons_succ]
        refine wpAnyH_take (i := 5) (v := .bool true) op5 (by kernel_rfl) (by kernel_rfl) (by kernel_rfl) (fun _ _ _ h => h) (Or.inl ⟨by rfl, fun W hS => ?_⟩) hH ?_
        · go_simp
        simp only [Act.put, List.setIfInBounds_toArray, List.set_cons_zero, List.set_cons_succ]
        refine wpAnyH_take (i := 6) (v := .int .u64 m) op6 (by kernel_rfl) (by kernel_rfl) (by kernel_rfl) (fun _ _ _ h => h) (Or.inl ⟨by rfl, fun W hS => ?_⟩) hH ?_
        · go_simp
        simp only [Act.put, List.setIfInBounds_toArray, List.set_cons_zero, List.set_cons_succ]
        refine wpAnyH_take (i := 8) (v := .int .u64 m) op8 (by kernel_rfl) (by kernel_rfl) (by kernel_rfl) (fun _ _ _ h => h) (Or.inl ⟨by rfl, fun W hS => ?_⟩) hH ?_
        · go_simp
        simp only [Act.put, List.setIfInBounds_toArray, List.set_cons_zero, List.set_cons_succ]
        refine wpAnyH_ready (rs := [7]) (by kernel_rfl) (by simp) ?_
        refine AllReadyH.cons op7 (fun K hK => ?_) AllReadyH.nil
        rw [if_pos (by rfl)]
        go_simp
        refine (HMW.out _).mono ?_
        rintro e m3 ⟨rfl, hB⟩
        have hH2 : Bx w [(w.heap.size, x0, x1, x2, x3)] m3 ∧ RowB m3 (w.heap.size + 1) 20 (fun i => (f i : Int)) := ⟨hH.1.past hB, hH.2.past hB⟩
        clear hB hH
        have hH := hH2
        clear hH2
        (try go_wp2_with fail)
        refine hK.out _ _ hH (fun _ => ?_)
        clear hK K
        refine wpAnyH_ready (rs := [9]) (by kernel_rfl) (by simp) ?_
        refine AllReadyH.cons op9 (fun K hK => ?_) AllReadyH.nil
        rw [if_pos (by rfl)]
        go_simp
        refine (HMR.out _).mono ?_
        rintro e m4 ⟨rfl, hB⟩
        have hH2 : Bx w [(w.heap.size, x0, x1, x2, x3)] m4 ∧ RowB m4 (w.heap.size + 1) 20 (fun i => (f i : Int)) := ⟨hH.1.past hB, hH.2.past hB⟩
        clear hB hH
        have hH := hH2
        clear hH2
        (try go_wp2_with fail)
        refine hK.out _ _ hH (fun _ => ?_)
        clear hK K
        refine wpAnyH_take (i := 10) (v := .bool true) op10 (by kernel_rfl) (by kernel_rfl) (by kernel_rfl) (fun _ _ _ h => h) (Or.inl ⟨by rfl, fun W hS => ?_⟩) hH ?_
        · go_simp
        simp only [Act.put, List.setIfInBounds_toArray, List.set_cons_zero, List.set_cons_succ]
        refine wpAnyH_take (i := 11) (v := .bool true) op11 (by kernel_rfl) (by kernel_rfl) (by kernel_rfl) (fun _ _ _ h => h) (Or.inl ⟨by rfl, fun W hS => ?_⟩) hH ?_
        · go_simp
        simp only [Act.put, List.setIfInBounds_toArray, List.set_cons_zero, List.set_cons_succ]
        refine wpAnyH_take (i := 12) (v := .bool true) op12 (by kernel_rfl) (by kernel_rfl) (by kernel_rfl) (fun _ _ _ h => h) (Or.inl ⟨by rfl, fun W hS => ?_⟩) hH ?_
        · go_simp
        simp only [Act.put, List.setIfInBounds_toArray, List.set_cons_zero, List.set_cons_succ]
        refine wpAnyH_take (i := 13) (v := .agg (rowB 20 (fun i => (f i : Int))).toArray) op13 (by kernel_rfl) (by kernel_rfl) (by kernel_rfl) (fun _ _ _ h => h) (yieldsIf_load_mid (by rfl) _ _ rfl (w.heap.size + 1) 0 rfl (rowB 20 (fun i => (f i : Int))) _ (fun _ h => RowB.range h.2) Tryz.underlying37 rfl (by rw [rowB_len]; kernel_rfl)) hH ?_
        simp only [Act.put, List.setIfInBounds_toArray, List.set_cons_zero, List.set_cons_succ]
        refine wpAnyH_take (i := 15) (v := .agg (rowB 20 (fun i => (f i : Int))).toArray) op15 (by kernel_rfl) (by kernel_rfl) (by kernel_rfl) (fun _ _ _ h => h) (yieldsIf_load_mid (by rfl) _ _ rfl (w.heap.size + 1) 0 rfl (rowB 20 (fun i => (f i : Int))) _ (fun _ h => RowB.range h.2) Tryz.underlying37 rfl (by rw [rowB_len]; kernel_rfl)) hH ?_
        simp only [Act.put, List.setIfInBounds_toArray, List.set_cons_zero, List.set_cons_succ]
        refine wpAnyH_ready (rs := [14]) (by kernel_rfl) (by simp) ?_
        refine AllReadyH.cons op14 (fun K hK => ?_) AllReadyH.nil
        rw [if_pos (by rfl)]
        go_simp
        refine (HAW.out _).mono ?_
        rintro e m5 ⟨rfl, hB⟩
        have hH2 : Bx w [(w.heap.size, x0, x1, x2, x3)] m5 ∧ RowB m5 (w.heap.size + 1) 20 (fun i => (f i : Int)) := ⟨hH.1.past hB, hH.2.past hB⟩
        clear hB hH
        have hH := hH2
        clear hH2
        (try go_wp2_with fail)
        refine hK.out _ _ hH (fun _ => ?_)
        clear hK K
        refine wpAnyH_ready (rs := [16]) (by kernel_rfl) (by simp) ?_
        refine AllReadyH.cons op16 (fun K hK => ?_) AllReadyH.nil
        rw [if_pos (by rfl)]
        go_simp
        refine (HAR.out _).mono ?_
        rintro e m6 ⟨rfl, hB⟩
        have hH2 : Bx w [(w.heap.size, x0, x1, x2, x3)] m6 ∧ RowB m6 (w.heap.size + 1) 20 (fun i => (f i : Int)) := ⟨hH.1.past hB, hH.2.past hB⟩
        clear hB hH
        have hH := hH2
        clear hH2
        (try go_wp2_with fail)
        refine hK.out _ _ hH (fun _ => ?_)
        clear hK K
        refine wpAnyH_take (i := 17) (v := .bool true) op17 (by kernel_rfl) (by kernel_rfl) (by kernel_rfl) (fun _ _ _ h => h) (Or.inl ⟨by rfl, fun W hS => ?_⟩) hH ?_
        · go_simp
        simp only [Act.put, List.setIfInBounds_toArray, List.set_cons_zero, List.set_cons_succ]
        refine wpAnyH_take (i := 18) (v := .bool true) op18 (by kernel_rfl) (by kernel_rfl) (by kernel_rfl) (fun _ _ _ h => h) (Or.inl ⟨by rfl, fun W hS => ?_⟩) hH ?_
        · go_simp
        simp only [Act.put, List.setIfInBounds_toArray, List.set_cons_zero, List.set_cons_succ]
        refine wpAnyH_take (i := 19) (v := .bool true) op19 (by kernel_rfl) (by kernel_rfl) (by kernel_rfl) (fun _ _ _ h => h) (Or.inl ⟨by rfl, fun W hS => ?_⟩) hH ?_
        · go_simp
        simp only [Act.put, List.setIfInBounds_toArray, List.set_cons_zero, List.set_cons_succ]
        refine wpAnyH_done (by kernel_rfl) ?_ _
        go_wp2
        go_ret
        exact ⟨rfl, hH.1.bel⟩
end Go.Proofs.YtpadpmkfhljiiaaGreat
