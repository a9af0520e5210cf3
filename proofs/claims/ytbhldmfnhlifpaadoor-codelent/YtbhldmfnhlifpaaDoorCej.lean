/- CodeLeads: the walk. -/
import Derived.Test.YtbhldmfnhlifpaaDoorCei
import Derived.Test.YtbhldmfnhlifpaaDoorCeh
import Derived.Test.YtbhldmfnhlifpaaDoorCed
import Derived.Test.YtbhldmfnhlifpaaDoorVo
namespace Go.Proofs.YtbhldmfnhlifpaaDoor
open Go.RowKit
/-- the three instructions of the law, the bytes that it laid, and their copy -/
def LI (w : World) (q1 q4 q5 : Nat) (x0 C x3 : Int) (v : Value) (g m cap : Nat) (vw : Value) (bf bw : Nat → Nat) (W : World) : Prop :=
  Below w.heap.size w W ∧ CBox W q1 25 [.int .i64 x0, .int .i64 C, v, .int .i64 x3] ∧ CBox W q4 25 [.int .i64 x0, .int .i64 C, .slice (some ⟨g, 0, none⟩) m cap, .int .i64 x3] ∧ CBox W q5 25 [.int .i64 x0, .int .i64 C, vw, .int .i64 x3] ∧ W.ownsRow w.heap.size 5 1 (.slice (some ⟨g, 0, none⟩) (m + 75) cap) (m + 75) (bsL (m + 75) bf) ∧ W.ownsRow w.heap.size 5 1 vw m (bsL m bw)
theorem LI.past {w : World} {q1 q4 q5 : Nat} {x0 C x3 : Int} {v : Value} {g m cap : Nat} {vw : Value} {bf bw : Nat → Nat} {W W' : World} (h : LI w q1 q4 q5 x0 C x3 v g m cap vw bf bw W) (k : Below W.heap.size W W') : LI w q1 q4 q5 x0 C x3 v g m cap vw bf bw W' :=
  ⟨h.1.trans (k.mono h.1.size), h.2.1.past k, h.2.2.1.past k, h.2.2.2.1.past k, ownsRow_past h.2.2.2.2.1 k, ownsRow_past h.2.2.2.2.2 k⟩
theorem pre_bytes {W : World} {base g m cap : Nat} {bf : Nat → Nat} (hb : ∀ j, bf j < 256) (h : W.ownsRow base 5 1 (.slice (some ⟨g, 0, none⟩) (m + 75) cap) (m + 75) (bsL (m + 75) bf)) : BytesOf W (.slice (some ⟨g, 0, none⟩) m cap) m bf ∧ ∀ ad c, Value.slice (some ⟨g, 0, none⟩) m cap = .slice ad m c → m ≤ c := by
  refine ⟨⟨_, _, rfl, hb, fun e => (by cases e), fun _ => ⟨g, 0, rfl, fun j hj => ?_⟩⟩, fun ad c e => ?_⟩
  · rw [Nat.zero_add, h.cellAt j (by omega), bsL_get _ _ _ (by omega)]
  · obtain ⟨_, rfl⟩ : some (⟨g, 0, none⟩ : Addr) = ad ∧ cap = c := by simpa using e
    have := own_cap h
    omega
theorem nm_parts (s : Bool) (C : Int) (b : Nat → Nat) : ∃ (n : Int) (k : Bool), nmV s C b = .tuple #[.int .i64 n, .bool k] := by
  unfold nmV
  split
  · split
    · exact ⟨_, _, rfl⟩
    · split <;> exact ⟨_, _, rfl⟩
  · exact ⟨_, _, rfl⟩
theorem tg_parts (nx : Int) (b : Nat → Nat) (k : Nat) : ∃ f : Nat → Int, ∀ j, j < k → (tgL nx b k)[j]? = some (.int .i64 (f j)) := ⟨fun j => nx + dist16 (b (2 * j)) (b (2 * j + 1)), fun j hj => by simp [tgL, hj]⟩
/-- what both tell of an instruction with these bytes -/
theorem lead_pair (x0 C x3 : Int) (m : Nat) (b : Nat → Nat) (hm : m ≤ 140737488355328) : ∃ (N : Nat) (f : Nat → Int) (nn : Int) (ok : Bool), N ≤ 1000000 ∧
    (∀ (W : World) (v : Value), Nms W → BytesOf W v m b → (∀ ad cap, v = .slice ad m cap → m ≤ cap) → Calls Tryd.prog 33 #[.agg #[.int .i64 x0, .int .i64 C, v, .int .i64 x3]] W fun e w' => ∃ ad c, e = .returned (.slice ad N c) ∧ (N ≠ 0 → ∃ g, ad = some ⟨g, 0, none⟩ ∧ ∀ j, j < N → w'.cell? ⟨g, j, none⟩ = some (.int .i64 (f j))) ∧ Below W.heap.size W w') ∧
    (∀ (W : World) (v : Value), BytesOf W v m b → Calls Tryd.prog 34 #[.agg #[.int .i64 x0, .int .i64 C, v, .int .i64 x3]] W fun e w' => ∃ ad c, e = .returned (.slice ad N c) ∧ (N ≠ 0 → ∃ g, ad = some ⟨g, 0, none⟩ ∧ ∀ j, j < N → w'.cell? ⟨g, j, none⟩ = some (.int .i64 (f j))) ∧ Below W.heap.size W w') ∧
    (∀ (W : World) (v : Value), Nms W → BytesOf W v m b → Calls Tryd.prog 35 #[.agg #[.int .i64 x0, .int .i64 C, v, .int .i64 x3]] W fun e w' => e = .returned (.tuple #[.int .i64 nn, .bool ok]) ∧ Below W.heap.size W w') ∧
    (∀ (W : World) (v : Value), BytesOf W v m b → Calls Tryd.prog 36 #[.agg #[.int .i64 x0, .int .i64 C, v, .int .i64 x3]] W fun e w' => e = .returned (.tuple #[.int .i64 nn, .bool ok]) ∧ Below W.heap.size W w') := by
  obtain ⟨nn, ok, hn⟩ := nm_parts (standsV x0 C x3 m (b 0)) C b
  obtain ⟨f, hf⟩ := tg_parts x3 (fun j => b (lgO C + j)) (lgN (standsV x0 C x3 m (b 0)) C (b 0))
  have key : ∀ (W w' : World) (pl : Value), w'.ownsRow W.heap.size 3 1 pl (lgN (standsV x0 C x3 m (b 0)) C (b 0)) (tgL x3 (fun j => b (lgO C + j)) (lgN (standsV x0 C x3 m (b 0)) C (b 0))) → ∃ ad c, pl = .slice ad (lgN (standsV x0 C x3 m (b 0)) C (b 0)) c ∧ (lgN (standsV x0 C x3 m (b 0)) C (b 0) ≠ 0 → ∃ g, ad = some ⟨g, 0, none⟩ ∧ ∀ j, j < lgN (standsV x0 C x3 m (b 0)) C (b 0) → w'.cell? ⟨g, j, none⟩ = some (.int .i64 (f j))) := fun W w' pl h => by
    obtain ⟨ad, c, rfl, hg⟩ := own_slice h
    refine ⟨ad, c, rfl, fun hne => ?_⟩
    obtain ⟨g, rfl⟩ := hg hne
    exact ⟨g, rfl, fun j hj => by rw [h.cellAt j (by omega), hf j hj]⟩
  by_cases hb0 : b 0 < 256
  · refine ⟨lgN (standsV x0 C x3 m (b 0)) C (b 0), f, nn, ok, ?_, fun W v hN hv hc => (leads_any W hN x0 C x3 v m b hm hv hc).mono fun e w' ⟨pl, he, ho, hB⟩ => ?_, fun W v hv => (rleads_any W x0 C x3 v m b hm hv).mono fun e w' ⟨pl, he, ho, hB⟩ => ?_, fun W v hN hv => (named_is W hN x0 C x3 v m b hm hv).mono fun e w' ⟨he, hB⟩ => ⟨by rw [he, hn], hB⟩, fun W v hv => (rnamed_is W x0 C x3 v m b hm hv).mono fun e w' ⟨he, hB⟩ => ⟨by rw [he, hn], hB⟩⟩
    · unfold lgN; split; split; omega; split <;> omega; omega
    · obtain ⟨ad, c, rfl, hg⟩ := key W w' pl ho; exact ⟨ad, c, he, hg, hB⟩
    · obtain ⟨ad, c, rfl, hg⟩ := key W w' pl ho; exact ⟨ad, c, he, hg, hB⟩
  · refine ⟨0, fun _ => 0, 0, false, by omega, fun W v hN hv hc => ?_, fun W v hv => ?_, fun W v hN hv => ?_, fun W v hv => ?_⟩ <;> (obtain ⟨_, _, _, hbb, _⟩ := hv; exact absurd (hbb 0) hb0)
def xrB (m : Nat) (b : Nat → Nat) (k j : Nat) : Nat := if j < k then b j ^^^ ((3 + j) % 256) else mkB m b j
theorem xrB_lt {m : Nat} {b : Nat → Nat} (h : ∀ j, b j < 256) (k j : Nat) : xrB m b k j < 256 := by
  unfold xrB; split
  · exact Nat.xor_lt_two_pow (n := 8) (h j) (Nat.mod_lt _ (by decide))
  · exact mkB_lt h j
theorem xrB_zero (m : Nat) (b : Nat → Nat) : xrB m b 0 = mkB m b := by funext j; unfold xrB; rw [if_neg (by omega)]
theorem xrB_set (m n k : Nat) (b : Nat → Nat) (hk : k < n) : (bsL n (xrB m b k)).set k (.int .u8 ((b k ^^^ ((3 + k) % 256) : Nat) : Int)) = bsL n (xrB m b (k + 1)) := by
  apply List.ext_getElem?
  intro j
  by_cases e : k = j
  · subst e
    rw [List.getElem?_set_self (by rw [bsL_len]; exact hk), bsL_get _ _ _ hk]
    unfold xrB; rw [if_pos (by omega)]
  · rw [List.getElem?_set_ne e]
    by_cases hj : j < n
    · rw [bsL_get _ _ _ hj, bsL_get _ _ _ hj]
      unfold xrB
      by_cases h : j < k
      · rw [if_pos h, if_pos (by omega)]
      · rw [if_neg h, if_neg (by omega)]
    · rw [List.getElem?_eq_none (by rw [bsL_len]; omega), List.getElem?_eq_none (by rw [bsL_len]; omega)]
/-- an empty list of the call's own -/
theorem own_empty (w : World) (base : Nat) (hb : base ≤ w.heap.size) : (w.alloc (.cells #[] 5)).ownsRow base 5 1 (.slice (some ⟨w.heap.size, 0, none⟩) 0 0) 0 [] := ⟨rfl, Or.inr ⟨w.heap.size, 0, #[], rfl, hb, World.alloc_heap_new w _, Nat.le_refl _, by unfold maxLen; omega, rfl, rfl⟩⟩
theorem leads_past {N : Nat} {la : Option Addr} {f : Nat → Int} {W W' : World} (h : N ≠ 0 → ∃ g, la = some ⟨g, 0, none⟩ ∧ ∀ j, j < N → W.cell? ⟨g, j, none⟩ = some (.int .i64 (f j))) (k : Below W.heap.size W W') : N ≠ 0 → ∃ g, la = some ⟨g, 0, none⟩ ∧ ∀ j, j < N → W'.cell? ⟨g, j, none⟩ = some (.int .i64 (f j)) := fun hne => by
  obtain ⟨g, e, hc⟩ := h hne
  exact ⟨g, e, fun j hj => (k.cell (p := ⟨g, j, none⟩) (World.block_lt_of_cell? _ _ (hc j hj))).trans (hc j hj)⟩
set_option maxHeartbeats 8000000 in
set_option maxRecDepth 100000 in
theorem codeLeads_walk (w : World) (hN : Nms w) (x0 C x3 : Int) (v : Value) (L : Nat) (b : Nat → Nat) (hL : L ≤ 9223372036854775807) (hv : BytesOf w v L b) (_ : ∀ ad cap, v = .slice ad L cap → L ≤ cap) : Calls Tryd.prog 4 #[.agg #[.int .i64 x0, .int .i64 C, v, .int .i64 x3]] w fun e w' => e = .returned (.bool true) ∧ Below w.heap.size w w' := by
  have HBB : Hid (∀ j, b j < 256) := by obtain ⟨_, _, _, h, _⟩ := hv; exact h
  have HLA : Hid (∀ W, Below w.heap.size w W → Calls Tryd.prog 27 #[v] W fun e w' => ∃ g cap, e = .returned (.slice (some ⟨g, 0, none⟩) (cutN L) cap) ∧ w'.ownsRow w.heap.size 5 1 (.slice (some ⟨g, 0, none⟩) (cutN L + 75) cap) (cutN L + 75) (bsL (cutN L + 75) (mkB (cutN L) b)) ∧ Below W.heap.size W w') := fun W hB => (laid_is W v L b hL (hv.below rfl hB)).mono fun e w' ⟨g, cap, he, ho, hB2⟩ => ⟨g, cap, he, owns_lower ho hB.size, hB2⟩
  have hm1 := (cutN_le L).1
  have hm2 := (cutN_le L).2
  generalize cutN L = m at HLA hm1 hm2
  have HSD : Hid (∀ W g cap, Below w.heap.size w W → W.ownsRow w.heap.size 5 1 (.slice (some ⟨g, 0, none⟩) (m + 75) cap) (m + 75) (bsL (m + 75) (mkB m b)) → Calls Tryd.prog 31 #[.slice (some ⟨g, 0, none⟩) m cap, v] W fun e w' => e = .returned (.bool true) ∧ Below W.heap.size W w') := fun W g cap hB ho => lstands_is W g m cap w.heap.size v L b hm2 ho (hv.below rfl hB) hm1 hL
  have HAW : Hid (∀ W, Below w.heap.size w W → Calls Tryd.prog 32 #[] W fun e w' => e = .returned (.bool true) ∧ Below W.heap.size W w') := fun W hB => awake_is W (hN.past hB)
  have HNM : Hid (Nms w) := hN
  have CTR : ∀ (bf bw : Nat → Nat), (∀ j, bf j < 256) → (∀ j, bw j < 256) → (∀ j, j < m → bf j = bw j) → ∃ (N : Nat) (f : Nat → Int) (nn : Int) (ok : Bool), N ≤ 1000000 ∧
      (∀ (W : World) (g cap : Nat), Below w.heap.size w W → W.ownsRow w.heap.size 5 1 (.slice (some ⟨g, 0, none⟩) (m + 75) cap) (m + 75) (bsL (m + 75) bf) → Calls Tryd.prog 33 #[.agg #[.int .i64 x0, .int .i64 C, .slice (some ⟨g, 0, none⟩) m cap, .int .i64 x3]] W fun e w' => ∃ ad c, e = .returned (.slice ad N c) ∧ (N ≠ 0 → ∃ g, ad = some ⟨g, 0, none⟩ ∧ ∀ j, j < N → w'.cell? ⟨g, j, none⟩ = some (.int .i64 (f j))) ∧ Below W.heap.size W w') ∧
      (∀ (W : World) (v : Value), W.ownsRow w.heap.size 5 1 v m (bsL m bw) → Calls Tryd.prog 34 #[.agg #[.int .i64 x0, .int .i64 C, v, .int .i64 x3]] W fun e w' => ∃ ad c, e = .returned (.slice ad N c) ∧ (N ≠ 0 → ∃ g, ad = some ⟨g, 0, none⟩ ∧ ∀ j, j < N → w'.cell? ⟨g, j, none⟩ = some (.int .i64 (f j))) ∧ Below W.heap.size W w') ∧
      (∀ (W : World) (g cap : Nat), Below w.heap.size w W → W.ownsRow w.heap.size 5 1 (.slice (some ⟨g, 0, none⟩) (m + 75) cap) (m + 75) (bsL (m + 75) bf) → Calls Tryd.prog 35 #[.agg #[.int .i64 x0, .int .i64 C, .slice (some ⟨g, 0, none⟩) m cap, .int .i64 x3]] W fun e w' => e = .returned (.tuple #[.int .i64 nn, .bool ok]) ∧ Below W.heap.size W w') ∧
      (∀ (W : World) (v : Value), W.ownsRow w.heap.size 5 1 v m (bsL m bw) → Calls Tryd.prog 36 #[.agg #[.int .i64 x0, .int .i64 C, v, .int .i64 x3]] W fun e w' => e = .returned (.tuple #[.int .i64 nn, .bool ok]) ∧ Below W.heap.size W w') := fun bf bw h1 h2 h3 => by
    obtain ⟨N, f, nn, ok, p0, p1, p2, p3, p4⟩ := lead_pair x0 C x3 m bw (by omega)
    have hp : ∀ (W : World) (g cap : Nat), W.ownsRow w.heap.size 5 1 (.slice (some ⟨g, 0, none⟩) (m + 75) cap) (m + 75) (bsL (m + 75) bf) → BytesOf W (.slice (some ⟨g, 0, none⟩) m cap) m bw ∧ ∀ ad c, Value.slice (some ⟨g, 0, none⟩) m cap = .slice ad m c → m ≤ c := fun W g cap ho => by
      obtain ⟨⟨ad, c, e, _, q1, q2⟩, q3⟩ := pre_bytes h1 ho
      refine ⟨⟨ad, c, e, h2, q1, fun hne => ?_⟩, q3⟩
      obtain ⟨g', o', e', hc⟩ := q2 hne
      exact ⟨g', o', e', fun j hj => by rw [hc j hj, h3 j hj]⟩
    exact ⟨N, f, nn, ok, p0, fun W g cap hB ho => p1 W _ (hN.past hB) (hp W g cap ho).1 (hp W g cap ho).2, fun W v ho => p2 W v (own_bytes ho h2).1, fun W g cap hB ho => p3 W _ (hN.past hB) (hp W g cap ho).1, fun W v ho => p4 W v (own_bytes ho h2).1⟩
  obtain ⟨NA, fA, nnA, okA', pA0, pA1, pA2, pA3, pA4⟩ := CTR (mkB m b) b (mkB_lt HBB.out) HBB.out (fun j hj => by unfold mkB; rw [if_pos hj])
  obtain ⟨NB, fB, nnB, okB', pB0, pB1, pB2, pB3, pB4⟩ := CTR (xrB m b m) (xrB m b m) (xrB_lt HBB.out m) (xrB_lt HBB.out m) (fun _ _ => rfl)
  have HNA : Hid (NA ≤ 1000000) := pA0
  have CLA : Hid _ := fun W => pA1 W
  have RLA : Hid _ := fun W => pA2 W
  have CNA : Hid _ := fun W => pA3 W
  have RNA : Hid _ := fun W => pA4 W
  have HNB : Hid (NB ≤ 1000000) := pB0
  have CLB : Hid _ := fun W => pB1 W
  have RLB : Hid _ := fun W => pB2 W
  have CNB : Hid _ := fun W => pB3 W
  have RNB : Hid _ := fun W => pB4 W
  clear CTR pA0 pA1 pA2 pA3 pA4 pB0 pB1 pB2 pB3 pB4
  obtain ⟨ad0, cp0, rfl, _⟩ := hv
  obtain ⟨i0, hi, hz0, hz1, hz2⟩ := info_parts infoB8
  have mI : (m : Int) ≤ 70000 := by omega
  go_enter Tryd.func4, Tryd.ntmps4
  go_upto_region 1 with fail
  have X0 : Hid (CBox (w.alloc (.cells #[.int .i64 x0, .int .i64 C, .slice ad0 L cp0, .int .i64 x3] 25)) w.heap.size 25 [.int .i64 x0, .int .i64 C, .slice ad0 L cp0, .int .i64 x3] ∧ Below w.heap.size w (w.alloc (.cells #[.int .i64 x0, .int .i64 C, .slice ad0 L cp0, .int .i64 x3] 25))) := ⟨CBox.new w _ [.int .i64 x0, .int .i64 C, .slice ad0 L cp0, .int .i64 x3], (Below.refl _ _).alloc (Nat.le_refl _) _⟩
  generalize w.alloc (.cells #[.int .i64 x0, .int .i64 C, .slice ad0 L cp0, .int .i64 x3] 25) = W0 at X0 ⊢
  have d0 := X0.out.1.cell 0
  have d1 := X0.out.1.cell 1
  have d2 := X0.out.1.cell 2
  have d3 := X0.out.1.cell 3
  simp only [List.getElem?_cons_zero, List.getElem?_cons_succ] at d0 d1 d2 d3
  go_upto_region 2 with (go_at_call 27; refine (HLA.out _ X0.out.2).mono ?_; rintro e w1 ⟨g, cap, rfl, ho1, hB1⟩; (have X1 : Hid (CBox w1 w.heap.size 25 [.int .i64 x0, .int .i64 C, .slice ad0 L cp0, .int .i64 x3] ∧ Below w.heap.size w w1 ∧ w1.ownsRow w.heap.size 5 1 (.slice (some ⟨g, 0, none⟩) (m + 75) cap) (m + 75) (bsL (m + 75) (mkB m b))) := ⟨X0.out.1.past hB1, X0.out.2.trans (hB1.mono X0.out.2.size), ho1⟩); clear ho1 hB1 HLA)
  clear d0 d1 d2 d3 X0
  have d0 := X1.out.1.cell 0
  have d1 := X1.out.1.cell 1
  have d2 := X1.out.1.cell 2
  have d3 := X1.out.1.cell 3
  simp only [List.getElem?_cons_zero, List.getElem?_cons_succ] at d0 d1 d2 d3
  go_upto_region 4 with fail
  have X2 : Hid (CBox (w1.alloc (.cells #[.int .i64 x0, .int .i64 C, .slice (some ⟨g, 0, none⟩) m cap, .int .i64 x3] 25)) w.heap.size 25 [.int .i64 x0, .int .i64 C, .slice ad0 L cp0, .int .i64 x3] ∧ Below w.heap.size w (w1.alloc (.cells #[.int .i64 x0, .int .i64 C, .slice (some ⟨g, 0, none⟩) m cap, .int .i64 x3] 25)) ∧ (w1.alloc (.cells #[.int .i64 x0, .int .i64 C, .slice (some ⟨g, 0, none⟩) m cap, .int .i64 x3] 25)).ownsRow w.heap.size 5 1 (.slice (some ⟨g, 0, none⟩) (m + 75) cap) (m + 75) (bsL (m + 75) (mkB m b)) ∧ CBox (w1.alloc (.cells #[.int .i64 x0, .int .i64 C, .slice (some ⟨g, 0, none⟩) m cap, .int .i64 x3] 25)) w1.heap.size 25 [.int .i64 x0, .int .i64 C, .slice (some ⟨g, 0, none⟩) m cap, .int .i64 x3]) :=
    ⟨X1.out.1.alloc _, X1.out.2.1.alloc X1.out.2.1.size _, X1.out.2.2.alloc _, CBox.new w1 _ [.int .i64 x0, .int .i64 C, .slice (some ⟨g, 0, none⟩) m cap, .int .i64 x3]⟩
  have q41 : w.heap.size < w1.heap.size := X1.out.1.lt
  generalize w1.alloc (.cells #[.int .i64 x0, .int .i64 C, .slice (some ⟨g, 0, none⟩) m cap, .int .i64 x3] 25) = w2 at X2 ⊢
  generalize w1.heap.size = q4 at X2 q41 ⊢
  clear d0 d1 d2 d3 X1
  have d0 := X2.out.1.cell 0
  have d1 := X2.out.1.cell 1
  have d2 := X2.out.1.cell 2
  have d3 := X2.out.1.cell 3
  simp only [List.getElem?_cons_zero, List.getElem?_cons_succ] at d0 d1 d2 d3
  go_upto_region 5 with fail
  have X3 : Hid (CBox (w2.alloc (.cells #[.int .i64 x0, .int .i64 C, .slice ad0 L cp0, .int .i64 x3] 25)) w.heap.size 25 [.int .i64 x0, .int .i64 C, .slice ad0 L cp0, .int .i64 x3] ∧ Below w.heap.size w (w2.alloc (.cells #[.int .i64 x0, .int .i64 C, .slice ad0 L cp0, .int .i64 x3] 25)) ∧ (w2.alloc (.cells #[.int .i64 x0, .int .i64 C, .slice ad0 L cp0, .int .i64 x3] 25)).ownsRow w.heap.size 5 1 (.slice (some ⟨g, 0, none⟩) (m + 75) cap) (m + 75) (bsL (m + 75) (mkB m b)) ∧ CBox (w2.alloc (.cells #[.int .i64 x0, .int .i64 C, .slice ad0 L cp0, .int .i64 x3] 25)) q4 25 [.int .i64 x0, .int .i64 C, .slice (some ⟨g, 0, none⟩) m cap, .int .i64 x3] ∧ CBox (w2.alloc (.cells #[.int .i64 x0, .int .i64 C, .slice ad0 L cp0, .int .i64 x3] 25)) w2.heap.size 25 [.int .i64 x0, .int .i64 C, .slice ad0 L cp0, .int .i64 x3]) :=
    ⟨X2.out.1.alloc _, X2.out.2.1.alloc X2.out.2.1.size _, X2.out.2.2.1.alloc _, X2.out.2.2.2.alloc _, CBox.new w2 _ [.int .i64 x0, .int .i64 C, .slice ad0 L cp0, .int .i64 x3]⟩
  have q52 : q4 < w2.heap.size := X2.out.2.2.2.lt
  generalize w2.alloc (.cells #[.int .i64 x0, .int .i64 C, .slice ad0 L cp0, .int .i64 x3] 25) = w3 at X3 ⊢
  generalize w2.heap.size = q5 at X3 q52 ⊢
  clear d0 d1 d2 d3 X2
  have SRC : Hid (∀ W, Below w3.heap.size w3 W → ∀ j u, (bsL m b)[j]? = some u → W.cell? ((⟨g, 0, none⟩ : Addr).add j) = some u) := fun W hB j u hu => by
    obtain ⟨hj, rfl⟩ := bsL_at hu
    have hc := X3.out.2.2.1.cellAt j (by omega)
    rw [bsL_get _ _ _ (by omega)] at hc
    rw [Addr.add_mid, Nat.zero_add]
    refine (hB.cell (p := ⟨g, j, none⟩) (World.block_lt_of_cell? _ _ hc)).trans ?_
    rw [hc]; unfold mkB; rw [if_pos hj]
  have oE : Hid ((w3.alloc (.cells #[] 5)).ownsRow w3.heap.size 5 1 (.slice (some ⟨w3.heap.size, 0, none⟩) 0 0) 0 []) := own_empty w3 _ (Nat.le_refl _)
  have B0 : Hid (Below w3.heap.size w3 (w3.alloc (.cells #[] 5))) := (Below.refl _ _).alloc (Nat.le_refl _) _
  go_upto_region 6 with (at_builtin; refine wpList_append_own _ rfl _ _ 22 rfl w3.heap.size 5 i0 (.int .u8 0) 1 1 Tryd.underlying22 hi hz0 hz1 hz2 rfl (by decide) _ 0 [] rfl oE.out ⟨g, 0, none⟩ m cap (bsL m b) rfl (by rw [bsL_len]; omega) (SRC.out _ B0.out) (bsL_one _ b) (by unfold maxLen; omega) (by omega) B0.out.size ?_; intro v' w4 hown' hgrow hnn; obtain ⟨gw, cw, rfl, ho4, hB4⟩ := own_some (W := w4) (w := w3) (n := w3.heap.size) (base := w3.heap.size) (m := m) (v := v') (xs := bsL m b) (by simpa using hown') (fun e => by have h2 : Value.slice (some ⟨w3.heap.size, 0, none⟩) 0 0 = .slice none 0 0 := (hnn.1 e).1; cases h2) (B0.out.grown hgrow B0.out.size (fun k e => (by cases e; exact Nat.le_refl _))); (have X4 : Hid (CBox w4 w.heap.size 25 [.int .i64 x0, .int .i64 C, .slice ad0 L cp0, .int .i64 x3] ∧ Below w.heap.size w w4 ∧ w4.ownsRow w.heap.size 5 1 (.slice (some ⟨g, 0, none⟩) (m + 75) cap) (m + 75) (bsL (m + 75) (mkB m b)) ∧ CBox w4 q4 25 [.int .i64 x0, .int .i64 C, .slice (some ⟨g, 0, none⟩) m cap, .int .i64 x3] ∧ CBox w4 q5 25 [.int .i64 x0, .int .i64 C, .slice ad0 L cp0, .int .i64 x3] ∧ w4.ownsRow w3.heap.size 5 1 (.slice (some ⟨gw, 0, none⟩) m cw) m (bsL m b)) := ⟨X3.out.1.past hB4, X3.out.2.1.trans (hB4.mono X3.out.2.1.size), ownsRow_past X3.out.2.2.1 hB4, X3.out.2.2.2.1.past hB4, X3.out.2.2.2.2.past hB4, ho4⟩); (have c52 := X4.out.2.2.2.2.1.cell 2); (have f52 := X4.out.2.2.2.2.1.frozen 2); simp only [List.getElem?_cons_zero, List.getElem?_cons_succ] at c52; clear hown' hgrow hnn ho4 hB4)
  have RA0 : Hid (LI w w.heap.size q4 q5 x0 C x3 (.slice ad0 L cp0) g m cap (.slice (some ⟨gw, 0, none⟩) m cw) (mkB m b) b (w4.setCell ⟨q5, 2, none⟩ (.slice (some ⟨gw, 0, none⟩) m cw))) := by
    obtain ⟨y1, y2, y3, y4, y5, y6⟩ := X4.out
    have hs3 : w.heap.size ≤ w3.heap.size := X3.out.2.1.size
    refine ⟨y2.setCell (by show w.heap.size ≤ q5; omega) _, y1.other _ _ (by show w.heap.size ≠ q5; omega), y4.other _ _ (by show q4 ≠ q5; omega), y5.set 2 _, ?_, ?_⟩
    · exact ownsRow_setCell_other y3 (fun e => y5.row y3 (Or.inr (by decide)) e.symm) _
    · exact owns_lower (ownsRow_setCell_other y6 (fun e => y5.row y6 (Or.inr (by decide)) e.symm) _) hs3
  have GW : g ≠ gw := by
    have h1 := (X3.out.2.2.1.lt g rfl).2
    have h2 := (X4.out.2.2.2.2.2.lt gw rfl).1
    omega
  generalize w4.setCell ⟨q5, 2, none⟩ (.slice (some ⟨gw, 0, none⟩) m cw) = w5 at RA0 ⊢
  clear X4 X3 c52 f52 SRC oE B0
  have c0 := RA0.out.2.2.1.cell 0
  have c1 := RA0.out.2.2.1.cell 1
  have c2 := RA0.out.2.2.1.cell 2
  have c3 := RA0.out.2.2.1.cell 3
  simp only [List.getElem?_cons_zero, List.getElem?_cons_succ] at c0 c1 c2 c3
  go_upto_region 7 with (go_at_call 33; refine (CLA.out _ _ _ RA0.out.1 RA0.out.2.2.2.2.1).mono ?_; rintro e aA1 ⟨la, lc, rfl, hl, hB⟩; (have RA1 : Hid (LI w w.heap.size q4 q5 x0 C x3 (.slice ad0 L cp0) g m cap (.slice (some ⟨gw, 0, none⟩) m cw) (mkB m b) b aA1) := RA0.out.past hB); (have LL : Hid (NA ≠ 0 → ∃ g, la = some ⟨g, 0, none⟩ ∧ ∀ j, j < NA → aA1.cell? ⟨g, j, none⟩ = some (.int .i64 (fA j))) := hl); clear hB hl)
  clear c0 c1 c2 c3 RA0
  have c0 := RA1.out.2.2.2.1.cell 0
  have c1 := RA1.out.2.2.2.1.cell 1
  have c2 := RA1.out.2.2.2.1.cell 2
  have c3 := RA1.out.2.2.2.1.cell 3
  simp only [List.getElem?_cons_zero, List.getElem?_cons_succ] at c0 c1 c2 c3
  go_upto_region 8 with (go_at_call 34; refine (RLA.out _ _ RA1.out.2.2.2.2.2).mono ?_; rintro e aA2 ⟨ma, mc, rfl, hl, hB⟩; (have RA2 : Hid (LI w w.heap.size q4 q5 x0 C x3 (.slice ad0 L cp0) g m cap (.slice (some ⟨gw, 0, none⟩) m cw) (mkB m b) b aA2) := RA1.out.past hB); (have LL2 : Hid (NA ≠ 0 → ∃ g, la = some ⟨g, 0, none⟩ ∧ ∀ j, j < NA → aA2.cell? ⟨g, j, none⟩ = some (.int .i64 (fA j))) := leads_past LL.out hB); (have MM : Hid (NA ≠ 0 → ∃ g, ma = some ⟨g, 0, none⟩ ∧ ∀ j, j < NA → aA2.cell? ⟨g, j, none⟩ = some (.int .i64 (fA j))) := hl); clear hB hl)
  clear c0 c1 c2 c3 RA1 LL
  have c0 := RA2.out.2.2.1.cell 0
  have c1 := RA2.out.2.2.1.cell 1
  have c2 := RA2.out.2.2.1.cell 2
  have c3 := RA2.out.2.2.1.cell 3
  simp only [List.getElem?_cons_zero, List.getElem?_cons_succ] at c0 c1 c2 c3
  go_upto_region 9 with (go_at_call 35; refine (CNA.out _ _ _ RA2.out.1 RA2.out.2.2.2.2.1).mono ?_; rintro e aA3 ⟨rfl, hB⟩; (have RA3 : Hid (LI w w.heap.size q4 q5 x0 C x3 (.slice ad0 L cp0) g m cap (.slice (some ⟨gw, 0, none⟩) m cw) (mkB m b) b aA3) := RA2.out.past hB); (have LL3 : Hid (NA ≠ 0 → ∃ g, la = some ⟨g, 0, none⟩ ∧ ∀ j, j < NA → aA3.cell? ⟨g, j, none⟩ = some (.int .i64 (fA j))) := leads_past LL2.out hB); (have MM3 : Hid (NA ≠ 0 → ∃ g, ma = some ⟨g, 0, none⟩ ∧ ∀ j, j < NA → aA3.cell? ⟨g, j, none⟩ = some (.int .i64 (fA j))) := leads_past MM.out hB); clear hB)
  clear c0 c1 c2 c3 RA2 LL2 MM
  have c0 := RA3.out.2.2.2.1.cell 0
  have c1 := RA3.out.2.2.2.1.cell 1
  have c2 := RA3.out.2.2.2.1.cell 2
  have c3 := RA3.out.2.2.2.1.cell 3
  simp only [List.getElem?_cons_zero, List.getElem?_cons_succ] at c0 c1 c2 c3
  go_upto_region 10 with (go_at_call 36; refine (RNA.out _ _ RA3.out.2.2.2.2.2).mono ?_; rintro e aA4 ⟨rfl, hB⟩; (have RA4 : Hid (LI w w.heap.size q4 q5 x0 C x3 (.slice ad0 L cp0) g m cap (.slice (some ⟨gw, 0, none⟩) m cw) (mkB m b) b aA4) := RA3.out.past hB); (have LL4 : Hid (NA ≠ 0 → ∃ g, la = some ⟨g, 0, none⟩ ∧ ∀ j, j < NA → aA4.cell? ⟨g, j, none⟩ = some (.int .i64 (fA j))) := leads_past LL3.out hB); (have MM4 : Hid (NA ≠ 0 → ∃ g, ma = some ⟨g, 0, none⟩ ∧ ∀ j, j < NA → aA4.cell? ⟨g, j, none⟩ = some (.int .i64 (fA j))) := leads_past MM3.out hB); clear hB)
  clear c0 c1 c2 c3 RA3 LL3 MM3
  have d2 := RA4.out.2.1.cell 2
  simp only [List.getElem?_cons_zero, List.getElem?_cons_succ] at d2
  go_upto_region 12 with (go_at_call 31; refine (HSD.out _ _ _ RA4.out.1 RA4.out.2.2.2.2.1).mono ?_; rintro e aA5 ⟨rfl, hB⟩; (have RA5 : Hid (LI w w.heap.size q4 q5 x0 C x3 (.slice ad0 L cp0) g m cap (.slice (some ⟨gw, 0, none⟩) m cw) (mkB m b) b aA5) := RA4.out.past hB); (have LL5 : Hid (NA ≠ 0 → ∃ g, la = some ⟨g, 0, none⟩ ∧ ∀ j, j < NA → aA5.cell? ⟨g, j, none⟩ = some (.int .i64 (fA j))) := leads_past LL4.out hB); (have MM5 : Hid (NA ≠ 0 → ∃ g, ma = some ⟨g, 0, none⟩ ∧ ∀ j, j < NA → aA5.cell? ⟨g, j, none⟩ = some (.int .i64 (fA j))) := leads_past MM4.out hB); clear hB)
  clear d2 RA4 LL4 MM4
  have NIA : (NA : Int) ≤ 1000000 := by have := HNA.out; omega
  go_wp2
  go_loopw [12] (fun s wr => ∃ j : Nat, j ≤ NA ∧ s = .int .i64 (j : Int) ∧ Below aA5.heap.size aA5 wr) (fun s _ => NA - (intOf s).toNat)
  case atStart => exact ⟨0, Nat.zero_le _, rfl, Below.refl _ _⟩
  case round =>
    obtain ⟨j, hj, rfl, hB⟩ := hrel
    by_cases hj5 : j < NA
    · have jI : (j : Int) < (NA : Int) := by omega
      obtain ⟨lg, e1, hc1⟩ := LL5.out (by omega)
      obtain ⟨mg, e2, hc2⟩ := MM5.out (by omega)
      subst e1 e2
      have u1 := (hB.cell (p := ⟨lg, j, none⟩) (World.block_lt_of_cell? _ _ (hc1 j hj5))).trans (hc1 j hj5)
      have u2 := (hB.cell (p := ⟨mg, j, none⟩) (World.block_lt_of_cell? _ _ (hc2 j hj5))).trans (hc2 j hj5)
      generalize fA j = fj at u1 u2
      have HB : Hid (Below aA5.heap.size aA5 wr) := hB
      clear hc1 hc2 hB hj
      go_upto_region 15 with fail
      refine wp_region_held_drew (S := fun V' => Below aA5.heap.size aA5 V' ∧ V'.cell? ⟨lg, j, none⟩ = some (.int .i64 fj) ∧ V'.cell? ⟨mg, j, none⟩ = some (.int .i64 fj)) (by kernel_rfl) ⟨HB.out.drew, u1, u2⟩ (fun hHeld => ?_)
      generalize wr.drew = z0 at hHeld ⊢
      clear u1 u2 HB
      refine wpAnyH_take (i := 0) (v := .slice (some ⟨lg, 0, none⟩) NA lc) ov0 (by kernel_rfl) (by kernel_rfl) (by kernel_rfl) (fun _ _ _ h => h) (Or.inl ⟨by rfl, fun V' hS => ?_⟩) hHeld ?_
      · go_simp
      simp only [Act.put, List.setIfInBounds_toArray, List.set_cons_zero, List.set_cons_succ]
      refine wpAnyH_take (i := 1) (v := .int .i64 (j : Int)) ov1 (by kernel_rfl) (by kernel_rfl) (by kernel_rfl) (fun _ _ _ h => h) (Or.inl ⟨by rfl, fun V' hS => ?_⟩) hHeld ?_
      · go_simp
      simp only [Act.put, List.setIfInBounds_toArray, List.set_cons_zero, List.set_cons_succ]
      refine wpAnyH_take (i := 2) (v := .pointer (some ⟨lg, j, none⟩)) ov2 (by kernel_rfl) (by kernel_rfl) (by kernel_rfl) (fun _ _ _ h => h) (Or.inl ⟨by rfl, fun V' hS => ?_⟩) hHeld ?_
      · go_simp
      simp only [Act.put, List.setIfInBounds_toArray, List.set_cons_zero, List.set_cons_succ]
      refine wpAnyH_take (i := 3) (v := .int .i64 fj) ov3 (by kernel_rfl) (by kernel_rfl) (by kernel_rfl) (fun _ _ _ h => h) (Or.inl ⟨by rfl, fun V' hS => ?_⟩) hHeld ?_
      · have k1 := hS.2.1
        go_simp
      simp only [Act.put, List.setIfInBounds_toArray, List.set_cons_zero, List.set_cons_succ]
      refine wpAnyH_take (i := 4) (v := .slice (some ⟨mg, 0, none⟩) NA mc) ov4 (by kernel_rfl) (by kernel_rfl) (by kernel_rfl) (fun _ _ _ h => h) (Or.inl ⟨by rfl, fun V' hS => ?_⟩) hHeld ?_
      · go_simp
      simp only [Act.put, List.setIfInBounds_toArray, List.set_cons_zero, List.set_cons_succ]
      refine wpAnyH_take (i := 5) (v := .int .i64 (j : Int)) ov5 (by kernel_rfl) (by kernel_rfl) (by kernel_rfl) (fun _ _ _ h => h) (Or.inl ⟨by rfl, fun V' hS => ?_⟩) hHeld ?_
      · go_simp
      simp only [Act.put, List.setIfInBounds_toArray, List.set_cons_zero, List.set_cons_succ]
      refine wpAnyH_take (i := 6) (v := .pointer (some ⟨mg, j, none⟩)) ov6 (by kernel_rfl) (by kernel_rfl) (by kernel_rfl) (fun _ _ _ h => h) (Or.inl ⟨by rfl, fun V' hS => ?_⟩) hHeld ?_
      · go_simp
      simp only [Act.put, List.setIfInBounds_toArray, List.set_cons_zero, List.set_cons_succ]
      refine wpAnyH_take (i := 7) (v := .int .i64 fj) ov7 (by kernel_rfl) (by kernel_rfl) (by kernel_rfl) (fun _ _ _ h => h) (Or.inl ⟨by rfl, fun V' hS => ?_⟩) hHeld ?_
      · have k1 := hS.2.2
        go_simp
      simp only [Act.put, List.setIfInBounds_toArray, List.set_cons_zero, List.set_cons_succ]
      refine wpAnyH_take (i := 8) (v := .bool false) ov8 (by kernel_rfl) (by kernel_rfl) (by kernel_rfl) (fun _ _ _ h => h) (Or.inl ⟨by rfl, fun V' hS => ?_⟩) hHeld ?_
      · go_simp
      simp only [Act.put, List.setIfInBounds_toArray, List.set_cons_zero, List.set_cons_succ]
      refine wpAnyH_done (by kernel_rfl) ?_ _
      have HB : Hid (Below aA5.heap.size aA5 z0) := hHeld.1
      clear hHeld
      go_wp2
      go_roundw
      case rel => exact ⟨j + 1, by omega, by go_num, HB.out⟩
      case measure => simp [intOf]; omega
    · obtain rfl : j = NA := by omega
      have jI : ¬ ((j : Int) < (j : Int)) := by omega
      have RZA : Hid (LI w w.heap.size q4 q5 x0 C x3 (.slice ad0 L cp0) g m cap (.slice (some ⟨gw, 0, none⟩) m cw) (mkB m b) b wr) := RA5.out.past hB
      clear hB RA5 LL5 MM5 hj hj5
      go_wp2
      go_loopw [13] (fun s wr => ∃ k : Nat, k ≤ m ∧ s = .int .i64 (k : Int) ∧ LI w w.heap.size q4 q5 x0 C x3 (.slice ad0 L cp0) g m cap (.slice (some ⟨gw, 0, none⟩) m cw) (xrB m b k) b wr) (fun s _ => m - (intOf s).toNat)
      case atStart => exact ⟨0, Nat.zero_le _, rfl, by rw [xrB_zero]; exact RZA.out⟩
      case round =>
        clear RZA
        obtain ⟨k, hk, rfl, hI⟩ := hrel
        by_cases hk5 : k < m
        · have kI : (k : Int) < (m : Int) := by omega
          have ck : wr.cell? ⟨g, k, none⟩ = some (.int .u8 (b k : Int)) := by
            rw [hI.2.2.2.2.1.cellAt k (by omega), bsL_get _ _ _ (by omega)]
            unfold xrB mkB; rw [if_neg (by omega), if_pos hk5]
          have fk := hI.2.2.2.2.1.frozenAt k
          obtain ⟨k3, e3⟩ : ∃ x : Nat, x = 3 + k := ⟨_, rfl⟩
          obtain ⟨k4, e4⟩ : ∃ x : Nat, x = k3 % 256 := ⟨_, rfl⟩
          obtain ⟨y, ey⟩ : ∃ x : Nat, x = b k ^^^ k4 := ⟨_, rfl⟩
          have hbk := HBB.out k
          have NX : Hid (LI w w.heap.size q4 q5 x0 C x3 (.slice ad0 L cp0) g m cap (.slice (some ⟨gw, 0, none⟩) m cw) (xrB m b (k + 1)) b (wr.setCell ⟨g, k, none⟩ (.int .u8 (y : Int)))) := by
            obtain ⟨y1, y2, y3, y4, y5, y6⟩ := hI
            have hst := (y5.stored k (.int .u8 (y : Int))).1
            rw [ey, e4, e3, xrB_set m (m + 75) k b (by omega)] at hst
            have hlt := (y5.lt g rfl).1
            have n1 := y2.row y5 (Or.inr (by decide))
            have n2 := y3.row y5 (Or.inr (by decide))
            have n3 := y4.row y5 (Or.inr (by decide))
            refine ⟨y1.setCell (by show w.heap.size ≤ g; exact hlt) _, y2.other _ _ (fun e => n1 (by rw [e]; rfl)), y3.other _ _ (fun e => n2 (by rw [e]; rfl)), y4.other _ _ (fun e => n3 (by rw [e]; rfl)), ?_, ownsRow_setCell_other y6 (fun e => GW (by simpa [Value.ownBlock] using e.symm)) _⟩
            rw [ey, e4, e3]; exact hst
          have s1 : (3 : Int) + (k : Int) = (k3 : Int) := by omega
          have w1' : IntKind.i64.wrap (k3 : Int) = (k3 : Int) := by rw [IntKind.wrap_i64]; omega
          have w2' : IntKind.u8.wrap (k3 : Int) = (k4 : Int) := by rw [IntKind.wrap_u8]; omega
          have xo : bits .xor .u8 (b k : Int) (k4 : Int) = (y : Int) := by rw [u8_xor_nat _ _ hbk (by omega), ey]
          generalize b k = bk at ck xo hbk
          clear hI ey e3 e4 hk hbk
          go_wp2
          go_roundw
          case rel => exact ⟨k + 1, by omega, by go_num, NX.out⟩
          case measure => simp [intOf]; omega
        · obtain rfl : k = m := by omega
          have kI : ¬ ((k : Int) < (k : Int)) := by omega
          have RM : Hid (LI w w.heap.size q4 q5 x0 C x3 (.slice ad0 L cp0) g k cap (.slice (some ⟨gw, 0, none⟩) k cw) (xrB k b k) b wr) := hI
          have SRC : Hid (∀ W, Below wr.heap.size wr W → ∀ j u, (bsL k (xrB k b k))[j]? = some u → W.cell? ((⟨g, 0, none⟩ : Addr).add j) = some u) := fun W hB j u hu => by
            obtain ⟨hj, rfl⟩ := bsL_at hu
            have hc := hI.2.2.2.2.1.cellAt j (by omega)
            rw [bsL_get _ _ _ (by omega)] at hc
            rw [Addr.add_mid, Nat.zero_add]
            exact (hB.cell (p := ⟨g, j, none⟩) (World.block_lt_of_cell? _ _ hc)).trans hc
          have oE : Hid ((wr.alloc (.cells #[] 5)).ownsRow wr.heap.size 5 1 (.slice (some ⟨wr.heap.size, 0, none⟩) 0 0) 0 []) := own_empty wr _ (Nat.le_refl _)
          have B0 : Hid (Below wr.heap.size wr (wr.alloc (.cells #[] 5))) := (Below.refl _ _).alloc (Nat.le_refl _) _
          clear hI hk hk5
          go_upto_region 22 with (at_builtin; refine wpList_append_own _ rfl _ _ 22 rfl wr.heap.size 5 i0 (.int .u8 0) 1 1 Tryd.underlying22 hi hz0 hz1 hz2 rfl (by decide) _ 0 [] rfl oE.out ⟨g, 0, none⟩ k cap (bsL k (xrB k b k)) rfl (by rw [bsL_len]; omega) (SRC.out _ B0.out) (bsL_one _ _) (by unfold maxLen; omega) (by omega) B0.out.size ?_; intro v' w6 hown' hgrow hnn; obtain ⟨gx, cx, rfl, ho4, hB4⟩ := own_some (W := w6) (w := wr) (n := wr.heap.size) (base := wr.heap.size) (m := k) (v := v') (xs := bsL k (xrB k b k)) (by simpa using hown') (fun e => by have h2 : Value.slice (some ⟨wr.heap.size, 0, none⟩) 0 0 = .slice none 0 0 := (hnn.1 e).1; cases h2) (B0.out.grown hgrow B0.out.size (fun k e => (by cases e; exact Nat.le_refl _))); (have X6 : Hid (LI w w.heap.size q4 q5 x0 C x3 (.slice ad0 L cp0) g k cap (.slice (some ⟨gw, 0, none⟩) k cw) (xrB k b k) b w6 ∧ w6.ownsRow wr.heap.size 5 1 (.slice (some ⟨gx, 0, none⟩) k cx) k (bsL k (xrB k b k))) := ⟨RM.out.past hB4, ho4⟩); (have c52 := X6.out.1.2.2.2.1.cell 2); (have f52 := X6.out.1.2.2.2.1.frozen 2); simp only [List.getElem?_cons_zero, List.getElem?_cons_succ] at c52; clear hown' hgrow hnn ho4 hB4)
          have RB0 : Hid (LI w w.heap.size q4 q5 x0 C x3 (.slice ad0 L cp0) g k cap (.slice (some ⟨gx, 0, none⟩) k cx) (xrB k b k) (xrB k b k) (w6.setCell ⟨q5, 2, none⟩ (.slice (some ⟨gx, 0, none⟩) k cx))) := by
            obtain ⟨⟨y2, y1, y4, y5, y3, _⟩, y6⟩ := X6.out
            have hs3 : w.heap.size ≤ wr.heap.size := RM.out.1.size
            refine ⟨y2.setCell (by show w.heap.size ≤ q5; omega) _, y1.other _ _ (by show w.heap.size ≠ q5; omega), y4.other _ _ (by show q4 ≠ q5; omega), y5.set 2 _, ?_, ?_⟩
            · exact ownsRow_setCell_other y3 (fun e => y5.row y3 (Or.inr (by decide)) e.symm) _
            · exact owns_lower (ownsRow_setCell_other y6 (fun e => y5.row y6 (Or.inr (by decide)) e.symm) _) hs3
          generalize w6.setCell ⟨q5, 2, none⟩ (.slice (some ⟨gx, 0, none⟩) k cx) = w7 at RB0 ⊢
          clear X6 RM c52 f52 SRC oE B0
          have c0 := RB0.out.2.2.1.cell 0
          have c1 := RB0.out.2.2.1.cell 1
          have c2 := RB0.out.2.2.1.cell 2
          have c3 := RB0.out.2.2.1.cell 3
          simp only [List.getElem?_cons_zero, List.getElem?_cons_succ] at c0 c1 c2 c3
          go_upto_region 23 with (go_at_call 33; refine (CLB.out _ _ _ RB0.out.1 RB0.out.2.2.2.2.1).mono ?_; rintro e aB1 ⟨la, lc, rfl, hl, hB⟩; (have RB1 : Hid (LI w w.heap.size q4 q5 x0 C x3 (.slice ad0 L cp0) g k cap (.slice (some ⟨gx, 0, none⟩) k cx) (xrB k b k) (xrB k b k) aB1) := RB0.out.past hB); (have LL : Hid (NB ≠ 0 → ∃ g, la = some ⟨g, 0, none⟩ ∧ ∀ j, j < NB → aB1.cell? ⟨g, j, none⟩ = some (.int .i64 (fB j))) := hl); clear hB hl)
          clear c0 c1 c2 c3 RB0
          have c0 := RB1.out.2.2.2.1.cell 0
          have c1 := RB1.out.2.2.2.1.cell 1
          have c2 := RB1.out.2.2.2.1.cell 2
          have c3 := RB1.out.2.2.2.1.cell 3
          simp only [List.getElem?_cons_zero, List.getElem?_cons_succ] at c0 c1 c2 c3
          go_upto_region 24 with (go_at_call 34; refine (RLB.out _ _ RB1.out.2.2.2.2.2).mono ?_; rintro e aB2 ⟨ma, mc, rfl, hl, hB⟩; (have RB2 : Hid (LI w w.heap.size q4 q5 x0 C x3 (.slice ad0 L cp0) g k cap (.slice (some ⟨gx, 0, none⟩) k cx) (xrB k b k) (xrB k b k) aB2) := RB1.out.past hB); (have LL2 : Hid (NB ≠ 0 → ∃ g, la = some ⟨g, 0, none⟩ ∧ ∀ j, j < NB → aB2.cell? ⟨g, j, none⟩ = some (.int .i64 (fB j))) := leads_past LL.out hB); (have MM : Hid (NB ≠ 0 → ∃ g, ma = some ⟨g, 0, none⟩ ∧ ∀ j, j < NB → aB2.cell? ⟨g, j, none⟩ = some (.int .i64 (fB j))) := hl); clear hB hl)
          clear c0 c1 c2 c3 RB1 LL
          have c0 := RB2.out.2.2.1.cell 0
          have c1 := RB2.out.2.2.1.cell 1
          have c2 := RB2.out.2.2.1.cell 2
          have c3 := RB2.out.2.2.1.cell 3
          simp only [List.getElem?_cons_zero, List.getElem?_cons_succ] at c0 c1 c2 c3
          go_upto_region 25 with (go_at_call 35; refine (CNB.out _ _ _ RB2.out.1 RB2.out.2.2.2.2.1).mono ?_; rintro e aB3 ⟨rfl, hB⟩; (have RB3 : Hid (LI w w.heap.size q4 q5 x0 C x3 (.slice ad0 L cp0) g k cap (.slice (some ⟨gx, 0, none⟩) k cx) (xrB k b k) (xrB k b k) aB3) := RB2.out.past hB); (have LL3 : Hid (NB ≠ 0 → ∃ g, la = some ⟨g, 0, none⟩ ∧ ∀ j, j < NB → aB3.cell? ⟨g, j, none⟩ = some (.int .i64 (fB j))) := leads_past LL2.out hB); (have MM3 : Hid (NB ≠ 0 → ∃ g, ma = some ⟨g, 0, none⟩ ∧ ∀ j, j < NB → aB3.cell? ⟨g, j, none⟩ = some (.int .i64 (fB j))) := leads_past MM.out hB); clear hB)
          clear c0 c1 c2 c3 RB2 LL2 MM
          have c0 := RB3.out.2.2.2.1.cell 0
          have c1 := RB3.out.2.2.2.1.cell 1
          have c2 := RB3.out.2.2.2.1.cell 2
          have c3 := RB3.out.2.2.2.1.cell 3
          simp only [List.getElem?_cons_zero, List.getElem?_cons_succ] at c0 c1 c2 c3
          go_upto_region 26 with (go_at_call 36; refine (RNB.out _ _ RB3.out.2.2.2.2.2).mono ?_; rintro e aB4 ⟨rfl, hB⟩; (have RB4 : Hid (LI w w.heap.size q4 q5 x0 C x3 (.slice ad0 L cp0) g k cap (.slice (some ⟨gx, 0, none⟩) k cx) (xrB k b k) (xrB k b k) aB4) := RB3.out.past hB); (have LL4 : Hid (NB ≠ 0 → ∃ g, la = some ⟨g, 0, none⟩ ∧ ∀ j, j < NB → aB4.cell? ⟨g, j, none⟩ = some (.int .i64 (fB j))) := leads_past LL3.out hB); (have MM4 : Hid (NB ≠ 0 → ∃ g, ma = some ⟨g, 0, none⟩ ∧ ∀ j, j < NB → aB4.cell? ⟨g, j, none⟩ = some (.int .i64 (fB j))) := leads_past MM3.out hB); clear hB)
          clear c0 c1 c2 c3 RB3 LL3 MM3
          go_upto_region 28 with fail
          have NIB : (NB : Int) ≤ 1000000 := by have := HNB.out; omega
          go_wp2
          go_loopw [14] (fun s wr => ∃ j : Nat, j ≤ NB ∧ s = .int .i64 (j : Int) ∧ Below aB4.heap.size aB4 wr) (fun s _ => NB - (intOf s).toNat)
          case atStart => exact ⟨0, Nat.zero_le _, rfl, Below.refl _ _⟩
          case round =>
            obtain ⟨j, hj, rfl, hB⟩ := hrel
            by_cases hj5 : j < NB
            · have jI : (j : Int) < (NB : Int) := by omega
              obtain ⟨lg, e1, hc1⟩ := LL4.out (by omega)
              obtain ⟨mg, e2, hc2⟩ := MM4.out (by omega)
              subst e1 e2
              have u1 := (hB.cell (p := ⟨lg, j, none⟩) (World.block_lt_of_cell? _ _ (hc1 j hj5))).trans (hc1 j hj5)
              have u2 := (hB.cell (p := ⟨mg, j, none⟩) (World.block_lt_of_cell? _ _ (hc2 j hj5))).trans (hc2 j hj5)
              generalize fB j = fj at u1 u2
              have HB : Hid (Below aB4.heap.size aB4 wr) := hB
              clear hc1 hc2 hB hj
              go_upto_region 31 with fail
              refine wp_region_held_drew (S := fun V' => Below aB4.heap.size aB4 V' ∧ V'.cell? ⟨lg, j, none⟩ = some (.int .i64 fj) ∧ V'.cell? ⟨mg, j, none⟩ = some (.int .i64 fj)) (by kernel_rfl) ⟨HB.out.drew, u1, u2⟩ (fun hHeld => ?_)
              generalize wr.drew = z0 at hHeld ⊢
              clear u1 u2 HB
              refine wpAnyH_take (i := 0) (v := .slice (some ⟨lg, 0, none⟩) NB lc) ov0 (by kernel_rfl) (by kernel_rfl) (by kernel_rfl) (fun _ _ _ h => h) (Or.inl ⟨by rfl, fun V' hS => ?_⟩) hHeld ?_
              · go_simp
              simp only [Act.put, List.setIfInBounds_toArray, List.set_cons_zero, List.set_cons_succ]
              refine wpAnyH_take (i := 1) (v := .int .i64 (j : Int)) ov1 (by kernel_rfl) (by kernel_rfl) (by kernel_rfl) (fun _ _ _ h => h) (Or.inl ⟨by rfl, fun V' hS => ?_⟩) hHeld ?_
              · go_simp
              simp only [Act.put, List.setIfInBounds_toArray, List.set_cons_zero, List.set_cons_succ]
              refine wpAnyH_take (i := 2) (v := .pointer (some ⟨lg, j, none⟩)) ov2 (by kernel_rfl) (by kernel_rfl) (by kernel_rfl) (fun _ _ _ h => h) (Or.inl ⟨by rfl, fun V' hS => ?_⟩) hHeld ?_
              · go_simp
              simp only [Act.put, List.setIfInBounds_toArray, List.set_cons_zero, List.set_cons_succ]
              refine wpAnyH_take (i := 3) (v := .int .i64 fj) ov3 (by kernel_rfl) (by kernel_rfl) (by kernel_rfl) (fun _ _ _ h => h) (Or.inl ⟨by rfl, fun V' hS => ?_⟩) hHeld ?_
              · have k1 := hS.2.1
                go_simp
              simp only [Act.put, List.setIfInBounds_toArray, List.set_cons_zero, List.set_cons_succ]
              refine wpAnyH_take (i := 4) (v := .slice (some ⟨mg, 0, none⟩) NB mc) ov4 (by kernel_rfl) (by kernel_rfl) (by kernel_rfl) (fun _ _ _ h => h) (Or.inl ⟨by rfl, fun V' hS => ?_⟩) hHeld ?_
              · go_simp
              simp only [Act.put, List.setIfInBounds_toArray, List.set_cons_zero, List.set_cons_succ]
              refine wpAnyH_take (i := 5) (v := .int .i64 (j : Int)) ov5 (by kernel_rfl) (by kernel_rfl) (by kernel_rfl) (fun _ _ _ h => h) (Or.inl ⟨by rfl, fun V' hS => ?_⟩) hHeld ?_
              · go_simp
              simp only [Act.put, List.setIfInBounds_toArray, List.set_cons_zero, List.set_cons_succ]
              refine wpAnyH_take (i := 6) (v := .pointer (some ⟨mg, j, none⟩)) ov6 (by kernel_rfl) (by kernel_rfl) (by kernel_rfl) (fun _ _ _ h => h) (Or.inl ⟨by rfl, fun V' hS => ?_⟩) hHeld ?_
              · go_simp
              simp only [Act.put, List.setIfInBounds_toArray, List.set_cons_zero, List.set_cons_succ]
              refine wpAnyH_take (i := 7) (v := .int .i64 fj) ov7 (by kernel_rfl) (by kernel_rfl) (by kernel_rfl) (fun _ _ _ h => h) (Or.inl ⟨by rfl, fun V' hS => ?_⟩) hHeld ?_
              · have k1 := hS.2.2
                go_simp
              simp only [Act.put, List.setIfInBounds_toArray, List.set_cons_zero, List.set_cons_succ]
              refine wpAnyH_take (i := 8) (v := .bool false) ov8 (by kernel_rfl) (by kernel_rfl) (by kernel_rfl) (fun _ _ _ h => h) (Or.inl ⟨by rfl, fun V' hS => ?_⟩) hHeld ?_
              · go_simp
              simp only [Act.put, List.setIfInBounds_toArray, List.set_cons_zero, List.set_cons_succ]
              refine wpAnyH_done (by kernel_rfl) ?_ _
              have HB : Hid (Below aB4.heap.size aB4 z0) := hHeld.1
              clear hHeld
              go_wp2
              go_roundw
              case rel => exact ⟨j + 1, by omega, by go_num, HB.out⟩
              case measure => simp [intOf]; omega
            · obtain rfl : j = NB := by omega
              have jI : ¬ ((j : Int) < (j : Int)) := by omega
              have RZB : Hid (LI w w.heap.size q4 q5 x0 C x3 (.slice ad0 L cp0) g k cap (.slice (some ⟨gx, 0, none⟩) k cx) (xrB k b k) (xrB k b k) wr) := RB4.out.past hB
              clear hB RB4 LL4 MM4 hj hj5
              have RF : Hid (Below w.heap.size w wr) := RZB.out.1
              clear RZB
              go_wp2_with (go_at_call 32; refine (HAW.out _ RF.out).mono ?_; rintro e w8 ⟨rfl, hB8⟩; (have R8 : Hid (Below w.heap.size w w8) := RF.out.trans (hB8.mono RF.out.size)); clear hB8 HAW)
              go_ret
              exact ⟨rfl, R8.out⟩
end Go.Proofs.YtbhldmfnhlifpaaDoor
