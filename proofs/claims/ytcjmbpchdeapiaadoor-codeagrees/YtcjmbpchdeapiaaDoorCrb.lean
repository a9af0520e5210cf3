/- The document's One. -/
import Derived.Test.YtcjmbpchdeapiaaDoorCra
import Derived.Test.YtcjmbpchdeapiaaDoorRvh
namespace Go.Proofs.YtcjmbpchdeapiaaDoor
open Go.RowKit
set_option maxHeartbeats 2000000 in
set_option maxRecDepth 100000 in
theorem part_is (w : World) (v : Value) (L lo n : Nat) (b : Nat → Nat) (hv : BytesOf w v L b) (hL : L ≤ 1000000) (hn : lo + n ≤ L) : Calls Tryd.prog 34 #[v, .int .i64 (lo : Int), .int .i64 ((lo + n : Nat) : Int)] w fun e w' => ∃ iv, e = .returned iv ∧ w'.ownsRow w.heap.size 5 1 iv n (bsL n (fun j => b (lo + j))) ∧ Below w.heap.size w w' := by
  obtain ⟨i0, hi, hz0, hz1, hz2⟩ := info_parts infoB8
  obtain ⟨ad, cp, rfl, hb, _, hc⟩ := hv
  have HC : Hid (∀ j, j < L → ∃ g o, ad = some ⟨g, o, none⟩ ∧ ∀ W, Below w.heap.size w W → W.cell? ⟨g, o + j, none⟩ = some (.int .u8 (b j : Int))) := fun j hj => by
    obtain ⟨g, o, e, hcc⟩ := hc (by omega)
    exact ⟨g, o, e, fun W hB => (hB.cell (p := ⟨g, o + j, none⟩) (World.block_lt_of_cell? w _ (hcc j (by omega)))).trans (hcc j (by omega))⟩
  have HB : Hid (∀ j, b j < 256) := hb
  obtain ⟨N, hN⟩ : ∃ N, N = lo + n := ⟨_, rfl⟩
  rw [← hN]
  have HNN : Hid (N = lo + n) := hN
  have nI : (N : Int) ≤ (L : Int) := by omega
  have lI : (L : Int) ≤ 1000000 := by omega
  clear hc hb hN
  go_enter Tryd.func34, Tryd.ntmps34
  go_wp2
  go_loopw [7, 8] (fun sv si wr => ∃ j : Nat, j ≤ n ∧ si = .int .i64 ((lo + j : Nat) : Int) ∧ wr.ownsRow w.heap.size 5 1 sv j (bsL j (fun j => b (lo + j))) ∧ Below w.heap.size w wr) (fun _ si _ => N - (intOf si).toNat)
  case atStart => exact ⟨0, by omega, rfl, World.ownsRow_nil _ _ _ _, Below.refl _ _⟩
  case round =>
    obtain ⟨j, hj, rfl, hR, hBr⟩ := hrel
    have HR : Hid (wr.ownsRow w.heap.size 5 1 u7 j (bsL j (fun j => b (lo + j))) ∧ Below w.heap.size w wr) := ⟨hR, hBr⟩
    by_cases hlt : j < n
    · obtain ⟨t, ht⟩ : ∃ t, t = lo + j := ⟨_, rfl⟩
      have HTT : Hid (t = lo + j) := ht
      have t1 : (t : Int) < (N : Int) := by have := HNN.out; omega
      have t2 : (t : Int) < (L : Int) := by omega
      obtain ⟨g, o, rfl, hcc⟩ := HC.out t (by omega)
      have cz := hcc wr hBr
      have bj := HB.out t
      have HSN : Hid (bsL j (fun j => b (lo + j)) ++ [.int .u8 (b t : Int)] = bsL (j + 1) (fun j => b (lo + j))) := by rw [ht]; exact bsL_snoc (fun j => b (lo + j)) j
      rw [← ht]
      clear hcc hR hBr ht
      generalize b t = c at cz HSN bj
      have cI : (c : Int) < 256 := by omega
      go_wp2_with (at_builtin; refine wpList_append_own _ rfl _ _ 22 rfl w.heap.size 5 i0 (.int .u8 0) 1 1 Tryd.underlying22 hi hz0 hz1 hz2 rfl (by decide) _ _ _ rfl (HR.out.1.alloc _) ⟨wr.heap.size, 0, none⟩ 1 1 [.int .u8 (c : Int)] rfl rfl (cells4_new wr _ [.int .u8 (c : Int)]) (fun u hu => (by rw [List.mem_singleton.1 hu]; rfl)) (by unfold maxLen; omega) (by omega) (by have := HR.out.2.size; simp; omega) ?_; intro v5 w5 hown5 hgrow5 _; (have R5 : Hid (w5.ownsRow w.heap.size 5 1 v5 (j + 1) (bsL (j + 1) (fun j => b (lo + j))) ∧ Below w.heap.size w w5) := ⟨(by rw [HSN.out] at hown5; exact hown5), Below.grown (HR.out.2.alloc HR.out.2.size _) hgrow5 (by have := HR.out.2.size; simp; omega) (fun q h => (HR.out.1.lt q h).1)⟩); clear hown5 hgrow5)
      go_roundw
      case rel => exact ⟨j + 1, by omega, by have := HTT.out; simp; omega, R5.out⟩
      case measure => have := HTT.out; simp [intOf]; omega
    · obtain rfl : j = n := by omega
      have e1 : ((lo + j : Nat) : Int) = (N : Int) := by have := HNN.out; omega
      rw [e1]
      obtain ⟨adv, cpv, rfl, hadv⟩ := own_slice hR
      clear hR hBr hadv e1
      go_wp2
      go_ret
      exact ⟨_, rfl, HR.out⟩
set_option maxHeartbeats 4000000 in
set_option maxRecDepth 100000 in
theorem rone_arg (w : World) (v : Value) (L : Nat) (b : Nat → Nat) (X : Int) (hv : BytesOf w v L b) (hX : X < 0 ∨ (L : Int) ≤ X) : Calls Tryd.prog 25 #[v, .int .i64 X] w fun e w' => e = .returned (.tuple #[insZ, .int .i64 1]) ∧ Below w.heap.size w w' := by
  obtain ⟨ad, cap, rfl, _⟩ := hv
  have I0 := InsF.new w
  have B0 : Hid (Below w.heap.size w (w.alloc (.cells #[.int .i64 0, .int .i64 0, .slice none 0 0, .int .i64 0] 40))) := (Below.refl _ w).alloc (Nat.le_refl _) _
  unfold insZ
  obtain ⟨⟨d0, d1, d2, d3⟩, f0, f1, f2, f3⟩ := I0
  by_cases h0 : X < 0
  · go_enter Tryd.func25, Tryd.ntmps25
    go_wp2
    refine ⟨rfl, _, (results_cell_tmp rfl _ _ _).trans ?_, rfl, ?_⟩
    · go_simp
    · repeat' (first | with_reducible exact B0.out | with_reducible refine Below.setCell ?_ ?_ _ | (simp; done) | (simp; omega))
  · have h1 : (L : Int) ≤ X := by omega
    go_enter Tryd.func25, Tryd.ntmps25
    go_wp2
    refine ⟨rfl, _, (results_cell_tmp rfl _ _ _).trans ?_, rfl, ?_⟩
    · go_simp
    · repeat' (first | with_reducible exact B0.out | with_reducible refine Below.setCell ?_ ?_ _ | (simp; done) | (simp; omega))
set_option maxHeartbeats 4000000 in
set_option maxRecDepth 100000 in
theorem rone_op (w : World) (v : Value) (L : Nat) (b : Nat → Nat) (A : Nat) (hv : BytesOf w v L b) (hL : L ≤ 1000000) (hA : A < L) (ho : isOp (b A) = false) : Calls Tryd.prog 25 #[v, .int .i64 (A : Int)] w fun e w' => e = .returned (.tuple #[insZ, .int .i64 60]) ∧ Below w.heap.size w w' := by
  obtain ⟨ad, cap, rfl, hb, _, hc⟩ := hv
  obtain ⟨g, o, rfl, hcc⟩ := hc (by omega)
  have k0 := hcc A hA
  have gl := World.block_lt_of_cell? w _ k0
  have hb0 := hb A
  generalize b A = c at k0 ho hb0
  have HO : Hid (∀ W : World, Calls Tryd.prog 26 #[.int .i64 (c : Int)] W fun e w' => e = .returned (.tuple #[.agg #[.int .i64 0, .string ⟨#[]⟩, .int .i64 0, .int .i64 0, .int .i64 0, .int .i64 0, .bool false], .bool false]) ∧ Below W.heap.size W w') := fun W => by have := rof_any (c : Int) W; rw [(ofZ c ho).1, (ofZ c ho).2] at this; exact this
  clear hcc hc hb
  have I0 : Hid (InsF (w.alloc (.cells #[.int .i64 0, .int .i64 0, .slice none 0 0, .int .i64 0] 40)) w.heap.size) := InsF.new w
  have B0 : Hid (Below w.heap.size w (w.alloc (.cells #[.int .i64 0, .int .i64 0, .slice none 0 0, .int .i64 0] 40))) := (Below.refl _ w).alloc (Nat.le_refl _) _
  have k1 : (w.alloc (.cells #[.int .i64 0, .int .i64 0, .slice none 0 0, .int .i64 0] 40)).cell? ⟨g, o + A, none⟩ = some (.int .u8 (c : Int)) := (B0.out.cell (p := ⟨g, o + A, none⟩) gl).trans k0
  unfold insZ
  have aI : (A : Int) < (L : Int) := by omega
  have lI : (L : Int) ≤ 1000000 := by omega
  have cI : (c : Int) < 256 := by omega
  go_enter Tryd.func25, Tryd.ntmps25
  go_upto_region 4 with (go_at_call 26; refine (HO.out _).mono ?_; rintro e w1 ⟨rfl, hB⟩; (have B1 : Hid (Below w.heap.size w w1) := B0.out.trans (hB.mono B0.out.size)); (have I1 : Hid (InsF w1 w.heap.size) := I0.out.past hB); clear hB k1 k0 I0 B0)
  have B2 : Hid (Below w.heap.size w (w1.alloc (.cells #[.int .i64 0, .string ⟨#[]⟩, .int .i64 0, .int .i64 0, .int .i64 0, .int .i64 0, .bool false] 56))) := B1.out.alloc B1.out.size _
  have I2 := I1.out.past ((Below.refl _ w1).alloc (Nat.le_refl _) (.cells #[.int .i64 0, .string ⟨#[]⟩, .int .i64 0, .int .i64 0, .int .i64 0, .int .i64 0, .bool false] 56))
  generalize w1.alloc (.cells #[.int .i64 0, .string ⟨#[]⟩, .int .i64 0, .int .i64 0, .int .i64 0, .int .i64 0, .bool false] 56) = w2 at B2 I2 ⊢
  obtain ⟨⟨d0, d1, d2, d3⟩, f0, f1, f2, f3⟩ := I2
  clear B1 I1
  go_wp2
  refine ⟨rfl, _, (results_cell_tmp rfl _ _ _).trans ?_, rfl, ?_⟩
  · go_simp
  · repeat' (first | with_reducible exact B2.out | with_reducible refine Below.setCell ?_ ?_ _ | (simp; done) | (simp; omega))
set_option maxHeartbeats 4000000 in
set_option maxRecDepth 100000 in
theorem rone_imm (w : World) (v : Value) (L : Nat) (b : Nat → Nat) (A : Nat) (hv : BytesOf w v L b) (hL : L ≤ 1000000) (hA : A < L) (ho : isOp (b A) = true) (hs : L < A + 1 + immN (immT (b A)) (b (A + 1))) : Calls Tryd.prog 25 #[v, .int .i64 (A : Int)] w fun e w' => e = .returned (.tuple #[insZ, .int .i64 61]) ∧ Below w.heap.size w w' := by
  have hc0 : b A < 256 := by obtain ⟨_, _, _, hb, _⟩ := hv; exact hb A
  have hri := of_decide_eq_true (imm_range ⟨b A, hc0⟩)
  obtain ⟨ad, cap, rfl, hb, _, hc⟩ := hv
  obtain ⟨g, o, rfl, hcc⟩ := hc (by omega)
  have k0 := hcc A hA
  have gl := World.block_lt_of_cell? w _ k0
  have HCC : Hid (∀ W : World, Below w.heap.size w W → ∀ j, j < L → W.cell? ⟨g, o + j, none⟩ = some (.int .u8 (b j : Int))) := fun W hB j hj => (hB.cell (p := ⟨g, o + j, none⟩) gl).trans (hcc j hj)
  have HBB : Hid (∀ j, b j < 256) := hb
  have HO : Hid (∀ W : World, Calls Tryd.prog 26 #[.int .i64 (b A : Int)] W fun e w' => e = .returned (.tuple #[opv (b A), .bool true]) ∧ Below W.heap.size W w') := fun W => by have := rof_any (b A : Int) W; rw [(ofB (b A) hc0 ho).1, (ofB (b A) hc0 ho).2] at this; exact this
  unfold opv at HO
  clear hcc hc hb
  have tB := HBB.out (A + 1)
  have HT : Hid (∀ W : World, Below w.heap.size w W → A + 1 < L → W.cell? ⟨g, o + (A + 1), none⟩ = some (.int .u8 (b (A + 1) : Int))) := fun W hB h => HCC.out W hB (A + 1) h
  generalize b (A + 1) = t at hs tB HT
  generalize b A = c at k0 ho hc0 hs HO hri
  generalize immT c = i1 at HO hs hri
  have HS : Hid (L < A + 1 + immN i1 t) := hs
  unfold insZ
  clear hs HCC HBB
  obtain ⟨B, hB⟩ : ∃ B, B = A + 1 := ⟨_, rfl⟩
  have eB : (A : Int) + 1 = (B : Int) := by omega
  have bI : (B : Int) ≤ 1000000 := by omega
  have tI : (t : Int) < 256 := by omega
  rw [← hB] at HT
  have HBE : Hid (B = A + 1) := hB
  clear hB
  generalize nameT c = s at HO
  generalize inT c = i2 at HO
  generalize outT c = i3 at HO
  generalize gasT c = i4 at HO
  generalize endsT c = b5 at HO
  have I0 : Hid (InsF (w.alloc (.cells #[.int .i64 0, .int .i64 0, .slice none 0 0, .int .i64 0] 40)) w.heap.size) := InsF.new w
  have B0 : Hid (Below w.heap.size w (w.alloc (.cells #[.int .i64 0, .int .i64 0, .slice none 0 0, .int .i64 0] 40))) := (Below.refl _ w).alloc (Nat.le_refl _) _
  have k1 : (w.alloc (.cells #[.int .i64 0, .int .i64 0, .slice none 0 0, .int .i64 0] 40)).cell? ⟨g, o + A, none⟩ = some (.int .u8 (c : Int)) := (B0.out.cell (p := ⟨g, o + A, none⟩) gl).trans k0
  have aI : (A : Int) < (L : Int) := by omega
  have lI : (L : Int) ≤ 1000000 := by omega
  have cI : (c : Int) < 256 := by omega
  go_enter Tryd.func25, Tryd.ntmps25
  go_upto_region 4 with (go_at_call 26; refine (HO.out _).mono ?_; rintro e w1 ⟨rfl, hB⟩; (have B1 : Hid (Below w.heap.size w w1) := B0.out.trans (hB.mono B0.out.size)); (have I1 : Hid (InsF w1 w.heap.size) := I0.out.past hB); clear hB k1 k0 I0 B0)
  have B2 : Hid (Below w.heap.size w (w1.alloc (.cells #[.int .i64 (c : Int), .string s, .int .i64 i1, .int .i64 i2, .int .i64 i3, .int .i64 i4, .bool b5] 56))) := B1.out.alloc B1.out.size _
  have I2 : Hid (InsF (w1.alloc (.cells #[.int .i64 (c : Int), .string s, .int .i64 i1, .int .i64 i2, .int .i64 i3, .int .i64 i4, .bool b5] 56)) w.heap.size) := I1.out.past ((Below.refl _ w1).alloc (Nat.le_refl _) _)
  have O2 : Hid (Op7 (w1.alloc (.cells #[.int .i64 (c : Int), .string s, .int .i64 i1, .int .i64 i2, .int .i64 i3, .int .i64 i4, .bool b5] 56)) w1.heap.size (c : Int) s i1 i2 i3 i4 b5) := Op7.new w1 _ s i1 i2 i3 i4 b5
  have qw : w.heap.size < w1.heap.size := I1.out.lt
  generalize w1.alloc (.cells #[.int .i64 (c : Int), .string s, .int .i64 i1, .int .i64 i2, .int .i64 i3, .int .i64 i4, .bool b5] 56) = w2 at B2 I2 O2 ⊢
  generalize w1.heap.size = q6 at O2 qw ⊢
  obtain ⟨o0, o1, o2, oR⟩ := O2.out
  clear B1 I1 HO oR
  obtain ⟨⟨d0, d1, d2, d3⟩, f0, f1, f2, f3⟩ := I2.out
  by_cases h1 : i1 = -1
  · subst h1
    by_cases h2 : L ≤ B
    · have h3 : (L : Int) ≤ (B : Int) := by omega
      clear h2
      go_wp2
      refine ⟨rfl, _, (results_cell_tmp rfl _ _ _).trans ?_, rfl, ?_⟩
      · go_simp
      · repeat' (first | with_reducible exact B2.out | with_reducible refine Below.setCell ?_ ?_ _ | (simp; done) | (simp; omega))
    · have h3 : (B : Int) < (L : Int) := by omega
      have ct := HT.out w2 B2.out (by omega)
      obtain ⟨T2, hT2⟩ : ∃ T2 : Nat, T2 = 2 * t := ⟨_, rfl⟩
      obtain ⟨n, hn⟩ : ∃ n : Nat, n = 3 + T2 := ⟨_, rfl⟩
      obtain ⟨N, hN2⟩ : ∃ N : Nat, N = B + n := ⟨_, rfl⟩
      have x1 : (2 : Int) * (t : Int) = (T2 : Int) := by omega
      have x2 : (3 : Int) + (T2 : Int) = (n : Int) := by omega
      have x3 : (B : Int) + (n : Int) = (N : Int) := by omega
      have x4 : (N : Int) ≤ 2000000 := by omega
      have x5 : (L : Int) < (N : Int) := by have := HS.out; have := HBE.out; unfold immN at *; rw [if_pos rfl] at *; omega
      have x6 : (n : Int) ≤ 1000 := by omega
      have x7 : ¬ (n : Int) = -1 := by omega
      clear h2 hT2 hn hN2
      go_wp2
      refine ⟨rfl, _, (results_cell_tmp rfl _ _ _).trans ?_, rfl, ?_⟩
      · go_simp
      · repeat' (first | with_reducible exact B2.out | with_reducible refine Below.setCell ?_ ?_ _ | (simp; done) | (simp; omega))
  · obtain ⟨n, rfl⟩ : ∃ n : Nat, i1 = (n : Int) := ⟨i1.toNat, by omega⟩
    obtain ⟨N, hN2⟩ : ∃ N : Nat, N = B + n := ⟨_, rfl⟩
    have x3 : (B : Int) + (n : Int) = (N : Int) := by omega
    have x4 : (N : Int) ≤ 2000000 := by omega
    have x5 : (L : Int) < (N : Int) := by have := HS.out; have := HBE.out; unfold immN at *; rw [if_neg h1] at *; omega
    have x6 : (n : Int) ≤ 1000 := by omega
    have x7 : ((n : Int) == -1) = false := by rw [beq_eq_false_iff_ne]; omega
    clear hN2 h1
    go_wp2
    refine ⟨rfl, _, (results_cell_tmp rfl _ _ _).trans ?_, rfl, ?_⟩
    · go_simp
    · repeat' (first | with_reducible exact B2.out | with_reducible refine Below.setCell ?_ ?_ _ | (simp; done) | (simp; omega))
set_option maxHeartbeats 4000000 in
set_option maxRecDepth 100000 in
theorem rone_ok (w : World) (v : Value) (L : Nat) (b : Nat → Nat) (A : Nat) (hv : BytesOf w v L b) (hL : L ≤ 1000000) (hok : okA b L A = true) : Calls Tryd.prog 25 #[v, .int .i64 (A : Int)] w fun e w' => ∃ iv, e = .returned (.tuple #[.agg #[.int .i64 (A : Int), .int .i64 (b A : Int), iv, .int .i64 (nxA b A : Int)], .int .i64 0]) ∧ w'.ownsRow w.heap.size 5 1 iv (immA b A) (bsL (immA b A) (fun j => b (A + 1 + j))) ∧ Below w.heap.size w w' := by
  obtain ⟨hA, ho, hs⟩ := okA_parts hok
  have HPT0 : Hid (∀ W : World, Below w.heap.size w W → Calls Tryd.prog 34 #[v, .int .i64 ((A + 1 : Nat) : Int), .int .i64 ((A + 1 + immA b A : Nat) : Int)] W fun e w' => ∃ iv, e = .returned iv ∧ w'.ownsRow W.heap.size 5 1 iv (immA b A) (bsL (immA b A) (fun j => b (A + 1 + j))) ∧ Below W.heap.size W w') := fun W hB => part_is W v L (A + 1) (immA b A) b (hv.below rfl hB) hL hs
  have hc0 : b A < 256 := by obtain ⟨_, _, _, hb, _⟩ := hv; exact hb A
  have hri := of_decide_eq_true (imm_range ⟨b A, hc0⟩)
  obtain ⟨ad, cap, rfl, hb, _, hc⟩ := hv
  obtain ⟨g, o, rfl, hcc⟩ := hc (by omega)
  have k0 := hcc A hA
  have gl := World.block_lt_of_cell? w _ k0
  have HCC : Hid (∀ W : World, Below w.heap.size w W → ∀ j, j < L → W.cell? ⟨g, o + j, none⟩ = some (.int .u8 (b j : Int))) := fun W hB j hj => (hB.cell (p := ⟨g, o + j, none⟩) gl).trans (hcc j hj)
  have HBB : Hid (∀ j, b j < 256) := hb
  have HO : Hid (∀ W : World, Calls Tryd.prog 26 #[.int .i64 (b A : Int)] W fun e w' => e = .returned (.tuple #[opv (b A), .bool true]) ∧ Below W.heap.size W w') := fun W => by have := rof_any (b A : Int) W; rw [(ofB (b A) hc0 ho).1, (ofB (b A) hc0 ho).2] at this; exact this
  unfold opv at HO
  clear hcc hc hb
  have HK0 : Hid (∀ W : World, Below w.heap.size w W → W.cell? ⟨g, o + A, none⟩ = some (.int .u8 (b A : Int))) := fun W hB => HCC.out W hB A hA
  have tB := HBB.out (A + 1)
  have HT : Hid (∀ W : World, Below w.heap.size w W → A + 1 < L → W.cell? ⟨g, o + (A + 1), none⟩ = some (.int .u8 (b (A + 1) : Int))) := fun W hB h => HCC.out W hB (A + 1) h
  have HS : Hid (immA b A = immN (immT (b A)) (b (A + 1))) := rfl
  generalize (fun j => b (A + 1 + j)) = bi at HPT0 ⊢
  obtain ⟨B, hB⟩ : ∃ B, B = A + 1 := ⟨_, rfl⟩
  obtain ⟨N, hN⟩ : ∃ N, N = nxA b A := ⟨_, rfl⟩
  have HNE : Hid (N = A + 1 + immA b A) := hN
  rw [← hN]
  rw [show A + 1 + immA b A = N from hN.symm, ← hB] at HPT0
  clear hN
  generalize immA b A = n at HS HPT0 HNE hs ⊢
  generalize b (A + 1) = t at tB HT HS
  generalize b A = c at k0 ho hc0 HO hri HS HK0 ⊢
  generalize immT c = i1 at HO hri HS
  have HPT : Hid (∀ W : World, Below w.heap.size w W → Calls Tryd.prog 34 #[.slice (some ⟨g, o, none⟩) L cap, .int .i64 (B : Int), .int .i64 (N : Int)] W fun e w' => ∃ iv, e = .returned iv ∧ w'.ownsRow W.heap.size 5 1 iv n (bsL n bi) ∧ Below W.heap.size W w') := HPT0
  have HK : Hid (∀ W : World, Below w.heap.size w W → W.cell? ⟨g, o + A, none⟩ = some (.int .u8 (c : Int))) := HK0
  clear HPT0 HK0
  have eB : (A : Int) + 1 = (B : Int) := by omega
  have bI : (B : Int) ≤ 1000000 := by omega
  have tI : (t : Int) < 256 := by omega
  have x3 : (B : Int) + (n : Int) = (N : Int) := by have := HNE.out; omega
  have x4 : (N : Int) ≤ (L : Int) := by have := HNE.out; omega
  have x6 : (n : Int) ≤ 1000000 := by omega
  have wB : IntKind.i64.wrap (B : Int) = (B : Int) := Go.IntWalk.i64_in _ (by omega)
  have wC : IntKind.i64.wrap (c : Int) = (c : Int) := Go.IntWalk.i64_in _ (by omega)
  have wN : IntKind.i64.wrap (N : Int) = (N : Int) := Go.IntWalk.i64_in _ (by omega)
  rw [← hB] at HT
  have HBE : Hid (B = A + 1) := hB
  clear hB hs HCC HBB hok
  generalize nameT c = s at HO
  generalize inT c = i2 at HO
  generalize outT c = i3 at HO
  generalize gasT c = i4 at HO
  generalize endsT c = b5 at HO
  have I0 : Hid (InsF (w.alloc (.cells #[.int .i64 0, .int .i64 0, .slice none 0 0, .int .i64 0] 40)) w.heap.size) := InsF.new w
  have B0 : Hid (Below w.heap.size w (w.alloc (.cells #[.int .i64 0, .int .i64 0, .slice none 0 0, .int .i64 0] 40))) := (Below.refl _ w).alloc (Nat.le_refl _) _
  have k1 : (w.alloc (.cells #[.int .i64 0, .int .i64 0, .slice none 0 0, .int .i64 0] 40)).cell? ⟨g, o + A, none⟩ = some (.int .u8 (c : Int)) := (B0.out.cell (p := ⟨g, o + A, none⟩) gl).trans k0
  have aI : (A : Int) < (L : Int) := by omega
  have lI : (L : Int) ≤ 1000000 := by omega
  have cI : (c : Int) < 256 := by omega
  go_enter Tryd.func25, Tryd.ntmps25
  go_upto_region 4 with (go_at_call 26; refine (HO.out _).mono ?_; rintro e w1 ⟨rfl, hB⟩; (have B1 : Hid (Below w.heap.size w w1) := B0.out.trans (hB.mono B0.out.size)); (have I1 : Hid (InsF w1 w.heap.size) := I0.out.past hB); clear hB k1 k0 I0 B0)
  have B2 : Hid (Below w.heap.size w (w1.alloc (.cells #[.int .i64 (c : Int), .string s, .int .i64 i1, .int .i64 i2, .int .i64 i3, .int .i64 i4, .bool b5] 56))) := B1.out.alloc B1.out.size _
  have I2 : Hid (InsF (w1.alloc (.cells #[.int .i64 (c : Int), .string s, .int .i64 i1, .int .i64 i2, .int .i64 i3, .int .i64 i4, .bool b5] 56)) w.heap.size) := I1.out.past ((Below.refl _ w1).alloc (Nat.le_refl _) _)
  have O2 : Hid (Op7 (w1.alloc (.cells #[.int .i64 (c : Int), .string s, .int .i64 i1, .int .i64 i2, .int .i64 i3, .int .i64 i4, .bool b5] 56)) w1.heap.size (c : Int) s i1 i2 i3 i4 b5) := Op7.new w1 _ s i1 i2 i3 i4 b5
  have qw : w.heap.size < w1.heap.size := I1.out.lt
  generalize w1.alloc (.cells #[.int .i64 (c : Int), .string s, .int .i64 i1, .int .i64 i2, .int .i64 i3, .int .i64 i4, .bool b5] 56) = w2 at B2 I2 O2 ⊢
  generalize w1.heap.size = q6 at O2 qw ⊢
  obtain ⟨o0, o1, o2, oR⟩ := O2.out
  clear B1 I1 HO oR
  obtain ⟨⟨d0, d1, d2, d3⟩, f0, f1, f2, f3⟩ := I2.out
  clear O2
  by_cases h1 : i1 = -1
  · subst h1
    have nE : n = 3 + 2 * t := by rw [HS.out]; unfold immN; rw [if_pos rfl]; omega
    have h3 : (B : Int) < (L : Int) := by omega
    have ct := HT.out w2 B2.out (by omega)
    obtain ⟨T2, hT2⟩ : ∃ T2 : Nat, T2 = 2 * t := ⟨_, rfl⟩
    have x1 : (2 : Int) * (t : Int) = (T2 : Int) := by omega
    have x2 : (3 : Int) + (T2 : Int) = (n : Int) := by omega
    clear hT2 nE
    go_upto_region 13 with fail
    clear ct
    refine wp_region_held_drew (S := fun V' => Below w.heap.size w V' ∧ InsA V' w.heap.size) (by kernel_rfl) ⟨B2.out.drew, I2.out.drew.any⟩ (fun hHeld => ?_)
    generalize w2.drew = z0 at hHeld ⊢
    clear B2 I2 d0 d1 d2 d3 f0 f1 f2 f3 o0 o1 o2
    refine wpAnyH_take (i := 0) (v := .int .i64 (A : Int)) op0 (by kernel_rfl) (by kernel_rfl) (by kernel_rfl) (fun _ _ _ h => h) (Or.inl ⟨by rfl, fun V' hS => ?_⟩) hHeld ?_
    · go_simp
    simp only [Act.put, List.setIfInBounds_toArray, List.set_cons_zero, List.set_cons_succ]
    refine wpAnyH_take (i := 1) (v := .slice (some ⟨g, o, none⟩) L cap) op1 (by kernel_rfl) (by kernel_rfl) (by kernel_rfl) (fun _ _ _ h => h) (Or.inl ⟨by rfl, fun V' hS => ?_⟩) hHeld ?_
    · go_simp
    simp only [Act.put, List.setIfInBounds_toArray, List.set_cons_zero, List.set_cons_succ]
    refine wpAnyH_take (i := 2) (v := .int .i64 (A : Int)) op2 (by kernel_rfl) (by kernel_rfl) (by kernel_rfl) (fun _ _ _ h => h) (Or.inl ⟨by rfl, fun V' hS => ?_⟩) hHeld ?_
    · go_simp
    simp only [Act.put, List.setIfInBounds_toArray, List.set_cons_zero, List.set_cons_succ]
    refine wpAnyH_take (i := 3) (v := .pointer (some ⟨g, o + A, none⟩)) op3 (by kernel_rfl) (by kernel_rfl) (by kernel_rfl) (fun _ _ _ h => h) (Or.inl ⟨by rfl, fun V' hS => ?_⟩) hHeld ?_
    · go_simp
    simp only [Act.put, List.setIfInBounds_toArray, List.set_cons_zero, List.set_cons_succ]
    refine wpAnyH_take (i := 4) (v := .int .u8 (c : Int)) op4 (by kernel_rfl) (by kernel_rfl) (by kernel_rfl) (fun _ _ _ h => h) (Or.inl ⟨by rfl, fun V' hS => ?_⟩) hHeld ?_
    · have h1 := HK.out V' hS.1
      go_simp
    simp only [Act.put, List.setIfInBounds_toArray, List.set_cons_zero, List.set_cons_succ]
    refine wpAnyH_take (i := 5) (v := .int .i64 (c : Int)) op5 (by kernel_rfl) (by kernel_rfl) (by kernel_rfl) (fun _ _ _ h => h) (Or.inl ⟨by rfl, fun V' hS => ?_⟩) hHeld ?_
    · go_simp
    simp only [Act.put, List.setIfInBounds_toArray, List.set_cons_zero, List.set_cons_succ]
    refine wpAnyH_take (i := 6) (v := .slice (some ⟨g, o, none⟩) L cap) op6 (by kernel_rfl) (by kernel_rfl) (by kernel_rfl) (fun _ _ _ h => h) (Or.inl ⟨by rfl, fun V' hS => ?_⟩) hHeld ?_
    · go_simp
    simp only [Act.put, List.setIfInBounds_toArray, List.set_cons_zero, List.set_cons_succ]
    refine wpAnyH_take (i := 7) (v := .int .i64 (A : Int)) op7 (by kernel_rfl) (by kernel_rfl) (by kernel_rfl) (fun _ _ _ h => h) (Or.inl ⟨by rfl, fun V' hS => ?_⟩) hHeld ?_
    · go_simp
    simp only [Act.put, List.setIfInBounds_toArray, List.set_cons_zero, List.set_cons_succ]
    refine wpAnyH_take (i := 8) (v := .int .i64 (B : Int)) op8 (by kernel_rfl) (by kernel_rfl) (by kernel_rfl) (fun _ _ _ h => h) (Or.inl ⟨by rfl, fun V' hS => ?_⟩) hHeld ?_
    · go_simp
    simp only [Act.put, List.setIfInBounds_toArray, List.set_cons_zero, List.set_cons_succ]
    refine wpAnyH_take (i := 9) (v := .int .i64 (A : Int)) op9 (by kernel_rfl) (by kernel_rfl) (by kernel_rfl) (fun _ _ _ h => h) (Or.inl ⟨by rfl, fun V' hS => ?_⟩) hHeld ?_
    · go_simp
    simp only [Act.put, List.setIfInBounds_toArray, List.set_cons_zero, List.set_cons_succ]
    refine wpAnyH_take (i := 10) (v := .int .i64 (B : Int)) op10 (by kernel_rfl) (by kernel_rfl) (by kernel_rfl) (fun _ _ _ h => h) (Or.inl ⟨by rfl, fun V' hS => ?_⟩) hHeld ?_
    · go_simp
    simp only [Act.put, List.setIfInBounds_toArray, List.set_cons_zero, List.set_cons_succ]
    refine wpAnyH_take (i := 11) (v := .int .i64 (n : Int)) op11 (by kernel_rfl) (by kernel_rfl) (by kernel_rfl) (fun _ _ _ h => h) (Or.inl ⟨by rfl, fun V' hS => ?_⟩) hHeld ?_
    · go_simp
    simp only [Act.put, List.setIfInBounds_toArray, List.set_cons_zero, List.set_cons_succ]
    refine wpAnyH_take (i := 12) (v := .int .i64 (N : Int)) op12 (by kernel_rfl) (by kernel_rfl) (by kernel_rfl) (fun _ _ _ h => h) (Or.inl ⟨by rfl, fun V' hS => ?_⟩) hHeld ?_
    · go_simp
    simp only [Act.put, List.setIfInBounds_toArray, List.set_cons_zero, List.set_cons_succ]
    refine wpAnyH_take (i := 14) (v := .int .i64 (A : Int)) op14 (by kernel_rfl) (by kernel_rfl) (by kernel_rfl) (fun _ _ _ h => h) (Or.inl ⟨by rfl, fun V' hS => ?_⟩) hHeld ?_
    · go_simp
    simp only [Act.put, List.setIfInBounds_toArray, List.set_cons_zero, List.set_cons_succ]
    refine wpAnyH_take (i := 15) (v := .int .i64 (B : Int)) op15 (by kernel_rfl) (by kernel_rfl) (by kernel_rfl) (fun _ _ _ h => h) (Or.inl ⟨by rfl, fun V' hS => ?_⟩) hHeld ?_
    · go_simp
    simp only [Act.put, List.setIfInBounds_toArray, List.set_cons_zero, List.set_cons_succ]
    refine wpAnyH_take (i := 16) (v := .int .i64 (n : Int)) op16 (by kernel_rfl) (by kernel_rfl) (by kernel_rfl) (fun _ _ _ h => h) (Or.inl ⟨by rfl, fun V' hS => ?_⟩) hHeld ?_
    · go_simp
    simp only [Act.put, List.setIfInBounds_toArray, List.set_cons_zero, List.set_cons_succ]
    refine wpAnyH_take (i := 17) (v := .int .i64 (N : Int)) op17 (by kernel_rfl) (by kernel_rfl) (by kernel_rfl) (fun _ _ _ h => h) (Or.inl ⟨by rfl, fun V' hS => ?_⟩) hHeld ?_
    · go_simp
    simp only [Act.put, List.setIfInBounds_toArray, List.set_cons_zero, List.set_cons_succ]
    refine wpAnyH_ready (rs := [13]) (by kernel_rfl) (by simp) ?_
    refine AllReadyH.cons op13 (fun K hK => ?_) AllReadyH.nil
    rw [if_pos (by rfl)]
    go_simp
    refine (HPT.out z0 hHeld.1).mono ?_
    rintro e z1 ⟨iv, rfl, ho, hB⟩
    have hF : Below w.heap.size w z1 ∧ InsA z1 w.heap.size := ⟨hHeld.1.trans (hB.mono hHeld.1.size), hHeld.2.past hB⟩
    have OW : Hid (z1.ownsRow (w.heap.size + 1) 5 1 iv n (bsL n bi)) := owns_lower ho hHeld.2.lt
    clear hB ho hHeld HPT
    obtain ⟨ia, ic, rfl, hia⟩ := own_slice OW.out
    clear hia
    (try go_wp2_with fail)
    refine hK.out _ _ hF (fun _ => ?_)
    clear hK K
    (try simp only [Act.put, List.setIfInBounds_toArray, List.set_cons_zero, List.set_cons_succ])
    refine wpAnyH_take (i := 18) (v := .agg #[.int .i64 (A : Int), .int .i64 (c : Int), .slice ia n ic, .int .i64 (N : Int)]) op18 (by kernel_rfl) (by kernel_rfl) (by kernel_rfl) (fun _ _ _ h => h) (Or.inl ⟨by rfl, fun V' hS => ?_⟩) hF ?_
    · go_simp
    simp only [Act.put, List.setIfInBounds_toArray, List.set_cons_zero, List.set_cons_succ]
    refine wpAnyH_ready (rs := [19]) (by kernel_rfl) (by simp) ?_
    refine AllReadyH.cons op19 (fun K hK => ?_) AllReadyH.nil
    rw [if_pos (by rfl)]
    obtain ⟨x0, x1, x2, x3, ⟨d0, d1, d2, d3⟩, f0, f1, f2, f3⟩ := hF.2
    have ql := hF.2.lt
    have E5 : Hid (((((z1.setCell ⟨w.heap.size, 0, none⟩ (.int .i64 (A : Int))).setCell ⟨w.heap.size, 1, none⟩ (.int .i64 (c : Int))).setCell ⟨w.heap.size, 2, none⟩ (.slice ia n ic)).setCell ⟨w.heap.size, 3, none⟩ (.int .i64 (N : Int))).cell? ⟨w.heap.size, 0, none⟩ = some (.int .i64 (A : Int)) ∧ ((((z1.setCell ⟨w.heap.size, 0, none⟩ (.int .i64 (A : Int))).setCell ⟨w.heap.size, 1, none⟩ (.int .i64 (c : Int))).setCell ⟨w.heap.size, 2, none⟩ (.slice ia n ic)).setCell ⟨w.heap.size, 3, none⟩ (.int .i64 (N : Int))).cell? ⟨w.heap.size, 1, none⟩ = some (.int .i64 (c : Int)) ∧ ((((z1.setCell ⟨w.heap.size, 0, none⟩ (.int .i64 (A : Int))).setCell ⟨w.heap.size, 1, none⟩ (.int .i64 (c : Int))).setCell ⟨w.heap.size, 2, none⟩ (.slice ia n ic)).setCell ⟨w.heap.size, 3, none⟩ (.int .i64 (N : Int))).cell? ⟨w.heap.size, 2, none⟩ = some (.slice ia n ic) ∧ ((((z1.setCell ⟨w.heap.size, 0, none⟩ (.int .i64 (A : Int))).setCell ⟨w.heap.size, 1, none⟩ (.int .i64 (c : Int))).setCell ⟨w.heap.size, 2, none⟩ (.slice ia n ic)).setCell ⟨w.heap.size, 3, none⟩ (.int .i64 (N : Int))).cell? ⟨w.heap.size, 3, none⟩ = some (.int .i64 (N : Int))) := by refine ⟨?_, ?_, ?_, ?_⟩ <;> go_simp
    have G5 : Hid (((((z1.setCell ⟨w.heap.size, 0, none⟩ (.int .i64 (A : Int))).setCell ⟨w.heap.size, 1, none⟩ (.int .i64 (c : Int))).setCell ⟨w.heap.size, 2, none⟩ (.slice ia n ic)).setCell ⟨w.heap.size, 3, none⟩ (.int .i64 (N : Int))).frozen? ⟨w.heap.size, 0, none⟩ = false ∧ ((((z1.setCell ⟨w.heap.size, 0, none⟩ (.int .i64 (A : Int))).setCell ⟨w.heap.size, 1, none⟩ (.int .i64 (c : Int))).setCell ⟨w.heap.size, 2, none⟩ (.slice ia n ic)).setCell ⟨w.heap.size, 3, none⟩ (.int .i64 (N : Int))).frozen? ⟨w.heap.size, 1, none⟩ = false ∧ ((((z1.setCell ⟨w.heap.size, 0, none⟩ (.int .i64 (A : Int))).setCell ⟨w.heap.size, 1, none⟩ (.int .i64 (c : Int))).setCell ⟨w.heap.size, 2, none⟩ (.slice ia n ic)).setCell ⟨w.heap.size, 3, none⟩ (.int .i64 (N : Int))).frozen? ⟨w.heap.size, 2, none⟩ = false ∧ ((((z1.setCell ⟨w.heap.size, 0, none⟩ (.int .i64 (A : Int))).setCell ⟨w.heap.size, 1, none⟩ (.int .i64 (c : Int))).setCell ⟨w.heap.size, 2, none⟩ (.slice ia n ic)).setCell ⟨w.heap.size, 3, none⟩ (.int .i64 (N : Int))).frozen? ⟨w.heap.size, 3, none⟩ = false) := by refine ⟨?_, ?_, ?_, ?_⟩ <;> go_simp
    have F5 : Below w.heap.size w ((((z1.setCell ⟨w.heap.size, 0, none⟩ (.int .i64 (A : Int))).setCell ⟨w.heap.size, 1, none⟩ (.int .i64 (c : Int))).setCell ⟨w.heap.size, 2, none⟩ (.slice ia n ic)).setCell ⟨w.heap.size, 3, none⟩ (.int .i64 (N : Int))) := by repeat' (first | with_reducible exact hF.1 | with_reducible refine Below.setCell ?_ ?_ _ | (simp; done) | (simp; omega))
    have rs : ∀ (u : Value) (V : World) (j : Nat), V.ownsRow (w.heap.size + 1) 5 1 (.slice ia n ic) n (bsL n bi) → (V.setCell ⟨w.heap.size, j, none⟩ u).ownsRow (w.heap.size + 1) 5 1 (.slice ia n ic) n (bsL n bi) := fun u V j hb => ⟨hb.1, hb.2.imp id fun ⟨g, c, cur, e1, e2, e3, e4⟩ => ⟨g, c, cur, e1, e2, (Below.heap_setCell V ⟨w.heap.size, j, none⟩ u g (by dsimp only; omega)).trans e3, e4⟩⟩
    have W5 : Hid (((((z1.setCell ⟨w.heap.size, 0, none⟩ (.int .i64 (A : Int))).setCell ⟨w.heap.size, 1, none⟩ (.int .i64 (c : Int))).setCell ⟨w.heap.size, 2, none⟩ (.slice ia n ic)).setCell ⟨w.heap.size, 3, none⟩ (.int .i64 (N : Int))).ownsRow (w.heap.size + 1) 5 1 (.slice ia n ic) n (bsL n bi)) := rs _ _ _ (rs _ _ _ (rs _ _ _ (rs _ _ _ OW.out)))
    clear rs
    go_simp
    generalize (((z1.setCell ⟨w.heap.size, 0, none⟩ (.int .i64 (A : Int))).setCell ⟨w.heap.size, 1, none⟩ (.int .i64 (c : Int))).setCell ⟨w.heap.size, 2, none⟩ (.slice ia n ic)).setCell ⟨w.heap.size, 3, none⟩ (.int .i64 (N : Int)) = z2 at E5 G5 F5 W5 ⊢
    have hF2 : Below w.heap.size w z2 ∧ InsA z2 w.heap.size := ⟨F5, _, _, _, _, E5.out, G5.out⟩
    clear d0 d1 d2 d3 f0 f1 f2 f3 hF OW
    refine hK.out _ _ hF2 (fun _ => ?_)
    clear hK K
    (try simp only [Act.put, List.setIfInBounds_toArray, List.set_cons_zero, List.set_cons_succ])
    refine wpAnyH_take (i := 20) (v := .int .i64 0) op20 (by kernel_rfl) (by kernel_rfl) (by kernel_rfl) (fun _ _ _ h => h) (Or.inl ⟨by rfl, fun V' hS => ?_⟩) hF2 ?_
    · go_simp
    simp only [Act.put, List.setIfInBounds_toArray, List.set_cons_zero, List.set_cons_succ]
    refine wpAnyH_done (by kernel_rfl) ?_ _
    obtain ⟨d0, d1, d2, d3⟩ := E5.out
    go_wp2
    refine ⟨rfl, _, (results_cell_tmp rfl _ _ _).trans ?_, .slice ia n ic, rfl, owns_lower W5.out (Nat.le_succ _), F5⟩
    go_simp
  · obtain rfl : i1 = (n : Int) := by rw [HS.out]; unfold immN; rw [if_neg h1]; omega
    have x7 : ((n : Int) == -1) = false := by rw [beq_eq_false_iff_ne]; omega
    clear h1
    go_upto_region 13 with fail
    refine wp_region_held_drew (S := fun V' => Below w.heap.size w V' ∧ InsA V' w.heap.size) (by kernel_rfl) ⟨B2.out.drew, I2.out.drew.any⟩ (fun hHeld => ?_)
    generalize w2.drew = z0 at hHeld ⊢
    clear B2 I2 d0 d1 d2 d3 f0 f1 f2 f3 o0 o1 o2
    refine wpAnyH_take (i := 0) (v := .int .i64 (A : Int)) op0 (by kernel_rfl) (by kernel_rfl) (by kernel_rfl) (fun _ _ _ h => h) (Or.inl ⟨by rfl, fun V' hS => ?_⟩) hHeld ?_
    · go_simp
    simp only [Act.put, List.setIfInBounds_toArray, List.set_cons_zero, List.set_cons_succ]
    refine wpAnyH_take (i := 1) (v := .slice (some ⟨g, o, none⟩) L cap) op1 (by kernel_rfl) (by kernel_rfl) (by kernel_rfl) (fun _ _ _ h => h) (Or.inl ⟨by rfl, fun V' hS => ?_⟩) hHeld ?_
    · go_simp
    simp only [Act.put, List.setIfInBounds_toArray, List.set_cons_zero, List.set_cons_succ]
    refine wpAnyH_take (i := 2) (v := .int .i64 (A : Int)) op2 (by kernel_rfl) (by kernel_rfl) (by kernel_rfl) (fun _ _ _ h => h) (Or.inl ⟨by rfl, fun V' hS => ?_⟩) hHeld ?_
    · go_simp
    simp only [Act.put, List.setIfInBounds_toArray, List.set_cons_zero, List.set_cons_succ]
    refine wpAnyH_take (i := 3) (v := .pointer (some ⟨g, o + A, none⟩)) op3 (by kernel_rfl) (by kernel_rfl) (by kernel_rfl) (fun _ _ _ h => h) (Or.inl ⟨by rfl, fun V' hS => ?_⟩) hHeld ?_
    · go_simp
    simp only [Act.put, List.setIfInBounds_toArray, List.set_cons_zero, List.set_cons_succ]
    refine wpAnyH_take (i := 4) (v := .int .u8 (c : Int)) op4 (by kernel_rfl) (by kernel_rfl) (by kernel_rfl) (fun _ _ _ h => h) (Or.inl ⟨by rfl, fun V' hS => ?_⟩) hHeld ?_
    · have h1 := HK.out V' hS.1
      go_simp
    simp only [Act.put, List.setIfInBounds_toArray, List.set_cons_zero, List.set_cons_succ]
    refine wpAnyH_take (i := 5) (v := .int .i64 (c : Int)) op5 (by kernel_rfl) (by kernel_rfl) (by kernel_rfl) (fun _ _ _ h => h) (Or.inl ⟨by rfl, fun V' hS => ?_⟩) hHeld ?_
    · go_simp
    simp only [Act.put, List.setIfInBounds_toArray, List.set_cons_zero, List.set_cons_succ]
    refine wpAnyH_take (i := 6) (v := .slice (some ⟨g, o, none⟩) L cap) op6 (by kernel_rfl) (by kernel_rfl) (by kernel_rfl) (fun _ _ _ h => h) (Or.inl ⟨by rfl, fun V' hS => ?_⟩) hHeld ?_
    · go_simp
    simp only [Act.put, List.setIfInBounds_toArray, List.set_cons_zero, List.set_cons_succ]
    refine wpAnyH_take (i := 7) (v := .int .i64 (A : Int)) op7 (by kernel_rfl) (by kernel_rfl) (by kernel_rfl) (fun _ _ _ h => h) (Or.inl ⟨by rfl, fun V' hS => ?_⟩) hHeld ?_
    · go_simp
    simp only [Act.put, List.setIfInBounds_toArray, List.set_cons_zero, List.set_cons_succ]
    refine wpAnyH_take (i := 8) (v := .int .i64 (B : Int)) op8 (by kernel_rfl) (by kernel_rfl) (by kernel_rfl) (fun _ _ _ h => h) (Or.inl ⟨by rfl, fun V' hS => ?_⟩) hHeld ?_
    · go_simp
    simp only [Act.put, List.setIfInBounds_toArray, List.set_cons_zero, List.set_cons_succ]
    refine wpAnyH_take (i := 9) (v := .int .i64 (A : Int)) op9 (by kernel_rfl) (by kernel_rfl) (by kernel_rfl) (fun _ _ _ h => h) (Or.inl ⟨by rfl, fun V' hS => ?_⟩) hHeld ?_
    · go_simp
    simp only [Act.put, List.setIfInBounds_toArray, List.set_cons_zero, List.set_cons_succ]
    refine wpAnyH_take (i := 10) (v := .int .i64 (B : Int)) op10 (by kernel_rfl) (by kernel_rfl) (by kernel_rfl) (fun _ _ _ h => h) (Or.inl ⟨by rfl, fun V' hS => ?_⟩) hHeld ?_
    · go_simp
    simp only [Act.put, List.setIfInBounds_toArray, List.set_cons_zero, List.set_cons_succ]
    refine wpAnyH_take (i := 11) (v := .int .i64 (n : Int)) op11 (by kernel_rfl) (by kernel_rfl) (by kernel_rfl) (fun _ _ _ h => h) (Or.inl ⟨by rfl, fun V' hS => ?_⟩) hHeld ?_
    · go_simp
    simp only [Act.put, List.setIfInBounds_toArray, List.set_cons_zero, List.set_cons_succ]
    refine wpAnyH_take (i := 12) (v := .int .i64 (N : Int)) op12 (by kernel_rfl) (by kernel_rfl) (by kernel_rfl) (fun _ _ _ h => h) (Or.inl ⟨by rfl, fun V' hS => ?_⟩) hHeld ?_
    · go_simp
    simp only [Act.put, List.setIfInBounds_toArray, List.set_cons_zero, List.set_cons_succ]
    refine wpAnyH_take (i := 14) (v := .int .i64 (A : Int)) op14 (by kernel_rfl) (by kernel_rfl) (by kernel_rfl) (fun _ _ _ h => h) (Or.inl ⟨by rfl, fun V' hS => ?_⟩) hHeld ?_
    · go_simp
    simp only [Act.put, List.setIfInBounds_toArray, List.set_cons_zero, List.set_cons_succ]
    refine wpAnyH_take (i := 15) (v := .int .i64 (B : Int)) op15 (by kernel_rfl) (by kernel_rfl) (by kernel_rfl) (fun _ _ _ h => h) (Or.inl ⟨by rfl, fun V' hS => ?_⟩) hHeld ?_
    · go_simp
    simp only [Act.put, List.setIfInBounds_toArray, List.set_cons_zero, List.set_cons_succ]
    refine wpAnyH_take (i := 16) (v := .int .i64 (n : Int)) op16 (by kernel_rfl) (by kernel_rfl) (by kernel_rfl) (fun _ _ _ h => h) (Or.inl ⟨by rfl, fun V' hS => ?_⟩) hHeld ?_
    · go_simp
    simp only [Act.put, List.setIfInBounds_toArray, List.set_cons_zero, List.set_cons_succ]
    refine wpAnyH_take (i := 17) (v := .int .i64 (N : Int)) op17 (by kernel_rfl) (by kernel_rfl) (by kernel_rfl) (fun _ _ _ h => h) (Or.inl ⟨by rfl, fun V' hS => ?_⟩) hHeld ?_
    · go_simp
    simp only [Act.put, List.setIfInBounds_toArray, List.set_cons_zero, List.set_cons_succ]
    refine wpAnyH_ready (rs := [13]) (by kernel_rfl) (by simp) ?_
    refine AllReadyH.cons op13 (fun K hK => ?_) AllReadyH.nil
    rw [if_pos (by rfl)]
    go_simp
    refine (HPT.out z0 hHeld.1).mono ?_
    rintro e z1 ⟨iv, rfl, ho, hB⟩
    have hF : Below w.heap.size w z1 ∧ InsA z1 w.heap.size := ⟨hHeld.1.trans (hB.mono hHeld.1.size), hHeld.2.past hB⟩
    have OW : Hid (z1.ownsRow (w.heap.size + 1) 5 1 iv n (bsL n bi)) := owns_lower ho hHeld.2.lt
    clear hB ho hHeld HPT
    obtain ⟨ia, ic, rfl, hia⟩ := own_slice OW.out
    clear hia
    (try go_wp2_with fail)
    refine hK.out _ _ hF (fun _ => ?_)
    clear hK K
    (try simp only [Act.put, List.setIfInBounds_toArray, List.set_cons_zero, List.set_cons_succ])
    refine wpAnyH_take (i := 18) (v := .agg #[.int .i64 (A : Int), .int .i64 (c : Int), .slice ia n ic, .int .i64 (N : Int)]) op18 (by kernel_rfl) (by kernel_rfl) (by kernel_rfl) (fun _ _ _ h => h) (Or.inl ⟨by rfl, fun V' hS => ?_⟩) hF ?_
    · go_simp
    simp only [Act.put, List.setIfInBounds_toArray, List.set_cons_zero, List.set_cons_succ]
    refine wpAnyH_ready (rs := [19]) (by kernel_rfl) (by simp) ?_
    refine AllReadyH.cons op19 (fun K hK => ?_) AllReadyH.nil
    rw [if_pos (by rfl)]
    obtain ⟨x0, x1, x2, x3, ⟨d0, d1, d2, d3⟩, f0, f1, f2, f3⟩ := hF.2
    have ql := hF.2.lt
    have E5 : Hid (((((z1.setCell ⟨w.heap.size, 0, none⟩ (.int .i64 (A : Int))).setCell ⟨w.heap.size, 1, none⟩ (.int .i64 (c : Int))).setCell ⟨w.heap.size, 2, none⟩ (.slice ia n ic)).setCell ⟨w.heap.size, 3, none⟩ (.int .i64 (N : Int))).cell? ⟨w.heap.size, 0, none⟩ = some (.int .i64 (A : Int)) ∧ ((((z1.setCell ⟨w.heap.size, 0, none⟩ (.int .i64 (A : Int))).setCell ⟨w.heap.size, 1, none⟩ (.int .i64 (c : Int))).setCell ⟨w.heap.size, 2, none⟩ (.slice ia n ic)).setCell ⟨w.heap.size, 3, none⟩ (.int .i64 (N : Int))).cell? ⟨w.heap.size, 1, none⟩ = some (.int .i64 (c : Int)) ∧ ((((z1.setCell ⟨w.heap.size, 0, none⟩ (.int .i64 (A : Int))).setCell ⟨w.heap.size, 1, none⟩ (.int .i64 (c : Int))).setCell ⟨w.heap.size, 2, none⟩ (.slice ia n ic)).setCell ⟨w.heap.size, 3, none⟩ (.int .i64 (N : Int))).cell? ⟨w.heap.size, 2, none⟩ = some (.slice ia n ic) ∧ ((((z1.setCell ⟨w.heap.size, 0, none⟩ (.int .i64 (A : Int))).setCell ⟨w.heap.size, 1, none⟩ (.int .i64 (c : Int))).setCell ⟨w.heap.size, 2, none⟩ (.slice ia n ic)).setCell ⟨w.heap.size, 3, none⟩ (.int .i64 (N : Int))).cell? ⟨w.heap.size, 3, none⟩ = some (.int .i64 (N : Int))) := by refine ⟨?_, ?_, ?_, ?_⟩ <;> go_simp
    have G5 : Hid (((((z1.setCell ⟨w.heap.size, 0, none⟩ (.int .i64 (A : Int))).setCell ⟨w.heap.size, 1, none⟩ (.int .i64 (c : Int))).setCell ⟨w.heap.size, 2, none⟩ (.slice ia n ic)).setCell ⟨w.heap.size, 3, none⟩ (.int .i64 (N : Int))).frozen? ⟨w.heap.size, 0, none⟩ = false ∧ ((((z1.setCell ⟨w.heap.size, 0, none⟩ (.int .i64 (A : Int))).setCell ⟨w.heap.size, 1, none⟩ (.int .i64 (c : Int))).setCell ⟨w.heap.size, 2, none⟩ (.slice ia n ic)).setCell ⟨w.heap.size, 3, none⟩ (.int .i64 (N : Int))).frozen? ⟨w.heap.size, 1, none⟩ = false ∧ ((((z1.setCell ⟨w.heap.size, 0, none⟩ (.int .i64 (A : Int))).setCell ⟨w.heap.size, 1, none⟩ (.int .i64 (c : Int))).setCell ⟨w.heap.size, 2, none⟩ (.slice ia n ic)).setCell ⟨w.heap.size, 3, none⟩ (.int .i64 (N : Int))).frozen? ⟨w.heap.size, 2, none⟩ = false ∧ ((((z1.setCell ⟨w.heap.size, 0, none⟩ (.int .i64 (A : Int))).setCell ⟨w.heap.size, 1, none⟩ (.int .i64 (c : Int))).setCell ⟨w.heap.size, 2, none⟩ (.slice ia n ic)).setCell ⟨w.heap.size, 3, none⟩ (.int .i64 (N : Int))).frozen? ⟨w.heap.size, 3, none⟩ = false) := by refine ⟨?_, ?_, ?_, ?_⟩ <;> go_simp
    have F5 : Below w.heap.size w ((((z1.setCell ⟨w.heap.size, 0, none⟩ (.int .i64 (A : Int))).setCell ⟨w.heap.size, 1, none⟩ (.int .i64 (c : Int))).setCell ⟨w.heap.size, 2, none⟩ (.slice ia n ic)).setCell ⟨w.heap.size, 3, none⟩ (.int .i64 (N : Int))) := by repeat' (first | with_reducible exact hF.1 | with_reducible refine Below.setCell ?_ ?_ _ | (simp; done) | (simp; omega))
    have rs : ∀ (u : Value) (V : World) (j : Nat), V.ownsRow (w.heap.size + 1) 5 1 (.slice ia n ic) n (bsL n bi) → (V.setCell ⟨w.heap.size, j, none⟩ u).ownsRow (w.heap.size + 1) 5 1 (.slice ia n ic) n (bsL n bi) := fun u V j hb => ⟨hb.1, hb.2.imp id fun ⟨g, c, cur, e1, e2, e3, e4⟩ => ⟨g, c, cur, e1, e2, (Below.heap_setCell V ⟨w.heap.size, j, none⟩ u g (by dsimp only; omega)).trans e3, e4⟩⟩
    have W5 : Hid (((((z1.setCell ⟨w.heap.size, 0, none⟩ (.int .i64 (A : Int))).setCell ⟨w.heap.size, 1, none⟩ (.int .i64 (c : Int))).setCell ⟨w.heap.size, 2, none⟩ (.slice ia n ic)).setCell ⟨w.heap.size, 3, none⟩ (.int .i64 (N : Int))).ownsRow (w.heap.size + 1) 5 1 (.slice ia n ic) n (bsL n bi)) := rs _ _ _ (rs _ _ _ (rs _ _ _ (rs _ _ _ OW.out)))
    clear rs
    go_simp
    generalize (((z1.setCell ⟨w.heap.size, 0, none⟩ (.int .i64 (A : Int))).setCell ⟨w.heap.size, 1, none⟩ (.int .i64 (c : Int))).setCell ⟨w.heap.size, 2, none⟩ (.slice ia n ic)).setCell ⟨w.heap.size, 3, none⟩ (.int .i64 (N : Int)) = z2 at E5 G5 F5 W5 ⊢
    have hF2 : Below w.heap.size w z2 ∧ InsA z2 w.heap.size := ⟨F5, _, _, _, _, E5.out, G5.out⟩
    clear d0 d1 d2 d3 f0 f1 f2 f3 hF OW
    refine hK.out _ _ hF2 (fun _ => ?_)
    clear hK K
    (try simp only [Act.put, List.setIfInBounds_toArray, List.set_cons_zero, List.set_cons_succ])
    refine wpAnyH_take (i := 20) (v := .int .i64 0) op20 (by kernel_rfl) (by kernel_rfl) (by kernel_rfl) (fun _ _ _ h => h) (Or.inl ⟨by rfl, fun V' hS => ?_⟩) hF2 ?_
    · go_simp
    simp only [Act.put, List.setIfInBounds_toArray, List.set_cons_zero, List.set_cons_succ]
    refine wpAnyH_done (by kernel_rfl) ?_ _
    obtain ⟨d0, d1, d2, d3⟩ := E5.out
    go_wp2
    refine ⟨rfl, _, (results_cell_tmp rfl _ _ _).trans ?_, .slice ia n ic, rfl, owns_lower W5.out (Nat.le_succ _), F5⟩
    go_simp
theorem rone_no (w : World) (v : Value) (L : Nat) (b : Nat → Nat) (A : Nat) (hv : BytesOf w v L b) (hL : L ≤ 1000000) (h : okA b L A = false) : Calls Tryd.prog 25 #[v, .int .i64 (A : Int)] w fun e w' => e = .returned (.tuple #[insZ, .int .i64 (errA b L A)]) ∧ Below w.heap.size w w' := by
  unfold errA
  by_cases h1 : L ≤ A
  · rw [if_pos h1]; exact rone_arg w v L b A hv (Or.inr (by omega))
  · rw [if_neg h1]
    cases h2 : isOp (b A) with
    | true =>
      rw [if_pos rfl]
      refine rone_imm w v L b A hv hL (by omega) h2 ?_
      refine Nat.lt_of_not_le fun h3 => ?_
      rw [okA_mk (by omega) h2 h3] at h; cases h
    | false => rw [if_neg (by decide)]; exact rone_op w v L b A hv hL (by omega) h2
end Go.Proofs.YtcjmbpchdeapiaaDoor
