/- CodeLocal. -/
import Derived.Test.YtbhldmfnhlifpaaDoorCea
import Derived.Test.YtbhldmfnhlifpaaDoorCdh
namespace Go.Proofs.YtbhldmfnhlifpaaDoor
open Go.RowKit
/-- bytes ahead, an instruction's bytes, bytes behind -/
def midB (m1 N : Nat) (b1 b2 b3 : Nat → Nat) (j : Nat) : Nat := if j < m1 then b1 j else if j < m1 + N then b2 (j - m1) else b3 (j - (m1 + N))
theorem midB_lt {m1 N : Nat} {b1 b2 b3 : Nat → Nat} (h1 : ∀ j, b1 j < 256) (h2 : ∀ j, b2 j < 256) (h3 : ∀ j, b3 j < 256) (j : Nat) : midB m1 N b1 b2 b3 j < 256 := by
  unfold midB; split
  · exact h1 _
  · split
    · exact h2 _
    · exact h3 _
theorem midB_mid {m1 N : Nat} {b1 b2 b3 : Nat → Nat} (i : Nat) (hi : i < N) : midB m1 N b1 b2 b3 (m1 + i) = b2 i := by
  unfold midB; rw [if_neg (by omega), if_pos (by omega), show m1 + i - m1 = i by omega]
theorem bsL_append (m n : Nat) (b c : Nat → Nat) (d : Nat → Nat) (h1 : ∀ j, j < m → d j = b j) (h2 : ∀ j, j < n → d (m + j) = c j) : bsL m b ++ bsL n c = bsL (m + n) d := by
  apply List.ext_getElem?
  intro i
  by_cases h : i < m
  · rw [List.getElem?_append_left (by rw [bsL_len]; exact h), bsL_get m b i h, bsL_get _ d i (by omega), h1 i h]
  · rw [List.getElem?_append_right (by rw [bsL_len]; omega), bsL_len]
    by_cases h3 : i < m + n
    · rw [bsL_get n c _ (by omega), bsL_get _ d i h3, ← h2 (i - m) (by omega), show m + (i - m) = i by omega]
    · rw [List.getElem?_eq_none (by rw [bsL_len]; omega), List.getElem?_eq_none (by rw [bsL_len]; omega)]
theorem bsL_mid (m1 N m3 : Nat) (b1 b2 b3 : Nat → Nat) : bsL m1 b1 ++ bsL N b2 ++ bsL m3 b3 = bsL (m1 + N + m3) (midB m1 N b1 b2 b3) := by
  rw [bsL_append m1 N b1 b2 (midB m1 N b1 b2 b3) (fun j hj => by unfold midB; rw [if_pos hj]) (fun j hj => midB_mid j hj)]
  exact bsL_append _ _ _ _ _ (fun j hj => rfl) (fun j hj => by unfold midB; rw [if_neg (by omega), if_neg (by omega), show m1 + N + j - (m1 + N) = j by omega])
/-- the instruction reads the same wherever it lies -/
theorem imm_mid {m1 : Nat} {b1 b2 b3 : Nat → Nat} : immA (midB m1 (nxA b2 0) b1 b2 b3) m1 = immA b2 0 := by
  have e0 : midB m1 (nxA b2 0) b1 b2 b3 m1 = b2 0 := by have := midB_mid (m1 := m1) (N := nxA b2 0) (b1 := b1) (b2 := b2) (b3 := b3) 0 (nxA_gt b2 0); rwa [Nat.add_zero] at this
  unfold immA
  rw [e0]
  by_cases h : immT (b2 0) = -1
  · have e1 : midB m1 (nxA b2 0) b1 b2 b3 (m1 + 1) = b2 1 := midB_mid 1 (by unfold nxA immA immN; rw [if_pos h]; omega)
    rw [e1, Nat.zero_add]
  · unfold immN; rw [if_neg h, if_neg h]
theorem own_src {W : World} {base g m c : Nat} {b : Nat → Nat} (h : W.ownsRow base 5 1 (.slice (some ⟨g, 0, none⟩) m c) m (bsL m b)) (k : Nat) (hk : k ≤ m) : ∀ j u, (bsL k b)[j]? = some u → W.cell? ((⟨g, 0, none⟩ : Addr).add j) = some u := fun j u hu => by
  obtain ⟨hj, rfl⟩ := bsL_at hu
  rw [Addr.add_mid, Nat.zero_add, h.cellAt j (by omega), bsL_get m b j (by omega)]
theorem txB_congr {m : Nat} {b c : Nat → Nat} (h : ∀ j, j < m → b j = c j) : txB m b = txB m c := by
  unfold txB
  congr 1
  refine List.map_congr_left fun j hj => ?_
  rw [h j (List.mem_range.1 hj)]
set_option maxHeartbeats 4000000 in
set_option maxRecDepth 100000 in
theorem codeLocal_walk (w : World) (hN : Nms w) (v1 : Value) (L1 : Nat) (b1 : Nat → Nat) (hL1 : L1 ≤ 9223372036854775807) (hv1 : BytesOf w v1 L1 b1) (hcp1 : ∀ ad cap, v1 = .slice ad L1 cap → L1 ≤ cap)
    (v2 : Value) (L2 : Nat) (b2 : Nat → Nat) (hL2 : L2 ≤ 9223372036854775807) (hv2 : BytesOf w v2 L2 b2) (hcp2 : ∀ ad cap, v2 = .slice ad L2 cap → L2 ≤ cap)
    (v3 : Value) (L3 : Nat) (b3 : Nat → Nat) (hL3 : L3 ≤ 9223372036854775807) (hv3 : BytesOf w v3 L3 b3) (hcp3 : ∀ ad cap, v3 = .slice ad L3 cap → L3 ≤ cap) :
    Calls Tryd.prog 8 #[v1, v2, v3] w fun e w' => e = .returned (.bool true) ∧ Below w.heap.size w w' := by
  obtain ⟨i0, hi, hz0, hz1, hz2⟩ := info_parts infoB8
  have HB : Hid ((∀ j, b1 j < 256) ∧ (∀ j, b2 j < 256) ∧ ∀ j, b3 j < 256) := by
    obtain ⟨_, _, _, h1, _⟩ := hv1; obtain ⟨_, _, _, h2, _⟩ := hv2; obtain ⟨_, _, _, h3, _⟩ := hv3; exact ⟨h1, h2, h3⟩
  have HC1 : Hid (Calls Tryd.prog 46 #[v1] w fun e w' => ∃ g cap, e = .returned (.slice (some ⟨g, 0, none⟩) (cutN L1) cap) ∧ w'.ownsRow w.heap.size 5 1 (.slice (some ⟨g, 0, none⟩) (cutN L1) cap) (cutN L1) (bsL (cutN L1) b1) ∧ Below w.heap.size w w') := cut_at w v1 L1 b1 hL1 hv1 hcp1
  have HC2 : Hid (∀ W, Below w.heap.size w W → Calls Tryd.prog 46 #[v2] W fun e w' => ∃ g cap, e = .returned (.slice (some ⟨g, 0, none⟩) (cutN L2) cap) ∧ w'.ownsRow W.heap.size 5 1 (.slice (some ⟨g, 0, none⟩) (cutN L2) cap) (cutN L2) (bsL (cutN L2) b2) ∧ Below W.heap.size W w') := fun W hB => cut_at W v2 L2 b2 hL2 (hv2.below rfl hB) hcp2
  have HC3 : Hid (∀ W, Below w.heap.size w W → Calls Tryd.prog 46 #[v3] W fun e w' => ∃ g cap, e = .returned (.slice (some ⟨g, 0, none⟩) (cutN L3) cap) ∧ w'.ownsRow W.heap.size 5 1 (.slice (some ⟨g, 0, none⟩) (cutN L3) cap) (cutN L3) (bsL (cutN L3) b3) ∧ Below W.heap.size W w') := fun W hB => cut_at W v3 L3 b3 hL3 (hv3.below rfl hB) hcp3
  have hm1 := (cutN_le L1).2
  have hm2 := (cutN_le L2).2
  have hm3 := (cutN_le L3).2
  generalize cutN L1 = m1 at HC1 hm1
  generalize cutN L2 = m2 at HC2 hm2
  generalize cutN L3 = m3 at HC3 hm3
  have HAW : Hid (∀ W, Below w.heap.size w W → Calls Tryd.prog 32 #[] W fun e w' => e = .returned (.bool true) ∧ Below W.heap.size W w') := fun W hB => awake_is W (hN.past hB)
  clear hv1 hcp1 hv2 hcp2 hv3 hcp3
  cases hok : okA b2 m2 0 with
  | false =>
    have er0 : ¬ errA b2 m2 0 = 0 := by unfold errA; split; decide; split <;> decide
    have HO : Hid (∀ W v, Below w.heap.size w W → BytesOf W v m2 b2 → Calls Tryd.prog 28 #[v, .int .i64 0] W fun e w' => e = .returned (.tuple #[.agg #[.int .i64 0, .int .i64 0, .slice none 0 0, .int .i64 0], .int .i64 (errA b2 m2 0)]) ∧ Below W.heap.size W w') := fun W v hB hb => one_no W v m2 b2 0 (hN.past hB) hb (by omega) hok
    generalize errA b2 m2 0 = er at er0 HO
    clear hok
    go_enter Tryd.func8, Tryd.ntmps8
    go_wp2_with (first
      | (go_at_call 46; refine HC1.out.mono ?_; rintro e w1 ⟨g1, c1, rfl, ho1, hB1⟩; (have B1 : Hid (Below w.heap.size w w1) := hB1); clear ho1 hB1 HC1)
      | (go_at_call 46; refine (HC2.out _ B1.out).mono ?_; rintro e w2 ⟨g2, c2, rfl, ho2, hB2⟩; (have B2 : Hid (Below w.heap.size w w2) := B1.out.trans (hB2.mono B1.out.size)); (have O2 : Hid (BytesOf w2 (.slice (some ⟨g2, 0, none⟩) m2 c2) m2 b2) := (own_bytes ho2 HB.out.2.1).1); clear ho2 hB2 HC2)
      | (go_at_call 28; refine (HO.out _ _ B2.out O2.out).mono ?_; rintro e w3 ⟨rfl, hB3⟩; (have B3 : Hid (Below w.heap.size w (w3.alloc (.cells #[.int .i64 0, .int .i64 0, .slice none 0 0, .int .i64 0] 25))) := (B2.out.trans (hB3.mono B2.out.size)).alloc (Nat.le_trans B2.out.size hB3.size) _); clear hB3 HO)
      | (go_at_call 32; refine (HAW.out _ B3.out).mono ?_; rintro e w4 ⟨rfl, hB4⟩; (have B4 : Hid (Below w.heap.size w w4) := B3.out.trans (hB4.mono B3.out.size)); clear hB4 HAW))
    go_ret
    exact ⟨rfl, B4.out⟩
  | true =>
    have ok3 := (okA_parts hok).2.2
    have HO : Hid (∀ W g c, Below w.heap.size w W → W.ownsRow w.heap.size 5 1 (.slice (some ⟨g, 0, none⟩) m2 c) m2 (bsL m2 b2) → Calls Tryd.prog 28 #[.slice (some ⟨g, 0, none⟩) m2 c, .int .i64 0] W fun e w' => ∃ q, W.heap.size ≤ q ∧ q < w'.heap.size ∧ e = .returned (.tuple #[.agg #[.int .i64 0, .int .i64 (b2 0 : Int), .slice (some ⟨q, 0, none⟩) (immA b2 0) (immA b2 0), .int .i64 (nxA b2 0 : Int)], .int .i64 0]) ∧ Below W.heap.size W w' ∧ InsB w' q (immA b2 0) (fun j => b2 (0 + 1 + j))) := fun W g c hB ho => one_yes W _ m2 b2 0 (hN.past hB) (own_bytes ho HB.out.2.1).1 (own_bytes ho HB.out.2.1).2 (by omega) hok
    have hNn : nxA b2 0 = 1 + immA b2 0 := by unfold nxA; omega
    have hNle : nxA b2 0 ≤ m2 := by rw [hNn]; omega
    obtain ⟨M, hM⟩ : ∃ M, M = m1 + nxA b2 0 := ⟨_, rfl⟩
    have HO2 : Hid (∀ W v, Below w.heap.size w W → W.ownsRow w.heap.size 5 1 v (m1 + nxA b2 0 + m3) (bsL m1 b1 ++ bsL (nxA b2 0) b2 ++ bsL m3 b3) → Calls Tryd.prog 28 #[v, .int .i64 (m1 : Int)] W fun e w' => ∃ q, W.heap.size ≤ q ∧ q < w'.heap.size ∧ e = .returned (.tuple #[.agg #[.int .i64 (m1 : Int), .int .i64 (b2 0 : Int), .slice (some ⟨q, 0, none⟩) (immA b2 0) (immA b2 0), .int .i64 (M : Int)], .int .i64 0]) ∧ Below W.heap.size W w' ∧ BytesOf w' (.slice (some ⟨q, 0, none⟩) (immA b2 0) (immA b2 0)) (immA b2 0) (fun j => midB m1 (nxA b2 0) b1 b2 b3 (m1 + 1 + j))) := fun W v hB ho => by
      rw [bsL_mid] at ho
      have e0 : midB m1 (nxA b2 0) b1 b2 b3 m1 = b2 0 := by have := midB_mid (m1 := m1) (N := nxA b2 0) (b1 := b1) (b2 := b2) (b3 := b3) 0 (nxA_gt b2 0); rwa [Nat.add_zero] at this
      have hob := own_bytes ho (midB_lt HB.out.1 HB.out.2.1 HB.out.2.2)
      refine (one_yes W v _ _ m1 (hN.past hB) hob.1 hob.2 (by omega) (okA_mk (by omega) (by rw [e0]; exact (okA_parts hok).2.1) (by rw [imm_mid]; omega))).mono ?_
      rintro e w' ⟨q, q1, q2, he, hB', hI⟩
      unfold insV at he
      dsimp only at he
      rw [imm_mid, e0, show nxA (midB m1 (nxA b2 0) b1 b2 b3) m1 = m1 + nxA b2 0 by unfold nxA; have := imm_mid (m1 := m1) (b1 := b1) (b2 := b2) (b3 := b3); unfold nxA at this; rw [this]; omega, ← hM] at he
      rw [imm_mid] at hI
      exact ⟨q, q1, q2, he, hB', hI.bytes⟩
    have HTX : Hid (txB (immA b2 0) (fun j => midB m1 (nxA b2 0) b1 b2 b3 (m1 + 1 + j)) = txB (immA b2 0) (fun j => b2 (0 + 1 + j))) := txB_congr fun j hj => by
      rw [show m1 + 1 + j = m1 + (1 + j) by omega, midB_mid (1 + j) (by rw [hNn]; omega), Nat.zero_add]
    clear hok ok3
    generalize (fun j => midB m1 (nxA b2 0) b1 b2 b3 (m1 + 1 + j)) = bx at HO2 HTX
    generalize (fun j => b2 (0 + 1 + j)) = by' at HO HTX
    generalize nxA b2 0 = N at HO HO2 hNn hNle hM
    generalize immA b2 0 = n at HO HO2 HTX hNn
    have nI : ¬ (N : Int) < 1 := by omega
    have nM : (N : Int) ≤ (m2 : Int) := by omega
    have nE : (N : Int) - 1 = (n : Int) := by omega
    have m2I : (m2 : Int) ≤ 70000 := by omega
    have m1I : (m1 : Int) ≤ 70000 := by omega
    have mN : (m1 : Int) + (N : Int) = (M : Int) := by omega
    have mI : (M : Int) ≤ 140000 := by omega
    have HNN : Hid (N = 1 + n) := hNn
    clear hNn hM
    generalize hc0 : b2 0 = c at HO HO2
    clear hc0
    go_enter Tryd.func8, Tryd.ntmps8
    go_upto_region 4 with (first
      | (go_at_call 46; refine HC1.out.mono ?_; rintro e w1 ⟨g1, c1, rfl, ho1, hB1⟩; (have B1 : Hid (Below w.heap.size w w1) := hB1); (have O1 : Hid (w1.ownsRow w.heap.size 5 1 (.slice (some ⟨g1, 0, none⟩) m1 c1) m1 (bsL m1 b1)) := ho1); clear ho1 hB1 HC1)
      | (go_at_call 46; refine (HC2.out _ B1.out).mono ?_; rintro e w2 ⟨g2, c2, rfl, ho2, hB2⟩; (have B2 : Hid (Below w.heap.size w w2) := B1.out.trans (hB2.mono B1.out.size)); (have O12 : Hid (w2.ownsRow w.heap.size 5 1 (.slice (some ⟨g1, 0, none⟩) m1 c1) m1 (bsL m1 b1) ∧ w2.ownsRow w.heap.size 5 1 (.slice (some ⟨g2, 0, none⟩) m2 c2) m2 (bsL m2 b2)) := ⟨ownsRow_past O1.out hB2, owns_lower ho2 B1.out.size⟩); clear ho2 hB2 HC2 O1)
      | (go_at_call 28; refine (HO.out _ _ _ B2.out O12.out.2).mono ?_; rintro e w3 ⟨q, q1, q2, rfl, hB3, hI3⟩; (have B3 : Hid (Below w2.heap.size w2 (w3.alloc (.cells #[.int .i64 0, .int .i64 (c : Int), .slice (some ⟨q, 0, none⟩) n n, .int .i64 (N : Int)] 25)) ∧ InsB (w3.alloc (.cells #[.int .i64 0, .int .i64 (c : Int), .slice (some ⟨q, 0, none⟩) n n, .int .i64 (N : Int)] 25)) q n by') := ⟨hB3.alloc hB3.size _, hI3.past ((Below.refl _ w3).alloc (Nat.le_refl _) _)⟩); clear hB3 HO hI3 q1 q2))
    have X3 : CBox (w3.alloc (.cells #[.int .i64 0, .int .i64 (c : Int), .slice (some ⟨q, 0, none⟩) n n, .int .i64 (N : Int)] 25)) w3.heap.size 25 [.int .i64 0, .int .i64 (c : Int), .slice (some ⟨q, 0, none⟩) n n, .int .i64 (N : Int)] := CBox.new w3 _ _
    generalize w3.alloc (.cells #[.int .i64 0, .int .i64 (c : Int), .slice (some ⟨q, 0, none⟩) n n, .int .i64 (N : Int)] 25) = w4 at X3 B3 ⊢
    generalize w3.heap.size = qi at X3 ⊢
    have S4 : Hid (Below w.heap.size w w4 ∧ w4.ownsRow w.heap.size 5 1 (.slice (some ⟨g1, 0, none⟩) m1 c1) m1 (bsL m1 b1) ∧ w4.ownsRow w.heap.size 5 1 (.slice (some ⟨g2, 0, none⟩) m2 c2) m2 (bsL m2 b2) ∧ InsB w4 q n by' ∧ CBox w4 qi 25 [.int .i64 0, .int .i64 (c : Int), .slice (some ⟨q, 0, none⟩) n n, .int .i64 (N : Int)]) := ⟨B2.out.trans (B3.out.1.mono B2.out.size), ownsRow_past O12.out.1 B3.out.1, ownsRow_past O12.out.2 B3.out.1, B3.out.2, X3⟩
    have S5 : Hid (∀ W, Below w4.heap.size w4 W → Below w.heap.size w W ∧ W.ownsRow w.heap.size 5 1 (.slice (some ⟨g1, 0, none⟩) m1 c1) m1 (bsL m1 b1) ∧ W.ownsRow w.heap.size 5 1 (.slice (some ⟨g2, 0, none⟩) m2 c2) m2 (bsL m2 b2) ∧ InsB W q n by' ∧ CBox W qi 25 [.int .i64 0, .int .i64 (c : Int), .slice (some ⟨q, 0, none⟩) n n, .int .i64 (N : Int)]) := fun W hB => ⟨S4.out.1.trans (hB.mono S4.out.1.size), ownsRow_past S4.out.2.1 hB, ownsRow_past S4.out.2.2.1 hB, S4.out.2.2.2.1.past hB, S4.out.2.2.2.2.past hB⟩
    clear B2 O12 B3
    have x0 := X3.cell 0
    have x1 := X3.cell 1
    have x2 := X3.cell 2
    have x3 := X3.cell 3
    simp only [List.getElem?_cons_zero, List.getElem?_cons_succ] at x0 x1 x2 x3
    clear X3
    have c2m : m2 ≤ c2 := (own_bytes S4.out.2.2.1 HB.out.2.1).2 _ _ rfl
    have hsl : ∀ W, Sem.run Tryd.prog (Instr.slice 22 (.slice (some ⟨g2, 0, none⟩) m2 c2) none (some (.int .i64 (N : Int))) none) W = .ok (.slice (some ⟨g2, 0, none⟩) N c2) W := fun W => slice_hiB _ m2 c2 N (by omega) W
    go_upto_region 10 with (at_builtin; refine wpList_append_own _ rfl _ _ 22 rfl w4.heap.size 5 i0 (.int .u8 0) 1 1 Tryd.underlying22 hi hz0 hz1 hz2 rfl (by decide) _ 0 [] rfl (World.ownsRow_nil _ _ _ _) ⟨g1, 0, none⟩ m1 c1 (bsL m1 b1) rfl (by rw [bsL_len]; omega) (own_src S4.out.2.1 m1 (Nat.le_refl _)) (bsL_one m1 b1) (by unfold maxLen; omega) (by omega) (Nat.le_refl _) ?_; intro va w5 hown5 hgrow5 _)
    have T5 : Hid (Below w4.heap.size w4 w5 ∧ w5.ownsRow w4.heap.size 5 1 va m1 (bsL m1 b1)) := ⟨(Below.refl _ w4).grown hgrow5 (Nat.le_refl _) (fun k e => (by cases e)), by simpa using hown5⟩
    clear hown5 hgrow5 x0 x1 x2 x3
    have X5 := (S5.out w5 T5.out.1).2.2.2.2
    have x3 := X5.cell 3
    simp only [List.getElem?_cons_zero, List.getElem?_cons_succ] at x3
    clear X5
    go_upto_region 11 with (at_builtin; refine wpList_append_own _ rfl _ _ 22 rfl w4.heap.size 5 i0 (.int .u8 0) 1 1 Tryd.underlying22 hi hz0 hz1 hz2 rfl (by decide) _ _ _ rfl T5.out.2 ⟨g2, 0, none⟩ N c2 (bsL N b2) rfl (by rw [bsL_len]; omega) (own_src (S5.out w5 T5.out.1).2.2.1 N (by omega)) (bsL_one N b2) (by unfold maxLen; omega) (by omega) T5.out.1.size ?_; intro vb w6 hown6 hgrow6 _)
    have T6 : Hid (Below w4.heap.size w4 w6 ∧ w6.ownsRow w4.heap.size 5 1 vb (m1 + N) (bsL m1 b1 ++ bsL N b2)) := ⟨T5.out.1.grown hgrow6 T5.out.1.size (fun k e => (T5.out.2.lt k e).1), hown6⟩
    clear hown6 hgrow6 x3 hsl T5
    go_upto_region 12 with (first
      | (go_at_call 46; refine (HC3.out _ (S5.out _ T6.out.1).1).mono ?_; rintro e w7 ⟨g3, c3, rfl, ho3, hB7⟩; (have T7 : Hid (Below w4.heap.size w4 w7 ∧ w7.ownsRow w4.heap.size 5 1 vb (m1 + N) (bsL m1 b1 ++ bsL N b2) ∧ w7.ownsRow w6.heap.size 5 1 (.slice (some ⟨g3, 0, none⟩) m3 c3) m3 (bsL m3 b3)) := ⟨T6.out.1.trans (hB7.mono T6.out.1.size), ownsRow_past T6.out.2 hB7, ho3⟩); clear ho3 hB7 HC3 T6)
      | (at_builtin; refine wpList_append_own _ rfl _ _ 22 rfl w4.heap.size 5 i0 (.int .u8 0) 1 1 Tryd.underlying22 hi hz0 hz1 hz2 rfl (by decide) _ _ _ rfl T7.out.2.1 ⟨g3, 0, none⟩ m3 c3 (bsL m3 b3) rfl (by rw [bsL_len]; omega) (own_src T7.out.2.2 m3 (Nat.le_refl _)) (bsL_one m3 b3) (by unfold maxLen; omega) (by omega) T7.out.1.size ?_; intro vc w8 hown8 hgrow8 _))
    have T8 : Hid (Below w4.heap.size w4 w8 ∧ w8.ownsRow w4.heap.size 5 1 vc (m1 + N + m3) (bsL m1 b1 ++ bsL N b2 ++ bsL m3 b3)) := ⟨T7.out.1.grown hgrow8 T7.out.1.size (fun k e => (T7.out.2.1.lt k e).1), hown8⟩
    clear hown8 hgrow8 T7
    rcases (own_bytes (by have := T8.out.2; rw [bsL_mid] at this; exact this) (midB_lt HB.out.1 HB.out.2.1 HB.out.2.2)).1 with ⟨adc, cpc, rfl, _⟩
    go_upto_region 13 with (go_at_call 28; refine (HO2.out _ _ (S5.out _ T8.out.1).1 (owns_lower T8.out.2 S4.out.1.size)).mono ?_; rintro e w9 ⟨q9, q91, q92, rfl, hB9, hI9⟩; (have T9 : Hid (Below w4.heap.size w4 (w9.alloc (.cells #[.int .i64 (m1 : Int), .int .i64 (c : Int), .slice (some ⟨q9, 0, none⟩) n n, .int .i64 (M : Int)] 25)) ∧ BytesOf (w9.alloc (.cells #[.int .i64 (m1 : Int), .int .i64 (c : Int), .slice (some ⟨q9, 0, none⟩) n n, .int .i64 (M : Int)] 25)) (.slice (some ⟨q9, 0, none⟩) n n) n bx) := ⟨(T8.out.1.trans (hB9.mono T8.out.1.size)).alloc (Nat.le_trans T8.out.1.size hB9.size) _, hI9.below rfl ((Below.refl _ w9).alloc (Nat.le_refl _) _)⟩); clear hB9 hI9 HO2 q91 q92)
    have X9 : CBox (w9.alloc (.cells #[.int .i64 (m1 : Int), .int .i64 (c : Int), .slice (some ⟨q9, 0, none⟩) n n, .int .i64 (M : Int)] 25)) w9.heap.size 25 [.int .i64 (m1 : Int), .int .i64 (c : Int), .slice (some ⟨q9, 0, none⟩) n n, .int .i64 (M : Int)] := CBox.new w9 _ _
    generalize w9.alloc (.cells #[.int .i64 (m1 : Int), .int .i64 (c : Int), .slice (some ⟨q9, 0, none⟩) n n, .int .i64 (M : Int)] 25) = w10 at X9 T9 ⊢
    generalize w9.heap.size = qj at X9 ⊢
    have U := S5.out w10 T9.out.1
    have cv1 := conv_by w10 _ n bx T9.out.2
    have cv2 := conv_by w10 _ n by' U.2.2.2.1.bytes
    rw [HTX.out] at cv1
    generalize txB n by' = tx at cv1 cv2
    have x0 := U.2.2.2.2.cell 0
    have x1 := U.2.2.2.2.cell 1
    have x2 := U.2.2.2.2.cell 2
    have x3 := U.2.2.2.2.cell 3
    have y0 := X9.cell 0
    have y1 := X9.cell 1
    have y2 := X9.cell 2
    have y3 := X9.cell 3
    simp only [List.getElem?_cons_zero, List.getElem?_cons_succ] at x0 x1 x2 x3 y0 y1 y2 y3
    have B10 : Hid (Below w.heap.size w w10) := U.1
    clear U X9 T9 T8 S5 S4
    go_wp2_with (go_at_call 32; refine (HAW.out _ B10.out).mono ?_; rintro e w11 ⟨rfl, hB11⟩; (have B11 : Hid (Below w.heap.size w w11) := B10.out.trans (hB11.mono B10.out.size)); clear hB11 HAW)
    go_ret
    exact ⟨rfl, B11.out⟩
end Go.Proofs.YtbhldmfnhlifpaaDoor
