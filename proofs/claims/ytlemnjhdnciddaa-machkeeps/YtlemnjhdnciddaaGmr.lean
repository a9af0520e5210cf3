/- The document's Row. -/
import Derived.Test.YtlemnjhdnciddaaGmq
namespace Go.Proofs.Ytlemnjhdnciddaa
open Go.RowKit
set_option maxHeartbeats 2000000 in
set_option maxRecDepth 100000 in
theorem rowR_is (w : World) (v : Value) (L : Nat) (u : Nat → Nat) (a0 a1 a2 a3 : Int) (m : Int) (hb : By w v L u) (ha : IsW (V a0 a1 a2 a3) a0 a1 a2 a3) (hm : -9223372036854775808 ≤ m ∧ m ≤ 9223372036854775807) : Calls Try.prog 17 #[v, .agg #[.int .u64 a0, .int .u64 a1, .int .u64 a2, .int .u64 a3], .int .i64 m] w fun e w' => RowRes w w' m (rowF u L (loW a0 a1 a2 a3) (smW a1 a2 a3)) e := by
  obtain ⟨ad, cap, rfl, hc0, hc1, hh⟩ := hb
  have HH : Hid (0 < L → ∃ g a, ad = some ⟨g, a, none⟩ ∧ ByC w g a L u) := hh
  have UI : Hid (∀ W, Calls Try.prog 46 #[.agg #[.int .u64 a0, .int .u64 a1, .int .u64 a2, .int .u64 a3]] W fun e w' => e = .returned (.tuple #[.int .u64 (loW a0 a1 a2 a3), .bool (smW a1 a2 a3)]) ∧ Below W.heap.size W w') := fun W => uintR_is a0 a1 a2 a3 W ha
  have x0 : 0 ≤ loW a0 a1 a2 a3 ∧ loW a0 a1 a2 a3 ≤ 18446744073709551615 := by have := ha.u0; unfold loW U64 Bd at *; split <;> omega
  have K0 : Hid (Bz w a0 a1 a2 a3 w.heap.size (w.alloc (.cells #[.int .u64 a0, .int .u64 a1, .int .u64 a2, .int .u64 a3] 30))) := Bz.new w a0 a1 a2 a3
  have LI : (L : Int) ≤ 1152921504606846976 := by omega
  clear ha hh hc0 hc1
  generalize loW a0 a1 a2 a3 = x at *
  generalize smW a1 a2 a3 = sm at *
  obtain ⟨m0, m1⟩ := hm
  by_cases c0 : m < 0
  · have HF : Hid (Below w.heap.size w (w.alloc (.cells #[.int .u64 a0, .int .u64 a1, .int .u64 a2, .int .u64 a3] 30))) := K0.out.bel
    clear UI K0
    go_enter Try.func17, Try.ntmps17
    go_wp2
    go_ret2
    exact ⟨HF.out, Or.inl ⟨Or.inl c0, rfl⟩⟩
  by_cases c1 : 4194304 < m
  · have HF : Hid (Below w.heap.size w (w.alloc (.cells #[.int .u64 a0, .int .u64 a1, .int .u64 a2, .int .u64 a3] 30))) := K0.out.bel
    clear UI K0
    go_enter Try.func17, Try.ntmps17
    go_wp2
    go_ret2
    exact ⟨HF.out, Or.inl ⟨Or.inr c1, rfl⟩⟩
  obtain ⟨M, eM⟩ : ∃ M : Nat, m = (M : Int) := ⟨m.toNat, by omega⟩
  subst eM
  have hM : M ≤ 4194304 := by omega
  have MI : (M : Int) ≤ 4194304 := by omega
  clear c0 c1 m0 m1
  go_enter Try.func17, Try.ntmps17
  go_upto_region 3 with fail
  generalize (w.alloc (.cells #[.int .u64 a0, .int .u64 a1, .int .u64 a2, .int .u64 a3] 30)) = W0 at K0 ⊢
  generalize hbx : w.heap.size = bx at K0 ⊢
  have K0 : Hid (Bz w a0 a1 a2 a3 bx W0) := hbx ▸ K0
  clear hbx
  obtain ⟨W1, hmk, hcb, hB1⟩ := make_is W0 M hM
  go_upto_region 4 with fail
  have K1 : Hid (Bz w a0 a1 a2 a3 bx W1) := K0.out.past hB1
  have hge : w.heap.size ≤ W0.heap.size := K0.out.bel.size
  have HG : Hid (w.heap.size ≤ W0.heap.size) := hge
  have CC : Hid (CB W1 W0.heap.size (bD (fun _ => 0) M)) := hcb
  clear hmk hcb hB1 K0 hge hM
  generalize W0.heap.size = g at CC HG ⊢
  obtain ⟨d0, d1, d2, d3, _⟩ := K1.out.cells
  go_upto_region 5 with (go_at_call 46; refine (UI.out _).mono ?_; rintro e v1 ⟨rfl, hB⟩)
  have CD : Hid (CB v1 g (bD (fun _ => 0) M) ∧ Below w.heap.size w v1) := ⟨CC.out.past hB, K1.out.bel.trans (hB.mono K1.out.bel.size)⟩
  clear hB UI CC K1 d0 d1 d2 d3
  have wx : IntKind.u64.wrap (L : Int) = (L : Int) := by rw [IntKind.wrap_u64]; omega
  have fin0 : Hid (¬ (sm = true ∧ x < (L : Int)) → CB v1 g (bD (rowF u L x sm) M)) := fun h => by
    have h9 := CD.out.1
    rw [show bD (fun _ => 0) M = bD (rowF u L x sm) M from bD_ext fun i _ => by unfold rowF; rw [if_neg (by intro h8; exact h ⟨h8.1, by omega⟩)]] at h9
    exact h9
  cases sm
  · have HF : Hid (CB v1 g (bD (rowF u L x false) M)) := fin0.out (by simp)
    clear fin0
    go_wp2
    go_ret2
    exact ⟨CD.out.2, Or.inr ⟨by omega, g, HG.out, by rw [Int.toNat_natCast]; rfl, by rw [Int.toNat_natCast]; exact HF.out⟩⟩
  by_cases hx : x < (L : Int)
  · clear fin0
    have hx2 : ¬ (L : Int) ≤ x := by omega
    obtain ⟨k, ek⟩ : ∃ k : Nat, x = (k : Int) := ⟨x.toNat, by omega⟩
    subst ek
    have KL : Hid (k < L) := by unfold Hid; omega
    obtain ⟨gb, ob, rfl, hcs⟩ := HH.out (by omega)
    have HCS : Hid (ByC w gb ob L u) := hcs
    have wk : IntKind.i64.wrap (k : Int) = (k : Int) := by rw [IntKind.wrap_i64]; omega
    obtain ⟨c, ec⟩ : ∃ c, c = min M (L - k) := ⟨_, rfl⟩
    have EC : Hid (c = min M (L - k)) := ec
    clear ec hcs HH
    go_upto_region 7 with fail
    go_wp2
    go_loopw [11] (fun s11 wr => ∃ i : Nat, s11 = .int .i64 (i : Int) ∧ i ≤ c ∧ CB wr g (bD (fun j => if j < i then u (k + j) else 0) M) ∧ Below w.heap.size w wr) (fun s11 _ => c - (intOf s11).toNat)
    case atStart => exact ⟨0, rfl, by omega, by rw [show bD (fun j => if j < 0 then u (k + j) else 0) M = bD (fun _ => 0) M from bD_ext fun i _ => by simp]; exact CD.out.1, CD.out.2⟩
    case round =>
      obtain ⟨i, rfl, hi, hC, hB⟩ := hrel
      have CE : Hid (CB wr g (bD (fun j => if j < i then u (k + j) else 0) M)) := hC
      have HB : Hid (Below w.heap.size w wr) := hB
      clear hC hB CD
      have iM : (i : Int) ≤ (M : Int) := by have := EC.out; omega
      have s1 : (k : Int) + (i : Int) = ((k + i : Nat) : Int) := by omega
      have s2 : ((k + i : Nat) : Int) ≤ (L : Int) := by have := EC.out; have := KL.out; omega
      by_cases e : i = c
      · have HF : Hid (CB wr g (bD (rowF u L (k : Int) true) M)) := by
          have h9 := CE.out
          rw [show bD (fun j => if j < i then u (k + j) else 0) M = bD (rowF u L (k : Int) true) M from bD_ext fun j hj => by
            have := EC.out
            unfold rowF
            simp only [Int.toNat_natCast, true_and]
            by_cases h7 : j < i
            · rw [if_pos h7, if_pos (by omega)]
            · rw [if_neg h7, if_neg (by omega)]] at h9
          exact h9
        have hor : Hid (¬ ((i : Int) < (M : Int)) ∨ ((i : Int) < (M : Int) ∧ ¬ (((k + i : Nat) : Int) < (L : Int)))) := by unfold Hid; have := EC.out; have := KL.out; omega
        generalize k + i = s at s1 s2 hor
        clear CE e hi
        rcases hor.out with c1 | ⟨c1, c2⟩
        · clear hor
          go_wp2
          go_ret2
          exact ⟨HB.out, Or.inr ⟨by omega, g, HG.out, by rw [Int.toNat_natCast]; rfl, by rw [Int.toNat_natCast]; exact HF.out⟩⟩
        · clear hor
          go_wp2
          go_ret2
          exact ⟨HB.out, Or.inr ⟨by omega, g, HG.out, by rw [Int.toNat_natCast]; rfl, by rw [Int.toNat_natCast]; exact HF.out⟩⟩
      · have iM2 : (i : Int) < (M : Int) := by have := EC.out; omega
        have s3 : ((k + i : Nat) : Int) < (L : Int) := by have := EC.out; have := KL.out; omega
        have h8 := HCS.out (k + i) (by omega)
        have cc := (HB.out.cell (p := ⟨gb, ob + (k + i), none⟩) (World.block_lt_of_cell? w _ h8)).trans h8
        have gc := CE.out.cell i
        rw [bD_at _ _ _ (by omega), if_neg (by omega)] at gc
        have gf := CE.out.frozen i
        have HN : Hid (CB (wr.setCell ⟨g, i, none⟩ (.int .u8 (u (k + i) : Int))) g (bD (fun j => if j < i + 1 then u (k + j) else 0) M) ∧ Below w.heap.size w (wr.setCell ⟨g, i, none⟩ (.int .u8 (u (k + i) : Int)))) := by
          refine ⟨?_, HB.out.setCell HG.out _⟩
          have h9 := CE.out.set i (.int .u8 (u (k + i) : Int))
          rw [bD_set _ _ _ _ (by omega)] at h9
          rw [show bD (fun j => if j < i + 1 then u (k + j) else 0) M = bD (fun j => if j = i then u (k + i) else (if j < i then u (k + j) else 0)) M from bD_ext fun j _ => by
            by_cases e1 : j = i
            · subst e1; simp
            · by_cases e2 : j < i
              · simp [e1, e2, show j < i + 1 by omega]
              · simp [e1, e2, show ¬ j < i + 1 by omega]]
          exact h9
        generalize (u (k + i) : Int) = y at cc HN
        generalize k + i = s at cc s1 s2 s3
        clear h8 CE
        go_wp2
        go_roundw
        case rel => exact ⟨i + 1, by first | rfl | go_num, by omega, HN.out⟩
        case measure => simp [intOf]; omega
  · have HF : Hid (CB v1 g (bD (rowF u L x true) M)) := fin0.out (by simp; omega)
    have hx2 : (L : Int) ≤ x := by omega
    clear fin0
    go_wp2
    go_ret2
    exact ⟨CD.out.2, Or.inr ⟨by omega, g, HG.out, by rw [Int.toNat_natCast]; rfl, by rw [Int.toNat_natCast]; exact HF.out⟩⟩
end Go.Proofs.Ytlemnjhdnciddaa
