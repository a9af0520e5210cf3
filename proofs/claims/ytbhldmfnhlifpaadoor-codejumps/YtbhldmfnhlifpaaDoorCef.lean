/- CodeJumps. -/
import Derived.Test.YtbhldmfnhlifpaaDoorCea
import Derived.Test.YtbhldmfnhlifpaaDoorCra
import Derived.Test.YtbhldmfnhlifpaaDoorOpy
namespace Go.Proofs.YtbhldmfnhlifpaaDoor
open Go.RowKit
theorem and16 (X : Int) : ∃ A : Nat, A ≤ 65535 ∧ bits BinOp.and IntKind.i64 X 65535 = (A : Int) := by
  have h : (BitVec.ofInt 64 X &&& BitVec.ofInt 64 65535).toNat ≤ 65535 := by rw [BitVec.toNat_and]; exact Nat.and_le_right
  have e : bits BinOp.and IntKind.i64 X 65535 = IntKind.i64.wrap (((BitVec.ofInt 64 X &&& BitVec.ofInt 64 65535).toNat : Nat) : Int) := rfl
  exact ⟨_, h, e.trans (Go.IntWalk.i64_in _ (by omega))⟩
def dHi (z : Int) : Nat := (z / 256 % 256).toNat
def dLo (z : Int) : Nat := (z % 256).toNat
/-- the immediate bytes of a table of these jumps -/
def jpB (n : Nat) (d : Nat → Int) (j : Nat) : Nat := if j = 0 then n - 1 else if j % 2 = 1 then dHi (d ((j - 1) / 2)) else dLo (d ((j - 2) / 2))
theorem jpB_lt {n : Nat} {d : Nat → Int} (hn : n ≤ 256) (j : Nat) : jpB n d j < 256 := by
  unfold jpB dHi dLo; split; omega; split <;> omega
theorem jpB_hi (n : Nat) (d : Nat → Int) (i : Nat) : jpB n d (1 + 2 * i) = dHi (d i) := by
  unfold jpB; rw [if_neg (by omega), if_pos (by omega), show (1 + 2 * i - 1) / 2 = i by omega]
theorem jpB_lo (n : Nat) (d : Nat → Int) (i : Nat) : jpB n d (1 + 2 * i + 1) = dLo (d i) := by
  unfold jpB; rw [if_neg (by omega), if_neg (by omega), show (1 + 2 * i + 1 - 2) / 2 = i by omega]
theorem dist_z (z : Int) : dist16 (dHi z) (dLo z) = IntKind.i16.wrap (IntKind.u16.wrap z) := by
  have h1 : IntKind.u16.wrap z = ((256 * dHi z + dLo z : Nat) : Int) := by
    unfold dHi dLo
    simp only [IntKind.wrap, IntKind.bits, IntKind.signed]
    simp
    omega
  rw [h1]
  exact (dist16_wrap (dHi z) (dLo z) (by unfold dHi; omega) (by unfold dLo; omega)).symm
/-- where a distance leads -/
def jD (z : Int) : Int := IntKind.i16.wrap (IntKind.u16.wrap z)
theorem jD_in (z : Int) : -32768 ≤ jD z ∧ jD z ≤ 32767 := by
  unfold jD; rw [← dist_z]; exact dist16_in (dHi z) (dLo z) (by unfold dHi; omega) (by unfold dLo; omega)
theorem tgL_get (x : Int) (b : Nat → Nat) (k q : Nat) (hq : q < k) : (tgL x b k)[q]? = some (.int .i64 (x + dist16 (b (2 * q)) (b (2 * q + 1)))) := by simp [tgL, hq]
theorem jump_one {w : World} (hN : Nms w) (A q n M gv cv : Nat) (d : Nat → Int) (jb : Nat → Nat) (hA : A ≤ 65535) (hj : jb = jpB n d) (hn : n ≤ 256) (hM : M = 1 + 2 * n) (hq : q < n) (hc : M ≤ cv) {base : Nat} (ho : w.ownsRow base 5 1 (.slice (some ⟨gv, 0, none⟩) M cv) M (bsL M jb)) (C : Int) (hC : C = 224 ∨ C = 225) : Calls Tryd.prog 33 #[.agg #[.int .i64 (A : Int), .int .i64 C, .slice (some ⟨gv, 1 + 2 * q, none⟩) 2 (cv - (1 + 2 * q)), .int .i64 ((A + 3 : Nat) : Int)]] w fun e w' => ∃ pl, e = .returned pl ∧ w'.ownsRow w.heap.size 3 1 pl 1 [.int .i64 (((A + 3 : Nat) : Int) + jD (d q))] ∧ Below w.heap.size w w' := by
  have h := leads_one w hN (A : Int) C ((A + 3 : Nat) : Int) (.slice (some ⟨gv, 1 + 2 * q, none⟩) 2 (cv - (1 + 2 * q))) 2 (fun j => jb (1 + 2 * q + j)) (by omega)
    ⟨_, _, rfl, fun j => by show jb _ < 256; rw [hj]; exact jpB_lt hn _, fun e => (by cases e), fun _ => ⟨gv, 1 + 2 * q, rfl, fun j hj2 => by rw [ho.cellAt (1 + 2 * q + j) (by omega), bsL_get M jb _ (by omega)]⟩⟩
    (fun _ _ e => by cases e; omega)
    (by
      unfold standsV
      rw [Bool.and_eq_true, decide_eq_true_eq]
      refine ⟨⟨by omega, by omega, by omega⟩, ?_⟩
      rcases hC with rfl | rfl
      · rw [show (224 : Int).toNat = 224 from rfl, imm_jumps.1]; rfl
      · rw [show (225 : Int).toNat = 225 from rfl, imm_jumps.2.1]; rfl) hC
  have e : tgL ((A + 3 : Nat) : Int) (fun j => jb (1 + 2 * q + j)) 1 = [.int .i64 (((A + 3 : Nat) : Int) + jD (d q))] := by
    show [Value.int .i64 (((A + 3 : Nat) : Int) + dist16 (jb (1 + 2 * q)) (jb (1 + 2 * q + 1)))] = _
    rw [hj, jpB_hi, jpB_lo, dist_z]
    rfl
  rw [e] at h
  exact h
set_option maxHeartbeats 4000000 in
set_option maxRecDepth 100000 in
theorem codeJumps_walk (w : World) (hN : Nms w) (X : Int) (v : Value) (m : Nat) (d : Nat → Int) (hm : m ≤ 9223372036854775807) (hv : ∃ ad cap, v = .slice ad m cap ∧ (m ≠ 0 → ∃ g o, ad = some ⟨g, o, none⟩ ∧ ∀ j, j < m → w.cell? ⟨g, o + j, none⟩ = some (.int .i64 (d j)))) : Calls Tryd.prog 11 #[.int .i64 X, v] w fun e w' => e = .returned (.bool true) ∧ Below w.heap.size w w' := by
  obtain ⟨i0, hi, hz0, hz1, hz2⟩ := info_parts infoB8
  obtain ⟨ad, cap, rfl, hc⟩ := hv
  obtain ⟨A, hA, hbits⟩ := and16 X
  have HAW : Hid (∀ W, Below w.heap.size w W → Calls Tryd.prog 32 #[] W fun e w' => e = .returned (.bool true) ∧ Below W.heap.size W w') := fun W hB => awake_is W (hN.past hB)
  have mI : (m : Int) ≤ 9223372036854775807 := by omega
  by_cases h0 : m = 0
  · subst h0
    clear hc
    go_enter Tryd.func11, Tryd.ntmps11
    go_wp2_with (go_at_call 32; refine (HAW.out _ (Below.refl _ _)).mono ?_; rintro e w6 ⟨rfl, hB6⟩; (have B6 : Hid (Below w.heap.size w w6) := hB6); clear hB6)
    go_ret
    exact ⟨rfl, B6.out⟩
  · obtain ⟨g, o, rfl, hcc⟩ := hc h0
    have HCD : Hid (∀ W, Below w.heap.size w W → ∀ j, j < m → W.cell? ⟨g, o + j, none⟩ = some (.int .i64 (d j))) := fun W hB j hj => (hB.cell (p := ⟨g, o + j, none⟩) (World.block_lt_of_cell? w _ (hcc j hj))).trans (hcc j hj)
    obtain ⟨n, hn⟩ : ∃ n, n = if 256 < m then 256 else m := ⟨_, rfl⟩
    have n1 : 1 ≤ n ∧ n ≤ 256 ∧ n ≤ m := by rw [hn]; split <;> omega
    obtain ⟨t, ht⟩ : ∃ t, n = t + 1 := ⟨n - 1, by omega⟩
    have et : (n : Int) - 1 = (t : Int) := by omega
    have tI : (t : Int) ≤ 255 := by omega
    have nI : (n : Int) ≤ 256 := by omega
    have n0 : ((n : Int) == 0) = false := by rw [beq_eq_false_iff_ne]; omega
    have wt : IntKind.u8.wrap (t : Int) = (t : Int) := Go.IntWalk.u8_in _ (by omega)
    obtain ⟨jb, hjb⟩ : ∃ jb, jb = jpB n d := ⟨_, rfl⟩
    have HJB : Hid (jb = jpB n d ∧ n = t + 1 ∧ ∀ j, jb j < 256) := ⟨hjb, ht, fun j => by rw [hjb]; exact jpB_lt (by omega) j⟩
    have O1 : Hid ((w.alloc (.cells #[.int .u8 (t : Int)] 5)).ownsRow w.heap.size 5 1 (.slice (some ⟨w.heap.size, 0, none⟩) 1 1) 1 (bsL 1 jb) ∧ Below w.heap.size w (w.alloc (.cells #[.int .u8 (t : Int)] 5))) := by
      refine ⟨?_, (Below.refl _ w).alloc (Nat.le_refl _) _⟩
      have e : bsL 1 jb = [.int .u8 (t : Int)] := by rw [hjb]; show [Value.int .u8 ((jpB n d 0 : Nat) : Int)] = _; unfold jpB; rw [if_pos rfl, show n - 1 = t by omega]
      rw [e]
      exact ⟨rfl, Or.inr ⟨w.heap.size, 1, #[.int .u8 (t : Int)], rfl, Nat.le_refl _, World.alloc_heap_new w _, Nat.le_refl _, by unfold maxLen; omega, rfl, rfl⟩⟩
    clear hc hcc hjb ht
    go_enter Tryd.func11, Tryd.ntmps11
    have hmn : (256 < m ∧ n = 256) ∨ (¬ 256 < m ∧ n = m) := by rw [hn]; split <;> omega
    clear hn
    have B0 : Hid (Below w.heap.size w w) := Below.refl _ _
    have aI : (A : Int) ≤ 65535 := by omega
    rcases hmn with ⟨h1, h2⟩ | ⟨h1, h2⟩
    · have e256 : (256 : Int) = (n : Int) := by omega
      have h3 : (n : Int) < (m : Int) := by omega
      have HNM : Hid (n ≤ m) := by unfold Hid; omega
      clear h1 h2 n1
      go_wp2
      rw [e256]
      clear e256
      go_loopw [6, 7] (fun sv si wr => ∃ i : Nat, i ≤ n ∧ si = .int .i64 (i : Int) ∧ wr.ownsRow w.heap.size 5 1 sv (1 + 2 * i) (bsL (1 + 2 * i) jb) ∧ Below w.heap.size w wr) (fun _ si _ => n - (intOf si).toNat)
      case atStart => exact ⟨0, by omega, rfl, O1.out⟩
      case round =>
        obtain ⟨i, hi9, rfl, hR, hBr⟩ := hrel
        have HR : Hid (wr.ownsRow w.heap.size 5 1 u6 (1 + 2 * i) (bsL (1 + 2 * i) jb) ∧ Below w.heap.size w wr) := ⟨hR, hBr⟩
        clear hR hBr
        by_cases hlt : i < n
        · have iI : (i : Int) < (n : Int) := by omega
          have iM : (i : Int) < (m : Int) := by have := HNM.out; omega
          obtain ⟨bh, hbh⟩ : ∃ bh, bh = dHi (d i) := ⟨_, rfl⟩
          obtain ⟨bl, hbl⟩ : ∃ bl, bl = dLo (d i) := ⟨_, rfl⟩
          have HJN : Hid (bsL (1 + 2 * i) jb ++ [.int .u8 (bh : Int), .int .u8 (bl : Int)] = bsL (1 + 2 * i + 2) jb) := by
            have h1 := bsL_snoc jb (1 + 2 * i)
            have h2 := bsL_snoc jb (1 + 2 * i + 1)
            rw [← h1, HJB.out.1, jpB_hi, jpB_lo, ← hbh, ← hbl, List.append_assoc] at h2
            rw [HJB.out.1]; exact h2
          have HCZ : Hid (∀ W, Below w.heap.size w W → W.cell? ⟨g, o + i, none⟩ = some (.int .i64 (d i))) := fun W hB => HCD.out W hB i (by have := HNM.out; omega)
          have w1 : IntKind.u8.wrap (d i / 256) = (bh : Int) := by rw [IntKind.wrap_u8, hbh]; unfold dHi; omega
          have w2 : IntKind.u8.wrap (d i) = (bl : Int) := by rw [IntKind.wrap_u8, hbl]; unfold dLo; omega
          generalize d i = z at HCZ w1 w2
          clear hbh hbl
          go_upto_region 11 with fail
          refine wp_region_held_drew (S := fun V' => Below w.heap.size w V') (by kernel_rfl) HR.out.2.drew (fun hHeld => ?_)
          have OZ : Hid (wr.drew.ownsRow w.heap.size 5 1 u6 (1 + 2 * i) (bsL (1 + 2 * i) jb)) := HR.out.1
          generalize wr.drew = z0 at hHeld OZ ⊢
          clear HR
          refine wpAnyH_take (i := 0) (v := u6) op0 (by kernel_rfl) (by kernel_rfl) (by kernel_rfl) (fun _ _ _ h => h) (Or.inl ⟨by rfl, fun V' hS => ?_⟩) hHeld ?_
          · go_simp
          simp only [Act.put, List.setIfInBounds_toArray, List.set_cons_zero, List.set_cons_succ]
          refine wpAnyH_take (i := 1) (v := .slice (some ⟨g, o, none⟩) m cap) op1 (by kernel_rfl) (by kernel_rfl) (by kernel_rfl) (fun _ _ _ h => h) (Or.inl ⟨by rfl, fun V' hS => ?_⟩) hHeld ?_
          · go_simp
          simp only [Act.put, List.setIfInBounds_toArray, List.set_cons_zero, List.set_cons_succ]
          refine wpAnyH_take (i := 2) (v := .int .i64 (i : Int)) op2 (by kernel_rfl) (by kernel_rfl) (by kernel_rfl) (fun _ _ _ h => h) (Or.inl ⟨by rfl, fun V' hS => ?_⟩) hHeld ?_
          · go_simp
          simp only [Act.put, List.setIfInBounds_toArray, List.set_cons_zero, List.set_cons_succ]
          refine wpAnyH_take (i := 3) (v := .pointer (some ⟨g, o + i, none⟩)) op3 (by kernel_rfl) (by kernel_rfl) (by kernel_rfl) (fun _ _ _ h => h) (Or.inl ⟨by rfl, fun V' hS => ?_⟩) hHeld ?_
          · go_simp
          simp only [Act.put, List.setIfInBounds_toArray, List.set_cons_zero, List.set_cons_succ]
          refine wpAnyH_take (i := 4) (v := .int .i64 z) op4 (by kernel_rfl) (by kernel_rfl) (by kernel_rfl) (fun _ _ _ h => h) (Or.inl ⟨by rfl, fun V' hS => ?_⟩) hHeld ?_
          · have h1 := HCZ.out V' hS
            go_simp
          simp only [Act.put, List.setIfInBounds_toArray, List.set_cons_zero, List.set_cons_succ]
          refine wpAnyH_take (i := 5) (v := .int .i64 (z / 256)) op5 (by kernel_rfl) (by kernel_rfl) (by kernel_rfl) (fun _ _ _ h => h) (Or.inl ⟨by rfl, fun V' hS => ?_⟩) hHeld ?_
          · go_simp
          simp only [Act.put, List.setIfInBounds_toArray, List.set_cons_zero, List.set_cons_succ]
          refine wpAnyH_take (i := 6) (v := .int .u8 (bh : Int)) op6 (by kernel_rfl) (by kernel_rfl) (by kernel_rfl) (fun _ _ _ h => h) (Or.inl ⟨by rfl, fun V' hS => ?_⟩) hHeld ?_
          · go_simp
          simp only [Act.put, List.setIfInBounds_toArray, List.set_cons_zero, List.set_cons_succ]
          refine wpAnyH_take (i := 7) (v := .slice (some ⟨g, o, none⟩) m cap) op7 (by kernel_rfl) (by kernel_rfl) (by kernel_rfl) (fun _ _ _ h => h) (Or.inl ⟨by rfl, fun V' hS => ?_⟩) hHeld ?_
          · go_simp
          simp only [Act.put, List.setIfInBounds_toArray, List.set_cons_zero, List.set_cons_succ]
          refine wpAnyH_take (i := 8) (v := .int .i64 (i : Int)) op8 (by kernel_rfl) (by kernel_rfl) (by kernel_rfl) (fun _ _ _ h => h) (Or.inl ⟨by rfl, fun V' hS => ?_⟩) hHeld ?_
          · go_simp
          simp only [Act.put, List.setIfInBounds_toArray, List.set_cons_zero, List.set_cons_succ]
          refine wpAnyH_take (i := 9) (v := .pointer (some ⟨g, o + i, none⟩)) op9 (by kernel_rfl) (by kernel_rfl) (by kernel_rfl) (fun _ _ _ h => h) (Or.inl ⟨by rfl, fun V' hS => ?_⟩) hHeld ?_
          · go_simp
          simp only [Act.put, List.setIfInBounds_toArray, List.set_cons_zero, List.set_cons_succ]
          refine wpAnyH_take (i := 10) (v := .int .i64 z) op10 (by kernel_rfl) (by kernel_rfl) (by kernel_rfl) (fun _ _ _ h => h) (Or.inl ⟨by rfl, fun V' hS => ?_⟩) hHeld ?_
          · have h1 := HCZ.out V' hS
            go_simp
          simp only [Act.put, List.setIfInBounds_toArray, List.set_cons_zero, List.set_cons_succ]
          refine wpAnyH_take (i := 11) (v := .int .u8 (bl : Int)) op11 (by kernel_rfl) (by kernel_rfl) (by kernel_rfl) (fun _ _ _ h => h) (Or.inl ⟨by rfl, fun V' hS => ?_⟩) hHeld ?_
          · go_simp
          simp only [Act.put, List.setIfInBounds_toArray, List.set_cons_zero, List.set_cons_succ]
          refine wpAnyH_ready (rs := [12]) (by kernel_rfl) (by simp) ?_
          refine AllReadyH.cons op12 (fun K hK => ?_) AllReadyH.nil
          rw [if_pos (by rfl)]
          go_simp
          have BA : Below z0.heap.size z0 (z0.alloc (.cells #[.int .u8 (bh : Int), .int .u8 (bl : Int)] 5)) := (Below.refl _ _).alloc (Nat.le_refl _) _
          have hF2 : Below w.heap.size w (z0.alloc (.cells #[.int .u8 (bh : Int), .int .u8 (bl : Int)] 5)) := hHeld.trans (BA.mono hHeld.size)
          refine hK.out _ _ hF2 (fun _ => ?_)
          clear hK K
          (try simp only [Act.put, List.setIfInBounds_toArray, List.set_cons_zero, List.set_cons_succ])
          refine wpAnyH_ready (rs := [13]) (by kernel_rfl) (by simp) ?_
          refine AllReadyH.cons op13 (fun K hK => ?_) AllReadyH.nil
          rw [if_pos (by rfl)]
          refine wp_append_own _ _ _ 22 rfl w.heap.size 5 i0 (.int .u8 0) 1 1 Tryd.underlying22 hi hz0 hz1 hz2 rfl (by decide) _ _ _ rfl (OZ.out.alloc _) ⟨z0.heap.size, 0, none⟩ 2 2 [.int .u8 (bh : Int), .int .u8 (bl : Int)] rfl rfl (cells4_new z0 _ [.int .u8 (bh : Int), .int .u8 (bl : Int)]) (fun u hu => by simp only [List.mem_cons, List.not_mem_nil, or_false] at hu; rcases hu with rfl | rfl <;> rfl) (by unfold maxLen; omega) (by omega) (by have := hHeld.size; simp; omega) ?_
          intro v5 w5 hown5 hgrow5 _
          have F5 : Below w.heap.size w w5 := Below.grown hF2 hgrow5 hF2.size (fun q h => (OZ.out.lt q h).1)
          have O5 : Hid (w5.ownsRow w.heap.size 5 1 v5 (1 + 2 * (i + 1)) (bsL (1 + 2 * (i + 1)) jb) ∧ Below w.heap.size w w5) := ⟨by rw [HJN.out] at hown5; exact hown5, F5⟩
          clear hown5 hgrow5 hF2 BA hHeld OZ
          refine hK.out _ _ F5 (fun _ => ?_)
          clear hK K
          (try simp only [Act.put, List.setIfInBounds_toArray, List.set_cons_zero, List.set_cons_succ])
          refine wpAnyH_take (i := 14) (v := v5) op14 (by kernel_rfl) (by kernel_rfl) (by kernel_rfl) (fun _ _ _ h => h) (Or.inl ⟨by rfl, fun V' hS => ?_⟩) F5 ?_
          · go_simp
          simp only [Act.put, List.setIfInBounds_toArray, List.set_cons_zero, List.set_cons_succ]
          refine wpAnyH_done (by kernel_rfl) ?_ _
          clear F5
          obtain ⟨av, cv, rfl, hav⟩ := own_slice O5.out.1
          clear hav
          go_wp2
          go_roundw
          case rel => exact ⟨i + 1, by omega, by simp, O5.out⟩
          case measure => simp [intOf]; omega
        · obtain rfl : i = n := by omega
          obtain ⟨av, cv, rfl, hav⟩ := own_slice HR.out.1
          obtain ⟨gv, rfl⟩ := hav (by omega)
          clear hav
          obtain ⟨M, hM⟩ : ∃ M, M = 1 + 2 * i := ⟨_, rfl⟩
          rw [← hM] at HR ⊢
          have eM : 1 + 2 * (i : Int) = (M : Int) := by omega
          obtain ⟨A1, hA1⟩ : ∃ A1, A1 = A + 1 := ⟨_, rfl⟩
          obtain ⟨x3, hx3⟩ : ∃ x3, x3 = A1 + M := ⟨_, rfl⟩
          have q1 : (A : Int) + 1 = (A1 : Int) := by omega
          have q2 : (A1 : Int) + (M : Int) = (x3 : Int) := by omega
          have q3 : (x3 : Int) ≤ 100000 := by omega
          have HMM : Hid (M = 1 + 2 * i ∧ A1 = A + 1 ∧ x3 = A1 + M) := ⟨hM, hA1, hx3⟩
          have hcv := own_cap HR.out.1
          have HBY : Hid (∀ W, Below wr.heap.size wr W → BytesOf W (.slice (some ⟨gv, 0, none⟩) M cv) M jb) := fun W hB => (own_bytes (ownsRow_past HR.out.1 hB) HJB.out.2.2).1
          have jb0 : jb 0 = t := by rw [HJB.out.1]; unfold jpB; rw [if_pos rfl]; have := HJB.out.2.1; omega
          have HLV : Hid (∀ W, Below wr.heap.size wr W → Calls Tryd.prog 33 #[.agg #[.int .i64 (A : Int), .int .i64 226, .slice (some ⟨gv, 0, none⟩) M cv, .int .i64 (x3 : Int)]] W fun e w' => ∃ pl, e = .returned pl ∧ w'.ownsRow W.heap.size 3 1 pl i (tgL (x3 : Int) (fun j => jb (j + 1)) i) ∧ Below W.heap.size W w') := fun W hB => by
            have h := leads_v W ((hN.past HR.out.2).past hB) (A : Int) (x3 : Int) _ M jb (by omega) (HBY.out W hB) (fun _ _ e => by cases e; exact hcv) (by
              unfold standsV
              rw [Bool.and_eq_true, decide_eq_true_eq, jb0]
              refine ⟨⟨by omega, by omega, by omega⟩, ?_⟩
              rw [show (226 : Int).toNat = 226 from rfl, imm_jumps.2.2]
              unfold fitsB
              rw [if_pos rfl, decide_eq_true (by have := HJB.out.2.1; omega)]
              rfl)
            rw [jb0, show t + 1 = i from HJB.out.2.1.symm] at h
            exact h
          clear hM hA1 hx3 jb0
          go_upto_region 13 with fail
          have I4 : Hid (Ins4 (wr.alloc (.cells #[.int .i64 (A : Int), .int .i64 226, .slice (some ⟨gv, 0, none⟩) M cv, .int .i64 (x3 : Int)] 25)) wr.heap.size (A : Int) 226 (.slice (some ⟨gv, 0, none⟩) M cv) (x3 : Int)) := Ins4.new wr _ _ _ _ _ _
          have B4 : Hid (Below wr.heap.size wr (wr.alloc (.cells #[.int .i64 (A : Int), .int .i64 226, .slice (some ⟨gv, 0, none⟩) M cv, .int .i64 (x3 : Int)] 25)) ∧ wr.heap.size < (wr.alloc (.cells #[.int .i64 (A : Int), .int .i64 226, .slice (some ⟨gv, 0, none⟩) M cv, .int .i64 (x3 : Int)] 25)).heap.size) := ⟨(Below.refl _ wr).alloc (Nat.le_refl _) _, by simp⟩
          generalize wr.alloc (.cells #[.int .i64 (A : Int), .int .i64 226, .slice (some ⟨gv, 0, none⟩) M cv, .int .i64 (x3 : Int)] 25) = w4 at I4 B4 ⊢
          obtain ⟨c0, c1, c2, c3⟩ := I4.out
          go_upto_region 14 with (go_at_call 33; refine (HLV.out _ B4.out.1).mono ?_; rintro e w5 ⟨pl, rfl, ho, hB5⟩; (have R5 : Hid (w5.ownsRow w4.heap.size 3 1 pl i (tgL (x3 : Int) (fun j => jb (j + 1)) i) ∧ Below w4.heap.size w4 w5) := ⟨ho, hB5⟩); clear ho hB5; obtain ⟨a5, c5, rfl, ha5⟩ := own_slice R5.out.1; obtain ⟨g5, rfl⟩ := ha5 (by omega); clear ha5)
          clear c0 c1 c2 c3 HLV
          have HB5 : Hid (Below w.heap.size w w5) := HR.out.2.trans ((B4.out.1.trans (R5.out.2.mono B4.out.1.size)).mono HR.out.2.size)
          have HD : Hid (∀ W, Below w5.heap.size w5 W → ∀ q, q < i → W.cell? ⟨g, o + q, none⟩ = some (.int .i64 (d q)) ∧ W.cell? ⟨g5, q, none⟩ = some (.int .i64 ((x3 : Int) + jD (d q))) ∧ W.cell? ⟨wr.heap.size, 3, none⟩ = some (.int .i64 (x3 : Int))) := fun W hB q hq => by
            refine ⟨HCD.out W (HB5.out.trans (hB.mono HB5.out.size)) q (by have := HNM.out; omega), ?_, ((I4.out.past R5.out.2).past hB).2.2.2⟩
            rw [(ownsRow_past R5.out.1 hB).cellAt q (by omega), tgL_get _ _ _ _ hq]
            show some (Value.int .i64 ((x3 : Int) + dist16 (jb (2 * q + 1)) (jb (2 * q + 1 + 1)))) = _
            rw [show 2 * q + 1 = 1 + 2 * q by omega, HJB.out.1, jpB_hi, jpB_lo, dist_z]
            rfl
          have HL1 : Hid (∀ W, Below w5.heap.size w5 W → ∀ q, q < i → ∀ C : Int, C = 224 ∨ C = 225 → Calls Tryd.prog 33 #[.agg #[.int .i64 (A : Int), .int .i64 C, .slice (some ⟨gv, 1 + 2 * q, none⟩) 2 (cv - (1 + 2 * q)), .int .i64 ((A + 3 : Nat) : Int)]] W fun e w' => ∃ pl, e = .returned pl ∧ w'.ownsRow W.heap.size 3 1 pl 1 [.int .i64 (((A + 3 : Nat) : Int) + jD (d q))] ∧ Below W.heap.size W w') := fun W hB q hq C hC =>
            jump_one (hN.past (HB5.out.trans (hB.mono HB5.out.size))) A q i M gv cv d jb hA HJB.out.1 (by omega) HMM.out.1 hq hcv (ownsRow_past (ownsRow_past (ownsRow_past HR.out.1 B4.out.1) R5.out.2) hB) C hC
          have HMI : Hid (M = 1 + 2 * i) := HMM.out.1
          have HW5 : Hid (∀ W, Below w5.heap.size w5 W → Below w.heap.size w W) := fun W hB => HB5.out.trans (hB.mono HB5.out.size)
          clear HR I4 B4 R5 HBY HCD HJB HMM O1 B0
          generalize wr.heap.size = B8 at HD ⊢
          go_wp2
          go_loopw [10] (fun si W => ∃ q : Nat, q ≤ i ∧ si = .int .i64 (q : Int) ∧ Below w5.heap.size w5 W) (fun si _ => i - (intOf si).toNat)
          case atStart => exact ⟨0, by omega, rfl, Below.refl _ _⟩
          case round =>
            obtain ⟨q, hq9, rfl, hBq⟩ := hrel
            have BQ : Hid (Below w5.heap.size w5 wr) := hBq
            clear hBq
            by_cases hlq : q < i
            · have qI : (q : Int) < (i : Int) := by omega
              have qM : (q : Int) < (m : Int) := by have := HNM.out; omega
              obtain ⟨k1, k2, k3⟩ := HD.out wr BQ.out q hlq
              obtain ⟨z1, z2⟩ := jD_in (d q)
              obtain ⟨zu, hzu⟩ : ∃ zu, IntKind.u16.wrap (d q) = zu := ⟨_, rfl⟩
              obtain ⟨zs, hzs⟩ : ∃ zs, IntKind.i16.wrap zu = zs := ⟨_, rfl⟩
              have ezs : jD (d q) = zs := by unfold jD; rw [hzu, hzs]
              have HL2 : Hid (∀ W, Below w5.heap.size w5 W → ∀ C : Int, C = 224 ∨ C = 225 → Calls Tryd.prog 33 #[.agg #[.int .i64 (A : Int), .int .i64 C, .slice (some ⟨gv, 1 + 2 * q, none⟩) 2 (cv - (1 + 2 * q)), .int .i64 ((A + 3 : Nat) : Int)]] W fun e w' => ∃ pl, e = .returned pl ∧ w'.ownsRow W.heap.size 3 1 pl 1 [.int .i64 (((A + 3 : Nat) : Int) + zs)] ∧ Below W.heap.size W w') := fun W hB C hC => by have h := HL1.out W hB q hlq C hC; rw [ezs] at h; exact h
              rw [ezs] at k2 z1 z2
              obtain ⟨y, hy⟩ : ∃ y, (x3 : Int) + zs = y := ⟨_, rfl⟩
              rw [hy] at k2
              have HD2a : Hid (∀ W, Below w5.heap.size w5 W → W.cell? ⟨g5, q, none⟩ = some (.int .i64 y)) := fun W hB => by have h := (HD.out W hB q hlq).2.1; rw [ezs, hy] at h; exact h
              have y1 : -40000 ≤ y ∧ y ≤ 200000 := by omega
              obtain ⟨y1, y2⟩ := y1
              have wy : IntKind.i64.wrap y = y := Go.IntWalk.i64_in _ (by omega)
              generalize d q = z at k1 hzu
              clear ezs
              have HD2 : Hid (∀ W, Below w5.heap.size w5 W → W.cell? ⟨g5, q, none⟩ = some (.int .i64 y) ∧ W.cell? ⟨B8, 3, none⟩ = some (.int .i64 (x3 : Int))) := fun W hB => ⟨HD2a.out W hB, (HD.out W hB q hlq).2.2⟩
              clear HD2a
              go_upto_region 20 with fail
              refine wp_region_held_drew (S := fun V' => Below w5.heap.size w5 V') (by kernel_rfl) BQ.out.drew (fun hHeld => ?_)
              generalize wr.drew = z0 at hHeld ⊢
              refine wpAnyH_take (i := 0) (v := .slice (some ⟨g5, 0, none⟩) i c5) op0 (by kernel_rfl) (by kernel_rfl) (by kernel_rfl) (fun _ _ _ h => h) (Or.inl ⟨by rfl, fun V' hS => ?_⟩) hHeld ?_
              · go_simp
              simp only [Act.put, List.setIfInBounds_toArray, List.set_cons_zero, List.set_cons_succ]
              refine wpAnyH_take (i := 1) (v := .int .i64 (q : Int)) op1 (by kernel_rfl) (by kernel_rfl) (by kernel_rfl) (fun _ _ _ h => h) (Or.inl ⟨by rfl, fun V' hS => ?_⟩) hHeld ?_
              · go_simp
              simp only [Act.put, List.setIfInBounds_toArray, List.set_cons_zero, List.set_cons_succ]
              refine wpAnyH_take (i := 2) (v := .pointer (some ⟨g5, q, none⟩)) op2 (by kernel_rfl) (by kernel_rfl) (by kernel_rfl) (fun _ _ _ h => h) (Or.inl ⟨by rfl, fun V' hS => ?_⟩) hHeld ?_
              · go_simp
              simp only [Act.put, List.setIfInBounds_toArray, List.set_cons_zero, List.set_cons_succ]
              refine wpAnyH_take (i := 3) (v := .int .i64 y) op3 (by kernel_rfl) (by kernel_rfl) (by kernel_rfl) (fun _ _ _ h => h) (Or.inl ⟨by rfl, fun V' hS => ?_⟩) hHeld ?_
              · have h1 := (HD2.out V' hS).1
                go_simp
              simp only [Act.put, List.setIfInBounds_toArray, List.set_cons_zero, List.set_cons_succ]
              refine wpAnyH_take (i := 4) (v := .pointer (some ⟨B8, 3, none⟩)) op4 (by kernel_rfl) (by kernel_rfl) (by kernel_rfl) (fun _ _ _ h => h) (Or.inl ⟨by rfl, fun V' hS => ?_⟩) hHeld ?_
              · go_simp
              simp only [Act.put, List.setIfInBounds_toArray, List.set_cons_zero, List.set_cons_succ]
              refine wpAnyH_take (i := 5) (v := .int .i64 (x3 : Int)) op5 (by kernel_rfl) (by kernel_rfl) (by kernel_rfl) (fun _ _ _ h => h) (Or.inl ⟨by rfl, fun V' hS => ?_⟩) hHeld ?_
              · have h1 := (HD2.out V' hS).2
                go_simp
              simp only [Act.put, List.setIfInBounds_toArray, List.set_cons_zero, List.set_cons_succ]
              refine wpAnyH_take (i := 6) (v := .int .i64 zs) op6 (by kernel_rfl) (by kernel_rfl) (by kernel_rfl) (fun _ _ _ h => h) (Or.inl ⟨by rfl, fun V' hS => ?_⟩) hHeld ?_
              · go_simp
              simp only [Act.put, List.setIfInBounds_toArray, List.set_cons_zero, List.set_cons_succ]
              refine wpAnyH_take (i := 7) (v := .int .i64 y) op7 (by kernel_rfl) (by kernel_rfl) (by kernel_rfl) (fun _ _ _ h => h) (Or.inl ⟨by rfl, fun V' hS => ?_⟩) hHeld ?_
              · go_simp
              simp only [Act.put, List.setIfInBounds_toArray, List.set_cons_zero, List.set_cons_succ]
              refine wpAnyH_take (i := 8) (v := .bool false) op8 (by kernel_rfl) (by kernel_rfl) (by kernel_rfl) (fun _ _ _ h => h) (Or.inl ⟨by rfl, fun V' hS => ?_⟩) hHeld ?_
              · go_simp
              simp only [Act.put, List.setIfInBounds_toArray, List.set_cons_zero, List.set_cons_succ]
              refine wpAnyH_done (by kernel_rfl) ?_ _
              have BZ : Hid (Below w5.heap.size w5 z0) := hHeld
              clear hHeld BQ k1 k2 k3 HD2 hzu hzs
              go_wp2
              go_loopw [12] (fun sk W => ∃ k : Nat, k ≤ 2 ∧ sk = .int .i64 (k : Int) ∧ Below w5.heap.size w5 W) (fun sk _ => 2 - (intOf sk).toNat)
              case atStart => exact ⟨0, by omega, rfl, BZ.out⟩
              case round =>
                obtain ⟨k, hk9, rfl, hBk⟩ := hrel
                have BK : Hid (Below w5.heap.size w5 wr) := hBk
                clear hBk BZ
                by_cases hk2 : k < 2
                · have kI : (k : Int) < 2 := by omega
                  obtain ⟨C, hC⟩ : ∃ C : Int, (224 : Int) + (k : Int) = C := ⟨_, rfl⟩
                  have HC : Hid (C = 224 ∨ C = 225) := by unfold Hid; omega
                  have C1 : C ≤ 225 := by omega
                  have C2 : 224 ≤ C := by omega
                  obtain ⟨r0, hr0⟩ : ∃ r0, r0 = 2 * q := ⟨_, rfl⟩
                  obtain ⟨lo, hlo⟩ : ∃ lo, lo = 1 + 2 * q := ⟨_, rfl⟩
                  obtain ⟨hh, hhh⟩ : ∃ hh, hh = 3 + 2 * q := ⟨_, rfl⟩
                  obtain ⟨A3, hA3⟩ : ∃ A3, A3 = A + 3 := ⟨_, rfl⟩
                  have p0 : (2 : Int) * (q : Int) = (r0 : Int) := by omega
                  have p1 : (1 : Int) + (r0 : Int) = (lo : Int) := by omega
                  have p2 : (3 : Int) + (r0 : Int) = (hh : Int) := by omega
                  have p3 : (A : Int) + 3 = (A3 : Int) := by omega
                  have p4 : (r0 : Int) ≤ 600 := by omega
                  have p5 : (lo : Int) ≤ 600 := by omega
                  have p6 : (hh : Int) ≤ 600 := by omega
                  have p7 : (A3 : Int) ≤ 70000 := by omega
                  obtain ⟨y3, hy3⟩ : ∃ y3, (A3 : Int) + zs = y3 := ⟨_, rfl⟩
                  have y4 : -40000 ≤ y3 := by omega
                  have y5 : y3 ≤ 200000 := by omega
                  have wy3 : IntKind.i64.wrap y3 = y3 := Go.IntWalk.i64_in _ (by omega)
                  obtain ⟨ad, had, hst⟩ := slice_loB gv 0 M cv lo hh 2 (by omega) (by have := HMI.out; omega)
                  obtain rfl := had (by omega)
                  rw [Nat.zero_add] at hst
                  clear had
                  obtain ⟨ck, hck⟩ : ∃ ck, ck = cv - lo := ⟨_, rfl⟩
                  rw [← hck] at hst
                  have HL3 : Hid (∀ W, Below w5.heap.size w5 W → Calls Tryd.prog 33 #[.agg #[.int .i64 (A : Int), .int .i64 C, .slice (some ⟨gv, lo, none⟩) 2 ck, .int .i64 (A3 : Int)]] W fun e w' => ∃ pl, e = .returned pl ∧ w'.ownsRow W.heap.size 3 1 pl 1 [.int .i64 y3] ∧ Below W.heap.size W w') := fun W hB => by have h := HL2.out W hB C HC.out; rw [← hlo, ← hck, ← hA3, hy3] at h; exact h
                  clear hr0 hlo hhh hA3 hck
                  go_upto_region 26 with fail
                  have I6 : Hid (Ins4 (wr.alloc (.cells #[.int .i64 (A : Int), .int .i64 C, .slice (some ⟨gv, lo, none⟩) 2 ck, .int .i64 (A3 : Int)] 25)) wr.heap.size (A : Int) C (.slice (some ⟨gv, lo, none⟩) 2 ck) (A3 : Int)) := Ins4.new wr _ _ _ _ _ _
                  have B6 : Hid (Below w5.heap.size w5 (wr.alloc (.cells #[.int .i64 (A : Int), .int .i64 C, .slice (some ⟨gv, lo, none⟩) 2 ck, .int .i64 (A3 : Int)] 25))) := BK.out.alloc BK.out.size _
                  generalize wr.alloc (.cells #[.int .i64 (A : Int), .int .i64 C, .slice (some ⟨gv, lo, none⟩) 2 ck, .int .i64 (A3 : Int)] 25) = w6 at I6 B6 ⊢
                  generalize wr.heap.size = B9 at I6 ⊢
                  obtain ⟨c0, c1, c2, c3⟩ := I6.out
                  go_upto_region 27 with (go_at_call 33; refine (HL3.out _ B6.out).mono ?_; rintro e w7 ⟨pl, rfl, ho, hB7⟩; (have R7 : Hid (w7.ownsRow w6.heap.size 3 1 pl 1 [.int .i64 y3] ∧ Below w6.heap.size w6 w7) := ⟨ho, hB7⟩); clear ho hB7; obtain ⟨a7, c7, rfl, ha7⟩ := own_slice R7.out.1; obtain ⟨g7, rfl⟩ := ha7 (by omega); clear ha7)
                  clear c0 c1 c2 c3 HL3
                  have HD7 : Hid (∀ W, Below w7.heap.size w7 W → W.cell? ⟨g7, 0, none⟩ = some (.int .i64 y3) ∧ W.cell? ⟨B9, 3, none⟩ = some (.int .i64 (A3 : Int))) := fun W hB => ⟨(ownsRow_past R7.out.1 hB).cellAt 0 (by omega), ((I6.out.past R7.out.2).past hB).2.2.2⟩
                  have B7 : Hid (Below w5.heap.size w5 w7) := B6.out.trans (R7.out.2.mono B6.out.size)
                  clear I6 B6 R7
                  refine wp_region_held_drew (S := fun V' => Below w7.heap.size w7 V') (by kernel_rfl) (Below.refl _ w7).drew (fun hHeld => ?_)
                  generalize w7.drew = z0 at hHeld ⊢
                  refine wpAnyH_take (i := 0) (v := .slice (some ⟨g7, 0, none⟩) 1 c7) op0 (by kernel_rfl) (by kernel_rfl) (by kernel_rfl) (fun _ _ _ h => h) (Or.inl ⟨by rfl, fun V' hS => ?_⟩) hHeld ?_
                  · go_simp
                  simp only [Act.put, List.setIfInBounds_toArray, List.set_cons_zero, List.set_cons_succ]
                  refine wpAnyH_take (i := 1) (v := .int .i64 1) op1 (by kernel_rfl) (by kernel_rfl) (by kernel_rfl) (fun _ _ _ h => h) (Or.inl ⟨by rfl, fun V' hS => ?_⟩) hHeld ?_
                  · go_simp
                  simp only [Act.put, List.setIfInBounds_toArray, List.set_cons_zero, List.set_cons_succ]
                  refine wpAnyH_take (i := 2) (v := .bool false) op2 (by kernel_rfl) (by kernel_rfl) (by kernel_rfl) (fun _ _ _ h => h) (Or.inl ⟨by rfl, fun V' hS => ?_⟩) hHeld ?_
                  · go_simp
                  simp only [Act.put, List.setIfInBounds_toArray, List.set_cons_zero, List.set_cons_succ]
                  refine wpAnyH_take (i := 3) (v := .bool false) op3 (by kernel_rfl) (by kernel_rfl) (by kernel_rfl) (fun _ _ _ h => h) (Or.inl ⟨by rfl, fun V' hS => ?_⟩) hHeld ?_
                  · go_simp
                  simp only [Act.put, List.setIfInBounds_toArray, List.set_cons_zero, List.set_cons_succ]
                  refine wpAnyH_take (i := 4) (v := .slice (some ⟨g7, 0, none⟩) 1 c7) op4 (by kernel_rfl) (by kernel_rfl) (by kernel_rfl) (fun _ _ _ h => h) (Or.inl ⟨by rfl, fun V' hS => ?_⟩) hHeld ?_
                  · go_simp
                  simp only [Act.put, List.setIfInBounds_toArray, List.set_cons_zero, List.set_cons_succ]
                  refine wpAnyH_take (i := 5) (v := .pointer (some ⟨g7, 0, none⟩)) op5 (by kernel_rfl) (by kernel_rfl) (by kernel_rfl) (fun _ _ _ h => h) (Or.inl ⟨by rfl, fun V' hS => ?_⟩) hHeld ?_
                  · go_simp
                  simp only [Act.put, List.setIfInBounds_toArray, List.set_cons_zero, List.set_cons_succ]
                  refine wpAnyH_take (i := 6) (v := .int .i64 y3) op6 (by kernel_rfl) (by kernel_rfl) (by kernel_rfl) (fun _ _ _ h => h) (Or.inl ⟨by rfl, fun V' hS => ?_⟩) hHeld ?_
                  · have h1 := (HD7.out V' hS).1
                    go_simp
                  simp only [Act.put, List.setIfInBounds_toArray, List.set_cons_zero, List.set_cons_succ]
                  refine wpAnyH_take (i := 7) (v := .pointer (some ⟨B9, 3, none⟩)) op7 (by kernel_rfl) (by kernel_rfl) (by kernel_rfl) (fun _ _ _ h => h) (Or.inl ⟨by rfl, fun V' hS => ?_⟩) hHeld ?_
                  · go_simp
                  simp only [Act.put, List.setIfInBounds_toArray, List.set_cons_zero, List.set_cons_succ]
                  refine wpAnyH_take (i := 8) (v := .int .i64 (A3 : Int)) op8 (by kernel_rfl) (by kernel_rfl) (by kernel_rfl) (fun _ _ _ h => h) (Or.inl ⟨by rfl, fun V' hS => ?_⟩) hHeld ?_
                  · have h1 := (HD7.out V' hS).2
                    go_simp
                  simp only [Act.put, List.setIfInBounds_toArray, List.set_cons_zero, List.set_cons_succ]
                  refine wpAnyH_take (i := 9) (v := .int .i64 zs) op9 (by kernel_rfl) (by kernel_rfl) (by kernel_rfl) (fun _ _ _ h => h) (Or.inl ⟨by rfl, fun V' hS => ?_⟩) hHeld ?_
                  · go_simp
                  simp only [Act.put, List.setIfInBounds_toArray, List.set_cons_zero, List.set_cons_succ]
                  refine wpAnyH_take (i := 10) (v := .int .i64 y3) op10 (by kernel_rfl) (by kernel_rfl) (by kernel_rfl) (fun _ _ _ h => h) (Or.inl ⟨by rfl, fun V' hS => ?_⟩) hHeld ?_
                  · go_simp
                  simp only [Act.put, List.setIfInBounds_toArray, List.set_cons_zero, List.set_cons_succ]
                  refine wpAnyH_take (i := 11) (v := .bool false) op11 (by kernel_rfl) (by kernel_rfl) (by kernel_rfl) (fun _ _ _ h => h) (Or.inl ⟨by rfl, fun V' hS => ?_⟩) hHeld ?_
                  · go_simp
                  simp only [Act.put, List.setIfInBounds_toArray, List.set_cons_zero, List.set_cons_succ]
                  refine wpAnyH_take (i := 12) (v := .bool false) op12 (by kernel_rfl) (by kernel_rfl) (by kernel_rfl) (fun _ _ _ h => h) (Or.inl ⟨by rfl, fun V' hS => ?_⟩) hHeld ?_
                  · go_simp
                  simp only [Act.put, List.setIfInBounds_toArray, List.set_cons_zero, List.set_cons_succ]
                  refine wpAnyH_done (by kernel_rfl) ?_ _
                  have BX : Hid (Below w5.heap.size w5 z0) := B7.out.trans (hHeld.mono B7.out.size)
                  clear hHeld HD7
                  go_wp2
                  go_roundw
                  case rel => exact ⟨k + 1, by omega, by simp, BX.out⟩
                  case measure => simp [intOf]; omega
                · obtain rfl : k = 2 := by omega
                  go_wp2
                  go_roundw
                  case rel => exact ⟨q + 1, by omega, by simp, BK.out⟩
                  case measure => simp [intOf]; omega
            · obtain rfl : q = i := by omega
              have BL : Hid (Below w.heap.size w wr) := HW5.out wr BQ.out
              go_wp2_with (go_at_call 32; refine (HAW.out _ BL.out).mono ?_; rintro e w6 ⟨rfl, hB6⟩; (have B6 : Hid (Below w.heap.size w w6) := BL.out.trans (hB6.mono BL.out.size)); clear hB6)
              go_ret
              exact ⟨rfl, B6.out⟩
    · have h3 : ¬ (256 : Int) < (m : Int) := by omega
      obtain rfl : m = n := h2.symm
      have HNM : Hid (m ≤ m) := Nat.le_refl _
      clear h1 h2 n1
      go_wp2
      go_loopw [6, 7] (fun sv si wr => ∃ i : Nat, i ≤ m ∧ si = .int .i64 (i : Int) ∧ wr.ownsRow w.heap.size 5 1 sv (1 + 2 * i) (bsL (1 + 2 * i) jb) ∧ Below w.heap.size w wr) (fun _ si _ => m - (intOf si).toNat)
      case atStart => exact ⟨0, by omega, rfl, O1.out⟩
      case round =>
        obtain ⟨i, hi9, rfl, hR, hBr⟩ := hrel
        have HR : Hid (wr.ownsRow w.heap.size 5 1 u6 (1 + 2 * i) (bsL (1 + 2 * i) jb) ∧ Below w.heap.size w wr) := ⟨hR, hBr⟩
        clear hR hBr
        by_cases hlt : i < m
        · have iI : (i : Int) < (m : Int) := by omega
          have iM : (i : Int) < (m : Int) := by have := HNM.out; omega
          obtain ⟨bh, hbh⟩ : ∃ bh, bh = dHi (d i) := ⟨_, rfl⟩
          obtain ⟨bl, hbl⟩ : ∃ bl, bl = dLo (d i) := ⟨_, rfl⟩
          have HJN : Hid (bsL (1 + 2 * i) jb ++ [.int .u8 (bh : Int), .int .u8 (bl : Int)] = bsL (1 + 2 * i + 2) jb) := by
            have h1 := bsL_snoc jb (1 + 2 * i)
            have h2 := bsL_snoc jb (1 + 2 * i + 1)
            rw [← h1, HJB.out.1, jpB_hi, jpB_lo, ← hbh, ← hbl, List.append_assoc] at h2
            rw [HJB.out.1]; exact h2
          have HCZ : Hid (∀ W, Below w.heap.size w W → W.cell? ⟨g, o + i, none⟩ = some (.int .i64 (d i))) := fun W hB => HCD.out W hB i (by have := HNM.out; omega)
          have w1 : IntKind.u8.wrap (d i / 256) = (bh : Int) := by rw [IntKind.wrap_u8, hbh]; unfold dHi; omega
          have w2 : IntKind.u8.wrap (d i) = (bl : Int) := by rw [IntKind.wrap_u8, hbl]; unfold dLo; omega
          generalize d i = z at HCZ w1 w2
          clear hbh hbl
          go_upto_region 11 with fail
          refine wp_region_held_drew (S := fun V' => Below w.heap.size w V') (by kernel_rfl) HR.out.2.drew (fun hHeld => ?_)
          have OZ : Hid (wr.drew.ownsRow w.heap.size 5 1 u6 (1 + 2 * i) (bsL (1 + 2 * i) jb)) := HR.out.1
          generalize wr.drew = z0 at hHeld OZ ⊢
          clear HR
          refine wpAnyH_take (i := 0) (v := u6) op0 (by kernel_rfl) (by kernel_rfl) (by kernel_rfl) (fun _ _ _ h => h) (Or.inl ⟨by rfl, fun V' hS => ?_⟩) hHeld ?_
          · go_simp
          simp only [Act.put, List.setIfInBounds_toArray, List.set_cons_zero, List.set_cons_succ]
          refine wpAnyH_take (i := 1) (v := .slice (some ⟨g, o, none⟩) m cap) op1 (by kernel_rfl) (by kernel_rfl) (by kernel_rfl) (fun _ _ _ h => h) (Or.inl ⟨by rfl, fun V' hS => ?_⟩) hHeld ?_
          · go_simp
          simp only [Act.put, List.setIfInBounds_toArray, List.set_cons_zero, List.set_cons_succ]
          refine wpAnyH_take (i := 2) (v := .int .i64 (i : Int)) op2 (by kernel_rfl) (by kernel_rfl) (by kernel_rfl) (fun _ _ _ h => h) (Or.inl ⟨by rfl, fun V' hS => ?_⟩) hHeld ?_
          · go_simp
          simp only [Act.put, List.setIfInBounds_toArray, List.set_cons_zero, List.set_cons_succ]
          refine wpAnyH_take (i := 3) (v := .pointer (some ⟨g, o + i, none⟩)) op3 (by kernel_rfl) (by kernel_rfl) (by kernel_rfl) (fun _ _ _ h => h) (Or.inl ⟨by rfl, fun V' hS => ?_⟩) hHeld ?_
          · go_simp
          simp only [Act.put, List.setIfInBounds_toArray, List.set_cons_zero, List.set_cons_succ]
          refine wpAnyH_take (i := 4) (v := .int .i64 z) op4 (by kernel_rfl) (by kernel_rfl) (by kernel_rfl) (fun _ _ _ h => h) (Or.inl ⟨by rfl, fun V' hS => ?_⟩) hHeld ?_
          · have h1 := HCZ.out V' hS
            go_simp
          simp only [Act.put, List.setIfInBounds_toArray, List.set_cons_zero, List.set_cons_succ]
          refine wpAnyH_take (i := 5) (v := .int .i64 (z / 256)) op5 (by kernel_rfl) (by kernel_rfl) (by kernel_rfl) (fun _ _ _ h => h) (Or.inl ⟨by rfl, fun V' hS => ?_⟩) hHeld ?_
          · go_simp
          simp only [Act.put, List.setIfInBounds_toArray, List.set_cons_zero, List.set_cons_succ]
          refine wpAnyH_take (i := 6) (v := .int .u8 (bh : Int)) op6 (by kernel_rfl) (by kernel_rfl) (by kernel_rfl) (fun _ _ _ h => h) (Or.inl ⟨by rfl, fun V' hS => ?_⟩) hHeld ?_
          · go_simp
          simp only [Act.put, List.setIfInBounds_toArray, List.set_cons_zero, List.set_cons_succ]
          refine wpAnyH_take (i := 7) (v := .slice (some ⟨g, o, none⟩) m cap) op7 (by kernel_rfl) (by kernel_rfl) (by kernel_rfl) (fun _ _ _ h => h) (Or.inl ⟨by rfl, fun V' hS => ?_⟩) hHeld ?_
          · go_simp
          simp only [Act.put, List.setIfInBounds_toArray, List.set_cons_zero, List.set_cons_succ]
          refine wpAnyH_take (i := 8) (v := .int .i64 (i : Int)) op8 (by kernel_rfl) (by kernel_rfl) (by kernel_rfl) (fun _ _ _ h => h) (Or.inl ⟨by rfl, fun V' hS => ?_⟩) hHeld ?_
          · go_simp
          simp only [Act.put, List.setIfInBounds_toArray, List.set_cons_zero, List.set_cons_succ]
          refine wpAnyH_take (i := 9) (v := .pointer (some ⟨g, o + i, none⟩)) op9 (by kernel_rfl) (by kernel_rfl) (by kernel_rfl) (fun _ _ _ h => h) (Or.inl ⟨by rfl, fun V' hS => ?_⟩) hHeld ?_
          · go_simp
          simp only [Act.put, List.setIfInBounds_toArray, List.set_cons_zero, List.set_cons_succ]
          refine wpAnyH_take (i := 10) (v := .int .i64 z) op10 (by kernel_rfl) (by kernel_rfl) (by kernel_rfl) (fun _ _ _ h => h) (Or.inl ⟨by rfl, fun V' hS => ?_⟩) hHeld ?_
          · have h1 := HCZ.out V' hS
            go_simp
          simp only [Act.put, List.setIfInBounds_toArray, List.set_cons_zero, List.set_cons_succ]
          refine wpAnyH_take (i := 11) (v := .int .u8 (bl : Int)) op11 (by kernel_rfl) (by kernel_rfl) (by kernel_rfl) (fun _ _ _ h => h) (Or.inl ⟨by rfl, fun V' hS => ?_⟩) hHeld ?_
          · go_simp
          simp only [Act.put, List.setIfInBounds_toArray, List.set_cons_zero, List.set_cons_succ]
          refine wpAnyH_ready (rs := [12]) (by kernel_rfl) (by simp) ?_
          refine AllReadyH.cons op12 (fun K hK => ?_) AllReadyH.nil
          rw [if_pos (by rfl)]
          go_simp
          have BA : Below z0.heap.size z0 (z0.alloc (.cells #[.int .u8 (bh : Int), .int .u8 (bl : Int)] 5)) := (Below.refl _ _).alloc (Nat.le_refl _) _
          have hF2 : Below w.heap.size w (z0.alloc (.cells #[.int .u8 (bh : Int), .int .u8 (bl : Int)] 5)) := hHeld.trans (BA.mono hHeld.size)
          refine hK.out _ _ hF2 (fun _ => ?_)
          clear hK K
          (try simp only [Act.put, List.setIfInBounds_toArray, List.set_cons_zero, List.set_cons_succ])
          refine wpAnyH_ready (rs := [13]) (by kernel_rfl) (by simp) ?_
          refine AllReadyH.cons op13 (fun K hK => ?_) AllReadyH.nil
          rw [if_pos (by rfl)]
          refine wp_append_own _ _ _ 22 rfl w.heap.size 5 i0 (.int .u8 0) 1 1 Tryd.underlying22 hi hz0 hz1 hz2 rfl (by decide) _ _ _ rfl (OZ.out.alloc _) ⟨z0.heap.size, 0, none⟩ 2 2 [.int .u8 (bh : Int), .int .u8 (bl : Int)] rfl rfl (cells4_new z0 _ [.int .u8 (bh : Int), .int .u8 (bl : Int)]) (fun u hu => by simp only [List.mem_cons, List.not_mem_nil, or_false] at hu; rcases hu with rfl | rfl <;> rfl) (by unfold maxLen; omega) (by omega) (by have := hHeld.size; simp; omega) ?_
          intro v5 w5 hown5 hgrow5 _
          have F5 : Below w.heap.size w w5 := Below.grown hF2 hgrow5 hF2.size (fun q h => (OZ.out.lt q h).1)
          have O5 : Hid (w5.ownsRow w.heap.size 5 1 v5 (1 + 2 * (i + 1)) (bsL (1 + 2 * (i + 1)) jb) ∧ Below w.heap.size w w5) := ⟨by rw [HJN.out] at hown5; exact hown5, F5⟩
          clear hown5 hgrow5 hF2 BA hHeld OZ
          refine hK.out _ _ F5 (fun _ => ?_)
          clear hK K
          (try simp only [Act.put, List.setIfInBounds_toArray, List.set_cons_zero, List.set_cons_succ])
          refine wpAnyH_take (i := 14) (v := v5) op14 (by kernel_rfl) (by kernel_rfl) (by kernel_rfl) (fun _ _ _ h => h) (Or.inl ⟨by rfl, fun V' hS => ?_⟩) F5 ?_
          · go_simp
          simp only [Act.put, List.setIfInBounds_toArray, List.set_cons_zero, List.set_cons_succ]
          refine wpAnyH_done (by kernel_rfl) ?_ _
          clear F5
          obtain ⟨av, cv, rfl, hav⟩ := own_slice O5.out.1
          clear hav
          go_wp2
          go_roundw
          case rel => exact ⟨i + 1, by omega, by simp, O5.out⟩
          case measure => simp [intOf]; omega
        · obtain rfl : i = m := by omega
          obtain ⟨av, cv, rfl, hav⟩ := own_slice HR.out.1
          obtain ⟨gv, rfl⟩ := hav (by omega)
          clear hav
          obtain ⟨M, hM⟩ : ∃ M, M = 1 + 2 * i := ⟨_, rfl⟩
          rw [← hM] at HR ⊢
          have eM : 1 + 2 * (i : Int) = (M : Int) := by omega
          obtain ⟨A1, hA1⟩ : ∃ A1, A1 = A + 1 := ⟨_, rfl⟩
          obtain ⟨x3, hx3⟩ : ∃ x3, x3 = A1 + M := ⟨_, rfl⟩
          have q1 : (A : Int) + 1 = (A1 : Int) := by omega
          have q2 : (A1 : Int) + (M : Int) = (x3 : Int) := by omega
          have q3 : (x3 : Int) ≤ 100000 := by omega
          have HMM : Hid (M = 1 + 2 * i ∧ A1 = A + 1 ∧ x3 = A1 + M) := ⟨hM, hA1, hx3⟩
          have hcv := own_cap HR.out.1
          have HBY : Hid (∀ W, Below wr.heap.size wr W → BytesOf W (.slice (some ⟨gv, 0, none⟩) M cv) M jb) := fun W hB => (own_bytes (ownsRow_past HR.out.1 hB) HJB.out.2.2).1
          have jb0 : jb 0 = t := by rw [HJB.out.1]; unfold jpB; rw [if_pos rfl]; have := HJB.out.2.1; omega
          have HLV : Hid (∀ W, Below wr.heap.size wr W → Calls Tryd.prog 33 #[.agg #[.int .i64 (A : Int), .int .i64 226, .slice (some ⟨gv, 0, none⟩) M cv, .int .i64 (x3 : Int)]] W fun e w' => ∃ pl, e = .returned pl ∧ w'.ownsRow W.heap.size 3 1 pl i (tgL (x3 : Int) (fun j => jb (j + 1)) i) ∧ Below W.heap.size W w') := fun W hB => by
            have h := leads_v W ((hN.past HR.out.2).past hB) (A : Int) (x3 : Int) _ M jb (by omega) (HBY.out W hB) (fun _ _ e => by cases e; exact hcv) (by
              unfold standsV
              rw [Bool.and_eq_true, decide_eq_true_eq, jb0]
              refine ⟨⟨by omega, by omega, by omega⟩, ?_⟩
              rw [show (226 : Int).toNat = 226 from rfl, imm_jumps.2.2]
              unfold fitsB
              rw [if_pos rfl, decide_eq_true (by have := HJB.out.2.1; omega)]
              rfl)
            rw [jb0, show t + 1 = i from HJB.out.2.1.symm] at h
            exact h
          clear hM hA1 hx3 jb0
          go_upto_region 13 with fail
          have I4 : Hid (Ins4 (wr.alloc (.cells #[.int .i64 (A : Int), .int .i64 226, .slice (some ⟨gv, 0, none⟩) M cv, .int .i64 (x3 : Int)] 25)) wr.heap.size (A : Int) 226 (.slice (some ⟨gv, 0, none⟩) M cv) (x3 : Int)) := Ins4.new wr _ _ _ _ _ _
          have B4 : Hid (Below wr.heap.size wr (wr.alloc (.cells #[.int .i64 (A : Int), .int .i64 226, .slice (some ⟨gv, 0, none⟩) M cv, .int .i64 (x3 : Int)] 25)) ∧ wr.heap.size < (wr.alloc (.cells #[.int .i64 (A : Int), .int .i64 226, .slice (some ⟨gv, 0, none⟩) M cv, .int .i64 (x3 : Int)] 25)).heap.size) := ⟨(Below.refl _ wr).alloc (Nat.le_refl _) _, by simp⟩
          generalize wr.alloc (.cells #[.int .i64 (A : Int), .int .i64 226, .slice (some ⟨gv, 0, none⟩) M cv, .int .i64 (x3 : Int)] 25) = w4 at I4 B4 ⊢
          obtain ⟨c0, c1, c2, c3⟩ := I4.out
          go_upto_region 14 with (go_at_call 33; refine (HLV.out _ B4.out.1).mono ?_; rintro e w5 ⟨pl, rfl, ho, hB5⟩; (have R5 : Hid (w5.ownsRow w4.heap.size 3 1 pl i (tgL (x3 : Int) (fun j => jb (j + 1)) i) ∧ Below w4.heap.size w4 w5) := ⟨ho, hB5⟩); clear ho hB5; obtain ⟨a5, c5, rfl, ha5⟩ := own_slice R5.out.1; obtain ⟨g5, rfl⟩ := ha5 (by omega); clear ha5)
          clear c0 c1 c2 c3 HLV
          have HB5 : Hid (Below w.heap.size w w5) := HR.out.2.trans ((B4.out.1.trans (R5.out.2.mono B4.out.1.size)).mono HR.out.2.size)
          have HD : Hid (∀ W, Below w5.heap.size w5 W → ∀ q, q < i → W.cell? ⟨g, o + q, none⟩ = some (.int .i64 (d q)) ∧ W.cell? ⟨g5, q, none⟩ = some (.int .i64 ((x3 : Int) + jD (d q))) ∧ W.cell? ⟨wr.heap.size, 3, none⟩ = some (.int .i64 (x3 : Int))) := fun W hB q hq => by
            refine ⟨HCD.out W (HB5.out.trans (hB.mono HB5.out.size)) q (by have := HNM.out; omega), ?_, ((I4.out.past R5.out.2).past hB).2.2.2⟩
            rw [(ownsRow_past R5.out.1 hB).cellAt q (by omega), tgL_get _ _ _ _ hq]
            show some (Value.int .i64 ((x3 : Int) + dist16 (jb (2 * q + 1)) (jb (2 * q + 1 + 1)))) = _
            rw [show 2 * q + 1 = 1 + 2 * q by omega, HJB.out.1, jpB_hi, jpB_lo, dist_z]
            rfl
          have HL1 : Hid (∀ W, Below w5.heap.size w5 W → ∀ q, q < i → ∀ C : Int, C = 224 ∨ C = 225 → Calls Tryd.prog 33 #[.agg #[.int .i64 (A : Int), .int .i64 C, .slice (some ⟨gv, 1 + 2 * q, none⟩) 2 (cv - (1 + 2 * q)), .int .i64 ((A + 3 : Nat) : Int)]] W fun e w' => ∃ pl, e = .returned pl ∧ w'.ownsRow W.heap.size 3 1 pl 1 [.int .i64 (((A + 3 : Nat) : Int) + jD (d q))] ∧ Below W.heap.size W w') := fun W hB q hq C hC =>
            jump_one (hN.past (HB5.out.trans (hB.mono HB5.out.size))) A q i M gv cv d jb hA HJB.out.1 (by omega) HMM.out.1 hq hcv (ownsRow_past (ownsRow_past (ownsRow_past HR.out.1 B4.out.1) R5.out.2) hB) C hC
          have HMI : Hid (M = 1 + 2 * i) := HMM.out.1
          have HW5 : Hid (∀ W, Below w5.heap.size w5 W → Below w.heap.size w W) := fun W hB => HB5.out.trans (hB.mono HB5.out.size)
          clear HR I4 B4 R5 HBY HCD HJB HMM O1 B0
          generalize wr.heap.size = B8 at HD ⊢
          go_wp2
          go_loopw [10] (fun si W => ∃ q : Nat, q ≤ i ∧ si = .int .i64 (q : Int) ∧ Below w5.heap.size w5 W) (fun si _ => i - (intOf si).toNat)
          case atStart => exact ⟨0, by omega, rfl, Below.refl _ _⟩
          case round =>
            obtain ⟨q, hq9, rfl, hBq⟩ := hrel
            have BQ : Hid (Below w5.heap.size w5 wr) := hBq
            clear hBq
            by_cases hlq : q < i
            · have qI : (q : Int) < (i : Int) := by omega
              obtain ⟨k1, k2, k3⟩ := HD.out wr BQ.out q hlq
              obtain ⟨z1, z2⟩ := jD_in (d q)
              obtain ⟨zu, hzu⟩ : ∃ zu, IntKind.u16.wrap (d q) = zu := ⟨_, rfl⟩
              obtain ⟨zs, hzs⟩ : ∃ zs, IntKind.i16.wrap zu = zs := ⟨_, rfl⟩
              have ezs : jD (d q) = zs := by unfold jD; rw [hzu, hzs]
              have HL2 : Hid (∀ W, Below w5.heap.size w5 W → ∀ C : Int, C = 224 ∨ C = 225 → Calls Tryd.prog 33 #[.agg #[.int .i64 (A : Int), .int .i64 C, .slice (some ⟨gv, 1 + 2 * q, none⟩) 2 (cv - (1 + 2 * q)), .int .i64 ((A + 3 : Nat) : Int)]] W fun e w' => ∃ pl, e = .returned pl ∧ w'.ownsRow W.heap.size 3 1 pl 1 [.int .i64 (((A + 3 : Nat) : Int) + zs)] ∧ Below W.heap.size W w') := fun W hB C hC => by have h := HL1.out W hB q hlq C hC; rw [ezs] at h; exact h
              rw [ezs] at k2 z1 z2
              obtain ⟨y, hy⟩ : ∃ y, (x3 : Int) + zs = y := ⟨_, rfl⟩
              rw [hy] at k2
              have HD2a : Hid (∀ W, Below w5.heap.size w5 W → W.cell? ⟨g5, q, none⟩ = some (.int .i64 y)) := fun W hB => by have h := (HD.out W hB q hlq).2.1; rw [ezs, hy] at h; exact h
              have y1 : -40000 ≤ y ∧ y ≤ 200000 := by omega
              obtain ⟨y1, y2⟩ := y1
              have wy : IntKind.i64.wrap y = y := Go.IntWalk.i64_in _ (by omega)
              generalize d q = z at k1 hzu
              clear ezs
              have HD2 : Hid (∀ W, Below w5.heap.size w5 W → W.cell? ⟨g5, q, none⟩ = some (.int .i64 y) ∧ W.cell? ⟨B8, 3, none⟩ = some (.int .i64 (x3 : Int))) := fun W hB => ⟨HD2a.out W hB, (HD.out W hB q hlq).2.2⟩
              clear HD2a
              go_upto_region 20 with fail
              refine wp_region_held_drew (S := fun V' => Below w5.heap.size w5 V') (by kernel_rfl) BQ.out.drew (fun hHeld => ?_)
              generalize wr.drew = z0 at hHeld ⊢
              refine wpAnyH_take (i := 0) (v := .slice (some ⟨g5, 0, none⟩) i c5) op0 (by kernel_rfl) (by kernel_rfl) (by kernel_rfl) (fun _ _ _ h => h) (Or.inl ⟨by rfl, fun V' hS => ?_⟩) hHeld ?_
              · go_simp
              simp only [Act.put, List.setIfInBounds_toArray, List.set_cons_zero, List.set_cons_succ]
              refine wpAnyH_take (i := 1) (v := .int .i64 (q : Int)) op1 (by kernel_rfl) (by kernel_rfl) (by kernel_rfl) (fun _ _ _ h => h) (Or.inl ⟨by rfl, fun V' hS => ?_⟩) hHeld ?_
              · go_simp
              simp only [Act.put, List.setIfInBounds_toArray, List.set_cons_zero, List.set_cons_succ]
              refine wpAnyH_take (i := 2) (v := .pointer (some ⟨g5, q, none⟩)) op2 (by kernel_rfl) (by kernel_rfl) (by kernel_rfl) (fun _ _ _ h => h) (Or.inl ⟨by rfl, fun V' hS => ?_⟩) hHeld ?_
              · go_simp
              simp only [Act.put, List.setIfInBounds_toArray, List.set_cons_zero, List.set_cons_succ]
              refine wpAnyH_take (i := 3) (v := .int .i64 y) op3 (by kernel_rfl) (by kernel_rfl) (by kernel_rfl) (fun _ _ _ h => h) (Or.inl ⟨by rfl, fun V' hS => ?_⟩) hHeld ?_
              · have h1 := (HD2.out V' hS).1
                go_simp
              simp only [Act.put, List.setIfInBounds_toArray, List.set_cons_zero, List.set_cons_succ]
              refine wpAnyH_take (i := 4) (v := .pointer (some ⟨B8, 3, none⟩)) op4 (by kernel_rfl) (by kernel_rfl) (by kernel_rfl) (fun _ _ _ h => h) (Or.inl ⟨by rfl, fun V' hS => ?_⟩) hHeld ?_
              · go_simp
              simp only [Act.put, List.setIfInBounds_toArray, List.set_cons_zero, List.set_cons_succ]
              refine wpAnyH_take (i := 5) (v := .int .i64 (x3 : Int)) op5 (by kernel_rfl) (by kernel_rfl) (by kernel_rfl) (fun _ _ _ h => h) (Or.inl ⟨by rfl, fun V' hS => ?_⟩) hHeld ?_
              · have h1 := (HD2.out V' hS).2
                go_simp
              simp only [Act.put, List.setIfInBounds_toArray, List.set_cons_zero, List.set_cons_succ]
              refine wpAnyH_take (i := 6) (v := .int .i64 zs) op6 (by kernel_rfl) (by kernel_rfl) (by kernel_rfl) (fun _ _ _ h => h) (Or.inl ⟨by rfl, fun V' hS => ?_⟩) hHeld ?_
              · go_simp
              simp only [Act.put, List.setIfInBounds_toArray, List.set_cons_zero, List.set_cons_succ]
              refine wpAnyH_take (i := 7) (v := .int .i64 y) op7 (by kernel_rfl) (by kernel_rfl) (by kernel_rfl) (fun _ _ _ h => h) (Or.inl ⟨by rfl, fun V' hS => ?_⟩) hHeld ?_
              · go_simp
              simp only [Act.put, List.setIfInBounds_toArray, List.set_cons_zero, List.set_cons_succ]
              refine wpAnyH_take (i := 8) (v := .bool false) op8 (by kernel_rfl) (by kernel_rfl) (by kernel_rfl) (fun _ _ _ h => h) (Or.inl ⟨by rfl, fun V' hS => ?_⟩) hHeld ?_
              · go_simp
              simp only [Act.put, List.setIfInBounds_toArray, List.set_cons_zero, List.set_cons_succ]
              refine wpAnyH_done (by kernel_rfl) ?_ _
              have BZ : Hid (Below w5.heap.size w5 z0) := hHeld
              clear hHeld BQ k1 k2 k3 HD2 hzu hzs
              go_wp2
              go_loopw [12] (fun sk W => ∃ k : Nat, k ≤ 2 ∧ sk = .int .i64 (k : Int) ∧ Below w5.heap.size w5 W) (fun sk _ => 2 - (intOf sk).toNat)
              case atStart => exact ⟨0, by omega, rfl, BZ.out⟩
              case round =>
                obtain ⟨k, hk9, rfl, hBk⟩ := hrel
                have BK : Hid (Below w5.heap.size w5 wr) := hBk
                clear hBk BZ
                by_cases hk2 : k < 2
                · have kI : (k : Int) < 2 := by omega
                  obtain ⟨C, hC⟩ : ∃ C : Int, (224 : Int) + (k : Int) = C := ⟨_, rfl⟩
                  have HC : Hid (C = 224 ∨ C = 225) := by unfold Hid; omega
                  have C1 : C ≤ 225 := by omega
                  have C2 : 224 ≤ C := by omega
                  obtain ⟨r0, hr0⟩ : ∃ r0, r0 = 2 * q := ⟨_, rfl⟩
                  obtain ⟨lo, hlo⟩ : ∃ lo, lo = 1 + 2 * q := ⟨_, rfl⟩
                  obtain ⟨hh, hhh⟩ : ∃ hh, hh = 3 + 2 * q := ⟨_, rfl⟩
                  obtain ⟨A3, hA3⟩ : ∃ A3, A3 = A + 3 := ⟨_, rfl⟩
                  have p0 : (2 : Int) * (q : Int) = (r0 : Int) := by omega
                  have p1 : (1 : Int) + (r0 : Int) = (lo : Int) := by omega
                  have p2 : (3 : Int) + (r0 : Int) = (hh : Int) := by omega
                  have p3 : (A : Int) + 3 = (A3 : Int) := by omega
                  have p4 : (r0 : Int) ≤ 600 := by omega
                  have p5 : (lo : Int) ≤ 600 := by omega
                  have p6 : (hh : Int) ≤ 600 := by omega
                  have p7 : (A3 : Int) ≤ 70000 := by omega
                  obtain ⟨y3, hy3⟩ : ∃ y3, (A3 : Int) + zs = y3 := ⟨_, rfl⟩
                  have y4 : -40000 ≤ y3 := by omega
                  have y5 : y3 ≤ 200000 := by omega
                  have wy3 : IntKind.i64.wrap y3 = y3 := Go.IntWalk.i64_in _ (by omega)
                  obtain ⟨ad, had, hst⟩ := slice_loB gv 0 M cv lo hh 2 (by omega) (by have := HMI.out; omega)
                  obtain rfl := had (by omega)
                  rw [Nat.zero_add] at hst
                  clear had
                  obtain ⟨ck, hck⟩ : ∃ ck, ck = cv - lo := ⟨_, rfl⟩
                  rw [← hck] at hst
                  have HL3 : Hid (∀ W, Below w5.heap.size w5 W → Calls Tryd.prog 33 #[.agg #[.int .i64 (A : Int), .int .i64 C, .slice (some ⟨gv, lo, none⟩) 2 ck, .int .i64 (A3 : Int)]] W fun e w' => ∃ pl, e = .returned pl ∧ w'.ownsRow W.heap.size 3 1 pl 1 [.int .i64 y3] ∧ Below W.heap.size W w') := fun W hB => by have h := HL2.out W hB C HC.out; rw [← hlo, ← hck, ← hA3, hy3] at h; exact h
                  clear hr0 hlo hhh hA3 hck
                  go_upto_region 26 with fail
                  have I6 : Hid (Ins4 (wr.alloc (.cells #[.int .i64 (A : Int), .int .i64 C, .slice (some ⟨gv, lo, none⟩) 2 ck, .int .i64 (A3 : Int)] 25)) wr.heap.size (A : Int) C (.slice (some ⟨gv, lo, none⟩) 2 ck) (A3 : Int)) := Ins4.new wr _ _ _ _ _ _
                  have B6 : Hid (Below w5.heap.size w5 (wr.alloc (.cells #[.int .i64 (A : Int), .int .i64 C, .slice (some ⟨gv, lo, none⟩) 2 ck, .int .i64 (A3 : Int)] 25))) := BK.out.alloc BK.out.size _
                  generalize wr.alloc (.cells #[.int .i64 (A : Int), .int .i64 C, .slice (some ⟨gv, lo, none⟩) 2 ck, .int .i64 (A3 : Int)] 25) = w6 at I6 B6 ⊢
                  generalize wr.heap.size = B9 at I6 ⊢
                  obtain ⟨c0, c1, c2, c3⟩ := I6.out
                  go_upto_region 27 with (go_at_call 33; refine (HL3.out _ B6.out).mono ?_; rintro e w7 ⟨pl, rfl, ho, hB7⟩; (have R7 : Hid (w7.ownsRow w6.heap.size 3 1 pl 1 [.int .i64 y3] ∧ Below w6.heap.size w6 w7) := ⟨ho, hB7⟩); clear ho hB7; obtain ⟨a7, c7, rfl, ha7⟩ := own_slice R7.out.1; obtain ⟨g7, rfl⟩ := ha7 (by omega); clear ha7)
                  clear c0 c1 c2 c3 HL3
                  have HD7 : Hid (∀ W, Below w7.heap.size w7 W → W.cell? ⟨g7, 0, none⟩ = some (.int .i64 y3) ∧ W.cell? ⟨B9, 3, none⟩ = some (.int .i64 (A3 : Int))) := fun W hB => ⟨(ownsRow_past R7.out.1 hB).cellAt 0 (by omega), ((I6.out.past R7.out.2).past hB).2.2.2⟩
                  have B7 : Hid (Below w5.heap.size w5 w7) := B6.out.trans (R7.out.2.mono B6.out.size)
                  clear I6 B6 R7
                  refine wp_region_held_drew (S := fun V' => Below w7.heap.size w7 V') (by kernel_rfl) (Below.refl _ w7).drew (fun hHeld => ?_)
                  generalize w7.drew = z0 at hHeld ⊢
                  refine wpAnyH_take (i := 0) (v := .slice (some ⟨g7, 0, none⟩) 1 c7) op0 (by kernel_rfl) (by kernel_rfl) (by kernel_rfl) (fun _ _ _ h => h) (Or.inl ⟨by rfl, fun V' hS => ?_⟩) hHeld ?_
                  · go_simp
                  simp only [Act.put, List.setIfInBounds_toArray, List.set_cons_zero, List.set_cons_succ]
                  refine wpAnyH_take (i := 1) (v := .int .i64 1) op1 (by kernel_rfl) (by kernel_rfl) (by kernel_rfl) (fun _ _ _ h => h) (Or.inl ⟨by rfl, fun V' hS => ?_⟩) hHeld ?_
                  · go_simp
                  simp only [Act.put, List.setIfInBounds_toArray, List.set_cons_zero, List.set_cons_succ]
                  refine wpAnyH_take (i := 2) (v := .bool false) op2 (by kernel_rfl) (by kernel_rfl) (by kernel_rfl) (fun _ _ _ h => h) (Or.inl ⟨by rfl, fun V' hS => ?_⟩) hHeld ?_
                  · go_simp
                  simp only [Act.put, List.setIfInBounds_toArray, List.set_cons_zero, List.set_cons_succ]
                  refine wpAnyH_take (i := 3) (v := .bool false) op3 (by kernel_rfl) (by kernel_rfl) (by kernel_rfl) (fun _ _ _ h => h) (Or.inl ⟨by rfl, fun V' hS => ?_⟩) hHeld ?_
                  · go_simp
                  simp only [Act.put, List.setIfInBounds_toArray, List.set_cons_zero, List.set_cons_succ]
                  refine wpAnyH_take (i := 4) (v := .slice (some ⟨g7, 0, none⟩) 1 c7) op4 (by kernel_rfl) (by kernel_rfl) (by kernel_rfl) (fun _ _ _ h => h) (Or.inl ⟨by rfl, fun V' hS => ?_⟩) hHeld ?_
                  · go_simp
                  simp only [Act.put, List.setIfInBounds_toArray, List.set_cons_zero, List.set_cons_succ]
                  refine wpAnyH_take (i := 5) (v := .pointer (some ⟨g7, 0, none⟩)) op5 (by kernel_rfl) (by kernel_rfl) (by kernel_rfl) (fun _ _ _ h => h) (Or.inl ⟨by rfl, fun V' hS => ?_⟩) hHeld ?_
                  · go_simp
                  simp only [Act.put, List.setIfInBounds_toArray, List.set_cons_zero, List.set_cons_succ]
                  refine wpAnyH_take (i := 6) (v := .int .i64 y3) op6 (by kernel_rfl) (by kernel_rfl) (by kernel_rfl) (fun _ _ _ h => h) (Or.inl ⟨by rfl, fun V' hS => ?_⟩) hHeld ?_
                  · have h1 := (HD7.out V' hS).1
                    go_simp
                  simp only [Act.put, List.setIfInBounds_toArray, List.set_cons_zero, List.set_cons_succ]
                  refine wpAnyH_take (i := 7) (v := .pointer (some ⟨B9, 3, none⟩)) op7 (by kernel_rfl) (by kernel_rfl) (by kernel_rfl) (fun _ _ _ h => h) (Or.inl ⟨by rfl, fun V' hS => ?_⟩) hHeld ?_
                  · go_simp
                  simp only [Act.put, List.setIfInBounds_toArray, List.set_cons_zero, List.set_cons_succ]
                  refine wpAnyH_take (i := 8) (v := .int .i64 (A3 : Int)) op8 (by kernel_rfl) (by kernel_rfl) (by kernel_rfl) (fun _ _ _ h => h) (Or.inl ⟨by rfl, fun V' hS => ?_⟩) hHeld ?_
                  · have h1 := (HD7.out V' hS).2
                    go_simp
                  simp only [Act.put, List.setIfInBounds_toArray, List.set_cons_zero, List.set_cons_succ]
                  refine wpAnyH_take (i := 9) (v := .int .i64 zs) op9 (by kernel_rfl) (by kernel_rfl) (by kernel_rfl) (fun _ _ _ h => h) (Or.inl ⟨by rfl, fun V' hS => ?_⟩) hHeld ?_
                  · go_simp
                  simp only [Act.put, List.setIfInBounds_toArray, List.set_cons_zero, List.set_cons_succ]
                  refine wpAnyH_take (i := 10) (v := .int .i64 y3) op10 (by kernel_rfl) (by kernel_rfl) (by kernel_rfl) (fun _ _ _ h => h) (Or.inl ⟨by rfl, fun V' hS => ?_⟩) hHeld ?_
                  · go_simp
                  simp only [Act.put, List.setIfInBounds_toArray, List.set_cons_zero, List.set_cons_succ]
                  refine wpAnyH_take (i := 11) (v := .bool false) op11 (by kernel_rfl) (by kernel_rfl) (by kernel_rfl) (fun _ _ _ h => h) (Or.inl ⟨by rfl, fun V' hS => ?_⟩) hHeld ?_
                  · go_simp
                  simp only [Act.put, List.setIfInBounds_toArray, List.set_cons_zero, List.set_cons_succ]
                  refine wpAnyH_take (i := 12) (v := .bool false) op12 (by kernel_rfl) (by kernel_rfl) (by kernel_rfl) (fun _ _ _ h => h) (Or.inl ⟨by rfl, fun V' hS => ?_⟩) hHeld ?_
                  · go_simp
                  simp only [Act.put, List.setIfInBounds_toArray, List.set_cons_zero, List.set_cons_succ]
                  refine wpAnyH_done (by kernel_rfl) ?_ _
                  have BX : Hid (Below w5.heap.size w5 z0) := B7.out.trans (hHeld.mono B7.out.size)
                  clear hHeld HD7
                  go_wp2
                  go_roundw
                  case rel => exact ⟨k + 1, by omega, by simp, BX.out⟩
                  case measure => simp [intOf]; omega
                · obtain rfl : k = 2 := by omega
                  go_wp2
                  go_roundw
                  case rel => exact ⟨q + 1, by omega, by simp, BK.out⟩
                  case measure => simp [intOf]; omega
            · obtain rfl : q = i := by omega
              have BL : Hid (Below w.heap.size w wr) := HW5.out wr BQ.out
              go_wp2_with (go_at_call 32; refine (HAW.out _ BL.out).mono ?_; rintro e w6 ⟨rfl, hB6⟩; (have B6 : Hid (Below w.heap.size w w6) := BL.out.trans (hB6.mono BL.out.size)); clear hB6)
              go_ret
              exact ⟨rfl, B6.out⟩
end Go.Proofs.YtbhldmfnhlifpaaDoor
