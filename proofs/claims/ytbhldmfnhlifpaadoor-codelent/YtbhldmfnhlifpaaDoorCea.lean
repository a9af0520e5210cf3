/- CodeWhole. -/
import Derived.Test.YtbhldmfnhlifpaaDoorCdm
import Derived.Test.YtbhldmfnhlifpaaDoorOpy
namespace Go.Proofs.YtbhldmfnhlifpaaDoor
open Go.RowKit
set_option maxRecDepth 2000 in
theorem sc_ok {b : Nat → Nat} {L k : Nat} (h : scE b L k = 0) (hF : FullA b L k) : L ≠ 0 ∧ posA b k = L ∧ k ≠ 0 ∧ endsV (b (posA b (k - 1)) : Int) = true := by
  unfold scE at h
  by_cases h0 : L = 0
  · rw [if_pos h0] at h; exact absurd h (by decide)
  · rw [if_neg h0] at h
    by_cases h1 : posA b k < L
    · rw [if_pos h1] at h
      unfold errA at h
      rw [if_neg (by omega)] at h
      split at h
      · exact absurd h (by decide)
      · exact absurd h (by decide)
    · rw [if_neg h1] at h
      have hle := hF.1.le_len
      refine ⟨h0, by omega, fun e => ?_, ?_⟩
      · subst e; exact h1 (by show 0 < L; omega)
      · by_cases he : endsV (b (posA b (k - 1)) : Int) = true
        · exact he
        · rw [if_neg he] at h; exact absurd h (by decide)
/-- the j-th instruction that Scan told, as it lies in memory -/
theorem row_at {W : World} {n0 : Nat} {b : Nat → Nat} {k g cap : Nat} {xs : List (Nat × Nat × Nat)} (hl : xs.length = k) (hx : FitA b xs) (hr : W.ownsRow n0 25 4 (.slice (some ⟨g, 0, none⟩) k cap) k (insL b xs)) (hq : InsQ n0 b xs W) (j : Nat) (hj : j < k) :
    ∃ q, W.cell? ⟨g, j * 4, none⟩ = some (.int .i64 (posA b j : Int)) ∧ W.cell? ⟨g, j * 4 + 1, none⟩ = some (.int .i64 (b (posA b j) : Int)) ∧ W.cell? ⟨g, j * 4 + 2, none⟩ = some (.slice (some ⟨q, 0, none⟩) (immA b (posA b j)) (immA b (posA b j))) ∧ W.cell? ⟨g, j * 4 + 3, none⟩ = some (.int .i64 (posA b (j + 1) : Int)) ∧ n0 ≤ q ∧ InsB W q (immA b (posA b j)) (fun i => b (posA b j + 1 + i)) := by
  have hx2 : xs[j]? = some xs[j] := List.getElem?_eq_getElem (by omega)
  have e := hx.get hx2
  have hm := hq.2 xs[j] (List.getElem_mem _)
  have key : ∀ i, i < 4 → W.cell? ⟨g, j * 4 + i, none⟩ = (insC b xs[j])[i]? := fun i hi => by
    rw [hr.cellAt (j * 4 + i) (by omega), Nat.mul_comm j 4]; exact insL_get b xs j i _ hx2 hi
  refine ⟨xs[j].2.1, ?_, ?_, ?_, ?_, hm.1, ?_⟩
  · have := key 0 (by omega); rw [Nat.add_zero] at this; rw [this]; simp only [insC, List.getElem?_cons_zero, e]
  · rw [key 1 (by omega)]; simp only [insC, List.getElem?_cons_zero, List.getElem?_cons_succ, e]
  · rw [key 2 (by omega)]; simp only [insC, List.getElem?_cons_zero, List.getElem?_cons_succ, e]
  · rw [key 3 (by omega)]; simp only [insC, List.getElem?_cons_zero, List.getElem?_cons_succ, e, posA]
  · have h2 := hm.2; rw [e] at h2; exact h2
theorem bsL_join (b : Nat → Nat) (A n : Nat) : bsL A b ++ [.int .u8 (b A : Int)] ++ bsL n (fun i => b (A + 1 + i)) = bsL (A + 1 + n) b := by
  apply List.ext_getElem?
  intro i
  by_cases h1 : i < A
  · rw [List.getElem?_append_left (by simp [bsL_len]; omega), List.getElem?_append_left (by rw [bsL_len]; exact h1), bsL_get A b i h1, bsL_get _ b i (by omega)]
  · by_cases h2 : i = A
    · subst h2
      rw [List.getElem?_append_left (by simp [bsL_len]), List.getElem?_append_right (by simp [bsL_len]), bsL_get _ b i (by omega)]
      simp [bsL_len]
    · rw [List.getElem?_append_right (by simp [bsL_len]; omega)]
      by_cases h3 : i < A + 1 + n
      · rw [bsL_get _ b i h3, bsL_get n _ _ (by simp [bsL_len]; omega)]
        simp only [List.length_append, bsL_len, List.length_singleton]
        rw [show A + 1 + (i - (A + 1)) = i by omega]
      · rw [List.getElem?_eq_none (by simp [bsL_len]; omega), List.getElem?_eq_none (by simp [bsL_len]; omega)]
/-- the text that bytes are -/
def txB (m : Nat) (b : Nat → Nat) : ByteArray := ((List.range m).map fun i => (b i : Int)).foldl (fun r m => r.push (UInt8.ofNat m.toNat)) ByteArray.empty
theorem conv_by (W : World) (v : Value) (m : Nat) (b : Nat → Nat) (h : BytesOf W v m b) : (convert 22 9 v).run Tryd.prog W = .ok (.string (txB m b)) W := by
  obtain ⟨ad, cap, rfl, hb, hnil, hc⟩ := h
  rw [run_convert_bytes_string W _ _ _ _ _ _ Tryd.underlying22 Tryd.underlying5 Tryd.underlying9]
  rcases ad with _ | ad
  · obtain ⟨rfl, rfl⟩ := hnil rfl
    simp [Conv.bytesToString, txB]
  · have hl : (loadCells ad m).run Tryd.prog W = .ok (((List.range m).map fun i => (b i : Int)).map (Value.int .u8)).toArray W := by
      have hh := run_loadCells_list (P := Tryd.prog) W ad (((List.range m).map fun i => (b i : Int)).map (Value.int .u8)) (fun j v hv => by
        have hj : j < m := by have := (List.getElem?_eq_some_iff.1 hv).1; simpa using this
        obtain ⟨g, o, e, hc2⟩ := hc (by omega)
        obtain rfl := Option.some.inj e
        rw [Addr.add_mid, hc2 j hj]
        simp [hj] at hv
        rw [← hv])
      simpa using hh
    rw [run_bytesToString W ad m cap _ hl]
    rfl
set_option maxHeartbeats 4000000 in
set_option maxRecDepth 100000 in
theorem codeWhole_walk (w : World) (hN : Nms w) (v : Value) (L : Nat) (b : Nat → Nat) (hL : L ≤ 9223372036854775807) (hv : BytesOf w v L b) (hcp : ∀ ad cap, v = .slice ad L cap → L ≤ cap) : Calls Tryd.prog 7 #[v] w fun e w' => e = .returned (.bool true) ∧ Below w.heap.size w w' := by
  obtain ⟨i0, hi, hz0, hz1, hz2⟩ := info_parts infoB8
  have HB : Hid (∀ j, b j < 256) := by obtain ⟨_, _, _, h, _⟩ := hv; exact h
  have HCU : Hid (Calls Tryd.prog 46 #[v] w fun e w' => ∃ v', e = .returned v' ∧ w'.ownsRow w.heap.size 5 1 v' (cutN L) (bsL (cutN L) b) ∧ Below w.heap.size w w') := cut_is w v L b hL hv hcp
  have hm := (cutN_le L).2
  generalize cutN L = m at HCU hm
  have HAW : Hid (∀ W, Below w.heap.size w W → Calls Tryd.prog 32 #[] W fun e w' => e = .returned (.bool true) ∧ Below W.heap.size W w') := fun W hB => awake_is W (hN.past hB)
  clear hv hcp
  go_enter Tryd.func7, Tryd.ntmps7
  go_upto_region 3 with (first
    | (go_at_call 46; refine HCU.out.mono ?_; rintro e w1 ⟨v1, rfl, ho1, hB1⟩; (have OB1 : Hid (w1.ownsRow w.heap.size 5 1 v1 m (bsL m b) ∧ Below w.heap.size w w1) := ⟨ho1, hB1⟩); clear ho1 hB1 HCU)
    | (go_at_call 39; refine (scan_is w1 v1 m b (hN.past OB1.out.2) (own_bytes OB1.out.1 HB.out).1 (own_bytes OB1.out.1 HB.out).2 (by omega)).mono ?_; rintro e w2 ⟨k, fv, hFu, rfl, hB2, hno, hyes⟩))
  have B2 : Hid (Below w.heap.size w w2) := OB1.out.2.trans (hB2.mono OB1.out.2.size)
  have OB2 : Hid (w2.ownsRow w.heap.size 5 1 v1 m (bsL m b)) := ownsRow_past OB1.out.1 hB2
  clear hB2 OB1
  by_cases hE : scE b m k = 0
  · obtain ⟨hm0, hpm, hk0, hen⟩ := sc_ok hE hFu
    obtain ⟨xs, xl, xf, xr, xq⟩ := hyes hE
    rw [hE]
    clear hno hyes hE
    generalize scP b m k = sp
    obtain ⟨g, cap, rfl⟩ : ∃ g cap, fv = .slice (some ⟨g, 0, none⟩) k cap := by
      obtain ⟨k', rfl⟩ : ∃ k', k = k' + 1 := ⟨k - 1, by omega⟩
      exact ownsRow_succ xr
    have kI : ((k : Int) == 0) = false := by rw [beq_eq_false_iff_ne]; omega
    have km : k ≤ m := hFu.1.count
    have kM : (k : Int) ≤ 70000 := by omega
    have HX : Hid (xs.length = k ∧ FitA b xs ∧ w2.ownsRow w1.heap.size 25 4 (.slice (some ⟨g, 0, none⟩) k cap) k (insL b xs) ∧ InsQ w1.heap.size b xs w2) := ⟨xl, xf, xr, xq⟩
    have HP : Hid (FullA b m k ∧ posA b k = m ∧ k ≠ 0 ∧ endsV (b (posA b (k - 1)) : Int) = true) := ⟨hFu, hpm, hk0, hen⟩
    clear xl xf xr xq hFu hpm hen hk0
    go_wp2
    go_loopw [6, 7, 8] (fun sa sp si wr => ∃ j : Nat, j ≤ k ∧ si = .int .i64 (j : Int) ∧ sa = .int .i64 (posA b j : Int) ∧ wr.ownsRow w2.heap.size 5 1 sp (posA b j) (bsL (posA b j) b) ∧ Below w2.heap.size w2 wr) (fun _ _ si _ => k - (intOf si).toNat)
    case atStart => exact ⟨0, by omega, rfl, rfl, World.ownsRow_nil _ _ _ _, Below.refl _ _⟩
    case round =>
      obtain ⟨j, hj, rfl, rfl, hR, hBr⟩ := hrel
      by_cases hlt : j < k
      · have jI : (j : Int) < (k : Int) := by omega
        obtain ⟨q, r0, r1, r2, r3, rq, rI⟩ := row_at HX.out.1 HX.out.2.1 HX.out.2.2.1 HX.out.2.2.2 j hlt
        have gl := World.block_lt_of_cell? w2 _ r0
        have okj := HP.out.1.1 j hlt
        obtain ⟨ok1, ok2, ok3⟩ := okA_parts okj
        have bA := HB.out (posA b j)
        have HO : Hid (∀ W : World, Below w2.heap.size w2 W → Calls Tryd.prog 47 #[.int .i64 (b (posA b j) : Int)] W fun e w' => e = .returned (.tuple #[opv (b (posA b j)), .bool true]) ∧ Below W.heap.size W w') := fun W hB => by
          have := of_any (b (posA b j) : Int) W ((hN.past B2.out).past hB); rw [(ofB (b (posA b j)) bA ok2).1, (ofB (b (posA b j)) bA ok2).2] at this; exact this
        have HM : Hid (immT (b (posA b j)) = -1 ∨ immT (b (posA b j)) = (immA b (posA b j) : Int)) := by
          have := of_decide_eq_true (imm_range ⟨b (posA b j), bA⟩)
          dsimp only at this
          unfold Hid immA immN
          by_cases e : immT (b (posA b j)) = -1
          · exact Or.inl e
          · rw [if_neg e]; right; omega
        have HJ : Hid (posA b (j + 1) = posA b j + 1 + immA b (posA b j) ∧ bsL (posA b j) b ++ [.int .u8 (b (posA b j) : Int)] ++ bsL (immA b (posA b j)) (fun i => b (posA b j + 1 + i)) = bsL (posA b (j + 1)) b ∧ posA b (j + 1) ≤ m) := ⟨rfl, bsL_join b _ _, ok3⟩
        have HR : Hid (wr.ownsRow w2.heap.size 5 1 u7 (posA b j) (bsL (posA b j) b) ∧ Below w2.heap.size w2 wr) := ⟨hR, hBr⟩
        have RC : Hid (∀ W : World, Below w2.heap.size w2 W → W.cell? ⟨g, j * 4, none⟩ = some (.int .i64 (posA b j : Int)) ∧ W.cell? ⟨g, j * 4 + 1, none⟩ = some (.int .i64 (b (posA b j) : Int)) ∧ W.cell? ⟨g, j * 4 + 2, none⟩ = some (.slice (some ⟨q, 0, none⟩) (immA b (posA b j)) (immA b (posA b j))) ∧ W.cell? ⟨g, j * 4 + 3, none⟩ = some (.int .i64 (posA b (j + 1) : Int)) ∧ InsB W q (immA b (posA b j)) (fun i => b (posA b j + 1 + i))) := fun W hB =>
          ⟨(hB.cell (p := ⟨g, j * 4, none⟩) gl).trans r0, (hB.cell (p := ⟨g, j * 4 + 1, none⟩) gl).trans r1, (hB.cell (p := ⟨g, j * 4 + 2, none⟩) gl).trans r2, (hB.cell (p := ⟨g, j * 4 + 3, none⟩) gl).trans r3, rI.past hB⟩
        clear r0 r1 r2 r3 rI okj ok2 ok3 hR
        unfold opv at HO
        generalize (fun i => b (posA b j + 1 + i)) = bi at RC HJ
        generalize hA1 : posA b (j + 1) = A1 at RC HJ
        have HA1 : Hid (posA b (j + 1) = A1) := hA1
        clear hA1
        generalize immA b (posA b j) = n at HM RC HJ
        generalize b (posA b j) = c at HO HM RC HJ bA
        generalize posA b j = A at HR RC HJ ok1 ⊢
        generalize nameT c = s at HO
        generalize immT c = i1 at HO HM
        generalize inT c = i2 at HO
        generalize outT c = i3 at HO
        generalize gasT c = i4 at HO
        generalize endsT c = b5 at HO
        have cI : (c : Int) < 256 := by omega
        have nI : n ≤ 70000 := by have := HJ.out.1; have := HJ.out.2.2; omega
        obtain ⟨d0, d1, d2, d3, dI⟩ := RC.out wr hBr
        clear dI
        go_upto_region 13 with (go_at_call 47; refine (HO.out _ HR.out.2).mono ?_; rintro e w3 ⟨rfl, hB3⟩; (have B3 : Hid (Below wr.heap.size wr w3) := hB3); clear hB3 d0 d1 d2 d3)
        have B4 : Hid (Below wr.heap.size wr (w3.alloc (.cells #[.int .i64 (c : Int), .string s, .int .i64 i1, .int .i64 i2, .int .i64 i3, .int .i64 i4, .bool b5] 55))) := B3.out.alloc B3.out.size _
        have O4 : Op7 (w3.alloc (.cells #[.int .i64 (c : Int), .string s, .int .i64 i1, .int .i64 i2, .int .i64 i3, .int .i64 i4, .bool b5] 55)) w3.heap.size (c : Int) s i1 i2 i3 i4 b5 := Op7.new w3 _ s i1 i2 i3 i4 b5
        generalize w3.alloc (.cells #[.int .i64 (c : Int), .string s, .int .i64 i1, .int .i64 i2, .int .i64 i3, .int .i64 i4, .bool b5] 55) = w4 at B4 O4 ⊢
        generalize w3.heap.size = q6 at O4 ⊢
        have B5 : Hid (Below w2.heap.size w2 w4) := hBr.trans (B4.out.mono hBr.size)
        obtain ⟨d0, d1, d2, d3, dI⟩ := RC.out w4 B5.out
        obtain ⟨o0, o1, o2, oR⟩ := O4
        clear dI oR
        have nI2 : (n : Int) ≤ 70000 := by omega
        have B6 : Hid (Below wr.heap.size wr w4 ∧ Below w2.heap.size w2 w4) := ⟨B4.out, B5.out⟩
        rcases HM.out with rfl | rfl
        · have hq : ((-1 : Int) == (n : Int)) = false := by rw [beq_eq_false_iff_ne]; omega
          refine wp_region_held_drew (S := fun V' => V'.cell? ⟨g, j * 4, none⟩ = some (.int .i64 (A : Int)) ∧ V'.cell? ⟨g, j * 4 + 2, none⟩ = some (.slice (some ⟨q, 0, none⟩) n n) ∧ V'.cell? ⟨q6, 2, none⟩ = some (.int .i64 (-1)) ∧ Below wr.heap.size wr V' ∧ Below w2.heap.size w2 V') (by kernel_rfl) ⟨d0, d2, o2, B6.out.1.drew, B6.out.2.drew⟩ (fun hHeld => ?_)
          generalize w4.drew = z0 at hHeld ⊢
          clear d0 d1 d2 d3 o0 o1 o2 B4 B5 B6
          refine wpAnyH_take (i := 0) (v := .slice (some ⟨g, 0, none⟩) k cap) op0 (by kernel_rfl) (by kernel_rfl) (by kernel_rfl) (fun _ _ _ h => h) (Or.inl ⟨by rfl, fun V' hS => ?_⟩) hHeld ?_
          · go_simp
          simp only [Act.put, List.setIfInBounds_toArray, List.set_cons_zero, List.set_cons_succ]
          refine wpAnyH_take (i := 1) (v := .int .i64 (j : Int)) op1 (by kernel_rfl) (by kernel_rfl) (by kernel_rfl) (fun _ _ _ h => h) (Or.inl ⟨by rfl, fun V' hS => ?_⟩) hHeld ?_
          · go_simp
          simp only [Act.put, List.setIfInBounds_toArray, List.set_cons_zero, List.set_cons_succ]
          refine wpAnyH_take (i := 2) (v := .pointer (some ⟨g, j * 4, none⟩)) op2 (by kernel_rfl) (by kernel_rfl) (by kernel_rfl) (fun _ _ _ h => h) (Or.inl ⟨by rfl, fun V' hS => ?_⟩) hHeld ?_
          · go_simp
          simp only [Act.put, List.setIfInBounds_toArray, List.set_cons_zero, List.set_cons_succ]
          refine wpAnyH_take (i := 3) (v := .pointer (some ⟨g, j * 4, none⟩)) op3 (by kernel_rfl) (by kernel_rfl) (by kernel_rfl) (fun _ _ _ h => h) (Or.inl ⟨by rfl, fun V' hS => ?_⟩) hHeld ?_
          · go_simp
          simp only [Act.put, List.setIfInBounds_toArray, List.set_cons_zero, List.set_cons_succ]
          refine wpAnyH_take (i := 4) (v := .int .i64 (A : Int)) op4 (by kernel_rfl) (by kernel_rfl) (by kernel_rfl) (fun _ _ _ h => h) (Or.inl ⟨by rfl, fun V' hS => ?_⟩) hHeld ?_
          · have h1 := hS.1
            go_simp
          simp only [Act.put, List.setIfInBounds_toArray, List.set_cons_zero, List.set_cons_succ]
          refine wpAnyH_take (i := 5) (v := .int .i64 (A : Int)) op5 (by kernel_rfl) (by kernel_rfl) (by kernel_rfl) (fun _ _ _ h => h) (Or.inl ⟨by rfl, fun V' hS => ?_⟩) hHeld ?_
          · go_simp
          simp only [Act.put, List.setIfInBounds_toArray, List.set_cons_zero, List.set_cons_succ]
          refine wpAnyH_take (i := 6) (v := .bool false) op6 (by kernel_rfl) (by kernel_rfl) (by kernel_rfl) (fun _ _ _ h => h) (Or.inl ⟨by rfl, fun V' hS => ?_⟩) hHeld ?_
          · go_simp
          simp only [Act.put, List.setIfInBounds_toArray, List.set_cons_zero, List.set_cons_succ]
          refine wpAnyH_take (i := 7) (v := .bool false) op7 (by kernel_rfl) (by kernel_rfl) (by kernel_rfl) (fun _ _ _ h => h) (Or.inl ⟨by rfl, fun V' hS => ?_⟩) hHeld ?_
          · go_simp
          simp only [Act.put, List.setIfInBounds_toArray, List.set_cons_zero, List.set_cons_succ]
          refine wpAnyH_take (i := 8) (v := .bool true) op8 (by kernel_rfl) (by kernel_rfl) (by kernel_rfl) (fun _ _ _ h => h) (Or.inl ⟨by rfl, fun V' hS => ?_⟩) hHeld ?_
          · go_simp
          simp only [Act.put, List.setIfInBounds_toArray, List.set_cons_zero, List.set_cons_succ]
          refine wpAnyH_take (i := 9) (v := .bool false) op9 (by kernel_rfl) (by kernel_rfl) (by kernel_rfl) (fun _ _ _ h => h) (Or.inl ⟨by rfl, fun V' hS => ?_⟩) hHeld ?_
          · go_simp
          simp only [Act.put, List.setIfInBounds_toArray, List.set_cons_zero, List.set_cons_succ]
          refine wpAnyH_take (i := 10) (v := .bool false) op10 (by kernel_rfl) (by kernel_rfl) (by kernel_rfl) (fun _ _ _ h => h) (Or.inl ⟨by rfl, fun V' hS => ?_⟩) hHeld ?_
          · go_simp
          simp only [Act.put, List.setIfInBounds_toArray, List.set_cons_zero, List.set_cons_succ]
          refine wpAnyH_take (i := 11) (v := .bool false) op11 (by kernel_rfl) (by kernel_rfl) (by kernel_rfl) (fun _ _ _ h => h) (Or.inl ⟨by rfl, fun V' hS => ?_⟩) hHeld ?_
          · go_simp
          simp only [Act.put, List.setIfInBounds_toArray, List.set_cons_zero, List.set_cons_succ]
          refine wpAnyH_take (i := 12) (v := .pointer (some ⟨q6, 2, none⟩)) op12 (by kernel_rfl) (by kernel_rfl) (by kernel_rfl) (fun _ _ _ h => h) (Or.inl ⟨by rfl, fun V' hS => ?_⟩) hHeld ?_
          · go_simp
          simp only [Act.put, List.setIfInBounds_toArray, List.set_cons_zero, List.set_cons_succ]
          refine wpAnyH_take (i := 13) (v := .int .i64 (-1)) op13 (by kernel_rfl) (by kernel_rfl) (by kernel_rfl) (fun _ _ _ h => h) (Or.inl ⟨by rfl, fun V' hS => ?_⟩) hHeld ?_
          · have h3 := hS.2.2.1
            go_simp
          simp only [Act.put, List.setIfInBounds_toArray, List.set_cons_zero, List.set_cons_succ]
          refine wpAnyH_take (i := 14) (v := .slice (some ⟨g, 0, none⟩) k cap) op14 (by kernel_rfl) (by kernel_rfl) (by kernel_rfl) (fun _ _ _ h => h) (Or.inl ⟨by rfl, fun V' hS => ?_⟩) hHeld ?_
          · go_simp
          simp only [Act.put, List.setIfInBounds_toArray, List.set_cons_zero, List.set_cons_succ]
          refine wpAnyH_take (i := 15) (v := .int .i64 (j : Int)) op15 (by kernel_rfl) (by kernel_rfl) (by kernel_rfl) (fun _ _ _ h => h) (Or.inl ⟨by rfl, fun V' hS => ?_⟩) hHeld ?_
          · go_simp
          simp only [Act.put, List.setIfInBounds_toArray, List.set_cons_zero, List.set_cons_succ]
          refine wpAnyH_take (i := 16) (v := .pointer (some ⟨g, j * 4, none⟩)) op16 (by kernel_rfl) (by kernel_rfl) (by kernel_rfl) (fun _ _ _ h => h) (Or.inl ⟨by rfl, fun V' hS => ?_⟩) hHeld ?_
          · go_simp
          simp only [Act.put, List.setIfInBounds_toArray, List.set_cons_zero, List.set_cons_succ]
          refine wpAnyH_take (i := 17) (v := .pointer (some ⟨g, j * 4 + 2, none⟩)) op17 (by kernel_rfl) (by kernel_rfl) (by kernel_rfl) (fun _ _ _ h => h) (Or.inl ⟨by rfl, fun V' hS => ?_⟩) hHeld ?_
          · go_simp
          simp only [Act.put, List.setIfInBounds_toArray, List.set_cons_zero, List.set_cons_succ]
          refine wpAnyH_take (i := 18) (v := .slice (some ⟨q, 0, none⟩) n n) op18 (by kernel_rfl) (by kernel_rfl) (by kernel_rfl) (fun _ _ _ h => h) (Or.inl ⟨by rfl, fun V' hS => ?_⟩) hHeld ?_
          · have h2 := hS.2.1
            go_simp
          simp only [Act.put, List.setIfInBounds_toArray, List.set_cons_zero, List.set_cons_succ]
          refine wpAnyH_take (i := 19) (v := .int .i64 (n : Int)) op19 (by kernel_rfl) (by kernel_rfl) (by kernel_rfl) (fun _ _ _ h => h) (Or.inl ⟨by rfl, fun V' hS => ?_⟩) hHeld ?_
          · go_simp
          simp only [Act.put, List.setIfInBounds_toArray, List.set_cons_zero, List.set_cons_succ]
          refine wpAnyH_take (i := 20) (v := .bool true) op20 (by kernel_rfl) (by kernel_rfl) (by kernel_rfl) (fun _ _ _ h => h) (Or.inl ⟨by rfl, fun V' hS => ?_⟩) hHeld ?_
          · go_simp
          simp only [Act.put, List.setIfInBounds_toArray, List.set_cons_zero, List.set_cons_succ]
          refine wpAnyH_take (i := 21) (v := .bool true) op21 (by kernel_rfl) (by kernel_rfl) (by kernel_rfl) (fun _ _ _ h => h) (Or.inl ⟨by rfl, fun V' hS => ?_⟩) hHeld ?_
          · go_simp
          simp only [Act.put, List.setIfInBounds_toArray, List.set_cons_zero, List.set_cons_succ]
          refine wpAnyH_take (i := 22) (v := .pointer (some ⟨q6, 2, none⟩)) op22 (by kernel_rfl) (by kernel_rfl) (by kernel_rfl) (fun _ _ _ h => h) (Or.inl ⟨by rfl, fun V' hS => ?_⟩) hHeld ?_
          · go_simp
          simp only [Act.put, List.setIfInBounds_toArray, List.set_cons_zero, List.set_cons_succ]
          refine wpAnyH_take (i := 23) (v := .int .i64 (-1)) op23 (by kernel_rfl) (by kernel_rfl) (by kernel_rfl) (fun _ _ _ h => h) (Or.inl ⟨by rfl, fun V' hS => ?_⟩) hHeld ?_
          · have h3 := hS.2.2.1
            go_simp
          simp only [Act.put, List.setIfInBounds_toArray, List.set_cons_zero, List.set_cons_succ]
          refine wpAnyH_take (i := 24) (v := .bool false) op24 (by kernel_rfl) (by kernel_rfl) (by kernel_rfl) (fun _ _ _ h => h) (Or.inl ⟨by rfl, fun V' hS => ?_⟩) hHeld ?_
          · go_simp
          simp only [Act.put, List.setIfInBounds_toArray, List.set_cons_zero, List.set_cons_succ]
          refine wpAnyH_take (i := 25) (v := .bool false) op25 (by kernel_rfl) (by kernel_rfl) (by kernel_rfl) (fun _ _ _ h => h) (Or.inl ⟨by rfl, fun V' hS => ?_⟩) hHeld ?_
          · go_simp
          simp only [Act.put, List.setIfInBounds_toArray, List.set_cons_zero, List.set_cons_succ]
          refine wpAnyH_take (i := 26) (v := .bool false) op26 (by kernel_rfl) (by kernel_rfl) (by kernel_rfl) (fun _ _ _ h => h) (Or.inl ⟨by rfl, fun V' hS => ?_⟩) hHeld ?_
          · go_simp
          simp only [Act.put, List.setIfInBounds_toArray, List.set_cons_zero, List.set_cons_succ]
          refine wpAnyH_done (by kernel_rfl) ?_ _
          obtain ⟨h1, h2, h3, hb1, hb2⟩ := hHeld
          obtain ⟨e0, e1, e2, e3, eI⟩ := RC.out z0 hb2
          have OR := ownsRow_past HR.out.1 hb1
          clear h1 h2 h3 eI
          go_upto_region 16 with (at_builtin; refine wpList_append_own _ rfl _ _ 22 rfl w2.heap.size 5 i0 (.int .u8 0) 1 1 Tryd.underlying22 hi hz0 hz1 hz2 rfl (by decide) _ _ _ rfl (OR.alloc _) ⟨z0.heap.size, 0, none⟩ 1 1 [.int .u8 (c : Int)] rfl rfl (cells4_new z0 _ [.int .u8 (c : Int)]) (fun u hu => (by rw [List.mem_singleton.1 hu]; rfl)) (by unfold maxLen; omega) (by omega) (by have := hb2.size; simp; omega) ?_; intro v5 w5 hown5 hgrow5 _)
          have B5 : Below w2.heap.size w2 w5 := Below.grown (hb2.alloc hb2.size _) hgrow5 (by have := hb2.size; simp; omega) (fun q h => (OR.lt q h).1)
          have OR5 : Hid (w5.ownsRow w2.heap.size 5 1 v5 (A + 1) (bsL A b ++ [.int .u8 (c : Int)])) := hown5
          have BB5 : Hid (Below w2.heap.size w2 w5) := B5
          clear OR hown5 hgrow5 hb1 hb2 e0 e1 e2 e3
          obtain ⟨e0, e1, e2, e3, eI⟩ := RC.out w5 B5
          have EI : Hid (InsB w5 q n bi) := eI
          clear eI B5
          go_upto_region 17 with (at_builtin; refine wpList_append_own _ rfl _ _ 22 rfl w2.heap.size 5 i0 (.int .u8 0) 1 1 Tryd.underlying22 hi hz0 hz1 hz2 rfl (by decide) _ _ _ rfl OR5.out ⟨q, 0, none⟩ n n (bsL n bi) rfl (by rw [bsL_len]; omega) (src_cells fun i hi => (by rw [Nat.zero_add]; exact EI.out.cell hi)) (bsL_one n bi) (by unfold maxLen; omega) (by omega) BB5.out.size ?_; intro v6 w6 hown6 hgrow6 _)
          have B6 : Below w2.heap.size w2 w6 := Below.grown BB5.out hgrow6 BB5.out.size (fun q h => (OR5.out.lt q h).1)
          have OR6 : Hid (w6.ownsRow w2.heap.size 5 1 v6 A1 (bsL A1 b) ∧ Below w2.heap.size w2 w6) := by
            refine ⟨?_, B6⟩
            rw [HJ.out.2.1] at hown6
            rw [HJ.out.1] at hown6 ⊢
            exact hown6
          clear hown6 hgrow6 e0 e1 e2 e3
          obtain ⟨e0, e1, e2, e3, eI⟩ := RC.out w6 B6
          clear eI B6
          go_wp2
          go_roundw
          case rel => exact ⟨j + 1, by omega, by simp, by rw [HA1.out], by rw [HA1.out]; exact OR6.out⟩
          case measure => simp [intOf]; omega
        · have hq : ((n : Int) == (n : Int)) = true := by simp
          refine wp_region_held_drew (S := fun V' => V'.cell? ⟨g, j * 4, none⟩ = some (.int .i64 (A : Int)) ∧ V'.cell? ⟨g, j * 4 + 2, none⟩ = some (.slice (some ⟨q, 0, none⟩) n n) ∧ V'.cell? ⟨q6, 2, none⟩ = some (.int .i64 (n : Int)) ∧ Below wr.heap.size wr V' ∧ Below w2.heap.size w2 V') (by kernel_rfl) ⟨d0, d2, o2, B6.out.1.drew, B6.out.2.drew⟩ (fun hHeld => ?_)
          generalize w4.drew = z0 at hHeld ⊢
          clear d0 d1 d2 d3 o0 o1 o2 B4 B5 B6
          refine wpAnyH_take (i := 0) (v := .slice (some ⟨g, 0, none⟩) k cap) op0 (by kernel_rfl) (by kernel_rfl) (by kernel_rfl) (fun _ _ _ h => h) (Or.inl ⟨by rfl, fun V' hS => ?_⟩) hHeld ?_
          · go_simp
          simp only [Act.put, List.setIfInBounds_toArray, List.set_cons_zero, List.set_cons_succ]
          refine wpAnyH_take (i := 1) (v := .int .i64 (j : Int)) op1 (by kernel_rfl) (by kernel_rfl) (by kernel_rfl) (fun _ _ _ h => h) (Or.inl ⟨by rfl, fun V' hS => ?_⟩) hHeld ?_
          · go_simp
          simp only [Act.put, List.setIfInBounds_toArray, List.set_cons_zero, List.set_cons_succ]
          refine wpAnyH_take (i := 2) (v := .pointer (some ⟨g, j * 4, none⟩)) op2 (by kernel_rfl) (by kernel_rfl) (by kernel_rfl) (fun _ _ _ h => h) (Or.inl ⟨by rfl, fun V' hS => ?_⟩) hHeld ?_
          · go_simp
          simp only [Act.put, List.setIfInBounds_toArray, List.set_cons_zero, List.set_cons_succ]
          refine wpAnyH_take (i := 3) (v := .pointer (some ⟨g, j * 4, none⟩)) op3 (by kernel_rfl) (by kernel_rfl) (by kernel_rfl) (fun _ _ _ h => h) (Or.inl ⟨by rfl, fun V' hS => ?_⟩) hHeld ?_
          · go_simp
          simp only [Act.put, List.setIfInBounds_toArray, List.set_cons_zero, List.set_cons_succ]
          refine wpAnyH_take (i := 4) (v := .int .i64 (A : Int)) op4 (by kernel_rfl) (by kernel_rfl) (by kernel_rfl) (fun _ _ _ h => h) (Or.inl ⟨by rfl, fun V' hS => ?_⟩) hHeld ?_
          · have h1 := hS.1
            go_simp
          simp only [Act.put, List.setIfInBounds_toArray, List.set_cons_zero, List.set_cons_succ]
          refine wpAnyH_take (i := 5) (v := .int .i64 (A : Int)) op5 (by kernel_rfl) (by kernel_rfl) (by kernel_rfl) (fun _ _ _ h => h) (Or.inl ⟨by rfl, fun V' hS => ?_⟩) hHeld ?_
          · go_simp
          simp only [Act.put, List.setIfInBounds_toArray, List.set_cons_zero, List.set_cons_succ]
          refine wpAnyH_take (i := 6) (v := .bool false) op6 (by kernel_rfl) (by kernel_rfl) (by kernel_rfl) (fun _ _ _ h => h) (Or.inl ⟨by rfl, fun V' hS => ?_⟩) hHeld ?_
          · go_simp
          simp only [Act.put, List.setIfInBounds_toArray, List.set_cons_zero, List.set_cons_succ]
          refine wpAnyH_take (i := 7) (v := .bool false) op7 (by kernel_rfl) (by kernel_rfl) (by kernel_rfl) (fun _ _ _ h => h) (Or.inl ⟨by rfl, fun V' hS => ?_⟩) hHeld ?_
          · go_simp
          simp only [Act.put, List.setIfInBounds_toArray, List.set_cons_zero, List.set_cons_succ]
          refine wpAnyH_take (i := 8) (v := .bool true) op8 (by kernel_rfl) (by kernel_rfl) (by kernel_rfl) (fun _ _ _ h => h) (Or.inl ⟨by rfl, fun V' hS => ?_⟩) hHeld ?_
          · go_simp
          simp only [Act.put, List.setIfInBounds_toArray, List.set_cons_zero, List.set_cons_succ]
          refine wpAnyH_take (i := 9) (v := .bool false) op9 (by kernel_rfl) (by kernel_rfl) (by kernel_rfl) (fun _ _ _ h => h) (Or.inl ⟨by rfl, fun V' hS => ?_⟩) hHeld ?_
          · go_simp
          simp only [Act.put, List.setIfInBounds_toArray, List.set_cons_zero, List.set_cons_succ]
          refine wpAnyH_take (i := 10) (v := .bool false) op10 (by kernel_rfl) (by kernel_rfl) (by kernel_rfl) (fun _ _ _ h => h) (Or.inl ⟨by rfl, fun V' hS => ?_⟩) hHeld ?_
          · go_simp
          simp only [Act.put, List.setIfInBounds_toArray, List.set_cons_zero, List.set_cons_succ]
          refine wpAnyH_take (i := 11) (v := .bool false) op11 (by kernel_rfl) (by kernel_rfl) (by kernel_rfl) (fun _ _ _ h => h) (Or.inl ⟨by rfl, fun V' hS => ?_⟩) hHeld ?_
          · go_simp
          simp only [Act.put, List.setIfInBounds_toArray, List.set_cons_zero, List.set_cons_succ]
          refine wpAnyH_take (i := 12) (v := .pointer (some ⟨q6, 2, none⟩)) op12 (by kernel_rfl) (by kernel_rfl) (by kernel_rfl) (fun _ _ _ h => h) (Or.inl ⟨by rfl, fun V' hS => ?_⟩) hHeld ?_
          · go_simp
          simp only [Act.put, List.setIfInBounds_toArray, List.set_cons_zero, List.set_cons_succ]
          refine wpAnyH_take (i := 13) (v := .int .i64 (n : Int)) op13 (by kernel_rfl) (by kernel_rfl) (by kernel_rfl) (fun _ _ _ h => h) (Or.inl ⟨by rfl, fun V' hS => ?_⟩) hHeld ?_
          · have h3 := hS.2.2.1
            go_simp
          simp only [Act.put, List.setIfInBounds_toArray, List.set_cons_zero, List.set_cons_succ]
          refine wpAnyH_take (i := 14) (v := .slice (some ⟨g, 0, none⟩) k cap) op14 (by kernel_rfl) (by kernel_rfl) (by kernel_rfl) (fun _ _ _ h => h) (Or.inl ⟨by rfl, fun V' hS => ?_⟩) hHeld ?_
          · go_simp
          simp only [Act.put, List.setIfInBounds_toArray, List.set_cons_zero, List.set_cons_succ]
          refine wpAnyH_take (i := 15) (v := .int .i64 (j : Int)) op15 (by kernel_rfl) (by kernel_rfl) (by kernel_rfl) (fun _ _ _ h => h) (Or.inl ⟨by rfl, fun V' hS => ?_⟩) hHeld ?_
          · go_simp
          simp only [Act.put, List.setIfInBounds_toArray, List.set_cons_zero, List.set_cons_succ]
          refine wpAnyH_take (i := 16) (v := .pointer (some ⟨g, j * 4, none⟩)) op16 (by kernel_rfl) (by kernel_rfl) (by kernel_rfl) (fun _ _ _ h => h) (Or.inl ⟨by rfl, fun V' hS => ?_⟩) hHeld ?_
          · go_simp
          simp only [Act.put, List.setIfInBounds_toArray, List.set_cons_zero, List.set_cons_succ]
          refine wpAnyH_take (i := 17) (v := .pointer (some ⟨g, j * 4 + 2, none⟩)) op17 (by kernel_rfl) (by kernel_rfl) (by kernel_rfl) (fun _ _ _ h => h) (Or.inl ⟨by rfl, fun V' hS => ?_⟩) hHeld ?_
          · go_simp
          simp only [Act.put, List.setIfInBounds_toArray, List.set_cons_zero, List.set_cons_succ]
          refine wpAnyH_take (i := 18) (v := .slice (some ⟨q, 0, none⟩) n n) op18 (by kernel_rfl) (by kernel_rfl) (by kernel_rfl) (fun _ _ _ h => h) (Or.inl ⟨by rfl, fun V' hS => ?_⟩) hHeld ?_
          · have h2 := hS.2.1
            go_simp
          simp only [Act.put, List.setIfInBounds_toArray, List.set_cons_zero, List.set_cons_succ]
          refine wpAnyH_take (i := 19) (v := .int .i64 (n : Int)) op19 (by kernel_rfl) (by kernel_rfl) (by kernel_rfl) (fun _ _ _ h => h) (Or.inl ⟨by rfl, fun V' hS => ?_⟩) hHeld ?_
          · go_simp
          simp only [Act.put, List.setIfInBounds_toArray, List.set_cons_zero, List.set_cons_succ]
          refine wpAnyH_take (i := 20) (v := .bool false) op20 (by kernel_rfl) (by kernel_rfl) (by kernel_rfl) (fun _ _ _ h => h) (Or.inl ⟨by rfl, fun V' hS => ?_⟩) hHeld ?_
          · go_simp
          simp only [Act.put, List.setIfInBounds_toArray, List.set_cons_zero, List.set_cons_succ]
          refine wpAnyH_take (i := 21) (v := .bool false) op21 (by kernel_rfl) (by kernel_rfl) (by kernel_rfl) (fun _ _ _ h => h) (Or.inl ⟨by rfl, fun V' hS => ?_⟩) hHeld ?_
          · go_simp
          simp only [Act.put, List.setIfInBounds_toArray, List.set_cons_zero, List.set_cons_succ]
          refine wpAnyH_take (i := 22) (v := undef) op22 (by kernel_rfl) (by kernel_rfl) (by kernel_rfl) (fun _ _ _ h => h) (Or.inr ⟨by rfl, rfl⟩) hHeld ?_
          simp only [Act.put, List.setIfInBounds_toArray, List.set_cons_zero, List.set_cons_succ]
          refine wpAnyH_take (i := 23) (v := undef) op23 (by kernel_rfl) (by kernel_rfl) (by kernel_rfl) (fun _ _ _ h => h) (Or.inr ⟨by rfl, rfl⟩) hHeld ?_
          simp only [Act.put, List.setIfInBounds_toArray, List.set_cons_zero, List.set_cons_succ]
          refine wpAnyH_take (i := 24) (v := undef) op24 (by kernel_rfl) (by kernel_rfl) (by kernel_rfl) (fun _ _ _ h => h) (Or.inr ⟨by rfl, rfl⟩) hHeld ?_
          simp only [Act.put, List.setIfInBounds_toArray, List.set_cons_zero, List.set_cons_succ]
          refine wpAnyH_take (i := 25) (v := .bool false) op25 (by kernel_rfl) (by kernel_rfl) (by kernel_rfl) (fun _ _ _ h => h) (Or.inl ⟨by rfl, fun V' hS => ?_⟩) hHeld ?_
          · go_simp
          simp only [Act.put, List.setIfInBounds_toArray, List.set_cons_zero, List.set_cons_succ]
          refine wpAnyH_take (i := 26) (v := .bool false) op26 (by kernel_rfl) (by kernel_rfl) (by kernel_rfl) (fun _ _ _ h => h) (Or.inl ⟨by rfl, fun V' hS => ?_⟩) hHeld ?_
          · go_simp
          simp only [Act.put, List.setIfInBounds_toArray, List.set_cons_zero, List.set_cons_succ]
          refine wpAnyH_done (by kernel_rfl) ?_ _
          obtain ⟨h1, h2, h3, hb1, hb2⟩ := hHeld
          obtain ⟨e0, e1, e2, e3, eI⟩ := RC.out z0 hb2
          have OR := ownsRow_past HR.out.1 hb1
          clear h1 h2 h3 eI
          go_upto_region 16 with (at_builtin; refine wpList_append_own _ rfl _ _ 22 rfl w2.heap.size 5 i0 (.int .u8 0) 1 1 Tryd.underlying22 hi hz0 hz1 hz2 rfl (by decide) _ _ _ rfl (OR.alloc _) ⟨z0.heap.size, 0, none⟩ 1 1 [.int .u8 (c : Int)] rfl rfl (cells4_new z0 _ [.int .u8 (c : Int)]) (fun u hu => (by rw [List.mem_singleton.1 hu]; rfl)) (by unfold maxLen; omega) (by omega) (by have := hb2.size; simp; omega) ?_; intro v5 w5 hown5 hgrow5 _)
          have B5 : Below w2.heap.size w2 w5 := Below.grown (hb2.alloc hb2.size _) hgrow5 (by have := hb2.size; simp; omega) (fun q h => (OR.lt q h).1)
          have OR5 : Hid (w5.ownsRow w2.heap.size 5 1 v5 (A + 1) (bsL A b ++ [.int .u8 (c : Int)])) := hown5
          have BB5 : Hid (Below w2.heap.size w2 w5) := B5
          clear OR hown5 hgrow5 hb1 hb2 e0 e1 e2 e3
          obtain ⟨e0, e1, e2, e3, eI⟩ := RC.out w5 B5
          have EI : Hid (InsB w5 q n bi) := eI
          clear eI B5
          go_upto_region 17 with (at_builtin; refine wpList_append_own _ rfl _ _ 22 rfl w2.heap.size 5 i0 (.int .u8 0) 1 1 Tryd.underlying22 hi hz0 hz1 hz2 rfl (by decide) _ _ _ rfl OR5.out ⟨q, 0, none⟩ n n (bsL n bi) rfl (by rw [bsL_len]; omega) (src_cells fun i hi => (by rw [Nat.zero_add]; exact EI.out.cell hi)) (bsL_one n bi) (by unfold maxLen; omega) (by omega) BB5.out.size ?_; intro v6 w6 hown6 hgrow6 _)
          have B6 : Below w2.heap.size w2 w6 := Below.grown BB5.out hgrow6 BB5.out.size (fun q h => (OR5.out.lt q h).1)
          have OR6 : Hid (w6.ownsRow w2.heap.size 5 1 v6 A1 (bsL A1 b) ∧ Below w2.heap.size w2 w6) := by
            refine ⟨?_, B6⟩
            rw [HJ.out.2.1] at hown6
            rw [HJ.out.1] at hown6 ⊢
            exact hown6
          clear hown6 hgrow6 e0 e1 e2 e3
          obtain ⟨e0, e1, e2, e3, eI⟩ := RC.out w6 B6
          clear eI B6
          go_wp2
          go_roundw
          case rel => exact ⟨j + 1, by omega, by simp, by rw [HA1.out], by rw [HA1.out]; exact OR6.out⟩
          case measure => simp [intOf]; omega
      · obtain rfl : j = k := by omega
        obtain ⟨kk, hkk⟩ : ∃ kk, kk + 1 = j := ⟨j - 1, by have := HP.out.2.2.1; omega⟩
        obtain ⟨q, r0, r1, r2, r3, rq, rI⟩ := row_at HX.out.1 HX.out.2.1 HX.out.2.2.1 HX.out.2.2.2 kk (by omega)
        have gl := World.block_lt_of_cell? w2 _ r0
        obtain ⟨ok1, ok2, ok3⟩ := okA_parts (HP.out.1.1 kk (by omega))
        have bA := HB.out (posA b kk)
        have hen : endsT (b (posA b kk)) = true := by
          have h := HP.out.2.2.2
          rw [show j - 1 = kk by omega] at h
          unfold endsV at h
          rw [Bool.and_eq_true, Int.toNat_natCast] at h
          exact h.2
        have HO : Hid (∀ W : World, Below w2.heap.size w2 W → Calls Tryd.prog 47 #[.int .i64 (b (posA b kk) : Int)] W fun e w' => e = .returned (.tuple #[opv (b (posA b kk)), .bool true]) ∧ Below W.heap.size W w') := fun W hB => by
          have := of_any (b (posA b kk) : Int) W ((hN.past B2.out).past hB); rw [(ofB (b (posA b kk)) bA ok2).1, (ofB (b (posA b kk)) bA ok2).2] at this; exact this
        unfold opv at HO
        rw [hen] at HO
        have c1 : wr.cell? ⟨g, kk * 4 + 1, none⟩ = some (.int .i64 (b (posA b kk) : Int)) := (hBr.cell (p := ⟨g, kk * 4 + 1, none⟩) gl).trans r1
        rw [HP.out.2.1] at hR ⊢
        have HR : Hid (wr.ownsRow w2.heap.size 5 1 u7 m (bsL m b) ∧ Below w2.heap.size w2 wr) := ⟨hR, hBr⟩
        have ek : (j : Int) - 1 = (kk : Int) := by omega
        have kkI : (kk : Int) < (j : Int) := by omega
        clear r0 r1 r2 r3 rI ok2 ok3 hR hen ok1 rq hkk hlt
        generalize b (posA b kk) = c at HO c1 bA
        generalize nameT c = s at HO
        generalize immT c = i1 at HO
        generalize inT c = i2 at HO
        generalize outT c = i3 at HO
        generalize gasT c = i4 at HO
        go_upto_region 19 with (go_at_call 47; refine (HO.out _ HR.out.2).mono ?_; rintro e w3 ⟨rfl, hB3⟩; (have B3 : Hid (Below wr.heap.size wr w3) := hB3); clear hB3 c1)
        have B4 : Below wr.heap.size wr (w3.alloc (.cells #[.int .i64 (c : Int), .string s, .int .i64 i1, .int .i64 i2, .int .i64 i3, .int .i64 i4, .bool true] 55)) := B3.out.alloc B3.out.size _
        have O4 : Op7 (w3.alloc (.cells #[.int .i64 (c : Int), .string s, .int .i64 i1, .int .i64 i2, .int .i64 i3, .int .i64 i4, .bool true] 55)) w3.heap.size (c : Int) s i1 i2 i3 i4 true := Op7.new w3 _ s i1 i2 i3 i4 true
        generalize w3.alloc (.cells #[.int .i64 (c : Int), .string s, .int .i64 i1, .int .i64 i2, .int .i64 i3, .int .i64 i4, .bool true] 55) = w4 at B4 O4 ⊢
        generalize w3.heap.size = q6 at O4 ⊢
        have B5 := HR.out.2.trans (B4.mono HR.out.2.size)
        have cv1 := conv_by w4 _ m b (own_bytes (ownsRow_past HR.out.1 B4) HB.out).1
        have cv2 := conv_by w4 _ m b (own_bytes (ownsRow_past OB2.out B5) HB.out).1
        have B6 : Hid (Below w.heap.size w w4) := B2.out.trans (B5.mono B2.out.size)
        generalize txB m b = tx at cv1 cv2
        obtain ⟨o0, o1, o2, o3, o4, o5, o6⟩ := O4
        rcases own_bytes OB2.out HB.out with ⟨⟨ad1, cap1, rfl, _⟩, _⟩
        clear B4 B5
        go_wp2_with (go_at_call 32; refine (HAW.out _ B6.out).mono ?_; rintro e w5 ⟨rfl, hB7⟩; (have B7 : Hid (Below w.heap.size w w5) := B6.out.trans (hB7.mono B6.out.size)); clear hB7)
        go_ret
        exact ⟨rfl, B7.out⟩
  · obtain rfl := hno hE
    generalize scP b m k = sp
    generalize scE b m k = er at hE ⊢
    clear hyes hno
    go_wp2_with (go_at_call 32; refine (HAW.out _ B2.out).mono ?_; rintro e w3 ⟨rfl, hB3⟩; (have B3 : Hid (Below w.heap.size w w3) := B2.out.trans (hB3.mono B2.out.size)); clear hB3)
    go_ret
    exact ⟨rfl, B3.out⟩
end Go.Proofs.YtbhldmfnhlifpaaDoor
