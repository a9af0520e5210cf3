/- SpongePlays: the walk. -/
import Derived.Test.YteggikojfkmbkaaDoorVw
import Derived.Test.YteggikojfkmbkaaDoorVo
namespace Go.Proofs.YteggikojfkmbkaaDoor
open Go.RowKit
theorem sum_of (l : List Nat) : hashF (endF (AB l).1 (AB l).2) = sumF l := rfl
theorem lent_ne {W : World} {B b n c g p : Nat} {f : KSt} {F : List Nat} (hs : Spo W b f p) (hr : W.ownsRow B 5 1 (.slice (some ⟨g, 0, none⟩) (n + 40) c) (n + 40) (bytesL F)) : b ≠ g := fun e => by
  refine spo_row hs hr (by omega) (fun z e2 => ?_) (by rw [e]; rfl)
  obtain ⟨_, e3⟩ := bytesL_at F 0 _ e2
  cases e3
theorem own_bytesAt {W : World} {B n c g : Nat} {F : List Nat} (hr : W.ownsRow B 5 1 (.slice (some ⟨g, 0, none⟩) n c) n (bytesL F)) : BytesAt W ⟨g, 0, none⟩ F := fun j hj => by
  have hl := hr.1
  rw [bytesL_len] at hl
  show W.cell? ⟨g, 0 + j, none⟩ = _
  rw [Nat.zero_add, hr.cellAt j (by omega)]
  simp [bytesL, hj, List.getD_eq_getElem?_getD]
theorem pre_seg {W : World} {B n c g : Nat} {l m : List Nat} (hr : W.ownsRow B 5 1 (.slice (some ⟨g, 0, none⟩) n c) n (bytesL (l ++ m))) : Seg W (.slice (some ⟨g, 0, none⟩) l.length c) l := by
  have hb := own_bytesAt hr
  have hl := hr.1
  rw [bytesL_len, List.length_append] at hl
  obtain ⟨_, ⟨h0, _⟩ | ⟨g', c', cur, h0, _, _, h1, h2, _⟩⟩ := id hr
  · cases h0
  · cases h0
    refine ⟨some ⟨g, 0, none⟩, c, rfl, by omega, h2, fun _ => ⟨g, 0, rfl, fun i hi => ?_⟩, fun e => by cases e⟩
    rw [hb i (by rw [List.length_append]; omega), getD_app_l _ _ _ hi]
theorem upd_len {tk : Nat → List Nat} {k L : Nat} {m : List Nat} (h : ∀ j, j < 3 → (tk j).length ≤ L) (hm : m.length ≤ L) : ∀ j, j < 3 → (upd tk k m j).length ≤ L := fun j hj => by
  unfold upd; split
  · exact hm
  · exact h j hj
theorem upd_byte {tk : Nat → List Nat} {k : Nat} {m : List Nat} (h : ∀ j q, (tk j).getD q 0 < 256) (hm : ∀ q, m.getD q 0 < 256) : ∀ j q, (upd tk k m j).getD q 0 < 256 := fun j q => by
  unfold upd; split
  · exact hm q
  · exact h j q
theorem app_byte {l m : List Nat} (h : ∀ q, l.getD q 0 < 256) (hm : ∀ q, m.getD q 0 < 256) (q : Nat) : (l ++ m).getD q 0 < 256 := by
  by_cases e : q < l.length
  · rw [getD_app_l _ _ _ e]; exact h q
  · rw [List.getD_eq_getElem?_getD, List.getElem?_append_right (by omega), ← List.getD_eq_getElem?_getD]; exact hm _
theorem wipe_any (w : World) (b0 : Value) (g c N B : Nat) (F : List Nat) (hN : N ≤ 200000000) (ho : w.ownsRow B 5 1 (.slice (some ⟨g, 0, none⟩) N c) N (bytesL F)) :
    Calls Tryd.prog 19 #[.agg #[b0, .slice (some ⟨g, 0, none⟩) N c]] w fun e w' => e = .returned (.tuple #[]) ∧ Only g w w' := by
  have hl : N = F.length := by have := ho.1; rw [bytesL_len] at this; omega
  exact (wipe_is w b0 g c N B F hN hl ho).mono fun e w' ⟨h1, _, h3⟩ => ⟨h1, h3⟩
set_option maxHeartbeats 8000000 in
set_option maxRecDepth 100000 in
theorem plays_walk (w : World) (hT : Tabs w) (pa : Option Addr) (n cap : Nat) (Kd Wh : Nat → Int) (ad : Nat → Option Addr) (cp : Nat → Nat) (Ls : Nat → List Nat) (hn : n ≤ 140737488355328) (hp : SqAt w pa n Kd Wh fun i => .slice (ad i) (Ls i).length (cp i))
    (hl : ∀ i, i < n → (Ls i).length ≤ 140737488355328) (hs : ∀ i, i < n → Seg w (.slice (ad i) (Ls i).length (cp i)) (Ls i)) (hb : ∀ i j, (Ls i).getD j 0 < 256) :
    Calls Tryd.prog 5 #[.slice pa n cap] w fun e w' => e = .returned (.bool true) ∧ Below w.heap.size w w' := by
  have hW := steps_is w pa n cap Kd Wh ad (fun i => (Ls i).length) cp hn hp hl
  by_cases hT0 : 16777216 < n + lenSum (fun i => (Ls i).length) n
  · have HW : Hid (Calls Tryd.prog 20 #[.slice pa n cap] w fun e w' => ∃ m : Nat, e = .returned (.int .i64 (m : Int)) ∧ (16777216 : Int) < (m : Int) ∧ w' = w) := hW.mono fun e w' ⟨⟨m, h1, h2, _⟩, h4⟩ => ⟨m, h1, by rcases h2 with h | h <;> omega, h4⟩
    clear hT hp hs hb hl hW hT0
    go_enter Tryd.func5, Tryd.ntmps5
    go_wp2_with (go_at_call 20; refine (HW.out).mono ?_; rintro e w' ⟨m, rfl, hm, hw⟩; (have hw2 := hw.symm); clear hw; subst hw2)
    go_ret
    exact ⟨rfl, Below.refl _ _⟩
  obtain ⟨T, eT⟩ : ∃ T, n + lenSum (fun i => (Ls i).length) n = T := ⟨_, rfl⟩
  rw [eT] at hT0
  have HW : Hid (Calls Tryd.prog 20 #[.slice pa n cap] w fun e w' => e = .returned (.int .i64 (T : Int)) ∧ w' = w) := hW.mono fun e w' ⟨⟨m, h1, h2, h3⟩, h4⟩ => ⟨h1.trans (by rw [show m = T by omega]), h4⟩
  have TI : ¬ ((16777216 : Int) < (T : Int)) := by omega
  have hnT : n ≤ 16777216 := by omega
  have nI : (n : Int) ≤ 16777216 := by omega
  have HLS : Hid (∀ i, i < n → lenSum (fun i => (Ls i).length) i + (Ls i).length = lenSum (fun i => (Ls i).length) (i + 1) ∧ lenSum (fun i => (Ls i).length) (i + 1) ≤ 16777216) := by
    intro i hi
    have h1 := lenSum_mono (fun i => (Ls i).length) (i + 1) (n - (i + 1))
    rw [show i + 1 + (n - (i + 1)) = n by omega] at h1
    exact ⟨rfl, by omega⟩
  have HLN : Hid (lenSum (fun i => (Ls i).length) n ≤ 16777216) := by unfold Hid; omega
  have HT : Hid (Tabs w) := hT
  have g2 := hT.lt
  have HP : Hid (SqAt w pa n Kd Wh fun i => .slice (ad i) (Ls i).length (cp i)) := hp
  have HS : Hid (∀ i, i < n → Seg w (.slice (ad i) (Ls i).length (cp i)) (Ls i)) := hs
  have HBY : Hid (∀ i j, (Ls i).getD j 0 < 256) := hb
  obtain ⟨i0, hi, hz0, hz1, hz2⟩ := info_parts infPtr
  clear hT hp hs hb hl hW hT0 eT hn
  go_enter Tryd.func5, Tryd.ntmps5
  go_upto_region 3 with (go_at_call 20; refine (HW.out).mono ?_; rintro e w' ⟨rfl, hw⟩; (have hw2 := hw.symm); clear hw; subst hw2)
  clear HW
  go_upto_region 5 with fail
  rw [show decide ((16777216 : Int) < (T : Int)) = false from decide_eq_false (by omega)]
  have Q0 : Hid (QL w w.heap.size 0 (fun _ => 0) (.slice none 0 0) (w.alloc (.cells #[.slice none 0 0, .slice none 0 0, .slice none 0 0] 29))) :=
    ⟨(Below.refl _ _).alloc (Nat.le_refl _) _, World.ownsRow_nil _ _ _ _, World.ownsRow_lit w #[.slice none 0 0, .slice none 0 0, .slice none 0 0] 3 (Nat.le_refl _) (by decide) rfl, fun j hj => absurd hj (by omega), fun i j hi => absurd hi (by omega), Or.inl rfl⟩
  generalize w.alloc (.cells #[.slice none 0 0, .slice none 0 0, .slice none 0 0] 29) = W0 at Q0 ⊢
  obtain ⟨gt, egt⟩ : ∃ g, w.heap.size = g := ⟨_, rfl⟩
  have EGT : Hid (w.heap.size = gt) := egt
  have Q1 : Hid (QL w gt 0 (fun _ => 0) (.slice none 0 0) W0) := by have := Q0.out; rw [egt] at this; exact (by rw [← egt]; exact Q0.out)
  rw [egt]
  clear egt Q0
  go_wp2
  go_loopw [3, 5] (fun vl s wr => ∃ k : Nat, k ≤ 3 ∧ s = .int .i64 (k : Int) ∧ ∃ sb, QL w gt k sb vl wr) (fun _ s _ => 3 - (intOf s).toNat)
  case atStart => exact ⟨0, Nat.zero_le _, rfl, _, Q1.out⟩
  case round =>
    clear Q1
    obtain ⟨k, hk, rfl, sb, hQ⟩ := hrel
    by_cases hk3 : k < 3
    · have kI : (k : Int) < 3 := by omega
      have Q2 : Hid (QL w gt k sb u3 wr) := hQ
      have NW : Hid (Calls Tryd.prog 21 #[] wr fun e w' => e = .returned (.pointer (some ⟨wr.heap.size, 0, none⟩)) ∧ Spo w' wr.heap.size zeroK 0 ∧ Below wr.heap.size wr w') := new_is wr
      clear hQ hk
      go_upto_region 11 with (go_at_call 21; refine (NW.out).mono ?_; rintro e v1 ⟨rfl, hs1, hB1⟩; (have S1 : Hid (Spo v1 wr.heap.size zeroK 0 ∧ Below wr.heap.size wr v1) := ⟨hs1, hB1⟩); clear hs1 hB1 NW)
      have OW : Hid (v1.ownsRow w.heap.size 42 1 u3 k ((List.range k).map fun j => ptr (sb j))) := row_pastP Q2.out.2.1 S1.out.2
      have hbs : w.heap.size ≤ v1.heap.size := Nat.le_trans Q2.out.1.size S1.out.2.size
      obtain ⟨b6, e6⟩ : ∃ b, wr.heap.size = b := ⟨_, rfl⟩
      have E6 : Hid (wr.heap.size = b6) := e6
      rw [e6]
      clear e6
      go_wp2_with (at_builtin; refine wpList_append_own _ rfl _ _ 41 rfl w.heap.size 42 i0 (.pointer none) 1 8 Tryd.underlying41 hi hz0 hz1 hz2 rfl (by decide) u3 k ((List.range k).map fun j => ptr (sb j)) rfl (World.ownsRow.alloc OW.out _) ⟨v1.heap.size, 0, none⟩ 1 1 [.pointer (some ⟨b6, 0, none⟩)] rfl rfl (fun j u hj => by
              have : j = 0 := by have := (List.getElem?_eq_some_iff.1 hj).1; simpa using this
              subst this
              simp at hj
              subst hj
              simp [Addr.add]) (fun u hu => by rw [List.mem_singleton.1 hu]; rfl) (by unfold maxLen; omega) (by omega) (by simp; omega) ?_; intro vl' v2 hown' hgrow _)
      have Q3 : Hid (QL w gt (k + 1) (upd sb k wr.heap.size) vl' v2) := by
        refine Q2.out.more S1.out.2 S1.out.1 ?_ hgrow
        rw [E6.out]; exact hown'
      clear hown' hgrow OW S1 Q2 E6
      go_wp2
      go_roundw
      case rel => exact ⟨k + 1, by omega, by go_num, _, Q3.out⟩
      case measure => simp [intOf]; omega
    · obtain rfl : k = 3 := by omega
      rw [show ((3 : Nat) : Int) = 3 from rfl]
      obtain ⟨gl, cl, rfl, hPL⟩ := hQ.all
      have P0 : Hid (∃ (sb : Nat → Nat) (tk : Nat → List Nat) (tv : Nat → Value), PL w gl cl gt 3 sb tk tk tv wr ∧ (∀ j, j < 3 → (tk j).length ≤ lenSum (fun i => (Ls i).length) 0) ∧ ∀ j q, (tk j).getD q 0 < 256) := ⟨sb, _, _, hPL, fun j _ => by simp, fun j q => by simp⟩
      clear hQ hPL hk hk3
      go_wp2
      go_loopw [7] (fun s wr => ∃ i : Nat, i ≤ n ∧ s = .int .i64 (i : Int) ∧ ∃ (sb : Nat → Nat) (tk : Nat → List Nat) (tv : Nat → Value), PL w gl cl gt 3 sb tk tk tv wr ∧ (∀ j, j < 3 → (tk j).length ≤ lenSum (fun i => (Ls i).length) i) ∧ ∀ j q, (tk j).getD q 0 < 256) (fun s _ => n - (intOf s).toNat)
      case atStart => exact ⟨0, Nat.zero_le _, rfl, P0.out⟩
      case round =>
        clear P0
        obtain ⟨i, hi9, rfl, sb, tk, tv, hP, hLN, hBT⟩ := hrel
        by_cases hi5 : i < n
        · have iI : (i : Int) < (n : Int) := by omega
          obtain ⟨pb, po, e, hc⟩ := HP.out (by omega)
          subst e
          have hbel := hP.bel
          obtain ⟨c0, c1, c2⟩ := hc i hi5
          have d0 := (hbel.cell (p := ⟨pb, po + i * 3, none⟩) (World.block_lt_of_cell? w _ c0)).trans c0
          have d1 := (hbel.cell (p := ⟨pb, po + i * 3 + 1, none⟩) (World.block_lt_of_cell? w _ c1)).trans c1
          have d2 := (hbel.cell (p := ⟨pb, po + i * 3 + 2, none⟩) (World.block_lt_of_cell? w _ c2)).trans c2
          have HSi : Hid (Seg w (.slice (ad i) (Ls i).length (cp i)) (Ls i)) := HS.out i hi5
          obtain ⟨hls1, hls2⟩ := HLS.out i hi5
          have HBi : Hid (∀ j, (Ls i).getD j 0 < 256) := HBY.out i
          have hk3 := whN_lt (Wh i)
          have WH : Hid (∀ V, Calls Tryd.prog 22 #[.int .i64 (Wh i)] V fun e w' => e = .returned (.int .i64 (whN (Wh i) : Int)) ∧ w' = V) := fun V => which_is V (Wh i)
          dsimp only at d2
          obtain ⟨B, eB⟩ : ∃ B, B = Ls i := ⟨_, rfl⟩
          have HLX : Hid (∀ tk' : Nat → List Nat, (∀ j, j < 3 → (tk' j).length ≤ lenSum (fun i => (Ls i).length) i + B.length) → ∀ j, j < 3 → (tk' j).length ≤ lenSum (fun i => (Ls i).length) (i + 1)) := fun tk' h j hj => by have := h j hj; rw [eB] at this; omega
          have hBL : B.length ≤ 16777216 := by rw [eB]; omega
          have htL : ∀ j, j < 3 → (tk j).length + B.length ≤ 16777216 := fun j hj => by have := hLN j hj; rw [eB]; omega
          rw [← eB] at d2 HSi HBi
          clear eB hls1 hls2 c0 c1 c2 hc
          generalize Kd i = zk at d0
          generalize Wh i = zw at d1 WH hk3
          generalize ad i = ai at d2 HSi
          generalize cp i = ci at d2 HSi
          generalize whN zw = k at WH hk3
          have kI : (k : Int) < 3 := by omega
          have P1 : Hid (PL w gl cl gt 3 sb tk tk tv wr) := hP
          have HLN2 : Hid (∀ j, j < 3 → (tk j).length ≤ lenSum (fun i => (Ls i).length) i) := hLN
          have HTL : Hid (∀ j, j < 3 → (tk j).length + B.length ≤ 16777216) := htL
          have HBT : Hid (∀ j q, (tk j).getD q 0 < 256) := hBT
          clear hP hLN hBT htL hi9 hbel
          go_upto_region 16 with fail
          obtain ⟨qx, eqx⟩ : ∃ q, wr.heap.size = q := ⟨_, rfl⟩
          have P2 : Hid (PL w gl cl gt 3 sb tk tk tv (wr.alloc (.cells #[.int .i64 zk, .int .i64 zw, .slice ai B.length ci] 45))) := P1.out.past ((Below.refl _ _).alloc (Nat.le_refl _) _)
          have x0 : (wr.alloc (.cells #[.int .i64 zk, .int .i64 zw, .slice ai B.length ci] 45)).cell? ⟨qx, 0, none⟩ = some (.int .i64 zk) := by rw [← eqx]; simp
          have x1 : (wr.alloc (.cells #[.int .i64 zk, .int .i64 zw, .slice ai B.length ci] 45)).cell? ⟨qx, 1, none⟩ = some (.int .i64 zw) := by rw [← eqx]; simp
          have x2 : (wr.alloc (.cells #[.int .i64 zk, .int .i64 zw, .slice ai B.length ci] 45)).cell? ⟨qx, 2, none⟩ = some (.slice ai B.length ci) := by rw [← eqx]; simp
          have hqx : ∀ j, j < 3 → sb j < qx := fun j hj => by rw [← eqx]; exact (P1.out.spo j hj).1.lt
          have HQT : Hid (gl < qx ∧ gt < qx ∧ ∀ j, j < 3 → ∀ q, (tv j).ownBlock = some q → q < qx) := ⟨by rw [← eqx]; exact (P1.out.row.lt gl rfl).2, by rw [← eqx]; exact (P1.out.tak.lt gt rfl).2, fun j hj q hq => by rw [← eqx]; exact ((P1.out.own j hj).1.lt q hq).2⟩
          have HQX : Hid (∀ j, j < 3 → sb j < qx) := hqx
          generalize wr.alloc (.cells #[.int .i64 zk, .int .i64 zw, .slice ai B.length ci] 45) = W1 at P2 x0 x1 x2 ⊢
          rw [eqx]
          clear d0 d1 d2 P1 eqx hqx
          go_upto_region 18 with (go_at_call 22; refine (WH.out _).mono ?_; rintro e w' ⟨rfl, hw⟩; (have hw2 := hw.symm); clear hw; subst hw2)
          clear WH x1
          by_cases z1 : zk = 1
          · subst z1
            have hm0 : i % 256 = i % 256 := rfl
            obtain ⟨m, em⟩ : ∃ m, i % 256 = m := ⟨_, rfl⟩
            have wm : IntKind.u8.wrap (i : Int) = (m : Int) := by rw [IntKind.wrap_u8]; omega
            have LD : Hid (Calls Tryd.prog 14 #[.slice ai B.length ci, .int .u8 (m : Int)] W1 fun e w' => ∃ g c, e = .returned (.agg #[.slice (some ⟨g, 0, none⟩) B.length c, .slice (some ⟨g, 0, none⟩) (B.length + 40) c]) ∧ w'.ownsRow (W1.heap.size + 1) 5 1 (.slice (some ⟨g, 0, none⟩) (B.length + 40) c) (B.length + 40) (bytesL (B ++ mkL m 40)) ∧ Below W1.heap.size W1 w') :=
              lend_is W1 _ B m (HSi.out.below P2.out.bel) (by omega) ai ci rfl
            clear x0 em hm0
            go_upto_region 20 with (go_at_call 14; refine (LD.out).mono ?_; rintro e v1 ⟨g, c, rfl, hown, hB⟩; (have LN : Hid (v1.ownsRow (W1.heap.size + 1) 5 1 (.slice (some ⟨g, 0, none⟩) (B.length + 40) c) (B.length + 40) (bytesL (B ++ mkL m 40)) ∧ Below W1.heap.size W1 v1) := ⟨hown, hB⟩); clear hown hB LD)
            have hAl : Below v1.heap.size v1 (v1.alloc (.cells #[.slice (some ⟨g, 0, none⟩) B.length c, .slice (some ⟨g, 0, none⟩) (B.length + 40) c] 31)) := (Below.refl _ _).alloc (Nat.le_refl _) _
            have P3 : Hid (PL w gl cl gt 3 sb tk tk tv (v1.alloc (.cells #[.slice (some ⟨g, 0, none⟩) B.length c, .slice (some ⟨g, 0, none⟩) (B.length + 40) c] 31))) := (P2.out.past LN.out.2).past hAl
            have OW : Hid ((v1.alloc (.cells #[.slice (some ⟨g, 0, none⟩) B.length c, .slice (some ⟨g, 0, none⟩) (B.length + 40) c] 31)).ownsRow (W1.heap.size + 1) 5 1 (.slice (some ⟨g, 0, none⟩) (B.length + 40) c) (B.length + 40) (bytesL (B ++ mkL m 40))) := row_pastP LN.out.1 hAl
            have y0 : (v1.alloc (.cells #[.slice (some ⟨g, 0, none⟩) B.length c, .slice (some ⟨g, 0, none⟩) (B.length + 40) c] 31)).cell? ⟨v1.heap.size, 0, none⟩ = some (.slice (some ⟨g, 0, none⟩) B.length c) := by simp
            have y1 : (v1.alloc (.cells #[.slice (some ⟨g, 0, none⟩) B.length c, .slice (some ⟨g, 0, none⟩) (B.length + 40) c] 31)).cell? ⟨v1.heap.size, 1, none⟩ = some (.slice (some ⟨g, 0, none⟩) (B.length + 40) c) := by simp
            have hx1 : qx < W1.heap.size := World.block_lt_of_cell? W1 _ x2
            have hx3 : W1.heap.size ≤ v1.heap.size := LN.out.2.size
            have y2 : (v1.alloc (.cells #[.slice (some ⟨g, 0, none⟩) B.length c, .slice (some ⟨g, 0, none⟩) (B.length + 40) c] 31)).cell? ⟨qx, 2, none⟩ = some (.slice ai B.length ci) := by
              rw [World.cell?_alloc_lt _ _ _ (show qx < v1.heap.size by omega)]
              exact (LN.out.2.cell (p := ⟨qx, 2, none⟩) hx1).trans x2
            have HG : Hid (qx < g ∧ g < v1.heap.size ∧ w.heap.size ≤ g) := by
              have h1 := LN.out.1.lt g rfl
              have h2 := P2.out.bel.size
              exact ⟨by omega, h1.2, by omega⟩
            generalize v1.alloc (.cells #[.slice (some ⟨g, 0, none⟩) B.length c, .slice (some ⟨g, 0, none⟩) (B.length + 40) c] 31) = v2 at P3 OW y0 y1 y2 ⊢
            generalize v1.heap.size = q10 at y0 y1 HG ⊢
            generalize W1.heap.size + 1 = B1 at OW
            clear LN hAl P2 x2 hx1 hx3
            have c3 := (P3.out.pcell hk3).1
            have P4 : Hid (PL w gl cl gt 3 sb tk tk tv v2.drew) := P3.out.past (Below.refl _ _).drew
            have O4 : Hid (v2.drew.ownsRow B1 5 1 (.slice (some ⟨g, 0, none⟩) (B.length + 40) c) (B.length + 40) (bytesL (B ++ mkL m 40))) := row_pastP OW.out (Below.refl _ _).drew
            have z1 : v2.drew.cell? ⟨q10, 1, none⟩ = some (.slice (some ⟨g, 0, none⟩) (B.length + 40) c) := y1
            have z2 : v2.drew.cell? ⟨qx, 2, none⟩ = some (.slice ai B.length ci) := y2
            refine wp_region_held_drew (S := fun V' => V'.cell? ⟨gl, k, none⟩ = some (.pointer (some ⟨sb k, 0, none⟩)) ∧ V'.cell? ⟨q10, 0, none⟩ = some (.slice (some ⟨g, 0, none⟩) B.length c)) (by kernel_rfl) ⟨c3, y0⟩ (fun hHeld => ?_)
            generalize v2.drew = z0 at hHeld P4 O4 z1 z2 ⊢
            clear P3 OW y0 y1 y2 c3
            refine wpAnyH_take (i := 0) (v := .slice (some ⟨gl, 0, none⟩) 3 cl) ov0 (by kernel_rfl) (by kernel_rfl) (by kernel_rfl) (fun _ _ _ h => h) (Or.inl ⟨by rfl, fun V' hS => ?_⟩) hHeld ?_
            · go_simp
            simp only [Act.put, List.setIfInBounds_toArray, List.set_cons_zero, List.set_cons_succ]
            refine wpAnyH_take (i := 1) (v := .int .i64 (k : Int)) ov1 (by kernel_rfl) (by kernel_rfl) (by kernel_rfl) (fun _ _ _ h => h) (Or.inl ⟨by rfl, fun V' hS => ?_⟩) hHeld ?_
            · go_simp
            simp only [Act.put, List.setIfInBounds_toArray, List.set_cons_zero, List.set_cons_succ]
            refine wpAnyH_take (i := 2) (v := .pointer (some ⟨gl, k, none⟩)) ov2 (by kernel_rfl) (by kernel_rfl) (by kernel_rfl) (fun _ _ _ h => h) (Or.inl ⟨by rfl, fun V' hS => ?_⟩) hHeld ?_
            · go_simp
            simp only [Act.put, List.setIfInBounds_toArray, List.set_cons_zero, List.set_cons_succ]
            refine wpAnyH_take (i := 3) (v := .pointer (some ⟨sb k, 0, none⟩)) ov3 (by kernel_rfl) (by kernel_rfl) (by kernel_rfl) (fun _ _ _ h => h) (Or.inl ⟨by rfl, fun V' hS => ?_⟩) hHeld ?_
            · have k1 := hS.1
              go_simp
            simp only [Act.put, List.setIfInBounds_toArray, List.set_cons_zero, List.set_cons_succ]
            refine wpAnyH_take (i := 4) (v := .pointer (some ⟨q10, 0, none⟩)) ov4 (by kernel_rfl) (by kernel_rfl) (by kernel_rfl) (fun _ _ _ h => h) (Or.inl ⟨by rfl, fun V' hS => ?_⟩) hHeld ?_
            · go_simp
            simp only [Act.put, List.setIfInBounds_toArray, List.set_cons_zero, List.set_cons_succ]
            refine wpAnyH_take (i := 5) (v := .slice (some ⟨g, 0, none⟩) B.length c) ov5 (by kernel_rfl) (by kernel_rfl) (by kernel_rfl) (fun _ _ _ h => h) (Or.inl ⟨by rfl, fun V' hS => ?_⟩) hHeld ?_
            · have k1 := hS.2
              go_simp
            simp only [Act.put, List.setIfInBounds_toArray, List.set_cons_zero, List.set_cons_succ]
            have WR : Hid (Calls Tryd.prog 23 #[.pointer (some ⟨sb k, 0, none⟩), .slice (some ⟨g, 0, none⟩) B.length c] z0 fun e w' => e = .returned (.tuple #[]) ∧ Spo w' (sb k) (AB (tk k ++ B)).1 (AB (tk k ++ B)).2 ∧ Only (sb k) z0 w') := by
              have h1 := P4.out.spo k hk3
              rw [← AB_app]
              exact write_seg z0 (sb k) (AB (tk k)) _ B (Tabs.below HT.out P4.out.bel g2) (by omega) h1.1 (AB_lt _) (pre_seg O4.out) HBi.out hBL (fun ad n cap e => by cases e; exact fun e2 => lent_ne h1.1 O4.out e2.symm)
            refine wpAnyH_ready (rs := [6]) (by kernel_rfl) (by simp) ?_
            refine AllReadyH.cons ov6 (fun K hK => ?_) AllReadyH.nil
            rw [if_pos (by rfl)]
            go_simp
            refine (WR.out).mono ?_
            rintro e v4 ⟨rfl, hs4, ho4⟩
            have hgs : g ≠ sb k := fun e2 => lent_ne (P4.out.spo k hk3).1 O4.out e2.symm
            have hqs : q10 ≠ sb k := fun e2 => by have h1 := HG.out; have h2 := HQX.out k hk3; omega
            have hxs : qx ≠ sb k := fun e2 => by have h2 := HQX.out k hk3; omega
            have hHeld2 : (fun V' : World => V'.cell? ⟨gl, k, none⟩ = some (.pointer (some ⟨sb k, 0, none⟩)) ∧ V'.cell? ⟨q10, 0, none⟩ = some (.slice (some ⟨g, 0, none⟩) B.length c)) v4 := ⟨(ho4.cell (p := ⟨gl, k, none⟩) (World.block_lt_of_cell? _ _ hHeld.1) (P4.out.glne hk3)).trans hHeld.1, (ho4.cell (p := ⟨q10, 0, none⟩) (World.block_lt_of_cell? _ _ hHeld.2) hqs).trans hHeld.2⟩
            have y1 : v4.cell? ⟨q10, 1, none⟩ = some (.slice (some ⟨g, 0, none⟩) (B.length + 40) c) := (ho4.cell (p := ⟨q10, 1, none⟩) (World.block_lt_of_cell? _ _ z1) hqs).trans z1
            have y2 : v4.cell? ⟨qx, 2, none⟩ = some (.slice ai B.length ci) := (ho4.cell (p := ⟨qx, 2, none⟩) (World.block_lt_of_cell? _ _ z2) hxs).trans z2
            have P5 : Hid (PL w gl cl gt 3 sb (upd tk k (tk k ++ B)) tk tv v4) := P4.out.only hk3 ho4 hs4
            have O5 : Hid (v4.ownsRow B1 5 1 (.slice (some ⟨g, 0, none⟩) (B.length + 40) c) (B.length + 40) (bytesL (B ++ mkL m 40))) := O4.out.kept ho4.grownB (Or.inr (by simp only [Value.ownBlock, ne_eq, Option.some.injEq]; exact hgs))
            clear hs4 ho4 z1 z2 P4 O4 WR
            (try go_wp2_with fail)
            refine hK.out _ _ hHeld2 (fun _ => ?_)
            clear hK K
            (try simp only [Act.put, List.setIfInBounds_toArray, List.set_cons_zero, List.set_cons_succ])
            refine wpAnyH_done (by kernel_rfl) ?_ _
            obtain ⟨_, y0⟩ := hHeld2
            clear hHeld
            have WO : Hid (Calls Tryd.prog 18 #[.agg #[.slice (some ⟨g, 0, none⟩) B.length c, .slice (some ⟨g, 0, none⟩) (B.length + 40) c], .slice ai B.length ci, .int .u8 (m : Int)] v4 fun e w' => e = .returned (.bool true) ∧ Below v4.heap.size v4 w') :=
              whole_is v4 _ _ g c B m (HSi.out.below P5.out.bel) (by omega) (own_bytesAt O5.out)
            obtain ⟨nf, enf⟩ : ∃ s : Nat, B.length + 40 = s := ⟨_, rfl⟩
            rw [enf] at y1 WO O5
            go_upto_region 22 with (go_at_call 18; refine (WO.out).mono ?_; rintro e v5 ⟨rfl, hB⟩; (have P6 : Hid (PL w gl cl gt 3 sb (upd tk k (tk k ++ B)) tk tv v5) := P5.out.past hB); (have O6 : Hid (v5.ownsRow B1 5 1 (.slice (some ⟨g, 0, none⟩) nf c) nf (bytesL (B ++ mkL m 40))) := row_pastP O5.out hB); (have a0 := (hB.cell (p := ⟨q10, 0, none⟩) (World.block_lt_of_cell? _ _ y0)).trans y0); (have a1 := (hB.cell (p := ⟨q10, 1, none⟩) (World.block_lt_of_cell? _ _ y1)).trans y1); (have a2 := (hB.cell (p := ⟨qx, 2, none⟩) (World.block_lt_of_cell? _ _ y2)).trans y2); clear hB WO P5 O5 y0 y1 y2)
            have WI : Hid (Calls Tryd.prog 19 #[.agg #[.slice (some ⟨g, 0, none⟩) B.length c, .slice (some ⟨g, 0, none⟩) nf c]] v5 fun e w' => e = .returned (.tuple #[]) ∧ Only g v5 w') := wipe_any v5 _ g c nf B1 _ (by omega) O6.out
            go_upto_region 25 with (go_at_call 19; refine (WI.out).mono ?_; rintro e v6 ⟨rfl, ho⟩; (have P7 : Hid (PL w gl cl gt 3 sb (upd tk k (tk k ++ B)) tk tv v6) := P6.out.wipe ho HG.out.2.2 (by have h1 := HG.out; have h2 := HQT.out; omega) (by have h1 := HG.out; have h2 := HQT.out; omega) (fun j hj e2 => by have h1 := HG.out; have h2 := HQX.out j hj; omega) (fun j hj e2 => by have h1 := HG.out; have h2 := HQT.out.2.2 j hj g e2; omega)); (have y2 := (ho.cell (p := ⟨qx, 2, none⟩) (World.block_lt_of_cell? _ _ a2) (by have h1 := HG.out; intro e2; dsimp only at e2; omega)).trans a2); clear ho WI P6 O6 a0 a1 a2)
            have P8 : Hid (PL w gl cl gt 3 sb (upd tk k (tk k ++ B)) tk tv v6.drew) := P7.out.past (Below.refl _ _).drew
            have z2 : v6.drew.cell? ⟨qx, 2, none⟩ = some (.slice ai B.length ci) := y2
            refine wp_region_held_drew (S := fun V' => V'.cell? ⟨qx, 2, none⟩ = some (.slice ai B.length ci)) (by kernel_rfl) z2 (fun hHeld => ?_)
            generalize v6.drew = z0 at hHeld P8 ⊢
            clear P7 y2 z2
            refine wpAnyH_take (i := 0) (v := .slice (some ⟨gt, 0, none⟩) 3 3) ov0 (by kernel_rfl) (by kernel_rfl) (by kernel_rfl) (fun _ _ _ h => h) (Or.inl ⟨by rfl, fun V' hS => ?_⟩) hHeld ?_
            · go_simp
            simp only [Act.put, List.setIfInBounds_toArray, List.set_cons_zero, List.set_cons_succ]
            refine wpAnyH_take (i := 1) (v := .int .i64 (k : Int)) ov1 (by kernel_rfl) (by kernel_rfl) (by kernel_rfl) (fun _ _ _ h => h) (Or.inl ⟨by rfl, fun V' hS => ?_⟩) hHeld ?_
            · go_simp
            simp only [Act.put, List.setIfInBounds_toArray, List.set_cons_zero, List.set_cons_succ]
            refine wpAnyH_take (i := 2) (v := .slice (some ⟨gt, 0, none⟩) 3 3) ov2 (by kernel_rfl) (by kernel_rfl) (by kernel_rfl) (fun _ _ _ h => h) (Or.inl ⟨by rfl, fun V' hS => ?_⟩) hHeld ?_
            · go_simp
            simp only [Act.put, List.setIfInBounds_toArray, List.set_cons_zero, List.set_cons_succ]
            refine wpAnyH_take (i := 3) (v := .int .i64 (k : Int)) ov3 (by kernel_rfl) (by kernel_rfl) (by kernel_rfl) (fun _ _ _ h => h) (Or.inl ⟨by rfl, fun V' hS => ?_⟩) hHeld ?_
            · go_simp
            simp only [Act.put, List.setIfInBounds_toArray, List.set_cons_zero, List.set_cons_succ]
            refine wpAnyH_take (i := 4) (v := .pointer (some ⟨gt, k, none⟩)) ov4 (by kernel_rfl) (by kernel_rfl) (by kernel_rfl) (fun _ _ _ h => h) (Or.inl ⟨by rfl, fun V' hS => ?_⟩) hHeld ?_
            · go_simp
            simp only [Act.put, List.setIfInBounds_toArray, List.set_cons_zero, List.set_cons_succ]
            refine wpAnyH_take (i := 6) (v := .pointer (some ⟨qx, 2, none⟩)) ov6 (by kernel_rfl) (by kernel_rfl) (by kernel_rfl) (fun _ _ _ h => h) (Or.inl ⟨by rfl, fun V' hS => ?_⟩) hHeld ?_
            · go_simp
            simp only [Act.put, List.setIfInBounds_toArray, List.set_cons_zero, List.set_cons_succ]
            refine wpAnyH_take (i := 7) (v := .slice ai B.length ci) ov7 (by kernel_rfl) (by kernel_rfl) (by kernel_rfl) (fun _ _ _ h => h) (Or.inl ⟨by rfl, fun V' hS => ?_⟩) hHeld ?_
            · have k1 := hS
              go_simp
            simp only [Act.put, List.setIfInBounds_toArray, List.set_cons_zero, List.set_cons_succ]
            obtain ⟨tc, tf, ta, tcap, etv, tsg⟩ := P8.out.tcell hk3
            rw [etv] at tc
            refine wpAnyH_ready (rs := [5]) (by kernel_rfl) (by simp) ?_
            refine AllReadyH.cons ov5 (fun K hK => ?_) AllReadyH.nil
            rw [if_pos (by rfl)]
            go_simp
            refine hK.out _ _ hHeld (fun _ => ?_)
            clear hK K
            (try simp only [Act.put, List.setIfInBounds_toArray, List.set_cons_zero, List.set_cons_succ])
            refine wpAnyH_ready (rs := [8]) (by kernel_rfl) (by simp) ?_
            refine AllReadyH.cons ov8 (fun K hK => ?_) AllReadyH.nil
            rw [if_pos (by rfl)]
            have ow8 := (P8.out.own k hk3).1
            rw [etv] at ow8
            refine wp_append_seg _ _ rfl w.heap.size (.slice ta (tk k).length tcap) (tk k).length (bytesL (tk k)) rfl ow8 (.slice ai B.length ci) B rfl (HSi.out.below P8.out.bel) (by have := HTL.out k hk3; omega) P8.out.bel.size ?_
            intro v' z1 ho hn hG
            rw [← etv] at hn hG
            have hqt : ∀ q, (tv k).ownBlock = some q → q < qx := fun q hq => HQT.out.2.2 k hk3 q hq
            have hx1 := World.block_lt_of_cell? _ _ hHeld
            have hHeld2 : (fun V' : World => V'.cell? ⟨qx, 2, none⟩ = some (.slice ai B.length ci)) z1 := hG.grown.cell (a := ⟨qx, 2, none⟩) hHeld (fun e2 => by have h : qx < qx := hqt qx e2.symm; omega)
            have hgne : some gt ≠ (tv k).ownBlock := fun e2 => rows_ne P8.out.tak (P8.out.own k hk3).1 (by decide) gt rfl e2.symm
            have t1 : z1.cell? ⟨gt, k, none⟩ = some (.slice ta (tk k).length tcap) := hG.grown.cell (a := ⟨gt, k, none⟩) tc hgne
            have t2 : z1.frozen? ⟨gt, k, none⟩ = false := (World.frozen?_of_block (w := z0) (a := ⟨gt, k, none⟩) (hG.grown.block gt (World.block_lt_of_cell? _ _ tc) hgne)).trans tf
            have P9 : Hid (PL w gl cl gt 3 sb (upd tk k (tk k ++ B)) (upd tk k (tk k ++ B)) (upd tv k v') (z1.setCell ⟨gt, k, none⟩ v')) := P8.out.take hk3 ho hn hG
            obtain ⟨av, cv, e9, _⟩ := (owns_seg (by rw [← bytesL_app, ← List.length_append] at ho; exact ho)).1
            rw [List.length_append] at e9
            subst e9
            clear ho hn hG hgne tc tf ow8 P8
            refine hK.out _ _ hHeld2 (fun _ => ?_)
            clear hK K
            (try simp only [Act.put, List.setIfInBounds_toArray, List.set_cons_zero, List.set_cons_succ])
            refine wpAnyH_take (i := 9) (v := .pointer (some ⟨gt, k, none⟩)) ov9 (by kernel_rfl) (by kernel_rfl) (by kernel_rfl) (fun _ _ _ h => h) (Or.inl ⟨by rfl, fun V' hS => ?_⟩) hHeld2 ?_
            · go_simp
            simp only [Act.put, List.setIfInBounds_toArray, List.set_cons_zero, List.set_cons_succ]
            refine wpAnyH_ready (rs := [10]) (by kernel_rfl) (by simp) ?_
            refine AllReadyH.cons ov10 (fun K hK => ?_) AllReadyH.nil
            rw [if_pos (by rfl)]
            go_simp
            refine hK.out _ _ (by rw [World.cell?_setCell_other _ _ _ _ (by intro e2; injection e2 with e3 _ _; have h2 := HQT.out.2.1; omega)]; exact hHeld2) (fun _ => ?_)
            clear hK K
            (try simp only [Act.put, List.setIfInBounds_toArray, List.set_cons_zero, List.set_cons_succ])
            refine wpAnyH_done (by kernel_rfl) ?_ _
            clear hHeld hHeld2 t1 t2 tsg etv
            generalize z1.setCell ⟨gt, k, none⟩ _ = z2 at P9 ⊢
            go_wp2
            go_roundw
            case rel => exact ⟨i + 1, by omega, by go_num, sb, _, _, P9.out, HLX.out _ (upd_len (fun j hj => by have := HLN2.out j hj; omega) (by have := HLN2.out k hk3; rw [List.length_append]; omega)), upd_byte HBT.out (app_byte (HBT.out k) HBi.out)⟩
            case measure => simp [intOf]; omega
          by_cases z2 : zk = 2
          · subst z2
            have SM : Hid (∀ V, PL w gl cl gt 3 sb tk tk tv V → Calls Tryd.prog 24 #[.pointer (some ⟨sb k, 0, none⟩)] V fun e w' => e = .returned (.agg (rowB 32 (sumF (tk k))).toArray) ∧ Below V.heap.size V w') := fun V hV => sum_is V (sb k) _ _ (Tabs.below HT.out hV.bel g2) (hV.spo k hk3).1 (AB_lt _)
            have RS : Hid (∀ V pb v, V.cell? ⟨pb, 0, none⟩ = some v → Seg V v (tk k) → Calls Tryd.prog 15 #[.slice (some ⟨pb, 0, none⟩) 1 1] V fun e w' => e = .returned (.agg (rowB 32 (sumF (tk k))).toArray) ∧ Below V.heap.size V w') := fun V pb v h1 h2 => rsum_is V pb v _ h1 h2 (HBT.out k) (by have := HTL.out k hk3; omega)
            have e32 : ∀ W : World, Sem.run Tryd.prog (Op.equalIn 10000 34 (.agg (rowB 32 (sumF (tk k))).toArray) (.agg (rowB 32 (sumF (tk k))).toArray)) W = .ok true W := fun W => by rw [eq32_run, (rowEq_iff 32 _ _).2 fun _ _ => rfl]
            generalize sumF (tk k) = hh at SM RS e32
            have c3 := (P2.out.pcell hk3).1
            go_upto_region 28 with (first
              | (go_at_call 24; refine (SM.out _ P2.out).mono ?_; rintro e v1 ⟨rfl, hB⟩; (have P3 : Hid (PL w gl cl gt 3 sb tk tk tv v1) := P2.out.past hB); clear hB P2 x0 x2 c3)
              | (refine store32_new hh rfl _ _ rfl rfl rfl P3.out.bel ?_; intro v2 hr hw hv; (have P4 : Hid (PL w gl cl gt 3 sb tk tk tv v2) := P3.out.past hv); (have R4 : Hid (RowB v2 v1.heap.size 32 hh) := hr); clear hr hw hv P3))
            generalize v1.heap.size = b9 at R4 ⊢
            obtain ⟨tc, tf, ta, tcap, etv, tsg⟩ := P4.out.tcell hk3
            rw [etv] at tc tsg
            have PD : Hid (PL w gl cl gt 3 sb tk tk tv v2.drew) := P4.out.past (Below.refl _ _).drew
            have SD : Hid (Seg v2.drew (.slice ta (tk k).length tcap) (tk k)) := tsg
            have FH : Hid (∀ V V' : World, Below V.heap.size V V' → (fun V' => RowB V' b9 32 hh ∧ V'.cell? ⟨gt, k, none⟩ = some (.slice ta (tk k).length tcap)) V → (fun V' => RowB V' b9 32 hh ∧ V'.cell? ⟨gt, k, none⟩ = some (.slice ta (tk k).length tcap)) V') := fun V V' hB h => ⟨h.1.below hB (h.1.lt (by omega)), (hB.cell (p := ⟨gt, k, none⟩) (World.block_lt_of_cell? _ _ h.2)).trans h.2⟩
            refine wp_region_held_drew (S := fun V' => RowB V' b9 32 hh ∧ V'.cell? ⟨gt, k, none⟩ = some (.slice ta (tk k).length tcap)) (by kernel_rfl) ⟨R4.out, tc⟩ (fun hHeld => ?_)
            generalize v2.drew = z0 at hHeld PD SD ⊢
            clear P4 R4 tc tf tsg
            refine wpAnyH_take (i := 0) (v := .agg (rowB 32 hh).toArray) ov0 (by kernel_rfl) (by kernel_rfl) (by kernel_rfl) (fun _ _ _ h => h) (yieldsIf_load_mid (by rfl) _ _ rfl b9 0 rfl (rowB 32 hh) _ (fun _ h => RowB.range h.1) Tryd.underlying34 rfl (by rw [rowB_len]; kernel_rfl)) hHeld ?_
            simp only [Act.put, List.setIfInBounds_toArray, List.set_cons_zero, List.set_cons_succ]
            refine wpAnyH_take (i := 1) (v := .slice (some ⟨gt, 0, none⟩) 3 3) ov1 (by kernel_rfl) (by kernel_rfl) (by kernel_rfl) (fun _ _ _ h => h) (Or.inl ⟨by rfl, fun V' hS => ?_⟩) hHeld ?_
            · go_simp
            simp only [Act.put, List.setIfInBounds_toArray, List.set_cons_zero, List.set_cons_succ]
            refine wpAnyH_take (i := 2) (v := .int .i64 (k : Int)) ov2 (by kernel_rfl) (by kernel_rfl) (by kernel_rfl) (fun _ _ _ h => h) (Or.inl ⟨by rfl, fun V' hS => ?_⟩) hHeld ?_
            · go_simp
            simp only [Act.put, List.setIfInBounds_toArray, List.set_cons_zero, List.set_cons_succ]
            refine wpAnyH_take (i := 3) (v := .pointer (some ⟨gt, k, none⟩)) ov3 (by kernel_rfl) (by kernel_rfl) (by kernel_rfl) (fun _ _ _ h => h) (Or.inl ⟨by rfl, fun V' hS => ?_⟩) hHeld ?_
            · go_simp
            simp only [Act.put, List.setIfInBounds_toArray, List.set_cons_zero, List.set_cons_succ]
            refine wpAnyH_take (i := 4) (v := .slice ta (tk k).length tcap) ov4 (by kernel_rfl) (by kernel_rfl) (by kernel_rfl) (fun _ _ _ h => h) (Or.inl ⟨by rfl, fun V' hS => ?_⟩) hHeld ?_
            · have k1 := hS.2
              go_simp
            simp only [Act.put, List.setIfInBounds_toArray, List.set_cons_zero, List.set_cons_succ]
            refine wpAnyH_ready (rs := [5]) (by kernel_rfl) (by simp) ?_
            refine AllReadyH.cons ov5 (fun K hK => ?_) AllReadyH.nil
            rw [if_pos (by rfl)]
            go_simp
            have hB5 : Below z0.heap.size z0 (z0.alloc (.cells #[.slice ta (tk k).length tcap] 29)) := (Below.refl _ _).alloc (Nat.le_refl _) _
            have hHeld2 := FH.out _ _ hB5 hHeld
            refine hK.out _ _ hHeld2 (fun _ => ?_)
            clear hK K
            (try simp only [Act.put, List.setIfInBounds_toArray, List.set_cons_zero, List.set_cons_succ])
            refine wpAnyH_ready (rs := [6]) (by kernel_rfl) (by simp) ?_
            refine AllReadyH.cons ov6 (fun K hK => ?_) AllReadyH.nil
            rw [if_pos (by rfl)]
            go_simp
            refine (RS.out _ z0.heap.size (.slice ta (tk k).length tcap) (by simp) (SD.out.below hB5)).mono ?_
            rintro e z1 ⟨rfl, hB6⟩
            have hHeld3 := FH.out _ _ hB6 hHeld2
            have PE : Hid (PL w gl cl gt 3 sb tk tk tv z1) := (PD.out.past hB5).past hB6
            clear hB6 hB5 hHeld hHeld2 PD SD
            (try go_wp2_with fail)
            refine hK.out _ _ hHeld3 (fun _ => ?_)
            clear hK K
            (try simp only [Act.put, List.setIfInBounds_toArray, List.set_cons_zero, List.set_cons_succ])
            refine wpAnyH_take (i := 7) (v := .bool false) ov7 (by kernel_rfl) (by kernel_rfl) (by kernel_rfl) (fun _ _ _ h => h) (Or.inl ⟨by rfl, fun V' hS => ?_⟩) hHeld3 ?_
            · go_simp
            simp only [Act.put, List.setIfInBounds_toArray, List.set_cons_zero, List.set_cons_succ]
            refine wpAnyH_done (by kernel_rfl) ?_ _
            clear hHeld3 etv
            go_wp2
            go_roundw
            case rel => exact ⟨i + 1, by omega, by go_num, sb, tk, tv, PE.out, HLX.out _ (fun j hj => by have := HLN2.out j hj; omega), HBT.out⟩
            case measure => simp [intOf]; omega
          by_cases z3 : zk = 3
          · subst z3
            have RE : Hid (Calls Tryd.prog 25 #[.pointer (some ⟨sb k, 0, none⟩)] W1 fun e w' => e = .returned (.tuple #[]) ∧ Spo w' (sb k) zeroK 0 ∧ Only (sb k) W1 w') := reset_is W1 (sb k) _ _ (P2.out.spo k hk3).1
            have c3 := (P2.out.pcell hk3).1
            go_upto_region 32 with (go_at_call 25; refine (RE.out).mono ?_; rintro e v1 ⟨rfl, hs1, ho1⟩; (have P3 : Hid (PL w gl cl gt 3 sb (upd tk k []) tk tv v1) := P2.out.only hk3 ho1 (l := []) hs1); clear hs1 ho1 RE P2 x0 x2 c3)
            obtain ⟨tc, tf, ta, tcap, etv, tsg⟩ := P3.out.tcell hk3
            rw [etv] at tc
            have P4 : Hid (PL w gl cl gt 3 sb (upd tk k []) (upd tk k []) (upd tv k (.slice none 0 0)) (v1.setCell ⟨gt, k, none⟩ (.slice none 0 0))) := P3.out.clear hk3
            clear P3 tsg etv
            go_wp2
            go_roundw
            case rel => exact ⟨i + 1, by omega, by go_num, sb, _, _, P4.out, HLX.out _ (upd_len (fun j hj => by have := HLN2.out j hj; omega) (Nat.zero_le _)), upd_byte HBT.out (fun q => by simp)⟩
            case measure => simp [intOf]; omega
          by_cases z4 : zk = 4
          · subst z4
            have NW : Hid (Calls Tryd.prog 21 #[] W1 fun e w' => e = .returned (.pointer (some ⟨W1.heap.size, 0, none⟩)) ∧ Spo w' W1.heap.size zeroK 0 ∧ Below W1.heap.size W1 w') := new_is W1
            go_upto_region 35 with (go_at_call 21; refine (NW.out).mono ?_; rintro e v1 ⟨rfl, hs1, hB1⟩; (have P3 : Hid (PL w gl cl gt 3 (upd sb k W1.heap.size) (upd tk k []) tk tv (v1.setCell ⟨gl, k, none⟩ (ptr W1.heap.size))) := P2.out.renew hk3 hB1 hs1); (have P2b : Hid (PL w gl cl gt 3 sb tk tk tv v1) := P2.out.past hB1); clear hs1 hB1 NW P2 x0 x2)
            obtain ⟨c3, f3⟩ := P2b.out.pcell hk3
            clear P2b
            generalize W1.heap.size = b6 at P3 ⊢
            have P3' : Hid (PL w gl cl gt 3 (upd sb k b6) (upd tk k []) tk tv (v1.setCell ⟨gl, k, none⟩ (.pointer (some ⟨b6, 0, none⟩)))) := P3.out
            clear P3
            go_upto_region 38 with fail
            generalize v1.setCell ⟨gl, k, none⟩ (.pointer (some ⟨b6, 0, none⟩)) = v2 at P3' ⊢
            clear c3 f3
            obtain ⟨tc, tf, ta, tcap, etv, tsg⟩ := P3'.out.tcell hk3
            rw [etv] at tc
            have P4 : Hid (PL w gl cl gt 3 (upd sb k b6) (upd tk k []) (upd tk k []) (upd tv k (.slice none 0 0)) (v2.setCell ⟨gt, k, none⟩ (.slice none 0 0))) := P3'.out.clear hk3
            clear P3' tsg etv
            go_wp2
            go_roundw
            case rel => exact ⟨i + 1, by omega, by go_num, _, _, _, P4.out, HLX.out _ (upd_len (fun j hj => by have := HLN2.out j hj; omega) (Nat.zero_le _)), upd_byte HBT.out (fun q => by simp)⟩
            case measure => simp [intOf]; omega
          clear x0 x2
          go_wp2
          go_roundw
          case rel => exact ⟨i + 1, by omega, by go_num, sb, tk, tv, P2.out, HLX.out _ (fun j hj => by have := HLN2.out j hj; omega), HBT.out⟩
          case measure => simp [intOf]; omega
        · obtain rfl : i = n := by omega
          have iI : ¬ ((i : Int) < (i : Int)) := by omega
          have P1 : Hid (PL w gl cl gt 3 sb tk tk tv wr) := hP
          have HBT : Hid (∀ j q, (tk j).getD q 0 < 256) := hBT
          have HTL : Hid (∀ j, j < 3 → (tk j).length ≤ 16777216) := fun j hj => Nat.le_trans (hLN j hj) HLN.out
          clear hP hLN hBT hi9 HLS HS HBY HP
          go_wp2
          go_loopw [14] (fun s wr => ∃ k : Nat, k ≤ 3 ∧ s = .int .i64 (k : Int) ∧ PL w gl cl gt 3 sb tk tk tv wr) (fun s _ => 3 - (intOf s).toNat)
          case atStart => exact ⟨0, Nat.zero_le _, rfl, P1.out⟩
          case round =>
            clear P1
            obtain ⟨k, hk, rfl, hP⟩ := hrel
            by_cases hk3 : k < 3
            · have kI : (k : Int) < 3 := by omega
              have P2 : Hid (PL w gl cl gt 3 sb tk tk tv wr) := hP
              clear hP hk
              have SM : Hid (∀ V, PL w gl cl gt 3 sb tk tk tv V → Calls Tryd.prog 24 #[.pointer (some ⟨sb k, 0, none⟩)] V fun e w' => e = .returned (.agg (rowB 32 (sumF (tk k))).toArray) ∧ Below V.heap.size V w') := fun V hV => sum_is V (sb k) _ _ (Tabs.below HT.out hV.bel g2) (hV.spo k hk3).1 (AB_lt _)
              have RS : Hid (∀ V pb v, V.cell? ⟨pb, 0, none⟩ = some v → Seg V v (tk k) → Calls Tryd.prog 15 #[.slice (some ⟨pb, 0, none⟩) 1 1] V fun e w' => e = .returned (.agg (rowB 32 (sumF (tk k))).toArray) ∧ Below V.heap.size V w') := fun V pb v h1 h2 => rsum_is V pb v _ h1 h2 (HBT.out k) (by have := HTL.out k hk3; omega)
              have e32 : ∀ W : World, Sem.run Tryd.prog (Op.equalIn 10000 34 (.agg (rowB 32 (sumF (tk k))).toArray) (.agg (rowB 32 (sumF (tk k))).toArray)) W = .ok true W := fun W => by rw [eq32_run, (rowEq_iff 32 _ _).2 fun _ _ => rfl]
              generalize sumF (tk k) = hh at SM RS e32
              have c3 := (P2.out.pcell hk3).1
              go_upto_region 43 with (first
                | (go_at_call 24; refine (SM.out _ P2.out).mono ?_; rintro e v1 ⟨rfl, hB⟩; (have P3 : Hid (PL w gl cl gt 3 sb tk tk tv v1) := P2.out.past hB); clear hB P2 c3)
                | (refine store32_new hh rfl _ _ rfl rfl rfl P3.out.bel ?_; intro v2 hr hw hv; (have P4 : Hid (PL w gl cl gt 3 sb tk tk tv v2) := P3.out.past hv); (have R4 : Hid (RowB v2 v1.heap.size 32 hh) := hr); clear hr hw hv P3))
              generalize v1.heap.size = b9 at R4 ⊢
              have c4 := (P4.out.pcell hk3).1
              go_upto_region 44 with (first
                | (go_at_call 24; refine (SM.out _ P4.out).mono ?_; rintro e v3 ⟨rfl, hB⟩; (have P5 : Hid (PL w gl cl gt 3 sb tk tk tv v3) := P4.out.past hB); (have R5 : Hid (RowB v3 b9 32 hh) := R4.out.below hB (R4.out.lt (by omega))); clear hB P4 R4 c4)
                | (refine store32_new hh rfl _ _ rfl rfl rfl P5.out.bel ?_; intro v4 hr hw hv; (have P6 : Hid (PL w gl cl gt 3 sb tk tk tv v4) := P5.out.past hv); (have R6 : Hid (RowB v4 b9 32 hh) := R5.out.below hv (R5.out.lt (by omega))); (have Q6 : Hid (RowB v4 v3.heap.size 32 hh) := hr); clear hr hw hv P5 R5))
              generalize v3.heap.size = b10 at Q6 ⊢
              obtain ⟨tc, tf, ta, tcap, etv, tsg⟩ := P6.out.tcell hk3
              rw [etv] at tc tsg
              have PD : Hid (PL w gl cl gt 3 sb tk tk tv v4.drew) := P6.out.past (Below.refl _ _).drew
              have SD : Hid (Seg v4.drew (.slice ta (tk k).length tcap) (tk k)) := tsg
              have FH : Hid (∀ V V' : World, Below V.heap.size V V' → (fun V' => RowB V' b9 32 hh ∧ V'.cell? ⟨gt, k, none⟩ = some (.slice ta (tk k).length tcap) ∧ RowB V' b10 32 hh) V → (fun V' => RowB V' b9 32 hh ∧ V'.cell? ⟨gt, k, none⟩ = some (.slice ta (tk k).length tcap) ∧ RowB V' b10 32 hh) V') := fun V V' hB h => ⟨h.1.below hB (h.1.lt (by omega)), (hB.cell (p := ⟨gt, k, none⟩) (World.block_lt_of_cell? _ _ h.2.1)).trans h.2.1, h.2.2.below hB (h.2.2.lt (by omega))⟩
              refine wp_region_held_drew (S := fun V' => RowB V' b9 32 hh ∧ V'.cell? ⟨gt, k, none⟩ = some (.slice ta (tk k).length tcap) ∧ RowB V' b10 32 hh) (by kernel_rfl) ⟨R6.out, tc, Q6.out⟩ (fun hHeld => ?_)
              generalize v4.drew = z0 at hHeld PD SD ⊢
              clear P6 R6 Q6 tc tf tsg
              refine wpAnyH_take (i := 0) (v := .agg (rowB 32 hh).toArray) ov0 (by kernel_rfl) (by kernel_rfl) (by kernel_rfl) (fun _ _ _ h => h) (yieldsIf_load_mid (by rfl) _ _ rfl b9 0 rfl (rowB 32 hh) _ (fun _ h => RowB.range h.1) Tryd.underlying34 rfl (by rw [rowB_len]; kernel_rfl)) hHeld ?_
              simp only [Act.put, List.setIfInBounds_toArray, List.set_cons_zero, List.set_cons_succ]
              refine wpAnyH_take (i := 1) (v := .slice (some ⟨gt, 0, none⟩) 3 3) ov1 (by kernel_rfl) (by kernel_rfl) (by kernel_rfl) (fun _ _ _ h => h) (Or.inl ⟨by rfl, fun V' hS => ?_⟩) hHeld ?_
              · go_simp
              simp only [Act.put, List.setIfInBounds_toArray, List.set_cons_zero, List.set_cons_succ]
              refine wpAnyH_take (i := 2) (v := .int .i64 (k : Int)) ov2 (by kernel_rfl) (by kernel_rfl) (by kernel_rfl) (fun _ _ _ h => h) (Or.inl ⟨by rfl, fun V' hS => ?_⟩) hHeld ?_
              · go_simp
              simp only [Act.put, List.setIfInBounds_toArray, List.set_cons_zero, List.set_cons_succ]
              refine wpAnyH_take (i := 3) (v := .pointer (some ⟨gt, k, none⟩)) ov3 (by kernel_rfl) (by kernel_rfl) (by kernel_rfl) (fun _ _ _ h => h) (Or.inl ⟨by rfl, fun V' hS => ?_⟩) hHeld ?_
              · go_simp
              simp only [Act.put, List.setIfInBounds_toArray, List.set_cons_zero, List.set_cons_succ]
              refine wpAnyH_take (i := 4) (v := .slice ta (tk k).length tcap) ov4 (by kernel_rfl) (by kernel_rfl) (by kernel_rfl) (fun _ _ _ h => h) (Or.inl ⟨by rfl, fun V' hS => ?_⟩) hHeld ?_
              · have k1 := hS.2.1
                go_simp
              simp only [Act.put, List.setIfInBounds_toArray, List.set_cons_zero, List.set_cons_succ]
              refine wpAnyH_ready (rs := [5]) (by kernel_rfl) (by simp) ?_
              refine AllReadyH.cons ov5 (fun K hK => ?_) AllReadyH.nil
              rw [if_pos (by rfl)]
              go_simp
              have hB5 : Below z0.heap.size z0 (z0.alloc (.cells #[.slice ta (tk k).length tcap] 29)) := (Below.refl _ _).alloc (Nat.le_refl _) _
              have hHeld2 := FH.out _ _ hB5 hHeld
              refine hK.out _ _ hHeld2 (fun _ => ?_)
              clear hK K
              (try simp only [Act.put, List.setIfInBounds_toArray, List.set_cons_zero, List.set_cons_succ])
              refine wpAnyH_ready (rs := [6]) (by kernel_rfl) (by simp) ?_
              refine AllReadyH.cons ov6 (fun K hK => ?_) AllReadyH.nil
              rw [if_pos (by rfl)]
              go_simp
              refine (RS.out _ z0.heap.size (.slice ta (tk k).length tcap) (by simp) (SD.out.below hB5)).mono ?_
              rintro e z1 ⟨rfl, hB6⟩
              have hHeld3 := FH.out _ _ hB6 hHeld2
              have PE : Hid (PL w gl cl gt 3 sb tk tk tv z1) := (PD.out.past hB5).past hB6
              clear hB6 hB5 hHeld hHeld2 PD SD
              (try go_wp2_with fail)
              refine hK.out _ _ hHeld3 (fun _ => ?_)
              clear hK K
              (try simp only [Act.put, List.setIfInBounds_toArray, List.set_cons_zero, List.set_cons_succ])
              refine wpAnyH_take (i := 7) (v := .bool false) ov7 (by kernel_rfl) (by kernel_rfl) (by kernel_rfl) (fun _ _ _ h => h) (Or.inl ⟨by rfl, fun V' hS => ?_⟩) hHeld3 ?_
              · go_simp
              simp only [Act.put, List.setIfInBounds_toArray, List.set_cons_zero, List.set_cons_succ]
              refine wpAnyH_take (i := 8) (v := .bool false) ov8 (by kernel_rfl) (by kernel_rfl) (by kernel_rfl) (fun _ _ _ h => h) (Or.inl ⟨by rfl, fun V' hS => ?_⟩) hHeld3 ?_
              · go_simp
              simp only [Act.put, List.setIfInBounds_toArray, List.set_cons_zero, List.set_cons_succ]
              refine wpAnyH_take (i := 9) (v := .agg (rowB 32 hh).toArray) ov9 (by kernel_rfl) (by kernel_rfl) (by kernel_rfl) (fun _ _ _ h => h) (yieldsIf_load_mid (by rfl) _ _ rfl b9 0 rfl (rowB 32 hh) _ (fun _ h => RowB.range h.1) Tryd.underlying34 rfl (by rw [rowB_len]; kernel_rfl)) hHeld3 ?_
              simp only [Act.put, List.setIfInBounds_toArray, List.set_cons_zero, List.set_cons_succ]
              refine wpAnyH_take (i := 10) (v := .agg (rowB 32 hh).toArray) ov10 (by kernel_rfl) (by kernel_rfl) (by kernel_rfl) (fun _ _ _ h => h) (yieldsIf_load_mid (by rfl) _ _ rfl b10 0 rfl (rowB 32 hh) _ (fun _ h => RowB.range h.2.2) Tryd.underlying34 rfl (by rw [rowB_len]; kernel_rfl)) hHeld3 ?_
              simp only [Act.put, List.setIfInBounds_toArray, List.set_cons_zero, List.set_cons_succ]
              refine wpAnyH_take (i := 11) (v := .bool false) ov11 (by kernel_rfl) (by kernel_rfl) (by kernel_rfl) (fun _ _ _ h => h) (Or.inl ⟨by rfl, fun V' hS => ?_⟩) hHeld3 ?_
              · go_simp
              simp only [Act.put, List.setIfInBounds_toArray, List.set_cons_zero, List.set_cons_succ]
              refine wpAnyH_take (i := 12) (v := .bool false) ov12 (by kernel_rfl) (by kernel_rfl) (by kernel_rfl) (fun _ _ _ h => h) (Or.inl ⟨by rfl, fun V' hS => ?_⟩) hHeld3 ?_
              · go_simp
              simp only [Act.put, List.setIfInBounds_toArray, List.set_cons_zero, List.set_cons_succ]
              refine wpAnyH_done (by kernel_rfl) ?_ _
              clear hHeld3 etv
              go_wp2
              go_roundw
              case rel => exact ⟨k + 1, by omega, by go_num, PE.out⟩
              case measure => simp [intOf]; omega
            · obtain rfl : k = 3 := by omega
              rw [show ((3 : Nat) : Int) = 3 from rfl]
              have HB : Hid (Below w.heap.size w wr) := hP.bel
              clear hP
              go_wp2
              go_ret
              exact ⟨rfl, HB.out⟩
end Go.Proofs.YteggikojfkmbkaaDoor
