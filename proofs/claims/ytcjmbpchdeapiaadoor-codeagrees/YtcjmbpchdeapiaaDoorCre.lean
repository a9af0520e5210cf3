/- The document's All, Starts, Scan. -/
import Derived.Test.YtcjmbpchdeapiaaDoorCrc
namespace Go.Proofs.YtcjmbpchdeapiaaDoor
open Go.RowKit
def rC (b : Nat → Nat) (x : Nat × Value) : List Value := [.int .i64 (x.1 : Int), .int .i64 (b x.1 : Int), x.2, .int .i64 (nxA b x.1 : Int)]
def rL (b : Nat → Nat) (xs : List (Nat × Value)) : List Value := xs.flatMap (rC b)
theorem rL_snoc (b : Nat → Nat) (xs : List (Nat × Value)) (x : Nat × Value) : rL b (xs ++ [x]) = rL b xs ++ rC b x := by simp [rL]
theorem rL_get (b : Nat → Nat) : ∀ (xs : List (Nat × Value)) (j i : Nat) (x : Nat × Value), xs[j]? = some x → i < 4 → (rL b xs)[4 * j + i]? = (rC b x)[i]?
  | [], j, i, x, h, _ => by simp at h
  | y :: ys, 0, i, x, h, hi => by
    obtain rfl : y = x := by simpa using h
    rw [show rL b (y :: ys) = rC b y ++ rL b ys from rfl, List.getElem?_append_left (by simp [rC]; omega)]
    simp
  | y :: ys, j + 1, i, x, h, hi => by
    have ih := rL_get b ys j i x (by simpa using h) hi
    rw [show rL b (y :: ys) = rC b y ++ rL b ys from rfl, List.getElem?_append_right (by simp [rC]; omega), show 4 * (j + 1) + i - (rC b y).length = 4 * j + i by simp [rC]; omega]
    exact ih
def RFit (b : Nat → Nat) (xs : List (Nat × Value)) : Prop := xs.map Prod.fst = (List.range xs.length).map (posA b)
theorem RFit.snoc {b : Nat → Nat} {xs : List (Nat × Value)} {x : Nat × Value} (h : RFit b xs) (hx : x.1 = posA b xs.length) : RFit b (xs ++ [x]) := by
  unfold RFit at h ⊢
  rw [List.map_append, h, List.length_append, List.length_singleton, List.range_succ, List.map_append]
  simp [hx]
theorem RFit.get {b : Nat → Nat} {xs : List (Nat × Value)} (h : RFit b xs) {j : Nat} {x : Nat × Value} (hx : xs[j]? = some x) : x.1 = posA b j := by
  have hj := (List.getElem?_eq_some_iff.1 hx).1
  have e := congrArg (fun l => l[j]?) h
  simp only [List.getElem?_map, hx, Option.map_some] at e
  rw [List.getElem?_eq_getElem (by simpa using hj)] at e
  simpa using e
theorem rC_one (b : Nat → Nat) (A : Nat) (ia : Option Addr) (n ic : Nat) : ∀ u ∈ rC b (A, .slice ia n ic), u.oneCell' = true := by
  intro u hu
  simp only [rC, List.mem_cons, List.not_mem_nil, or_false] at hu
  rcases hu with rfl | rfl | rfl | rfl <;> rfl
/-- the immediate bytes of the listed instructions -/
def RQ (n0 : Nat) (b : Nat → Nat) (xs : List (Nat × Value)) (W : World) : Prop := ∀ x ∈ xs, W.ownsRow n0 5 1 x.2 (immA b x.1) (bsL (immA b x.1) (fun j => b (x.1 + 1 + j)))
theorem row_apart {W W' : World} {b1 b2 s1 s2 k1 k2 : Nat} {e1 e2 : TypeId} {v1 v2 : Value} {l1 l2 : List Value} (h1 : W.ownsRow b1 e1 s1 v1 k1 l1) (h2 : W.ownsRow b2 e2 s2 v2 k2 l2) (he : e1 ≠ e2) (hg : W.grownBy W' v2.ownBlock) : W'.ownsRow b1 e1 s1 v1 k1 l1 := by
  refine ⟨h1.1, h1.2.imp id fun ⟨g, c, cur, a1, a2, a3, a4⟩ => ⟨g, c, cur, a1, a2, ?_, a4⟩⟩
  refine (hg.block g (Array.getElem?_eq_some_iff.1 a3).1 fun e => ?_).trans a3
  rcases h2.2 with ⟨rfl, _⟩ | ⟨g', c', cur', rfl, _, b3, _⟩
  · simp [Value.ownBlock] at e
  · obtain rfl : g = g' := by simpa [Value.ownBlock] using e
    rw [a3] at b3; cases b3; exact he rfl
theorem RQ.past {n0 : Nat} {b : Nat → Nat} {xs : List (Nat × Value)} {W W' : World} (h : RQ n0 b xs W) (hB : Below W.heap.size W W') : RQ n0 b xs W' := fun x hx => ownsRow_past (h x hx) hB
theorem RQ.snoc {n0 : Nat} {b : Nat → Nat} {xs : List (Nat × Value)} {x : Nat × Value} {W : World} (h : RQ n0 b xs W) (hx : W.ownsRow n0 5 1 x.2 (immA b x.1) (bsL (immA b x.1) (fun j => b (x.1 + 1 + j)))) : RQ n0 b (xs ++ [x]) W := fun y hy => by
  rcases List.mem_append.1 hy with hy | hy
  · exact h y hy
  · obtain rfl := List.mem_singleton.1 hy; exact hx
/-- the listed instructions in memory -/
def RAll (n0 : Nat) (b : Nat → Nat) (k : Nat) (lv : Value) (W : World) : Prop := ∃ xs : List (Nat × Value), xs.length = k ∧ RFit b xs ∧ W.ownsRow n0 40 4 lv k (rL b xs) ∧ RQ n0 b xs W
theorem RAll.past {n0 : Nat} {b : Nat → Nat} {k : Nat} {lv : Value} {W W' : World} (h : RAll n0 b k lv W) (hB : Below W.heap.size W W') : RAll n0 b k lv W' := by
  obtain ⟨xs, h1, h2, h3, h4⟩ := h; exact ⟨xs, h1, h2, ownsRow_past h3 hB, h4.past hB⟩
theorem RAll.slice {n0 : Nat} {b : Nat → Nat} {k : Nat} {lv : Value} {W : World} (h : RAll n0 b k lv W) : ∃ ad c, lv = .slice ad k c ∧ (k ≠ 0 → ∃ g, ad = some ⟨g, 0, none⟩) := by
  obtain ⟨_, _, _, h, _⟩ := h; exact own_slice h
theorem RAll.at {n0 : Nat} {b : Nat → Nat} {k g cap : Nat} {W : World} (h : RAll n0 b k (.slice (some ⟨g, 0, none⟩) k cap) W) (hb : ∀ j, b j < 256) (j : Nat) (hj : j < k) : ∃ (ia : Option Addr) (ic : Nat), W.cell? ⟨g, j * 4, none⟩ = some (.int .i64 (posA b j : Int)) ∧ W.cell? ⟨g, j * 4 + 1, none⟩ = some (.int .i64 (b (posA b j) : Int)) ∧ W.cell? ⟨g, j * 4 + 2, none⟩ = some (.slice ia (immA b (posA b j)) ic) ∧ W.cell? ⟨g, j * 4 + 3, none⟩ = some (.int .i64 (posA b (j + 1) : Int)) ∧ BytesOf W (.slice ia (immA b (posA b j)) ic) (immA b (posA b j)) (fun i => b (posA b j + 1 + i)) := by
  obtain ⟨xs, hl, hx, hr, hq⟩ := h
  have hx2 : xs[j]? = some xs[j] := List.getElem?_eq_getElem (by omega)
  have e := hx.get hx2
  have hm := hq xs[j] (List.getElem_mem _)
  rw [e] at hm
  obtain ⟨ia, ic, hv, _⟩ := own_slice hm
  have hby := (own_bytes hm (fun i => hb _)).1
  rw [hv] at hby
  have key : ∀ i, i < 4 → W.cell? ⟨g, j * 4 + i, none⟩ = (rC b xs[j])[i]? := fun i hi => by
    rw [hr.cellAt (j * 4 + i) (by omega), Nat.mul_comm j 4]; exact rL_get b xs j i _ hx2 hi
  refine ⟨ia, ic, ?_, ?_, ?_, ?_, hby⟩
  · have := key 0 (by omega); rw [Nat.add_zero] at this; rw [this]; simp only [rC, List.getElem?_cons_zero, e]
  · rw [key 1 (by omega)]; simp only [rC, List.getElem?_cons_zero, List.getElem?_cons_succ, e]
  · rw [key 2 (by omega)]; simp only [rC, List.getElem?_cons_zero, List.getElem?_cons_succ, hv]
  · rw [key 3 (by omega)]; simp only [rC, List.getElem?_cons_zero, List.getElem?_cons_succ, e, posA]
set_option maxHeartbeats 4000000 in
set_option maxRecDepth 100000 in
theorem rAll_is (w : World) (v : Value) (L : Nat) (b : Nat → Nat) (hv : BytesOf w v L b) (hL : L ≤ 1000000) : Calls Tryd.prog 16 #[v] w fun e w' => ∃ k lv, FullA b L k ∧ e = .returned lv ∧ RAll w.heap.size b k lv w' ∧ Below w.heap.size w w' := by
  obtain ⟨i0, hi, hz0, hz1, hz2⟩ := info_parts infoI4
  have HVV : Hid (BytesOf w v L b) := hv
  obtain ⟨ad, cap, rfl, _⟩ := hv
  have lI : (L : Int) ≤ 1000000 := by omega
  go_enter Tryd.func16, Tryd.ntmps16
  go_wp2
  go_loopw [3, 4] (fun sv si wr => ∃ xs : List (Nat × Value), (RFit b xs ∧ UptoA b L xs.length) ∧ si = .int .i64 (posA b xs.length : Int) ∧ wr.ownsRow w.heap.size 40 4 sv xs.length (rL b xs) ∧ RQ w.heap.size b xs wr ∧ Below w.heap.size w wr) (fun _ si _ => L - (intOf si).toNat)
  case atStart => exact ⟨[], ⟨rfl, uptoA_zero b L⟩, rfl, World.ownsRow_nil _ _ _ _, (fun x hx => (by cases hx)), Below.refl _ _⟩
  case round =>
    obtain ⟨xs, hF, rfl, hR, hQ, hBr⟩ := hrel
    have HF : Hid (RFit b xs ∧ UptoA b L xs.length) := hF
    have HR : Hid (wr.ownsRow w.heap.size 40 4 u3 xs.length (rL b xs) ∧ RQ w.heap.size b xs wr ∧ Below w.heap.size w wr) := ⟨hR, hQ, hBr⟩
    have hcnt := hF.2.count
    have HP : Hid (posA b (xs.length + 1) = nxA b (posA b xs.length) ∧ posA b xs.length < posA b (xs.length + 1)) := ⟨rfl, posA_lt b _ _ (by omega)⟩
    have HLE := hF.2.le_len
    clear hR hQ hF
    by_cases hlt : posA b xs.length < L
    · have aI : ((posA b xs.length : Nat) : Int) < (L : Int) := by omega
      cases ho : okA b L (posA b xs.length) with
      | false =>
        have HO : Hid (Calls Tryd.prog 25 #[.slice ad L cap, .int .i64 ((posA b xs.length : Nat) : Int)] wr fun e w' => e = .returned (.tuple #[.agg #[.int .i64 0, .int .i64 0, .slice none 0 0, .int .i64 0], .int .i64 (errA b L (posA b xs.length))]) ∧ Below wr.heap.size wr w') := rone_no wr _ L b (posA b xs.length) (HVV.out.below rfl hBr) hL ho
        have er0 : ¬ errA b L (posA b xs.length) = 0 := by unfold errA; split; decide; split <;> decide
        have HFL : Hid (FullA b L xs.length) := ⟨HF.out.2, ho⟩
        generalize errA b L (posA b xs.length) = er at HO er0
        generalize posA b xs.length = A at HO HP aI hlt HLE
        obtain ⟨a3, c3, rfl, h3⟩ := own_slice HR.out.1
        clear ho hBr h3
        go_wp2_with (go_at_call 25; refine HO.out.mono ?_; rintro e w1 ⟨rfl, hB⟩; (have B1 : Hid (Below wr.heap.size wr (w1.alloc (.cells #[.int .i64 0, .int .i64 0, .slice none 0 0, .int .i64 0] 40))) := hB.alloc hB.size _); clear hB HO)
        go_ret
        exact ⟨xs.length, _, HFL.out, rfl, ⟨xs, rfl, HF.out.1, ownsRow_past HR.out.1 B1.out, HR.out.2.1.past B1.out⟩, HR.out.2.2.trans (B1.out.mono HR.out.2.2.size)⟩
      | true =>
        have HO : Hid (Calls Tryd.prog 25 #[.slice ad L cap, .int .i64 ((posA b xs.length : Nat) : Int)] wr fun e w' => ∃ ia ic, e = .returned (.tuple #[.agg #[.int .i64 ((posA b xs.length : Nat) : Int), .int .i64 (b (posA b xs.length) : Int), .slice ia (immA b (posA b xs.length)) ic, .int .i64 (nxA b (posA b xs.length) : Int)], .int .i64 0]) ∧ w'.ownsRow wr.heap.size 5 1 (.slice ia (immA b (posA b xs.length)) ic) (immA b (posA b xs.length)) (bsL (immA b (posA b xs.length)) (fun j => b (posA b xs.length + 1 + j))) ∧ Below wr.heap.size wr w') := (rone_ok wr _ L b (posA b xs.length) (HVV.out.below rfl hBr) hL ho).mono fun e w' ⟨iv, he, hw, hB⟩ => by
          obtain ⟨ia, ic, rfl, _⟩ := own_slice hw; exact ⟨ia, ic, he, hw, hB⟩
        have HU : Hid (UptoA b L (xs.length + 1)) := HF.out.2.succ ho
        have HRC : Hid (∀ ia ic, rC b (posA b xs.length, .slice ia (immA b (posA b xs.length)) ic) = [.int .i64 ((posA b xs.length : Nat) : Int), .int .i64 (b (posA b xs.length) : Int), .slice ia (immA b (posA b xs.length)) ic, .int .i64 (nxA b (posA b xs.length) : Int)]) := fun _ _ => rfl
        have HSN : Hid (∀ ia ic, RFit b (xs ++ [(posA b xs.length, .slice ia (immA b (posA b xs.length)) ic)])) := fun ia ic => HF.out.1.snoc rfl
        have HQS : Hid (∀ W ia ic, RQ w.heap.size b xs W → W.ownsRow w.heap.size 5 1 (.slice ia (immA b (posA b xs.length)) ic) (immA b (posA b xs.length)) (bsL (immA b (posA b xs.length)) (fun j => b (posA b xs.length + 1 + j))) → RQ w.heap.size b (xs ++ [(posA b xs.length, .slice ia (immA b (posA b xs.length)) ic)]) W) := fun W ia ic h1 h2 => RQ.snoc h1 h2
        generalize (fun j => b (posA b xs.length + 1 + j)) = bi at HO HQS
        generalize nxA b (posA b xs.length) = nx at HO HP HRC
        generalize immA b (posA b xs.length) = n at HO HRC HSN HQS
        generalize hc : b (posA b xs.length) = c at HO HRC
        clear hc
        generalize posA b xs.length = A at HO HP aI hlt HRC HSN HQS HLE
        clear ho hBr
        go_upto_region 5 with (go_at_call 25; refine HO.out.mono ?_; rintro e w1 ⟨ia, ic, rfl, hw, hB⟩; (have R1 : Hid (Below wr.heap.size wr (w1.alloc (.cells #[.int .i64 (A : Int), .int .i64 (c : Int), .slice ia n ic, .int .i64 (nx : Int)] 40)) ∧ (w1.alloc (.cells #[.int .i64 (A : Int), .int .i64 (c : Int), .slice ia n ic, .int .i64 (nx : Int)] 40)).ownsRow w.heap.size 5 1 (.slice ia n ic) n (bsL n bi) ∧ wr.heap.size ≤ w1.heap.size) := ⟨hB.alloc hB.size _, owns_lower (ownsRow_past hw ((Below.refl _ w1).alloc (Nat.le_refl _) _)) HR.out.2.2.size, hB.size⟩); clear hw hB HO)
        have X1 : CBox (w1.alloc (.cells #[.int .i64 (A : Int), .int .i64 (c : Int), .slice ia n ic, .int .i64 (nx : Int)] 40)) w1.heap.size 40 [.int .i64 (A : Int), .int .i64 (c : Int), .slice ia n ic, .int .i64 (nx : Int)] := CBox.new w1 _ _
        generalize w1.alloc (.cells #[.int .i64 (A : Int), .int .i64 (c : Int), .slice ia n ic, .int .i64 (nx : Int)] 40) = w2 at X1 R1 ⊢
        generalize w1.heap.size = q1 at X1 R1 ⊢
        have qn := R1.out.2.2
        have x0 := X1.cell 0
        have x1 := X1.cell 1
        have x2 := X1.cell 2
        have x3 := X1.cell 3
        simp only [List.getElem?_cons_zero, List.getElem?_cons_succ] at x0 x1 x2 x3
        have R2 : Hid (w2.ownsRow w.heap.size 40 4 u3 xs.length (rL b xs) ∧ RQ w.heap.size b xs w2 ∧ Below w.heap.size w w2) := ⟨ownsRow_past HR.out.1 R1.out.1, HR.out.2.1.past R1.out.1, HR.out.2.2.trans (R1.out.1.mono HR.out.2.2.size)⟩
        have hrw : ∀ g, some g = u3.ownBlock → g < wr.heap.size := fun g h => (own_lt HR.out.1 h).2
        have HX1 : Hid (CBox w2 q1 40 [.int .i64 (A : Int), .int .i64 (c : Int), .slice ia n ic, .int .i64 (nx : Int)] ∧ ∀ g, some g = u3.ownBlock → g < q1) := ⟨X1, fun g h => by have := hrw g h; omega⟩
        obtain ⟨a3, c3, rfl, h3⟩ := own_slice HR.out.1
        clear X1 hrw h3 qn
        go_upto_region 8 with (at_builtin; refine wpList_append_own _ rfl _ _ 25 rfl w.heap.size 40 i0 _ 4 48 Tryd.underlying25 hi hz0 hz1 hz2 rfl (by decide) _ _ _ rfl (R2.out.1.alloc _) ⟨w2.heap.size, 0, none⟩ 1 1 [.int .i64 (A : Int), .int .i64 (c : Int), .slice ia n ic, .int .i64 (nx : Int)] rfl rfl (cells4_new w2 _ [.int .i64 (A : Int), .int .i64 (c : Int), .slice ia n ic, .int .i64 (nx : Int)]) (fun u hu => (by simp only [List.mem_cons, List.not_mem_nil, or_false] at hu; rcases hu with rfl | rfl | rfl | rfl <;> rfl)) (by unfold maxLen; omega) (by omega) (by have := R2.out.2.2.size; simp; omega) ?_; intro v5 w5 hown5 hgrow5 _)
        have hB2 := (Below.refl w2.heap.size w2).alloc (Nat.le_refl _) (.cells #[.int .i64 (A : Int), .int .i64 (c : Int), .slice ia n ic, .int .i64 (nx : Int)] 40)
        have hte : (5 : Nat) ≠ 40 := by decide
        have Q5 : RQ w.heap.size b xs w5 := fun x hx => row_apart (ownsRow_past (R2.out.2.1 x hx) hB2) (ownsRow_past R2.out.1 hB2) hte hgrow5
        have I5 : w5.ownsRow w.heap.size 5 1 (.slice ia n ic) n (bsL n bi) := row_apart (ownsRow_past R1.out.2.1 hB2) (ownsRow_past R2.out.1 hB2) hte hgrow5
        have R5 : Hid (w5.ownsRow w.heap.size 40 4 v5 (xs.length + 1) (rL b (xs ++ [(A, .slice ia n ic)])) ∧ RQ w.heap.size b (xs ++ [(A, .slice ia n ic)]) w5 ∧ Below w.heap.size w w5) := ⟨by rw [rL_snoc, HRC.out]; exact hown5, HQS.out w5 ia ic Q5 I5, Below.grown (R2.out.2.2.alloc R2.out.2.2.size _) hgrow5 (by have := R2.out.2.2.size; simp; omega) (fun q h => (R2.out.1.lt q h).1)⟩
        have y3 : w5.cell? ⟨q1, 3, none⟩ = some (.int .i64 (nx : Int)) := by
          have := ((HX1.out.1.alloc (.cells #[.int .i64 (A : Int), .int .i64 (c : Int), .slice ia n ic, .int .i64 (nx : Int)] 40)).kept hgrow5 (fun e => by have := HX1.out.2 q1 e; omega)).cell 3
          simpa using this
        clear hB2 hte Q5 I5 hown5 hgrow5 x0 x1 x2 x3 HX1 R2 R1
        obtain ⟨a5, c5, rfl, h5⟩ := own_slice R5.out.1
        clear h5
        go_wp2
        go_roundw
        case rel => exact ⟨xs ++ [(A, .slice ia n ic)], ⟨HSN.out ia ic, by rw [List.length_append]; exact HU.out⟩, by rw [List.length_append, List.length_singleton, HP.out.1], by rw [List.length_append]; exact R5.out⟩
        case measure => have h1 := HP.out.1; have h2 := HP.out.2; simp [intOf]; omega
    · have aI : ¬ ((posA b xs.length : Nat) : Int) < (L : Int) := by omega
      have HFL : Hid (FullA b L xs.length) := ⟨HF.out.2, by unfold okA; rw [decide_eq_false hlt, Bool.false_and]⟩
      generalize posA b xs.length = A at aI
      obtain ⟨a3, c3, rfl, h3⟩ := own_slice HR.out.1
      clear h3 hBr hlt HP HLE
      go_wp2
      go_ret
      exact ⟨xs.length, HFL.out, _, rfl, ⟨xs, rfl, HF.out.1, HR.out.1, HR.out.2.1⟩, HR.out.2.2⟩
set_option maxHeartbeats 4000000 in
set_option maxRecDepth 100000 in
theorem rstarts_is (w : World) (v : Value) (L : Nat) (b : Nat → Nat) (hv : BytesOf w v L b) (hL : L ≤ 1000000) : Calls Tryd.prog 13 #[v] w fun e w' => ∃ k, FullA b L k ∧ e = .returned (.slice (some ⟨w.heap.size, 0, none⟩) L L) ∧ Below w.heap.size w w' ∧ CBox w' w.heap.size 4 (stL b L k) := by
  have HBB : Hid (∀ j, b j < 256) := by obtain ⟨_, _, _, h, _⟩ := hv; exact h
  have hmk := makeBo w L hL
  rw [stL_zero _ b] at hmk
  have hB0 : Below w.heap.size w (w.alloc (.cells (stL b L 0).toArray 4)) := (Below.refl _ w).alloc (Nat.le_refl _) _
  have cS : CBox (w.alloc (.cells (stL b L 0).toArray 4)) w.heap.size 4 (stL b L 0) := CBox.new w 4 (stL b L 0)
  have hs1 : (w.alloc (.cells (stL b L 0).toArray 4)).heap.size = w.heap.size + 1 := by simp
  have HAL : Hid (Calls Tryd.prog 16 #[v] (w.alloc (.cells (stL b L 0).toArray 4)) fun e w' => ∃ k lv, FullA b L k ∧ e = .returned lv ∧ RAll (w.alloc (.cells (stL b L 0).toArray 4)).heap.size b k lv w' ∧ Below (w.alloc (.cells (stL b L 0).toArray 4)).heap.size (w.alloc (.cells (stL b L 0).toArray 4)) w') := rAll_is _ v L b (hv.below rfl hB0) hL
  obtain ⟨ad, cap, rfl, _⟩ := hv
  have HH : Hid (Below w.heap.size w (w.alloc (.cells (stL b L 0).toArray 4)) ∧ CBox (w.alloc (.cells (stL b L 0).toArray 4)) w.heap.size 4 (stL b L 0) ∧ (w.alloc (.cells (stL b L 0).toArray 4)).heap.size = w.heap.size + 1) := ⟨hB0, cS, hs1⟩
  clear hB0 cS hs1
  generalize w.alloc (.cells (stL b L 0).toArray 4) = W1 at hmk HAL HH
  have lI : (L : Int) ≤ 1000000 := by omega
  go_enter Tryd.func13, Tryd.ntmps13
  go_wp2_with (go_at_call 16; refine HAL.out.mono ?_; rintro e w2 ⟨k, lv, hF, rfl, hA, hB⟩; (have R2 : Hid (RAll (w.heap.size + 1) b k lv w2 ∧ Below w.heap.size w w2 ∧ CBox w2 w.heap.size 4 (stL b L 0) ∧ FullA b L k) := ⟨(by rw [← HH.out.2.2]; exact hA), HH.out.1.trans (hB.mono HH.out.1.size), HH.out.2.1.past hB, hF⟩); clear hF hA hB HAL)
  clear hmk
  obtain ⟨ga, ca, rfl, hga⟩ := R2.out.1.slice
  have kL := R2.out.2.2.2.1.count
  have kI : (k : Int) ≤ 1000000 := by omega
  go_loopw [5] (fun si wr => ∃ j : Nat, j ≤ k ∧ si = .int .i64 (j : Int) ∧ RAll (w.heap.size + 1) b k (.slice ga k ca) wr ∧ Below w.heap.size w wr ∧ CBox wr w.heap.size 4 (stL b L j)) (fun si _ => k - (intOf si).toNat)
  case atStart => exact ⟨0, by omega, rfl, R2.out.1, R2.out.2.1, R2.out.2.2.1⟩
  case round =>
    obtain ⟨j, hj, rfl, hA, hBr, hS⟩ := hrel
    have HR : Hid (RAll (w.heap.size + 1) b k (.slice ga k ca) wr ∧ Below w.heap.size w wr ∧ CBox wr w.heap.size 4 (stL b L j)) := ⟨hA, hBr, hS⟩
    by_cases hlt : j < k
    · have jI : (j : Int) < (k : Int) := by omega
      obtain ⟨g, rfl⟩ := hga (by omega)
      obtain ⟨ia, ic, d0, _⟩ := hA.at HBB.out j hlt
      have hp : posA b j < L := (okA_parts (R2.out.2.2.2.1 j hlt)).1
      have s0 := hS.cell (posA b j)
      rw [stL_get _ _ _ _ hp] at s0
      have s1 := hS.frozen (posA b j)
      have st := hS.set (posA b j) (.bool true)
      rw [stL_set b L j hp] at st
      generalize stA b j (posA b j) = bo at s0
      have HST : Hid (CBox (wr.setCell ⟨w.heap.size, posA b j, none⟩ (.bool true)) w.heap.size 4 (stL b L (j + 1)) ∧ Below w.heap.size w (wr.setCell ⟨w.heap.size, posA b j, none⟩ (.bool true)) ∧ RAll (w.heap.size + 1) b k (.slice (some ⟨g, 0, none⟩) k ca) (wr.setCell ⟨w.heap.size, posA b j, none⟩ (.bool true))) := by
        refine ⟨st, hBr.setCell (p := ⟨w.heap.size, posA b j, none⟩) (Nat.le_refl _) _, ?_⟩
        have rs : ∀ {e : TypeId} {sz : Nat} {v : Value} {n : Nat} {l : List Value}, wr.ownsRow (w.heap.size + 1) e sz v n l → (wr.setCell ⟨w.heap.size, posA b j, none⟩ (.bool true)).ownsRow (w.heap.size + 1) e sz v n l := fun hb => ⟨hb.1, hb.2.imp id fun ⟨g, c, cur, e1, e2, e3, e4⟩ => ⟨g, c, cur, e1, e2, (Below.heap_setCell wr ⟨w.heap.size, posA b j, none⟩ _ g (by dsimp only; omega)).trans e3, e4⟩⟩
        obtain ⟨xs, h1, h2, h3, h4⟩ := hA
        exact ⟨xs, h1, h2, rs h3, fun x hx => rs (h4 x hx)⟩
      have aI : ((posA b j : Nat) : Int) < (L : Int) := by omega
      generalize posA b j = A at d0 s0 s1 HST aI
      clear hA hBr hS st hp HR
      go_wp2
      go_roundw
      case rel => exact ⟨j + 1, by omega, by simp, HST.out.2.2, HST.out.2.1, HST.out.1⟩
      case measure => simp [intOf]; omega
    · obtain rfl : j = k := by omega
      clear hA hBr hS
      go_wp2
      go_ret
      exact ⟨j, R2.out.2.2.2, rfl, HR.out.2⟩
end Go.Proofs.YtcjmbpchdeapiaaDoor
