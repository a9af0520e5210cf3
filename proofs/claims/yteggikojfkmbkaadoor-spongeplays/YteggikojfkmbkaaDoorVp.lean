/- The law's own helpers: weight, joined, lend. -/
import Derived.Test.YteggikojfkmbkaaDoorVl
import Derived.Deep.RegionHeld3
import Derived.LoopTactic
namespace Go.Proofs.YteggikojfkmbkaaDoor
open Go.RowKit
/-- a list of slices -/
def PcAt (W : World) (pa : Option Addr) (n : Nat) (pv : Nat → Value) : Prop := n ≠ 0 → ∃ pb po, pa = some ⟨pb, po, none⟩ ∧ ∀ i, i < n → W.cell? ⟨pb, po + i, none⟩ = some (pv i)
theorem PcAt.past {W W' : World} {pa : Option Addr} {n : Nat} {pv : Nat → Value} (h : PcAt W pa n pv) (k : Below W.heap.size W W') : PcAt W' pa n pv := fun hn => by
  obtain ⟨pb, po, e, h2⟩ := h hn
  exact ⟨pb, po, e, fun i hi => (k.cell (p := ⟨pb, po + i, none⟩) (World.block_lt_of_cell? W _ (h2 i hi))).trans (h2 i hi)⟩
def lenSum (ln : Nat → Nat) : Nat → Nat
  | 0 => 0
  | k + 1 => lenSum ln k + ln k
theorem lenSum_mono (ln : Nat → Nat) (k : Nat) : ∀ d, lenSum ln k ≤ lenSum ln (k + d)
  | 0 => Nat.le_refl _
  | d + 1 => Nat.le_trans (lenSum_mono ln k d) (by rw [← Nat.add_assoc, lenSum]; omega)
theorem flat_len (L : Nat → List Nat) : ∀ k, (flat L k).length = lenSum (fun i => (L i).length) k
  | 0 => rfl
  | k + 1 => by rw [flat, List.range_succ, List.map_append, List.flatten_append, List.length_append, lenSum, ← flat_len L k]; simp [flat]
theorem flat_snoc (L : Nat → List Nat) (k : Nat) : flat L (k + 1) = flat L k ++ L k := by simp [flat, List.range_succ]
theorem flat_byte (L : Nat → List Nat) (h : ∀ i j, (L i).getD j 0 < 256) : ∀ k i, (flat L k).getD i 0 < 256
  | 0, i => by simp [flat]
  | k + 1, i => by
    rw [flat_snoc]
    by_cases hi : i < (flat L k).length
    · rw [List.getD_eq_getElem?_getD, List.getElem?_append_left hi, ← List.getD_eq_getElem?_getD]; exact flat_byte L h k i
    · rw [List.getD_eq_getElem?_getD, List.getElem?_append_right (by omega), ← List.getD_eq_getElem?_getD]; exact h k _
def WRes (n : Nat) (ln : Nat → Nat) (e : Ending) : Prop := ∃ m : Nat, e = .returned (.int .i64 (m : Int)) ∧ (16777216 < m ∨ m = n + lenSum ln n) ∧ m ≤ n + lenSum ln n
set_option maxHeartbeats 2000000 in
set_option maxRecDepth 100000 in
theorem weight_is (w : World) (pa : Option Addr) (n cap : Nat) (ad : Nat → Option Addr) (ln cp : Nat → Nat) (hn : n ≤ 140737488355328) (hp : PcAt w pa n fun i => .slice (ad i) (ln i) (cp i)) (hl : ∀ i, i < n → ln i ≤ 140737488355328) :
    Calls Tryd.prog 13 #[.slice pa n cap] w fun e w' => WRes n ln e ∧ w' = w := by
  have HP : Hid (PcAt w pa n fun i => .slice (ad i) (ln i) (cp i)) := hp
  have HL : Hid (∀ i, i < n → ln i ≤ 140737488355328) := hl
  have nI : (n : Int) ≤ 140737488355328 := by omega
  clear hp hl
  go_enter Tryd.func13, Tryd.ntmps13
  go_wp2
  go_loopw [3, 4] (fun m s wr => ∃ k : Nat, k ≤ n ∧ s = .int .i64 (k : Int) ∧ m = .int .i64 ((n + lenSum ln k : Nat) : Int) ∧ n + lenSum ln k ≤ 281474976710656 ∧ wr = w) (fun _ s _ => n - (intOf s).toNat)
  case atStart => exact ⟨0, Nat.zero_le _, rfl, rfl, by rw [lenSum]; omega, rfl⟩
  case round =>
    obtain ⟨k, hk, rfl, rfl, hb, rfl⟩ := hrel
    by_cases hk5 : k < n
    · have kI : (k : Int) < (n : Int) := by omega
      by_cases hm : n + lenSum ln k ≤ 16777216
      · obtain ⟨pb, po, rfl, hc⟩ := HP.out (by omega)
        have ck := hc k hk5
        have lk := HL.out k hk5
        have hs : n + lenSum ln (k + 1) = n + lenSum ln k + ln k := by rw [lenSum]; omega
        obtain ⟨m, em⟩ : ∃ m, n + lenSum ln k = m := ⟨_, rfl⟩
        obtain ⟨m2, em2⟩ : ∃ m, n + lenSum ln (k + 1) = m := ⟨_, rfl⟩
        rw [em] at hb hm hs ⊢
        rw [em2] at hs
        have HM2 : Hid (n + lenSum ln (k + 1) = m2) := em2
        have hb2 : m2 ≤ 281474976710656 := by omega
        dsimp only at ck
        generalize ad k = a at ck
        generalize cp k = c at ck
        generalize ln k = x at ck lk hs
        have mI : (m : Int) ≤ 16777216 := by omega
        have s1 : (m : Int) + (x : Int) = (m2 : Int) := by omega
        have w1 : IntKind.i64.wrap (m2 : Int) = (m2 : Int) := by rw [IntKind.wrap_i64]; omega
        clear em em2 hs hm hb hc hk lk
        go_wp2
        go_roundw
        case rel => exact ⟨k + 1, by omega, by go_num, by rw [HM2.out], by rw [HM2.out]; exact hb2, trivial⟩
        case measure => simp [intOf]; omega
      · obtain ⟨m, em⟩ : ∃ m, n + lenSum ln k = m := ⟨_, rfl⟩
        have HLE : Hid (m ≤ n + lenSum ln n) := by
          have := lenSum_mono ln k (n - k)
          rw [show k + (n - k) = n by omega] at this
          unfold Hid; omega
        rw [em] at hm ⊢
        have mI : ¬ ((m : Int) ≤ 16777216) := by omega
        clear em hb
        go_wp2
        go_ret
        exact ⟨⟨m, rfl, Or.inl (by omega), HLE.out⟩, rfl⟩
    · obtain rfl : k = n := by omega
      have kI : ¬ ((k : Int) < (k : Int)) := by omega
      obtain ⟨m, em⟩ : ∃ m, k + lenSum ln k = m := ⟨_, rfl⟩
      have EM : Hid (k + lenSum ln k = m) := em
      rw [em]
      clear em hb
      go_wp2
      go_ret
      exact ⟨⟨m, rfl, Or.inr EM.out.symm, Nat.le_of_eq EM.out.symm⟩, rfl⟩
set_option maxHeartbeats 2000000 in
set_option maxRecDepth 100000 in
theorem joined_is (w : World) (pa : Option Addr) (n cap : Nat) (pv : Nat → Value) (L : Nat → List Nat) (hp : PcAt w pa n pv) (hs : ∀ i, i < n → Seg w (pv i) (L i)) (hn : n + (flat L n).length ≤ 100000000) :
    Calls Tryd.prog 16 #[.slice pa n cap] w fun e w' => ∃ v, e = .returned v ∧ w'.ownsRow w.heap.size 5 1 v (flat L n).length (bytesL (flat L n)) ∧ Below w.heap.size w w' := by
  have HP : Hid (PcAt w pa n pv) := hp
  have HS : Hid (∀ i, i < n → Seg w (pv i) (L i)) := hs
  have HLE : Hid (∀ k, k < n → (flat L k).length + (L k).length ≤ 100000000) := by
    intro k hk
    have e1 := flat_len L (k + 1)
    have e2 := flat_len L n
    have e3 := lenSum_mono (fun i => (L i).length) (k + 1) (n - (k + 1))
    rw [show k + 1 + (n - (k + 1)) = n by omega, ← e1, ← e2, flat_snoc, List.length_append] at e3
    omega
  have nn : n ≤ 100000000 := by omega
  clear hp hs hn
  go_enter Tryd.func16, Tryd.ntmps16
  go_wp2
  go_loopw [3, 4] (fun v s wr => ∃ k : Nat, k ≤ n ∧ s = .int .i64 (k : Int) ∧ wr.ownsRow w.heap.size 5 1 v (flat L k).length (bytesL (flat L k)) ∧ Below w.heap.size w wr) (fun _ s _ => n - (intOf s).toNat)
  case atStart => exact ⟨0, Nat.zero_le _, rfl, World.ownsRow_nil _ _ _ _, Below.refl _ _⟩
  case round =>
    obtain ⟨k, hk, rfl, hown, hB⟩ := hrel
    by_cases hk5 : k < n
    · have kI : (k : Int) < (n : Int) := by omega
      obtain ⟨pb, po, e, hc⟩ := HP.out (by omega)
      subst e
      have ck := (hB.cell (p := ⟨pb, po + k, none⟩) (World.block_lt_of_cell? w _ (hc k hk5))).trans (hc k hk5)
      have SG : Hid (Seg wr (pv k) (L k)) := (HS.out k hk5).below hB
      have hle := HLE.out k hk5
      have HF : Hid (flat L (k + 1) = flat L k ++ L k) := flat_snoc L k
      generalize pv k = x at ck SG
      generalize L k = lk at SG hle HF
      have HOW : Hid (wr.ownsRow w.heap.size 5 1 u3 (flat L k).length (bytesL (flat L k))) := hown
      have HB : Hid (Below w.heap.size w wr) := hB
      have hbs := hB.size
      clear hown hB hk hc
      go_wp2_with (at_builtin; refine append_seg rfl _ _ rfl w.heap.size u3 _ _ rfl HOW.out x lk rfl SG.out (by omega) hbs ?_; intro v1 w1 hown' hgrow)
      have R : Hid (w1.ownsRow w.heap.size 5 1 v1 (flat L (k + 1)).length (bytesL (flat L (k + 1))) ∧ Below w.heap.size w w1) := by
        refine ⟨?_, step8g HOW.out HB.out hbs hgrow⟩
        rw [HF.out, List.length_append, bytesL_app]; exact hown'
      clear hown' hgrow HOW HB SG
      go_wp2
      go_roundw
      case rel => exact ⟨k + 1, by omega, by go_num, R.out⟩
      case measure => simp [intOf]; omega
    · obtain rfl : k = n := by omega
      have kI : ¬ ((k : Int) < (k : Int)) := by omega
      have R : Hid (wr.ownsRow w.heap.size 5 1 u3 (flat L k).length (bytesL (flat L k)) ∧ Below w.heap.size w wr) := ⟨hown, hB⟩
      clear hown hB
      go_wp2
      go_ret
      exact ⟨_, rfl, R.out⟩
/-- the marks behind what is lent -/
def mkL (m k : Nat) : List Nat := (List.range k).map fun i => (m + 3 * i) % 256
theorem mkL_len (m k : Nat) : (mkL m k).length = k := by simp [mkL]
theorem mkL_snoc (m k : Nat) : mkL m (k + 1) = mkL m k ++ [(m + 3 * k) % 256] := by simp [mkL, List.range_succ]
theorem mkL_get (m k i : Nat) (h : i < k) : (mkL m k).getD i 0 = (m + 3 * i) % 256 := by simp [mkL, List.getD_eq_getElem?_getD, h]
set_option maxHeartbeats 2000000 in
set_option maxRecDepth 100000 in
theorem lend_is (w : World) (v : Value) (l : List Nat) (m : Nat) (hseg : Seg w v l) (hn : l.length ≤ 100000000) (ad : Option Addr) (cap : Nat) (hvs : v = .slice ad l.length cap) :
    Calls Tryd.prog 14 #[v, .int .u8 (m : Int)] w fun e w' => ∃ g c, e = .returned (.agg #[.slice (some ⟨g, 0, none⟩) l.length c, .slice (some ⟨g, 0, none⟩) (l.length + 40) c]) ∧ w'.ownsRow (w.heap.size + 1) 5 1 (.slice (some ⟨g, 0, none⟩) (l.length + 40) c) (l.length + 40) (bytesL (l ++ mkL m 40)) ∧ Below w.heap.size w w' := by
  subst hvs
  have HS : Hid (Seg w (.slice ad l.length cap) l) := hseg
  obtain ⟨n, en⟩ : ∃ n, l.length = n := ⟨_, rfl⟩
  have EN : Hid (l.length = n) := en
  rw [en] at hn HS ⊢
  have nI : (n : Int) ≤ 100000000 := by omega
  clear hseg en
  go_enter Tryd.func14, Tryd.ntmps14
  go_upto_region 1 with fail
  have S0 : Hid (Below w.heap.size w (w.alloc (.cells #[.slice none 0 0, .slice none 0 0] 31)) ∧ (w.alloc (.cells #[.slice none 0 0, .slice none 0 0] 31)).heap.size = w.heap.size + 1 ∧ (w.alloc (.cells #[.slice none 0 0, .slice none 0 0] 31)).cell? ⟨w.heap.size, 0, none⟩ = some (.slice none 0 0) ∧ (w.alloc (.cells #[.slice none 0 0, .slice none 0 0] 31)).cell? ⟨w.heap.size, 1, none⟩ = some (.slice none 0 0) ∧ (w.alloc (.cells #[.slice none 0 0, .slice none 0 0] 31)).frozen? ⟨w.heap.size, 0, none⟩ = false ∧ (w.alloc (.cells #[.slice none 0 0, .slice none 0 0] 31)).frozen? ⟨w.heap.size, 1, none⟩ = false) := ⟨(Below.refl _ _).alloc (Nat.le_refl _) _, by simp, by simp, by simp, by simp, by simp⟩
  generalize w.alloc (.cells #[.slice none 0 0, .slice none 0 0] 31) = W0 at S0 ⊢
  have SG : Hid (Seg W0 (.slice ad n cap) l) := by have := HS.out.below S0.out.1; exact this
  have hs0 := S0.out.2.1
  go_upto_region 3 with (at_builtin; refine append_seg rfl _ _ rfl (w.heap.size + 1) _ 0 [] rfl (World.ownsRow_nil _ _ _ _) (.slice ad n cap) l rfl SG.out (by have := EN.out; omega) (by omega) ?_; intro v1 w1 hown' hgrow)
  have HO1 : Hid (w1.ownsRow (w.heap.size + 1) 5 1 v1 (n + 0) (bytesL (l ++ mkL m 0))) := by
    have e : bytesL (l ++ mkL m 0) = bytesL l := by simp [mkL]
    unfold Hid; rw [e, ← EN.out]; simpa using hown'
  have HB1 : Hid (Below (w.heap.size + 1) W0 w1) := Below.grown (Below.refl _ _) hgrow (by omega) (fun k h => by cases h)
  clear hown' hgrow HS SG
  go_wp2
  go_loopw [5, 6] (fun v s wr => ∃ k : Nat, k ≤ 40 ∧ s = .int .i64 (k : Int) ∧ wr.ownsRow (w.heap.size + 1) 5 1 v (n + k) (bytesL (l ++ mkL m k)) ∧ Below (w.heap.size + 1) W0 wr) (fun _ s _ => 40 - (intOf s).toNat)
  case atStart => exact ⟨0, Nat.zero_le _, rfl, HO1.out, HB1.out⟩
  case round =>
    clear HO1 HB1
    obtain ⟨k, hk, rfl, hown, hB⟩ := hrel
    have HOW : Hid (wr.ownsRow (w.heap.size + 1) 5 1 u5 (n + k) (bytesL (l ++ mkL m k))) := hown
    have HB : Hid (Below (w.heap.size + 1) W0 wr) := hB
    have hbs : w.heap.size + 1 ≤ wr.heap.size := by have := hB.size; omega
    by_cases hk5 : k < 40
    · have kI : (k : Int) < 40 := by omega
      obtain ⟨k3, e3⟩ : ∃ x : Nat, x = 3 * k := ⟨_, rfl⟩
      obtain ⟨x, ex⟩ : ∃ x : Nat, x = (m + k3) % 256 := ⟨_, rfl⟩
      have s1 : (3 : Int) * (k : Int) = (k3 : Int) := by omega
      have w1 : IntKind.i64.wrap (k3 : Int) = (k3 : Int) := by rw [IntKind.wrap_i64]; omega
      have w2 : IntKind.u8.wrap (k3 : Int) = (k3 : Int) := by rw [IntKind.wrap_u8]; omega
      have w3 : IntKind.u8.wrap ((m : Int) + (k3 : Int)) = (x : Int) := by rw [IntKind.wrap_u8]; omega
      have HX : Hid (mkL m (k + 1) = mkL m k ++ [x]) := by unfold Hid; rw [mkL_snoc, ← e3, ← ex]
      clear hown hB hk e3 ex
      go_wp2_with (at_builtin; refine append_byte rfl _ _ rfl (w.heap.size + 1) u5 (n + k) (bytesL (l ++ mkL m k)) rfl (x : Int) HOW.out rfl (by omega) hbs ?_; intro v3 w3 hown' hgrow)
      have R : Hid (w3.ownsRow (w.heap.size + 1) 5 1 v3 (n + (k + 1)) (bytesL (l ++ mkL m (k + 1))) ∧ Below (w.heap.size + 1) W0 w3) := by
        refine ⟨?_, step8 HOW.out HB.out hbs hgrow⟩
        have e : bytesL (l ++ mkL m (k + 1)) = bytesL (l ++ mkL m k) ++ [.int .u8 (x : Int)] := by rw [HX.out, ← List.append_assoc, bytesL_app]; rfl
        rw [e]; exact hown'
      clear hown' hgrow HOW HB
      go_wp2
      go_roundw
      case rel => exact ⟨k + 1, by omega, by go_num, R.out⟩
      case measure => simp [intOf]; omega
    · obtain rfl : k = 40 := by omega
      obtain ⟨g, c, rfl, hcap, hcm⟩ : ∃ g c, u5 = .slice (some ⟨g, 0, none⟩) (n + 40) c ∧ n + 40 ≤ c ∧ c ≤ maxLen := by
        obtain ⟨_, ⟨_, e⟩ | ⟨g, c, cur, rfl, _, _, h1, h2, _⟩⟩ := id hown
        · omega
        · exact ⟨g, c, rfl, h1, h2⟩
      have sl := slice_to (some ⟨g, 0, none⟩) (n + 40) c n (by omega)
      have g1 : w.heap.size + 1 ≤ g := (hown.lt g rfl).1
      obtain ⟨q1, q2, q3, q4, q5, q6⟩ := S0.out
      have c0 := (hB.cell (p := ⟨w.heap.size, 0, none⟩) (by show w.heap.size < w.heap.size + 1; omega)).trans q3
      have c1 := (hB.cell (p := ⟨w.heap.size, 1, none⟩) (by show w.heap.size < w.heap.size + 1; omega)).trans q4
      have f0 := (hB.frozen (p := ⟨w.heap.size, 0, none⟩) (by show w.heap.size < w.heap.size + 1; omega)).trans q5
      have f1 := (hB.frozen (p := ⟨w.heap.size, 1, none⟩) (by show w.heap.size < w.heap.size + 1; omega)).trans q6
      have B0 : Below w.heap.size w wr := q1.trans (hB.mono (by omega))
      have R : Hid (((wr.setCell ⟨w.heap.size, 0, none⟩ (.slice (some ⟨g, 0, none⟩) n c)).setCell ⟨w.heap.size, 1, none⟩ (.slice (some ⟨g, 0, none⟩) (n + 40) c)).ownsRow (w.heap.size + 1) 5 1 (.slice (some ⟨g, 0, none⟩) (n + 40) c) (n + 40) (bytesL (l ++ mkL m 40)) ∧ Below w.heap.size w ((wr.setCell ⟨w.heap.size, 0, none⟩ (.slice (some ⟨g, 0, none⟩) n c)).setCell ⟨w.heap.size, 1, none⟩ (.slice (some ⟨g, 0, none⟩) (n + 40) c))) := by
        refine ⟨?_, (B0.setCell (Nat.le_refl _) _).setCell (Nat.le_refl _) _⟩
        exact ownsRow_setCell_below (ownsRow_setCell_below hown (a := ⟨w.heap.size, 0, none⟩) (by show w.heap.size < w.heap.size + 1; omega) _) (a := ⟨w.heap.size, 1, none⟩) (by show w.heap.size < w.heap.size + 1; omega) _
      clear q1 q2 q3 q4 q5 q6 hown hB HOW HB hk hk5 B0
      rw [show ((40 : Nat) : Int) = 40 from rfl]
      go_wp2
      exact bodyPost_ret (v := .agg #[.slice (some ⟨g, 0, none⟩) n c, .slice (some ⟨g, 0, none⟩) (n + 40) c]) (by simp [results, Tryd.results14, go_sem, c0, c1]) rfl ⟨g, c, rfl, R.out⟩
end Go.Proofs.YteggikojfkmbkaaDoor
