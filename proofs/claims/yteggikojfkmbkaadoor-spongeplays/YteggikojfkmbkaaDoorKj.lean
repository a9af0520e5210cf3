/- SpongeFolds: the walk. -/
import Derived.Test.YteggikojfkmbkaaDoorKy
import Derived.Test.YteggikojfkmbkaaDoorKg
import Derived.Laws.AppendOwnNone
import Derived.OwnWalk
import Derived.Deep.CutRange
import Derived.Deep.DeepCutAuto
namespace Go.Proofs.YteggikojfkmbkaaDoor
open Go.RowKit
theorem Tryd.info8 : (Tryd.prog.info? 5).map (fun i => (i.zero, i.size, i.bytes)) = some (some (.int .u8 0), 1, 1) := by kernel_rfl
theorem bytesL_len (l : List Nat) : (bytesL l).length = l.length := by simp [bytesL]
theorem bytesL_one (l : List Nat) : ∀ u ∈ bytesL l, u.oneCell' = true := by
  intro u hu; simp only [bytesL, List.mem_map] at hu; obtain ⟨i, _, rfl⟩ := hu; rfl
theorem bytesL_at (l : List Nat) (j : Nat) (u : Value) (h : (bytesL l)[j]? = some u) : j < l.length ∧ u = .int .u8 (l.getD j 0 : Nat) := by
  have hj : j < l.length := by have := (List.getElem?_eq_some_iff.1 h).1; rwa [bytesL_len] at this
  refine ⟨hj, ?_⟩
  simp only [bytesL, List.getElem?_map, List.getElem?_eq_getElem hj, Option.map_some, Option.some.injEq] at h
  rw [← h, List.getD_eq_getElem?_getD, List.getElem?_eq_getElem hj]; rfl
theorem padL_len (n : Nat) (h : 1 ≤ n) : (padL n).length = n := by
  unfold padL; split
  · simp_all
  · simp; omega
theorem padL_get (n k : Nat) (h : k < n) : (padL n).getD k 0 = if k = 0 then (if n = 1 then 129 else 1) else (if k = n - 1 then 128 else 0) := by
  unfold padL
  by_cases h1 : n = 1
  · subst h1; obtain rfl : k = 0 := by omega
    rfl
  · rw [if_neg h1]
    rcases k with _ | k
    · simp [h1]
    · rw [if_neg (by omega), List.getD_cons_succ, List.getD_eq_getElem?_getD]
      by_cases h2 : k + 1 = n - 1
      · rw [if_pos h2, List.getElem?_append_right (by simp; omega)]
        simp [show k - (n - 2) = 0 by omega]
      · rw [if_neg h2, List.getElem?_append_left (by simp; omega), List.getElem?_replicate, if_pos (by omega)]; rfl
theorem fold_step {w wr w1 : World} {v v' : Value} {o : Obj} {l : List Nat} {N k n x : Nat} (hk : k < N) (hx : (padL N).getD k 0 = x) (hown : wr.ownsRow w.heap.size 5 1 v (n + k) (bytesL (l ++ (padL N).take k))) (hB : Below w.heap.size w wr)
    (hown' : w1.ownsRow w.heap.size 5 1 v' (n + k + 1) (bytesL (l ++ (padL N).take k) ++ [.int .u8 (x : Int)])) (hg : (wr.alloc o).grownBy w1 v.ownBlock) :
    w1.ownsRow w.heap.size 5 1 v' (n + (k + 1)) (bytesL (l ++ (padL N).take (k + 1))) ∧ Below w.heap.size w w1 := by
  have hl : k < (padL N).length := by rw [padL_len N (by omega)]; exact hk
  have e : bytesL (l ++ (padL N).take (k + 1)) = bytesL (l ++ (padL N).take k) ++ [.int .u8 (x : Int)] := by
    rw [List.take_add_one, ← List.append_assoc, List.getElem?_eq_getElem hl]
    rw [List.getD_eq_getElem?_getD, List.getElem?_eq_getElem hl] at hx
    simp only [Option.getD_some] at hx
    simp [bytesL, hx]
  rw [e, show n + (k + 1) = n + k + 1 by omega]
  exact ⟨hown', Below.grown (hB.alloc hB.size o) hg (by have := hB.size; simp; omega) (fun q h => (hown.lt q h).1)⟩
/-- while the blocks are laid -/
def FoldInv (w : World) (b g : Nat) (f : KSt) (L : List Nat) (W : World) : Prop := Below w.heap.size w W ∧ Row W b 25 (iv f) ∧ BytesAt W ⟨g, 0, none⟩ L ∧ g < W.heap.size
theorem FoldInv.past {w W W' : World} {b g : Nat} {f : KSt} {L : List Nat} (h : FoldInv w b g f L W) (k : Below W.heap.size W W') : FoldInv w b g f L W' :=
  ⟨h.1.trans (k.mono h.1.size), h.2.1.below k (h.2.1.lt (by omega)), h.2.2.1.below k, Nat.lt_of_lt_of_le h.2.2.2 k.size⟩
theorem FoldInv.store {w W : World} {b g : Nat} {f : KSt} {L : List Nat} (e : KSt) (hb : w.heap.size ≤ b) (hg : g ≠ b) (h : FoldInv w b g f L W) : FoldInv w b g e L (W.setCells b 0 (rowL 25 (iv e))) := by
  have hB := below_setCells b (Nat.le_refl b) (rowL 25 (iv e)) 0 W (Below.refl b W)
  refine ⟨below_setCells b hb _ _ _ h.1, h.2.1.of_range, fun i hi => ?_, Nat.lt_of_lt_of_le h.2.2.2 hB.size⟩
  rw [World.cell?_setCells_out _ _ _ _ _ (fun hb _ => absurd hb hg)]
  exact h.2.2.1 i hi
theorem owns_bytes {w : World} {B T : Nat} {v : Value} {L : List Nat} (h : w.ownsRow B 5 1 v T (bytesL L)) (h0 : 0 < T) (hT : T = L.length) : ∃ g c, v = .slice (some ⟨g, 0, none⟩) T c ∧ g < w.heap.size ∧ BytesAt w ⟨g, 0, none⟩ L := by
  have h' := h
  obtain ⟨_, ⟨_, e⟩ | ⟨g, c, cur, rfl, hb, hh, _⟩⟩ := h'
  · omega
  · refine ⟨g, c, rfl, ((h.lt g rfl).2), fun i hi => ?_⟩
    show w.cell? ⟨g, 0 + i, none⟩ = _
    rw [Nat.zero_add, h.cellAt i (by omega)]
    simp [bytesL, hi, List.getD_eq_getElem?_getD]
theorem padL_byte (n : Nat) (i : Nat) : (padL n).getD i 0 < 256 := by
  by_cases h0 : 1 ≤ n
  · by_cases h : i < n
    · rw [padL_get n i h]; split <;> split <;> omega
    · rw [List.getD_eq_getElem?_getD, List.getElem?_eq_none (by rw [padL_len n h0]; omega)]; decide
  · obtain rfl : n = 0 := by omega
    show ([1, 128] : List Nat).getD i 0 < 256
    rcases i with _ | _ | i <;> simp
theorem pad_byte (l : List Nat) (hl : ∀ i, l.getD i 0 < 256) (n i : Nat) : (l ++ padL n).getD i 0 < 256 := by
  by_cases h : i < l.length
  · have := hl i
    rwa [List.getD_eq_getElem?_getD, ← List.getElem?_append_left (l₂ := padL n) h, ← List.getD_eq_getElem?_getD] at this
  · rw [List.getD_eq_getElem?_getD, List.getElem?_append_right (by omega), ← List.getD_eq_getElem?_getD]
    exact padL_byte n _
theorem sumArg (W : World) (hW : Tabs W) (pb cap : Nat) (ad : Option Addr) (l : List Nat) (hl : ∀ i, l.getD i 0 < 256) (hn : l.length ≤ 16777216) (had : l ≠ [] → ∃ sb so, ad = some ⟨sb, so, none⟩ ∧ BytesAt W ⟨sb, so, none⟩ l)
    (h0 : W.cell? ⟨pb, 0, none⟩ = some (.slice ad l.length cap)) :
    Calls Tryd.prog 17 #[.slice (some ⟨pb, 0, none⟩) 1 1] W fun e w' => e = .returned (.agg (rowB 32 (sumF l)).toArray) ∧ Below W.heap.size W w' := by
  have := sumAll_is W (some ⟨pb, 0, none⟩) 1 1 (fun _ => .slice ad l.length cap) (fun _ => l) hW (by omega) (fun _ => ⟨pb, 0, rfl, fun i hi => by rw [show i = 0 by omega]; exact h0⟩)
    (fun i _ => ⟨fun i _ => hl i, by omega, ad, cap, rfl, had⟩)
  rw [show flat (fun _ => l) 1 = l by simp [flat]] at this
  exact this
set_option maxHeartbeats 4000000 in
set_option maxRecDepth 100000 in
theorem folds_walk (w : World) (hT : Tabs w) (ad : Option Addr) (cap : Nat) (l : List Nat) (hl : ∀ i, l.getD i 0 < 256) (had : l ≠ [] → ∃ sb so, ad = some ⟨sb, so, none⟩ ∧ BytesAt w ⟨sb, so, none⟩ l) (hnil : ad = none → cap = 0) (hs : l.length ≤ 16777216) :
    Calls Tryd.prog 7 #[.slice ad l.length cap] w fun e w' => e = .returned (.bool true) ∧ Below w.heap.size w w' := by
  have HT : Hid (Tabs w) := hT
  have t2 := hT.lt
  have HL : Hid _ := hl
  have HAD : Hid _ := had
  have HNIL : Hid _ := hnil
  obtain ⟨n, en⟩ : ∃ n, n = l.length := ⟨_, rfl⟩
  have EN : Hid (n = l.length) := en
  rw [← en] at hs ⊢
  have hsI : (n : Int) ≤ 16777216 := by omega
  obtain ⟨i0, hi, hz0, hz1, hz2⟩ := info_parts Tryd.info8
  clear hT hl had hnil en
  go_enter Tryd.func7, Tryd.ntmps7
  go_upto_region 5 with (go_at_call 26; refine (known_any _ HT.out).mono ?_; rintro e v1 ⟨rfl, hB1⟩; (have W1 : Hid (Below w.heap.size w v1) := hB1); clear hB1)
  go_cut [4] (fun s4 wx => wx.ownsRow w.heap.size 5 1 s4 n (bytesL l) ∧ Below w.heap.size w wx)
  case first =>
    have b1 := W1.out.size
    rcases ad with _ | a
    · have hl0 : l = [] := Classical.byContradiction fun h => by obtain ⟨_, _, h', _⟩ := HAD.out h; cases h'
      have hc0 := HNIL.out rfl
      have hn0 : n = 0 := by rw [EN.out, hl0]; rfl
      subst hc0 hn0
      go_wp2_with (at_builtin; refine wpList_append_own_none rfl _ _ 29 rfl w.heap.size 5 i0 1 Tryd.underlying29 hi _ 0 [] rfl (World.ownsRow_nil _ _ _ _) rfl ?_)
      go_wp2
      go_meet
      case rel => exact ⟨by rw [hl0]; exact World.ownsRow_nil _ _ _ _, W1.out⟩
    · have HN : Hid (∀ j u, (bytesL l)[j]? = some u → v1.cell? (a.add j) = some u) := by
        intro j u hj
        obtain ⟨hj', rfl⟩ := bytesL_at l j u hj
        obtain ⟨sb, so, ha, hby⟩ := HAD.out (by intro e; rw [e] at hj'; simp at hj')
        obtain rfl := Option.some.inj ha
        rw [Addr.add_mid]
        exact (Below.cell W1.out (p := ⟨sb, so + j, none⟩) (World.block_lt_of_cell? w _ (hby j hj'))).trans (hby j hj')
      go_wp2_with (at_builtin; refine wpList_append_own _ rfl _ _ 29 rfl w.heap.size 5 i0 (.int .u8 0) 1 1 Tryd.underlying29 hi hz0 hz1 hz2 rfl (by decide) _ 0 [] rfl (World.ownsRow_nil _ _ _ _) a n cap (bytesL l) rfl (by rw [bytesL_len, EN.out]; omega) HN.out (bytesL_one l) (by unfold maxLen; omega) (by omega) b1 ?_; intro v' w1 hown' hgrow _)
      have R : Hid (w1.ownsRow w.heap.size 5 1 v' n (bytesL l) ∧ Below w.heap.size w w1) := ⟨by simpa using hown', Below.grown W1.out hgrow b1 (fun k h => by cases h)⟩
      clear hown' hgrow
      go_wp2
      go_meet
      case rel => exact R.out
  case rest =>
    obtain ⟨hown, hB⟩ := hcut
    have HOW0 : Hid _ := hown
    have HB0 : Hid _ := hB
    clear hown hB
    obtain ⟨r, er⟩ : ∃ r : Nat, r = n % 136 := ⟨_, rfl⟩
    obtain ⟨N, eN⟩ : ∃ N : Nat, N = 136 - r := ⟨_, rfl⟩
    obtain ⟨M, eM⟩ : ∃ M : Nat, M = N - 1 := ⟨_, rfl⟩
    have t1 : Int.tmod (n : Int) 136 = (r : Int) := by rw [Int.tmod_eq_emod_of_nonneg (by omega)]; omega
    have t3 : (136 : Int) - (r : Int) = (N : Int) := by omega
    have t4 : (N : Int) - 1 = (M : Int) := by omega
    have q1 : IntKind.i64.wrap (r : Int) = (r : Int) := by rw [IntKind.wrap_i64]; omega
    have q2 : IntKind.i64.wrap (N : Int) = (N : Int) := by rw [IntKind.wrap_i64]; omega
    have q3 : IntKind.i64.wrap (M : Int) = (M : Int) := by rw [IntKind.wrap_i64]; omega
    have o1 : bits .or .u8 1 128 = 129 := by decide
    have o2 : bits .or .u8 0 128 = 128 := by decide
    have hN1 : 1 ≤ N := by omega
    have hN2 : N ≤ 136 := by omega
    have EN2 : Hid (N = 136 - n % 136) := by unfold Hid; omega
    have HM : Hid (M = N - 1) := eM
    clear er eN eM
    go_wp2
    go_loopw [4, 6] (fun s4 i wr => ∃ k : Nat, k ≤ N ∧ i = .int .i64 k ∧ wr.ownsRow w.heap.size 5 1 s4 (n + k) (bytesL (l ++ (padL N).take k)) ∧ Below w.heap.size w wr) (fun _ i _ => N - (intOf i).toNat)
    case atStart => exact ⟨0, Nat.zero_le _, rfl, by rw [List.take_zero, List.append_nil]; exact HOW0.out, HB0.out⟩
    case round =>
      obtain ⟨k, hk, rfl, hown, hB⟩ := hrel
      have HOW : Hid _ := hown
      have HBW : Hid _ := hB
      clear hown hB
      by_cases hk5 : k < N
      · have kI : ((k : Int) < (N : Int)) := by omega
        have hx := padL_get N k hk5
        by_cases h0 : k = 0
        · by_cases h1 : N = 1
          · rw [if_pos h0, if_pos h1] at hx
            have HX : Hid _ := hx
            have hM := HM.out
            obtain rfl : M = 0 := by omega
            subst h0
            clear hx h1 hM
            go_wp2_with (at_builtin; refine wpList_append_own _ rfl _ _ 29 rfl w.heap.size 5 i0 (.int .u8 0) 1 1 Tryd.underlying29 hi hz0 hz1 hz2 rfl (by decide) _ _ _ rfl (World.ownsRow.alloc HOW.out _) ⟨wr.heap.size, 0, none⟩ 1 1 [.int .u8 129] rfl rfl (fun j u hj => by
                have : j = 0 := by have := (List.getElem?_eq_some_iff.1 hj).1; simpa using this
                subst this
                simp at hj
                subst hj
                simp [Addr.add]) (fun u hu => by rw [List.mem_singleton.1 hu]; rfl) (by unfold maxLen; omega) (by omega) (by have := HBW.out.size; simp; omega) ?_; intro v' w1 hown' hgrow _)
            have R : Hid _ := fold_step (x := 129) hk5 HX.out HOW.out HBW.out hown' hgrow
            clear hown' hgrow
            go_wp2
            go_roundw
            case rel => exact ⟨0 + 1, by omega, by go_num, R.out⟩
            case measure => simp [intOf]; omega
          · rw [if_pos h0, if_neg h1] at hx
            have HX : Hid _ := hx
            have hM := HM.out
            have ne : ¬ ((0 : Int) = (M : Int)) := by omega
            subst h0
            clear hx h1 hM
            go_wp2_with (at_builtin; refine wpList_append_own _ rfl _ _ 29 rfl w.heap.size 5 i0 (.int .u8 0) 1 1 Tryd.underlying29 hi hz0 hz1 hz2 rfl (by decide) _ _ _ rfl (World.ownsRow.alloc HOW.out _) ⟨wr.heap.size, 0, none⟩ 1 1 [.int .u8 1] rfl rfl (fun j u hj => by
                have : j = 0 := by have := (List.getElem?_eq_some_iff.1 hj).1; simpa using this
                subst this
                simp at hj
                subst hj
                simp [Addr.add]) (fun u hu => by rw [List.mem_singleton.1 hu]; rfl) (by unfold maxLen; omega) (by omega) (by have := HBW.out.size; simp; omega) ?_; intro v' w1 hown' hgrow _)
            have R : Hid _ := fold_step (x := 1) hk5 HX.out HOW.out HBW.out hown' hgrow
            clear hown' hgrow
            go_wp2
            go_roundw
            case rel => exact ⟨0 + 1, by omega, by go_num, R.out⟩
            case measure => simp [intOf]; omega
        · by_cases h1 : k = N - 1
          · rw [if_neg h0, if_pos h1] at hx
            have HX : Hid _ := hx
            have hM := HM.out
            have kM : (k : Int) = (M : Int) := by omega
            have k0 : ¬ ((k : Int) = 0) := by omega
            clear hx h1 hM
            go_wp2_with (at_builtin; refine wpList_append_own _ rfl _ _ 29 rfl w.heap.size 5 i0 (.int .u8 0) 1 1 Tryd.underlying29 hi hz0 hz1 hz2 rfl (by decide) _ _ _ rfl (World.ownsRow.alloc HOW.out _) ⟨wr.heap.size, 0, none⟩ 1 1 [.int .u8 128] rfl rfl (fun j u hj => by
                have : j = 0 := by have := (List.getElem?_eq_some_iff.1 hj).1; simpa using this
                subst this
                simp at hj
                subst hj
                simp [Addr.add]) (fun u hu => by rw [List.mem_singleton.1 hu]; rfl) (by unfold maxLen; omega) (by omega) (by have := HBW.out.size; simp; omega) ?_; intro v' w1 hown' hgrow _)
            have R : Hid _ := fold_step (x := 128) hk5 HX.out HOW.out HBW.out hown' hgrow
            clear hown' hgrow
            go_wp2
            go_roundw
            case rel => exact ⟨k + 1, by omega, by go_num, R.out⟩
            case measure => simp [intOf]; omega
          · rw [if_neg h0, if_neg h1] at hx
            have HX : Hid _ := hx
            have hM := HM.out
            have kM : ¬ ((k : Int) = (M : Int)) := by omega
            have k0 : ¬ ((k : Int) = 0) := by omega
            clear hx h1 hM
            go_wp2_with (at_builtin; refine wpList_append_own _ rfl _ _ 29 rfl w.heap.size 5 i0 (.int .u8 0) 1 1 Tryd.underlying29 hi hz0 hz1 hz2 rfl (by decide) _ _ _ rfl (World.ownsRow.alloc HOW.out _) ⟨wr.heap.size, 0, none⟩ 1 1 [.int .u8 0] rfl rfl (fun j u hj => by
                have : j = 0 := by have := (List.getElem?_eq_some_iff.1 hj).1; simpa using this
                subst this
                simp at hj
                subst hj
                simp [Addr.add]) (fun u hu => by rw [List.mem_singleton.1 hu]; rfl) (by unfold maxLen; omega) (by omega) (by have := HBW.out.size; simp; omega) ?_; intro v' w1 hown' hgrow _)
            have R : Hid _ := fold_step (x := 0) hk5 HX.out HOW.out HBW.out hown' hgrow
            clear hown' hgrow
            go_wp2
            go_roundw
            case rel => exact ⟨k + 1, by omega, by go_num, R.out⟩
            case measure => simp [intOf]; omega
      · obtain rfl : N = k := by omega
        obtain ⟨L, eL⟩ : ∃ L, L = l ++ padL N := ⟨_, rfl⟩
        obtain ⟨T, eT⟩ : ∃ T, T = n + N := ⟨_, rfl⟩
        have how := HOW.out
        rw [List.take_of_length_le (by rw [padL_len N hN1]; omega), ← eL, ← eT] at how
        have hTL : T = L.length := by rw [eT, eL, List.length_append, padL_len N hN1, ← EN.out]
        have hLb : ∀ i, L.getD i 0 < 256 := by rw [eL]; exact pad_byte l HL.out N
        obtain ⟨J, hJ⟩ : ∃ J, 136 * J = T := ⟨T / 136, by have := EN2.out; omega⟩
        obtain ⟨g, c, rfl, hgs, hby⟩ := owns_bytes how (by omega) hTL
        have HF : Hid (stF L J = endF (absL (zeroK, 0) l).1 (absL (zeroK, 0) l).2) := folds l L (by rw [eL, EN2.out, EN.out]) J (by omega) hLb
        have HLD : Hid (∀ (W : World) (f : KSt) (a : Nat), Tabs W → BytesAt W ⟨g, 0, none⟩ L → a + 136 ≤ T → Calls Tryd.prog 28 #[.agg (rowL 25 (iv f)).toArray, .slice (some ⟨g, 0, none⟩) T c, .int .i64 (a : Int)] W fun e w' => e = .returned (.agg (rowL 25 (iv (rndsF 24 (blockF f L a)))).toArray) ∧ Below W.heap.size W w') := fun W f a hW hb ha => by
          rw [hTL]; exact laid_is f W g 0 c a L hW hLb hb (by omega) (by omega)
        have H0 : Hid (FoldInv w wr.heap.size g zeroK L (wr.alloc (.cells (rowL 25 fun _ => 0).toArray 23))) := ⟨HBW.out.alloc HBW.out.size _, (Row.new wr 23 25 fun _ => 0), hby.alloc _, by simp; omega⟩
        have hSb : w.heap.size ≤ wr.heap.size := HBW.out.size
        have hgne : g ≠ wr.heap.size := by omega
        have hT1 : T ≤ 16777352 := by omega
        have hTI : (T : Int) ≤ 16777352 := by omega
        clear HOW how hby hgs hTL hLb eL
        clear eT
        go_wp2
        generalize hbS : wr.heap.size = bS at H0 hSb hgne ⊢
        clear hbS
        go_loopw [9] (fun i wx => ∃ j a : Nat, j ≤ J ∧ a = 136 * j ∧ i = .int .i64 a ∧ FoldInv w bS g (stF L j) L wx) (fun i _ => T + 136 - (intOf i).toNat)
        case atStart => rw [zero25]; exact ⟨0, 0, Nat.zero_le _, rfl, rfl, H0.out⟩
        case round =>
          obtain ⟨j, a, hj, ea, rfl, hI⟩ := hrel
          have HI : Hid (FoldInv w bS g (stF L j) L wr) := hI
          clear hI H0
          obtain ⟨b, eb⟩ : ∃ b : Nat, b = a + 136 := ⟨_, rfl⟩
          have m1 : (a : Int) + 136 = (b : Int) := by omega
          have q5 : IntKind.i64.wrap (b : Int) = (b : Int) := by rw [IntKind.wrap_i64]; omega
          by_cases hjJ : j < J
          · have bT : (b : Int) ≤ (T : Int) := by omega
            have abT : a + 136 ≤ T := by omega
            have HE : Hid (b = 136 * (j + 1) ∧ a = 136 * j) := ⟨by omega, by omega⟩
            clear ea eb
            obtain ⟨fj, ef⟩ : ∃ f, f = stF L j := ⟨_, rfl⟩
            obtain ⟨fn, efn⟩ : ∃ f, f = rndsF 24 (blockF fj L a) := ⟨_, rfl⟩
            have hld := fun (W : World) hW hb => HLD.out W fj a hW hb abT
            rw [← efn] at hld
            have EF : Hid (stF L (j + 1) = fn) := by unfold Hid; rw [efn, ef, stF, ← HE.out.2]
            have HI2 : Hid (FoldInv w bS g fj L wr) := by unfold Hid; rw [ef]; exact HI.out
            have LD : Hid _ := hld
            clear ef efn hld HI HLD HF HBW HOW0 HB0 HAD HNIL
            generalize hu : iv fj = u at LD
            generalize hv : iv fn = v at LD
            have HU : Hid _ := hu
            have HV : Hid _ := hv
            have RU : Hid (wr.rangeAt bS 0 (rowL 25 u)) := by have := HI2.out.2.1.range; rw [hu] at this; exact this
            clear hu hv
            go_upto_region 19 with (first
              | refine load25 u bS rfl _ rfl rfl RU.out ?_
              | (go_at_call 28; refine (LD.out _ (Tabs.below HT.out HI2.out.1 t2) HI2.out.2.2.1).mono ?_; rintro e v2 ⟨rfl, hB⟩; (have H2 : Hid _ := FoldInv.past HI2.out hB); clear hB)
              | refine store25 v bS rfl _ _ rfl rfl rfl (Row.there H2.out.2.1) ?_)
            have H3 : Hid (FoldInv w bS g fn L (v2.setCells bS 0 (rowL 25 v))) := by
              have := FoldInv.store fn hSb hgne H2.out
              rw [HV.out] at this; exact this
            generalize v2.setCells bS 0 (rowL 25 v) = v3 at H3 ⊢
            clear H2
            go_wp2
            go_roundw
            case rel => exact ⟨j + 1, b, by omega, HE.out.1, rfl, by rw [EF.out]; exact H3.out⟩
            case measure => simp [intOf]; omega
          · obtain rfl : J = j := by omega
            have bT : ¬ ((b : Int) ≤ (T : Int)) := by omega
            clear ea eb
            go_upto_region 21 with fail
            obtain ⟨F, eF⟩ : ∃ F, F = stF L J := ⟨_, rfl⟩
            have hI := HI.out
            rw [← eF] at hI
            have hf := HF.out
            rw [← eF] at hf
            have hsum := fun (W : World) hW pb had h0 => sumArg W hW pb cap ad l HL.out (by rw [← EN.out]; exact hs) had h0
            have hq : ∀ i, sumF l i = hashF F i := fun i => by rw [sumF, ← hf]
            generalize sumF l = hh at hsum hq
            have HQ : Hid _ := hq
            have SU : Hid _ := hsum
            have WA : Hid (Below w.heap.size w (wr.alloc (.cells #[.slice ad n cap] 29))) := hI.1.alloc hI.1.size _
            have RA : Hid (Row (wr.alloc (.cells #[.slice ad n cap] 29)) bS 25 (iv F)) := hI.2.1.alloc _
            have BA : Hid (l ≠ [] → ∃ sb so, ad = some ⟨sb, so, none⟩ ∧ BytesAt (wr.alloc (.cells #[.slice ad n cap] 29)) ⟨sb, so, none⟩ l) := fun h => by
              obtain ⟨sb, so, h1, h2⟩ := HAD.out h
              exact ⟨sb, so, h1, h2.below WA.out⟩
            clear hq hsum hf hI HI HF HLD eF HAD HNIL HOW0 HB0 HBW
            go_wp2_with fail
            refine (SU.out _ (Tabs.below HT.out WA.out t2) wr.heap.size BA.out (by rw [← EN.out]; go_simp)).mono ?_
            rintro e v4 ⟨rfl, hB⟩
            have W4 : Hid (Below w.heap.size w v4) := Below.trans WA.out (hB.mono WA.out.size)
            have R4 : Hid (Row v4 bS 25 (iv F)) := Row.below RA.out hB (Row.lt RA.out (by omega))
            clear hB WA RA BA SU
            go_upto_region 22 with (refine store32_new hh rfl _ _ rfl rfl rfl W4.out ?_; intro v5 hr hw hv; (have W5 : Hid (Below w.heap.size w v5) := hw); (have R5 : Hid (Row v5 bS 25 (iv F)) := Row.below R4.out hv (Row.lt R4.out (by omega))); (have H5 : Hid (RowB v5 v4.heap.size 32 hh) := hr); clear hr hw hv)
            generalize v4.heap.size = bH at H5 ⊢
            clear W4 R4
            go_wp2
            go_loopw [11] (fun i wx => ∃ k : Nat, k ≤ 32 ∧ i = .int .i64 k ∧ Below w.heap.size w wx ∧ Row wx bS 25 (iv F) ∧ RowB wx bH 32 hh) (fun i _ => 32 - (intOf i).toNat)
            case atStart => exact ⟨0, Nat.zero_le _, rfl, W5.out, R5.out, H5.out⟩
            case round =>
              obtain ⟨k, hk, rfl, hB, hR, hH⟩ := hrel
              by_cases hk5 : k < 32
              · have kI : ((k : Int) < 32) := by omega
                obtain ⟨d, ed⟩ : ∃ d : Nat, d = k / 8 := ⟨_, rfl⟩
                obtain ⟨rr, err⟩ : ∃ r : Nat, r = k % 8 := ⟨_, rfl⟩
                obtain ⟨s, es⟩ : ∃ s : Nat, s = 8 * rr := ⟨_, rfl⟩
                have x1 : Int.tdiv (k : Int) 8 = (d : Int) := by rw [Int.tdiv_eq_ediv_of_nonneg (by omega)]; omega
                have x2 : Int.tmod (k : Int) 8 = (rr : Int) := by rw [Int.tmod_eq_emod_of_nonneg (by omega)]; omega
                have x3 : (8 : Int) * (rr : Int) = (s : Int) := by omega
                have y1 : IntKind.i64.wrap (d : Int) = (d : Int) := by rw [IntKind.wrap_i64]; omega
                have y2 : IntKind.i64.wrap (rr : Int) = (rr : Int) := by rw [IntKind.wrap_i64]; omega
                have y3 : IntKind.i64.wrap (s : Int) = (s : Int) := by rw [IntKind.wrap_i64]; omega
                have y5 : min s 64 = s := by omega
                have dI : (d : Int) < 25 := by omega
                have dN : d < 25 := by omega
                have sI : (0 : Int) ≤ (s : Int) := by omega
                have ca := (hR d dN).1
                have cb := (hH k hk5).1
                have ev : IntKind.u8.wrap (iv F d / 2 ^ s) = hh k := by
                  rw [HQ.out, hashF, ← ed, ← err, ← es, iv, IntKind.wrap_u8, Int.natCast_emod, Int.natCast_ediv, Int.natCast_pow]; rfl
                have HR : Hid _ := hR
                have HH : Hid _ := hH
                have HB : Hid _ := hB
                generalize iv F d = x at ca ev
                generalize hh k = z at cb ev
                clear hk ed err es hR hH hB
                go_wp2
                go_quiet (fail)
                go_wp2
                go_roundw
                case rel => exact ⟨k + 1, by omega, by go_num, bdrewN HB.out nq, fun i hi => HR.out i hi, fun i hi => HH.out i hi⟩
                case measure => simp [intOf]; omega
              · obtain rfl : k = 32 := by omega
                go_wp2
                go_ret
                exact ⟨rfl, hB⟩
end Go.Proofs.YteggikojfkmbkaaDoor
