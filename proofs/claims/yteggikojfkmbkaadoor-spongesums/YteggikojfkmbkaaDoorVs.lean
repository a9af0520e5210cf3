/- SpongeSums: the walk. -/
import Derived.Test.YteggikojfkmbkaaDoorVr
import Derived.Test.YteggikojfkmbkaaDoorVt
import Derived.Test.YteggikojfkmbkaaDoorVo
import Derived.Test.YteggikojfkmbkaaDoorKcd
namespace Go.Proofs.YteggikojfkmbkaaDoor
open Go.RowKit
/-- the loans of the first k pieces -/
def Fits (Ls : Nat → List Nat) (k : Nat) (xs : List Lo) : Prop := xs.length = k ∧ ∀ i, i < k → ∃ g c, xs[i]? = some (g, c, (Ls i).length, Ls i ++ mkL (i % 256) 40)
theorem Fits.snoc {Ls : Nat → List Nat} {k : Nat} {xs : List Lo} (h : Fits Ls k xs) (g c : Nat) : Fits Ls (k + 1) (xs ++ [(g, c, (Ls k).length, Ls k ++ mkL (k % 256) 40)]) := by
  refine ⟨by rw [List.length_append, h.1]; rfl, fun i hi => ?_⟩
  by_cases e : i = k
  · subst e; exact ⟨g, c, by rw [List.getElem?_append_right (by rw [h.1]; exact Nat.le_refl _), h.1]; simp⟩
  · obtain ⟨g', c', h'⟩ := h.2 i (by omega)
    exact ⟨g', c', by rw [List.getElem?_append_left (by rw [h.1]; omega)]; exact h'⟩
set_option maxHeartbeats 4000000 in
set_option maxRecDepth 100000 in
theorem sums_walk (w : World) (hT : Tabs w) (pa : Option Addr) (n cap : Nat) (ad : Nat → Option Addr) (cp : Nat → Nat) (Ls : Nat → List Nat) (hn : n ≤ 140737488355328) (hp : PcAt w pa n fun i => .slice (ad i) (Ls i).length (cp i))
    (hl : ∀ i, i < n → (Ls i).length ≤ 140737488355328) (hs : ∀ i, i < n → Seg w (.slice (ad i) (Ls i).length (cp i)) (Ls i)) (hb : ∀ i j, (Ls i).getD j 0 < 256) :
    Calls Tryd.prog 4 #[.slice pa n cap] w fun e w' => e = .returned (.bool true) ∧ Below w.heap.size w w' := by
  have hW := weight_is w pa n cap ad (fun i => (Ls i).length) cp hn hp hl
  by_cases hT0 : 16777216 < n + lenSum (fun i => (Ls i).length) n
  · have HW : Hid (Calls Tryd.prog 13 #[.slice pa n cap] w fun e w' => ∃ m : Nat, e = .returned (.int .i64 (m : Int)) ∧ (16777216 : Int) < (m : Int) ∧ w' = w) := hW.mono fun e w' ⟨⟨m, h1, h2, _⟩, h4⟩ => ⟨m, h1, by rcases h2 with h | h <;> omega, h4⟩
    clear hT hp hs hb hl hW hT0
    go_enter Tryd.func4, Tryd.ntmps4
    go_wp2_with (go_at_call 13; refine (HW.out).mono ?_; rintro e w' ⟨m, rfl, hm, hw⟩; (have hw2 := hw.symm); clear hw; subst hw2)
    go_ret
    exact ⟨rfl, Below.refl _ _⟩
  obtain ⟨T, eT⟩ : ∃ T, n + lenSum (fun i => (Ls i).length) n = T := ⟨_, rfl⟩
  rw [eT] at hT0
  have HW : Hid (Calls Tryd.prog 13 #[.slice pa n cap] w fun e w' => e = .returned (.int .i64 (T : Int)) ∧ w' = w) := hW.mono fun e w' ⟨⟨m, h1, h2, h3⟩, h4⟩ => ⟨h1.trans (by rw [show m = T by omega]), h4⟩
  have TI : ¬ ((16777216 : Int) < (T : Int)) := by omega
  have hnT : n ≤ 16777216 := by omega
  have nI : (n : Int) ≤ 16777216 := by omega
  have HLE : Hid (∀ i, i < n → (Ls i).length ≤ 16777216) := by
    intro i hi
    have h1 := lenSum_mono (fun i => (Ls i).length) (i + 1) (n - (i + 1))
    rw [show i + 1 + (n - (i + 1)) = n by omega, lenSum] at h1
    omega
  have HFL : Hid ((flat Ls n).length ≤ 16777216) := by unfold Hid; rw [flat_len]; omega
  have HT : Hid (Tabs w) := hT
  have g2 := hT.lt
  have HP : Hid (PcAt w pa n fun i => .slice (ad i) (Ls i).length (cp i)) := hp
  have HS : Hid (∀ i, i < n → Seg w (.slice (ad i) (Ls i).length (cp i)) (Ls i)) := hs
  have HBY : Hid (∀ i j, (Ls i).getD j 0 < 256) := hb
  clear hT hp hs hb hl hW hT0 eT hn
  go_enter Tryd.func4, Tryd.ntmps4
  go_upto_region 3 with (go_at_call 13; refine (HW.out).mono ?_; rintro e w' ⟨rfl, hw⟩; (have hw2 := hw.symm); clear hw; subst hw2)
  clear HW
  go_wp2
  rw [show decide ((16777216 : Int) < (T : Int)) = false from decide_eq_false (by omega)]
  go_loopw [3, 4, 5] (fun vl vh s wr => ∃ k : Nat, k ≤ n ∧ s = .int .i64 (k : Int) ∧ ∃ xs, Fits Ls k xs ∧ SI w xs vl vh k (xs.map sB) wr) (fun _ _ s _ => n - (intOf s).toNat)
  case atStart => exact ⟨0, Nat.zero_le _, rfl, [], ⟨rfl, fun i hi => absurd hi (by omega)⟩, Below.refl _ _, World.ownsRow_nil _ _ _ _, World.ownsRow_nil _ _ _ _, fun x hx => absurd hx (by simp), List.Pairwise.nil⟩
  case round =>
    obtain ⟨k, hk, rfl, xs, hF, hI⟩ := hrel
    have HF : Hid (Fits Ls k xs) := hF
    have HI : Hid (SI w xs u3 u4 k (xs.map sB) wr) := hI
    have hbs := hI.1.size
    by_cases hk5 : k < n
    · have kI : (k : Int) < (n : Int) := by omega
      obtain ⟨pb, po, e, hc⟩ := HP.out (by omega)
      subst e
      have ck := (hI.1.cell (p := ⟨pb, po + k, none⟩) (World.block_lt_of_cell? w _ (hc k hk5))).trans (hc k hk5)
      dsimp only at ck
      obtain ⟨m, em⟩ : ∃ m, k % 256 = m := ⟨_, rfl⟩
      have wm : IntKind.u8.wrap (k : Int) = (m : Int) := by rw [IntKind.wrap_u8]; omega
      have hlk := HLE.out k hk5
      have LD : Hid (Calls Tryd.prog 14 #[.slice (ad k) (Ls k).length (cp k), .int .u8 (m : Int)] wr fun e w' => ∃ g c, e = .returned (.agg #[.slice (some ⟨g, 0, none⟩) (Ls k).length c, .slice (some ⟨g, 0, none⟩) ((Ls k).length + 40) c]) ∧ w'.ownsRow (wr.heap.size + 1) 5 1 (.slice (some ⟨g, 0, none⟩) ((Ls k).length + 40) c) ((Ls k).length + 40) (bytesL (Ls k ++ mkL m 40)) ∧ Below wr.heap.size wr w') :=
        lend_is wr _ (Ls k) m ((HS.out k hk5).below hI.1) (by omega) (ad k) (cp k) rfl
      have HFN : Hid (∀ g c, Fits Ls (k + 1) (xs ++ [(g, c, (Ls k).length, Ls k ++ mkL m 40)])) := fun g c => by rw [← em]; exact hF.snoc g c
      have HXL : Hid (xs.length = k) := hF.1
      clear hF hI hc em hk
      generalize Ls k = lk at ck LD HFN hlk
      generalize ad k = ak at ck LD
      generalize cp k = ck' at ck LD
      go_upto_region 9 with (go_at_call 14; refine (LD.out).mono ?_; rintro e v1 ⟨g, c, rfl, hown, hB⟩)
      have J1 : Hid (SJ w xs (g, c, lk.length, lk ++ mkL m 40) u3 u4 k (xs.map sB) v1) := HI.out.more hB hown
      have FN : Hid (Fits Ls (k + 1) (xs ++ [(g, c, lk.length, lk ++ mkL m 40)])) := HFN.out g c
      clear hown hB HI LD HFN
      obtain ⟨nl, enl⟩ : ∃ s : Nat, lk.length = s := ⟨_, rfl⟩
      obtain ⟨nf, enf⟩ : ∃ s : Nat, nl + 40 = s := ⟨_, rfl⟩
      obtain ⟨y, ey⟩ : ∃ y : Lo, (g, c, lk.length, lk ++ mkL m 40) = y := ⟨_, rfl⟩
      have eb : sB y = .slice (some ⟨g, 0, none⟩) nl c := by rw [← ey, ← enl]; rfl
      have ef : sF y = .slice (some ⟨g, 0, none⟩) nf c := by rw [← ey, ← enf, ← enl]; rfl
      rw [enl, enf]
      rw [ey] at J1 FN
      clear ey enl enf
      have J2 : Hid (SJ w xs y u3 u4 k (xs.map sB) (v1.alloc (.cells #[.slice (some ⟨g, 0, none⟩) nl c, .slice (some ⟨g, 0, none⟩) nf c] 31))) := J1.out.past ((Below.refl _ _).alloc (Nat.le_refl _) _)
      have cl0 : (v1.alloc (.cells #[.slice (some ⟨g, 0, none⟩) nl c, .slice (some ⟨g, 0, none⟩) nf c] 31)).cell? ⟨v1.heap.size, 0, none⟩ = some (.slice (some ⟨g, 0, none⟩) nl c) := by simp
      have cl1 : (v1.alloc (.cells #[.slice (some ⟨g, 0, none⟩) nl c, .slice (some ⟨g, 0, none⟩) nf c] 31)).cell? ⟨v1.heap.size, 1, none⟩ = some (.slice (some ⟨g, 0, none⟩) nf c) := by simp
      have NE : Hid (some v1.heap.size ≠ u3.ownBlock) := fun e => by have := (J1.out.2.1.lt _ e.symm).2; omega
      generalize v1.alloc (.cells #[.slice (some ⟨g, 0, none⟩) nl c, .slice (some ⟨g, 0, none⟩) nf c] 31) = v2 at J2 cl0 cl1 ⊢
      generalize v1.heap.size = bl at cl0 cl1 NE ⊢
      have hx2 : xs.length + 1 ≤ 1000000000 := by have := HXL.out; omega
      have hk2 : k + 1 ≤ 1000000000 := by omega
      clear J1
      go_upto_region 10 with (at_builtin; refine append_lit infLoan Tryd.underlying28 rfl (by decide) rfl _ _ rfl w.heap.size u3 xs.length (lnL xs) rfl J2.out.2.1 1 [.slice (some ⟨g, 0, none⟩) nl c, .slice (some ⟨g, 0, none⟩) nf c] rfl (fun u hu => by rcases List.mem_cons.1 hu with rfl | hu; rfl; rw [List.mem_singleton.1 hu]; rfl) rfl hx2 (by decide) J2.out.1.size ?_; intro vl' v3 hown' hgrow)
      have I3 : Hid (SI w (xs ++ [y]) vl' u4 k (xs.map sB) v3) := J2.out.listed hgrow (by rw [eb, ef]; exact hown')
      have cl3 : v3.cell? ⟨bl, 0, none⟩ = some (.slice (some ⟨g, 0, none⟩) nl c) := hgrow.cell (a := ⟨bl, 0, none⟩) (by rw [World.cell?_alloc_lt _ _ _ (World.block_lt_of_cell? v2 _ cl0)]; exact cl0) NE.out
      clear hown' hgrow J2 cl0 cl1 NE ef
      go_wp2_with (at_builtin; refine append_lit infSl Tryd.underlying26 rfl (by decide) rfl _ _ rfl w.heap.size u4 k (xs.map sB) rfl I3.out.2.2.1 1 [.slice (some ⟨g, 0, none⟩) nl c] rfl (fun u hu => by rw [List.mem_singleton.1 hu]; rfl) rfl hk2 (by decide) I3.out.1.size ?_; intro vh' v4 hown' hgrow)
      have I4 : Hid (SI w (xs ++ [y]) vl' vh' (k + 1) ((xs ++ [y]).map sB) v4) := by
        have := I3.out.handed hgrow hown'
        have e : (xs ++ [y]).map sB = xs.map sB ++ [.slice (some ⟨g, 0, none⟩) nl c] := by rw [List.map_append, List.map_cons, List.map_nil, eb]
        unfold Hid; rw [e]; exact this
      clear hown' hgrow I3 cl3 eb
      go_wp2
      go_roundw
      case rel => exact ⟨k + 1, by omega, by go_num, xs ++ [y], FN.out, I4.out⟩
      case measure => simp [intOf]; omega
    · obtain rfl : k = n := by omega
      have kI : ¬ ((k : Int) < (k : Int)) := by omega
      have HAS : Hid (Has Ls k xs) := ⟨hF.1, fun i hi => by
        obtain ⟨g, c, h⟩ := hF.2 i hi
        exact ⟨_, h, rfl, _, rfl⟩⟩
      have hk2 : k + 2 ≤ 1000000000 := by omega
      have I0 : Hid (SI w xs u3 u4 k (xs.map sB) ((wr.alloc (.cells #[.int .u8 201] 5)).alloc (.cells #[.int .u8 202] 5))) := (hI.alloc _).alloc _
      have cc1 : ((wr.alloc (.cells #[.int .u8 201] 5)).alloc (.cells #[.int .u8 202] 5)).cell? ⟨wr.heap.size, 0, none⟩ = some (.int .u8 201) := by rw [World.cell?_alloc_lt _ _ _ (by simp)]; simp
      have cc2 : ((wr.alloc (.cells #[.int .u8 201] 5)).alloc (.cells #[.int .u8 202] 5)).cell? ⟨wr.heap.size + 1, 0, none⟩ = some (.int .u8 202) := by
        have e : wr.heap.size + 1 = (wr.alloc (.cells #[.int .u8 201] 5)).heap.size := by simp
        rw [e]; simp
      have HLT : Hid (∀ q, u4.ownBlock = some q → q < wr.heap.size) := fun q hq => (hI.2.2.1.lt q hq).2
      clear hF hI hk hk5 HI
      go_upto_region 13 with (at_builtin; refine append_lit2 infSl Tryd.underlying26 rfl (by decide) rfl _ _ rfl w.heap.size u4 k (xs.map sB) rfl I0.out.2.2.1 2 [.slice (some ⟨wr.heap.size, 0, none⟩) 1 1, .slice (some ⟨wr.heap.size + 1, 0, none⟩) 1 1] rfl (fun u hu => by rcases List.mem_cons.1 hu with rfl | hu; rfl; rw [List.mem_singleton.1 hu]; rfl) (wr.heap.size + 1 + 1) (by simp) rfl hk2 (by decide) I0.out.1.size ?_; intro vh' v4 hown' hgrow)
      obtain ⟨gh, ch, rfl, hch⟩ : ∃ gh ch, vh' = .slice (some ⟨gh, 0, none⟩) (k + 2) ch ∧ k + 2 ≤ ch := by
        obtain ⟨_, ⟨_, e⟩ | ⟨g, c, cur, rfl, _, _, h1, _⟩⟩ := id hown'
        · omega
        · exact ⟨g, c, rfl, h1⟩
      have K4 : Hid (KI w xs u3 gh ch k wr.heap.size (wr.heap.size + 1) v4) := by
        refine ⟨I0.out.handed hgrow hown', ?_, ?_⟩
        · exact hgrow.cell (a := ⟨wr.heap.size, 0, none⟩) (by rw [World.cell?_alloc_lt _ _ _ (World.block_lt_of_cell? _ _ cc1)]; exact cc1) (fun e => by have h : wr.heap.size < wr.heap.size := HLT.out _ e.symm; omega)
        · exact hgrow.cell (a := ⟨wr.heap.size + 1, 0, none⟩) (by rw [World.cell?_alloc_lt _ _ _ (World.block_lt_of_cell? _ _ cc2)]; exact cc2) (fun e => by have h : wr.heap.size + 1 < wr.heap.size := HLT.out _ e.symm; omega)
      clear hown' hgrow I0 cc1 cc2 HLT hbs
      obtain ⟨b2, e2⟩ : ∃ b, wr.heap.size + 1 = b := ⟨_, rfl⟩
      obtain ⟨b1, e1⟩ : ∃ b, wr.heap.size = b := ⟨_, rfl⟩
      rw [e2, e1] at K4
      simp only [e1]
      clear e2 e1
      obtain ⟨fl, efl⟩ : ∃ fl, flat Ls k = fl := ⟨_, rfl⟩
      have SM : Hid (∀ V, KI w xs u3 gh ch k b1 b2 V → Calls Tryd.prog 17 #[.slice (some ⟨gh, 0, none⟩) k ch] V fun e w' => e = .returned (.agg (rowB 32 (sumF fl)).toArray) ∧ Below V.heap.size V w') := fun V hV => by
        rw [← efl]; exact handed_sum (Tabs.below HT.out hV.1.1 g2) hV.1 HAS.out (by omega) HBY.out HLE.out hnT
      have JN : Hid (∀ V, Below w.heap.size w V → Calls Tryd.prog 16 #[.slice pa k cap] V fun e w' => ∃ v, e = .returned v ∧ w'.ownsRow V.heap.size 5 1 v fl.length (bytesL fl) ∧ Below V.heap.size V w') := fun V hV => by
        have := joined_is V pa k cap (fun i => .slice (ad i) (Ls i).length (cp i)) Ls (HP.out.past hV) (fun i hi => (HS.out i hi).below hV) (by have := HFL.out; omega)
        rw [efl] at this; exact this
      have FB : Hid (∀ i, fl.getD i 0 < 256) := by rw [← efl]; exact flat_byte Ls HBY.out k
      have hfl := HFL.out
      rw [efl] at hfl
      have RS : Hid (∀ V pb v, V.cell? ⟨pb, 0, none⟩ = some v → Seg V v fl → Calls Tryd.prog 15 #[.slice (some ⟨pb, 0, none⟩) 1 1] V fun e w' => e = .returned (.agg (rowB 32 (sumF fl)).toArray) ∧ Below V.heap.size V w') := fun V pb v h1 h2 => rsum_is V pb v fl h1 h2 FB.out (by omega)
      have sl := slice_toS (some ⟨gh, 0, none⟩) (k + 2) ch k (by omega)
      have e32 : ∀ W : World, Sem.run Tryd.prog (Op.equalIn 10000 34 (.agg (rowB 32 (sumF fl)).toArray) (.agg (rowB 32 (sumF fl)).toArray)) W = .ok true W := fun W => by rw [eq32_run, (rowEq_iff 32 _ _).2 fun _ _ => rfl]
      generalize sumF fl = hh at SM RS e32
      have flI : (fl.length : Int) ≤ 16777216 := by omega
      clear efl
      go_upto_region 15 with fail
      go_upto_region 16 with (first
        | (go_at_call 16; refine (JN.out _ K4.out.1.1).mono ?_; rintro e v5 ⟨vj, rfl, hown, hB⟩; obtain ⟨aj, cj, rfl, hj⟩ := (owns_seg hown).1; (have K5 : Hid (KI w xs u3 gh ch k b1 b2 v5) := K4.out.past hB); (have SG5 : Hid (Seg v5 (.slice aj fl.length cj) fl) := ⟨aj, cj, rfl, hj⟩); clear hown hB hj K4)
        | (go_at_call 15; refine (RS.out _ v5.heap.size (.slice aj fl.length cj) (by simp) (SG5.out.alloc _)).mono ?_; rintro e v6 ⟨rfl, hB⟩; (have K6 : Hid (KI w xs u3 gh ch k b1 b2 v6) := (K5.out.past ((Below.refl _ _).alloc (Nat.le_refl _) _)).past hB); clear hB K5 SG5)
        | (refine store32_new hh rfl _ _ rfl rfl rfl K6.out.1.1 ?_; intro v7 hr hw hv; (have K7 : Hid (KI w xs u3 gh ch k b1 b2 v7) := K6.out.past hv); (have R7 : Hid (RowB v7 v6.heap.size 32 hh) := hr); clear hr hw hv K6))
      generalize v6.heap.size = b9 at R7 ⊢
      go_upto_region 17 with (first
        | (go_at_call 17; refine (SM.out _ K7.out).mono ?_; rintro e v8 ⟨rfl, hB⟩; (have K8 : Hid (KI w xs u3 gh ch k b1 b2 v8) := K7.out.past hB); (have R8 : Hid (RowB v8 b9 32 hh) := R7.out.below hB (R7.out.lt (by omega))); clear hB K7 R7)
        | (refine store32_new hh rfl _ _ rfl rfl rfl K8.out.1.1 ?_; intro v9 hr hw hv; (have K9 : Hid (KI w xs u3 gh ch k b1 b2 v9) := K8.out.past hv); (have R9 : Hid (RowB v9 b9 32 hh) := R8.out.below hv (R8.out.lt (by omega))); (have Q9 : Hid (RowB v9 v8.heap.size 32 hh) := hr); clear hr hw hv K8 R8))
      generalize v8.heap.size = b10 at Q9 ⊢
      go_upto_region 18 with (first
        | (go_at_call 17; refine (SM.out _ K9.out).mono ?_; rintro e v10 ⟨rfl, hB⟩; (have K10 : Hid (KI w xs u3 gh ch k b1 b2 v10) := K9.out.past hB); (have R10 : Hid (RowB v10 b9 32 hh) := R9.out.below hB (R9.out.lt (by omega))); (have Q10 : Hid (RowB v10 b10 32 hh) := Q9.out.below hB (Q9.out.lt (by omega))); clear hB K9 R9 Q9)
        | (refine store32_new hh rfl _ _ rfl rfl rfl K10.out.1.1 ?_; intro v11 hr hw hv; (have K11 : Hid (KI w xs u3 gh ch k b1 b2 v11) := K10.out.past hv); (have R11 : Hid (RowB v11 b9 32 hh) := R10.out.below hv (R10.out.lt (by omega))); (have Q11 : Hid (RowB v11 b10 32 hh) := Q10.out.below hv (Q10.out.lt (by omega))); (have S11 : Hid (RowB v11 v10.heap.size 32 hh) := hr); clear hr hw hv K10 R10 Q10))
      generalize v10.heap.size = b11 at S11 ⊢
      (try dsimp only [Act.put])
      go_cut [103] (fun s wx => s = .bool false ∧ KI w xs u3 gh ch k b1 b2 wx)
      case first =>
        obtain ⟨k1, ek1⟩ : ∃ x : Nat, k + 1 = x := ⟨_, rfl⟩
        obtain ⟨k2, ek2⟩ : ∃ x : Nat, k + 2 = x := ⟨_, rfl⟩
        have hown := K11.out.1.2.2.1
        have ca0 : v11.cell? ⟨gh, k, none⟩ = some (.slice (some ⟨b1, 0, none⟩) 1 1) := by
          rw [hown.cellAt k (by omega), List.getElem?_append_right (by rw [List.length_map, HAS.out.1]; exact Nat.le_refl _), List.length_map, HAS.out.1, Nat.sub_self]; rfl
        have ca1 : v11.cell? ⟨gh, k1, none⟩ = some (.slice (some ⟨b2, 0, none⟩) 1 1) := by
          rw [hown.cellAt k1 (by omega), List.getElem?_append_right (by rw [List.length_map, HAS.out.1]; omega), List.length_map, HAS.out.1, show k1 - k = 1 by omega]; rfl
        have cm1 := K11.out.2.1
        have cm2 := K11.out.2.2
        have s1 : (k : Int) + 1 = (k1 : Int) := by omega
        have wk1 : IntKind.i64.wrap (k1 : Int) = (k1 : Int) := by rw [IntKind.wrap_i64]; omega
        have kI2 : (k : Int) < (k2 : Int) := by omega
        have kI3 : (k1 : Int) < (k2 : Int) := by omega
        have RA : Hid _ := RowB.range R11.out
        have RH : Hid _ := RowB.range Q11.out
        have RC : Hid _ := RowB.range S11.out
        rw [ek2]
        clear hown ek1
        go_wp2_with (first
          | refine load32 hh b9 rfl _ rfl rfl RA.out ?_
          | refine load32 hh b10 rfl _ rfl rfl RH.out ?_
          | (refine load32g hh b9 _ rfl rfl RA.out ?_ ?_; rfl)
          | (refine load32g hh b11 _ rfl rfl RC.out ?_ ?_; rfl))
        rw [← ek2]
        go_meet
        case rel => exact ⟨rfl, K11.out⟩
      case rest =>
        obtain ⟨rfl, hK⟩ := hcut
        have K12 : Hid (KI w xs u3 gh ch k b1 b2 wc) := hK
        clear hK K11 R11 Q11 S11
        go_wp2
        go_loopw [12] (fun s wr => ∃ i : Nat, i ≤ k ∧ s = .int .i64 (i : Int) ∧ KI w xs u3 gh ch k b1 b2 wr) (fun s _ => k - (intOf s).toNat)
        case atStart => exact ⟨0, Nat.zero_le _, rfl, K12.out⟩
        case round =>
          clear K12
          obtain ⟨i, hi, rfl, hK⟩ := hrel
          by_cases hi5 : i < k
          · have iI : (i : Int) < (k : Int) := by omega
            obtain ⟨gl, cl, rfl⟩ : ∃ gl cl, u3 = .slice (some ⟨gl, 0, none⟩) k cl := by
              obtain ⟨_, ⟨_, e⟩ | ⟨g, c, cur, h, _⟩⟩ := id hK.1.2.1
              · rw [HAS.out.1] at e; omega
              · rw [HAS.out.1] at h; exact ⟨g, c, h⟩
            obtain ⟨pb, po, e, hc⟩ := HP.out (by omega)
            subst e
            obtain ⟨g, c, hx⟩ := HF.out.2 i hi5
            have HXL := HF.out.1
            have x2 := (hK.1.1.cell (p := ⟨pb, po + i, none⟩) (World.block_lt_of_cell? w _ (hc i hi5))).trans (hc i hi5)
            have hK2 := hK.1
            rw [← HXL] at hK2
            obtain ⟨x0, x1⟩ := hK2.loan hx
            have x3 : wr.cell? ⟨gh, i, none⟩ = some (sB (g, c, (Ls i).length, Ls i ++ mkL (i % 256) 40)) := by
              have := (has_pc hK.1 HAS.out (by omega)).1 i hi5
              rw [Nat.zero_add, List.getD_eq_getElem?_getD, hx] at this; exact this
            obtain ⟨m, em⟩ : ∃ m, i % 256 = m := ⟨_, rfl⟩
            have wm : IntKind.u8.wrap (i : Int) = (m : Int) := by rw [IntKind.wrap_u8]; omega
            have WH : Hid (∀ V, KI w xs (.slice (some ⟨gl, 0, none⟩) k cl) gh ch k b1 b2 V → Calls Tryd.prog 18 #[.agg #[.slice (some ⟨g, 0, none⟩) (Ls i).length c, .slice (some ⟨g, 0, none⟩) ((Ls i).length + 40) c], .slice (ad i) (Ls i).length (cp i), .int .u8 (m : Int)] V fun e w' => e = .returned (.bool true) ∧ Below V.heap.size V w') := fun V hV =>
              whole_is V _ _ g c (Ls i) m ((HS.out i hi5).below hV.1.1) (by have := HLE.out i hi5; omega) (by rw [← em]; exact (hV.1.bytes hx).1)
            have hlk := HLE.out i hi5
            dsimp only at x2
            simp only [sB, sF] at x0 x1 x3
            obtain ⟨nl, enl⟩ : ∃ s : Nat, (Ls i).length = s := ⟨_, rfl⟩
            obtain ⟨nf, enf⟩ : ∃ s : Nat, nl + 40 = s := ⟨_, rfl⟩
            rw [enl] at x0 x1 x2 x3 WH hlk
            rw [enf] at x1 WH
            generalize ad i = ai at x2 WH
            generalize cp i = ci at x2 WH
            have nlI : (nl : Int) ≤ 16777216 := by omega
            have K13 : Hid (KI w xs (.slice (some ⟨gl, 0, none⟩) k cl) gh ch k b1 b2 wr) := hK
            clear hK hc hK2 enl enf em hi hx
            go_upto_region 23 with fail
            refine wp_region_held_drew (S := fun V' => KI w xs (.slice (some ⟨gl, 0, none⟩) k cl) gh ch k b1 b2 V' ∧ V'.cell? ⟨gl, i * 2, none⟩ = some (.slice (some ⟨g, 0, none⟩) nl c) ∧ V'.cell? ⟨gl, i * 2 + 1, none⟩ = some (.slice (some ⟨g, 0, none⟩) nf c) ∧ V'.cell? ⟨pb, po + i, none⟩ = some (.slice ai nl ci) ∧ V'.cell? ⟨gh, i, none⟩ = some (.slice (some ⟨g, 0, none⟩) nl c)) (by kernel_rfl) ⟨K13.out.past (Below.refl _ _).drew, x0, x1, x2, x3⟩ (fun hHeld => ?_)
            generalize wr.drew = z0 at hHeld ⊢
            refine wpAnyH_take (i := 0) (v := .slice (some ⟨gl, 0, none⟩) k cl) ov0 (by kernel_rfl) (by kernel_rfl) (by kernel_rfl) (fun _ _ _ h => h) (Or.inl ⟨by rfl, fun V' hS => ?_⟩) hHeld ?_
            · go_simp
            simp only [Act.put, List.setIfInBounds_toArray, List.set_cons_zero, List.set_cons_succ]
            refine wpAnyH_take (i := 1) (v := .int .i64 (i : Int)) ov1 (by kernel_rfl) (by kernel_rfl) (by kernel_rfl) (fun _ _ _ h => h) (Or.inl ⟨by rfl, fun V' hS => ?_⟩) hHeld ?_
            · go_simp
            simp only [Act.put, List.setIfInBounds_toArray, List.set_cons_zero, List.set_cons_succ]
            refine wpAnyH_take (i := 2) (v := .pointer (some ⟨gl, i * 2, none⟩)) ov2 (by kernel_rfl) (by kernel_rfl) (by kernel_rfl) (fun _ _ _ h => h) (Or.inl ⟨by rfl, fun V' hS => ?_⟩) hHeld ?_
            · go_simp
            simp only [Act.put, List.setIfInBounds_toArray, List.set_cons_zero, List.set_cons_succ]
            refine wpAnyH_take (i := 3) (v := .agg #[.slice (some ⟨g, 0, none⟩) nl c, .slice (some ⟨g, 0, none⟩) nf c]) ov3 (by kernel_rfl) (by kernel_rfl) (by kernel_rfl) (fun _ _ _ h => h) (Or.inl ⟨by rfl, fun V' hS => ?_⟩) hHeld ?_
            · have k1 := hS.2.1
              have k2 := hS.2.2.1
              go_simp
            simp only [Act.put, List.setIfInBounds_toArray, List.set_cons_zero, List.set_cons_succ]
            refine wpAnyH_take (i := 4) (v := .slice (some ⟨pb, po, none⟩) k cap) ov4 (by kernel_rfl) (by kernel_rfl) (by kernel_rfl) (fun _ _ _ h => h) (Or.inl ⟨by rfl, fun V' hS => ?_⟩) hHeld ?_
            · go_simp
            simp only [Act.put, List.setIfInBounds_toArray, List.set_cons_zero, List.set_cons_succ]
            refine wpAnyH_take (i := 5) (v := .int .i64 (i : Int)) ov5 (by kernel_rfl) (by kernel_rfl) (by kernel_rfl) (fun _ _ _ h => h) (Or.inl ⟨by rfl, fun V' hS => ?_⟩) hHeld ?_
            · go_simp
            simp only [Act.put, List.setIfInBounds_toArray, List.set_cons_zero, List.set_cons_succ]
            refine wpAnyH_take (i := 6) (v := .pointer (some ⟨pb, po + i, none⟩)) ov6 (by kernel_rfl) (by kernel_rfl) (by kernel_rfl) (fun _ _ _ h => h) (Or.inl ⟨by rfl, fun V' hS => ?_⟩) hHeld ?_
            · go_simp
            simp only [Act.put, List.setIfInBounds_toArray, List.set_cons_zero, List.set_cons_succ]
            refine wpAnyH_take (i := 7) (v := .slice ai nl ci) ov7 (by kernel_rfl) (by kernel_rfl) (by kernel_rfl) (fun _ _ _ h => h) (Or.inl ⟨by rfl, fun V' hS => ?_⟩) hHeld ?_
            · have k1 := hS.2.2.2.1
              go_simp
            simp only [Act.put, List.setIfInBounds_toArray, List.set_cons_zero, List.set_cons_succ]
            refine wpAnyH_take (i := 8) (v := .int .i64 (i : Int)) ov8 (by kernel_rfl) (by kernel_rfl) (by kernel_rfl) (fun _ _ _ h => h) (Or.inl ⟨by rfl, fun V' hS => ?_⟩) hHeld ?_
            · go_simp
            simp only [Act.put, List.setIfInBounds_toArray, List.set_cons_zero, List.set_cons_succ]
            refine wpAnyH_take (i := 9) (v := .int .u8 (m : Int)) ov9 (by kernel_rfl) (by kernel_rfl) (by kernel_rfl) (fun _ _ _ h => h) (Or.inl ⟨by rfl, fun V' hS => ?_⟩) hHeld ?_
            · go_simp
            simp only [Act.put, List.setIfInBounds_toArray, List.set_cons_zero, List.set_cons_succ]
            refine wpAnyH_ready (rs := [10]) (by kernel_rfl) (by simp) ?_
            refine AllReadyH.cons ov10 (fun K hK => ?_) AllReadyH.nil
            rw [if_pos (by rfl)]
            go_simp
            refine (WH.out _ hHeld.1).mono ?_
            rintro e v13 ⟨rfl, hB⟩
            have hHeld2 : (fun V' => KI w xs (.slice (some ⟨gl, 0, none⟩) k cl) gh ch k b1 b2 V' ∧ V'.cell? ⟨gl, i * 2, none⟩ = some (.slice (some ⟨g, 0, none⟩) nl c) ∧ V'.cell? ⟨gl, i * 2 + 1, none⟩ = some (.slice (some ⟨g, 0, none⟩) nf c) ∧ V'.cell? ⟨pb, po + i, none⟩ = some (.slice ai nl ci) ∧ V'.cell? ⟨gh, i, none⟩ = some (.slice (some ⟨g, 0, none⟩) nl c)) v13 := ⟨hHeld.1.past hB, (hB.cell (p := ⟨gl, i * 2, none⟩) (World.block_lt_of_cell? _ _ hHeld.2.1)).trans hHeld.2.1, (hB.cell (p := ⟨gl, i * 2 + 1, none⟩) (World.block_lt_of_cell? _ _ hHeld.2.2.1)).trans hHeld.2.2.1, (hB.cell (p := ⟨pb, po + i, none⟩) (World.block_lt_of_cell? _ _ hHeld.2.2.2.1)).trans hHeld.2.2.2.1, (hB.cell (p := ⟨gh, i, none⟩) (World.block_lt_of_cell? _ _ hHeld.2.2.2.2)).trans hHeld.2.2.2.2⟩
            clear hB
            (try go_wp2_with fail)
            refine hK.out _ _ hHeld2 (fun _ => ?_)
            clear hK K
            (try simp only [Act.put, List.setIfInBounds_toArray, List.set_cons_zero, List.set_cons_succ])
            refine wpAnyH_take (i := 11) (v := .bool true) ov11 (by kernel_rfl) (by kernel_rfl) (by kernel_rfl) (fun _ _ _ h => h) (Or.inl ⟨by rfl, fun V' hS => ?_⟩) hHeld2 ?_
            · go_simp
            simp only [Act.put, List.setIfInBounds_toArray, List.set_cons_zero, List.set_cons_succ]
            refine wpAnyH_done (by kernel_rfl) ?_ _
            obtain ⟨K14', y0, y1, y2, y3⟩ := hHeld2
            have K14 : Hid (KI w xs (.slice (some ⟨gl, 0, none⟩) k cl) gh ch k b1 b2 v13) := K14'
            clear K14' hHeld K13 x0 x1 x2 x3 y0 y1
            go_upto_region 24 with fail
            refine wp_region_held_drew (S := fun V' => KI w xs (.slice (some ⟨gl, 0, none⟩) k cl) gh ch k b1 b2 V' ∧ V'.cell? ⟨pb, po + i, none⟩ = some (.slice ai nl ci) ∧ V'.cell? ⟨gh, i, none⟩ = some (.slice (some ⟨g, 0, none⟩) nl c)) (by kernel_rfl) ⟨K14.out.past (Below.refl _ _).drew, y2, y3⟩ (fun hHeld => ?_)
            generalize v13.drew = z0 at hHeld ⊢
            refine wpAnyH_take (i := 0) (v := .bool true) ov0 (by kernel_rfl) (by kernel_rfl) (by kernel_rfl) (fun _ _ _ h => h) (Or.inl ⟨by rfl, fun V' hS => ?_⟩) hHeld ?_
            · go_simp
            simp only [Act.put, List.setIfInBounds_toArray, List.set_cons_zero, List.set_cons_succ]
            refine wpAnyH_take (i := 1) (v := .bool false) ov1 (by kernel_rfl) (by kernel_rfl) (by kernel_rfl) (fun _ _ _ h => h) (Or.inl ⟨by rfl, fun V' hS => ?_⟩) hHeld ?_
            · go_simp
            simp only [Act.put, List.setIfInBounds_toArray, List.set_cons_zero, List.set_cons_succ]
            refine wpAnyH_take (i := 2) (v := .bool false) ov2 (by kernel_rfl) (by kernel_rfl) (by kernel_rfl) (fun _ _ _ h => h) (Or.inl ⟨by rfl, fun V' hS => ?_⟩) hHeld ?_
            · go_simp
            simp only [Act.put, List.setIfInBounds_toArray, List.set_cons_zero, List.set_cons_succ]
            refine wpAnyH_take (i := 3) (v := .slice (some ⟨gh, 0, none⟩) k ch) ov3 (by kernel_rfl) (by kernel_rfl) (by kernel_rfl) (fun _ _ _ h => h) (Or.inl ⟨by rfl, fun V' hS => ?_⟩) hHeld ?_
            · go_simp
            simp only [Act.put, List.setIfInBounds_toArray, List.set_cons_zero, List.set_cons_succ]
            refine wpAnyH_take (i := 4) (v := .int .i64 (i : Int)) ov4 (by kernel_rfl) (by kernel_rfl) (by kernel_rfl) (fun _ _ _ h => h) (Or.inl ⟨by rfl, fun V' hS => ?_⟩) hHeld ?_
            · go_simp
            simp only [Act.put, List.setIfInBounds_toArray, List.set_cons_zero, List.set_cons_succ]
            refine wpAnyH_take (i := 5) (v := .pointer (some ⟨gh, i, none⟩)) ov5 (by kernel_rfl) (by kernel_rfl) (by kernel_rfl) (fun _ _ _ h => h) (Or.inl ⟨by rfl, fun V' hS => ?_⟩) hHeld ?_
            · go_simp
            simp only [Act.put, List.setIfInBounds_toArray, List.set_cons_zero, List.set_cons_succ]
            refine wpAnyH_take (i := 6) (v := .slice (some ⟨g, 0, none⟩) nl c) ov6 (by kernel_rfl) (by kernel_rfl) (by kernel_rfl) (fun _ _ _ h => h) (Or.inl ⟨by rfl, fun V' hS => ?_⟩) hHeld ?_
            · have k1 := hS.2.2
              go_simp
            simp only [Act.put, List.setIfInBounds_toArray, List.set_cons_zero, List.set_cons_succ]
            refine wpAnyH_take (i := 7) (v := .int .i64 (nl : Int)) ov7 (by kernel_rfl) (by kernel_rfl) (by kernel_rfl) (fun _ _ _ h => h) (Or.inl ⟨by rfl, fun V' hS => ?_⟩) hHeld ?_
            · go_simp
            simp only [Act.put, List.setIfInBounds_toArray, List.set_cons_zero, List.set_cons_succ]
            refine wpAnyH_take (i := 8) (v := .slice (some ⟨pb, po, none⟩) k cap) ov8 (by kernel_rfl) (by kernel_rfl) (by kernel_rfl) (fun _ _ _ h => h) (Or.inl ⟨by rfl, fun V' hS => ?_⟩) hHeld ?_
            · go_simp
            simp only [Act.put, List.setIfInBounds_toArray, List.set_cons_zero, List.set_cons_succ]
            refine wpAnyH_take (i := 9) (v := .int .i64 (i : Int)) ov9 (by kernel_rfl) (by kernel_rfl) (by kernel_rfl) (fun _ _ _ h => h) (Or.inl ⟨by rfl, fun V' hS => ?_⟩) hHeld ?_
            · go_simp
            simp only [Act.put, List.setIfInBounds_toArray, List.set_cons_zero, List.set_cons_succ]
            refine wpAnyH_take (i := 10) (v := .pointer (some ⟨pb, po + i, none⟩)) ov10 (by kernel_rfl) (by kernel_rfl) (by kernel_rfl) (fun _ _ _ h => h) (Or.inl ⟨by rfl, fun V' hS => ?_⟩) hHeld ?_
            · go_simp
            simp only [Act.put, List.setIfInBounds_toArray, List.set_cons_zero, List.set_cons_succ]
            refine wpAnyH_take (i := 11) (v := .slice ai nl ci) ov11 (by kernel_rfl) (by kernel_rfl) (by kernel_rfl) (fun _ _ _ h => h) (Or.inl ⟨by rfl, fun V' hS => ?_⟩) hHeld ?_
            · have k1 := hS.2.1
              go_simp
            simp only [Act.put, List.setIfInBounds_toArray, List.set_cons_zero, List.set_cons_succ]
            refine wpAnyH_take (i := 12) (v := .int .i64 (nl : Int)) ov12 (by kernel_rfl) (by kernel_rfl) (by kernel_rfl) (fun _ _ _ h => h) (Or.inl ⟨by rfl, fun V' hS => ?_⟩) hHeld ?_
            · go_simp
            simp only [Act.put, List.setIfInBounds_toArray, List.set_cons_zero, List.set_cons_succ]
            refine wpAnyH_take (i := 13) (v := .bool false) ov13 (by kernel_rfl) (by kernel_rfl) (by kernel_rfl) (fun _ _ _ h => h) (Or.inl ⟨by rfl, fun V' hS => ?_⟩) hHeld ?_
            · go_simp
            simp only [Act.put, List.setIfInBounds_toArray, List.set_cons_zero, List.set_cons_succ]
            refine wpAnyH_take (i := 14) (v := .bool false) ov14 (by kernel_rfl) (by kernel_rfl) (by kernel_rfl) (fun _ _ _ h => h) (Or.inl ⟨by rfl, fun V' hS => ?_⟩) hHeld ?_
            · go_simp
            simp only [Act.put, List.setIfInBounds_toArray, List.set_cons_zero, List.set_cons_succ]
            refine wpAnyH_done (by kernel_rfl) ?_ _
            have K15 : Hid (KI w xs (.slice (some ⟨gl, 0, none⟩) k cl) gh ch k b1 b2 z0) := hHeld.1
            clear hHeld K14 y2 y3
            go_wp2
            go_roundw
            case rel => exact ⟨i + 1, by omega, by go_num, K15.out⟩
            case measure => simp [intOf]; omega
          · obtain rfl : i = k := by omega
            have iI : ¬ ((i : Int) < (i : Int)) := by omega
            have M0 : Hid (Mid Ls i 0 xs xs) := ⟨HF.out.1, rfl, fun j hj => by
              obtain ⟨g, c, h⟩ := HF.out.2 j hj
              exact ⟨g, c, by rw [if_neg (by omega)]; exact h⟩⟩
            have I12 : Hid (SI w xs u3 (.slice (some ⟨gh, 0, none⟩) (i + 2) ch) (i + 2) (xs.map sB ++ [.slice (some ⟨b1, 0, none⟩) 1 1, .slice (some ⟨b2, 0, none⟩) 1 1]) wr) := hK.1
            clear hK hi hi5
            go_wp2
            go_loopw [14] (fun s wr => ∃ j : Nat, j ≤ i ∧ s = .int .i64 (j : Int) ∧ ∃ xs', Mid Ls i j xs xs' ∧ SI w xs' u3 (.slice (some ⟨gh, 0, none⟩) (i + 2) ch) (i + 2) (xs.map sB ++ [.slice (some ⟨b1, 0, none⟩) 1 1, .slice (some ⟨b2, 0, none⟩) 1 1]) wr) (fun s _ => i - (intOf s).toNat)
            case atStart => exact ⟨0, Nat.zero_le _, rfl, xs, M0.out, I12.out⟩
            case round =>
              clear M0 I12
              obtain ⟨j, hj, rfl, xs', hM, hI⟩ := hrel
              have HM : Hid (Mid Ls i j xs xs') := hM
              have HI : Hid (SI w xs' u3 (.slice (some ⟨gh, 0, none⟩) (i + 2) ch) (i + 2) (xs.map sB ++ [.slice (some ⟨b1, 0, none⟩) 1 1, .slice (some ⟨b2, 0, none⟩) 1 1]) wr) := hI
              by_cases hj5 : j < i
              · have jI : (j : Int) < (i : Int) := by omega
                obtain ⟨gl, cl, rfl⟩ : ∃ gl cl, u3 = .slice (some ⟨gl, 0, none⟩) i cl := by
                  obtain ⟨_, ⟨_, e⟩ | ⟨g, c, cur, h, _⟩⟩ := id hI.2.1
                  · rw [hM.1] at e; omega
                  · rw [hM.1] at h; exact ⟨g, c, h⟩
                obtain ⟨g, c, hx⟩ := hM.2.2 j hj5
                rw [if_neg (by omega)] at hx
                have hI2 := hI
                rw [← hM.1] at hI2
                have hI3 : SI w xs' (.slice (some ⟨gl, 0, none⟩) xs'.length cl) (.slice (some ⟨gh, 0, none⟩) (i + 2) ch) (i + 2) (xs.map sB ++ [.slice (some ⟨b1, 0, none⟩) 1 1, .slice (some ⟨b2, 0, none⟩) 1 1]) wr := by rw [hM.1]; exact hI
                obtain ⟨x0, x1⟩ := hI3.loan hx
                have hlk := HLE.out j hj5
                have hFL := (hI.bytes hx).2
                have hown := hI.2.2.2.1 _ (List.mem_of_getElem? hx)
                have WP : Hid (Calls Tryd.prog 19 #[.agg #[.slice (some ⟨g, 0, none⟩) (Ls j).length c, .slice (some ⟨g, 0, none⟩) ((Ls j).length + 40) c]] wr fun e w' => e = .returned (.tuple #[]) ∧ w'.ownsRow w.heap.size 5 1 (.slice (some ⟨g, 0, none⟩) ((Ls j).length + 40) c) ((Ls j).length + 40) (bytesL (wpU (Ls j ++ mkL (j % 256) 40) ((Ls j).length + 40))) ∧ Only g wr w') :=
                  wipe_is wr _ g c ((Ls j).length + 40) w.heap.size (Ls j ++ mkL (j % 256) 40) (by omega) hFL.symm hown
                have MN : Hid (Mid Ls i (j + 1) xs (xs'.set j (g, c, (Ls j).length, wpU (Ls j ++ mkL (j % 256) 40) ((Ls j).length + 40)))) := hM.set hj5 hx
                have IN : Hid (∀ V, Only g wr V → V.ownsRow w.heap.size 5 1 (.slice (some ⟨g, 0, none⟩) ((Ls j).length + 40) c) ((Ls j).length + 40) (bytesL (wpU (Ls j ++ mkL (j % 256) 40) ((Ls j).length + 40))) → SI w (xs'.set j (g, c, (Ls j).length, wpU (Ls j ++ mkL (j % 256) 40) ((Ls j).length + 40))) (.slice (some ⟨gl, 0, none⟩) i cl) (.slice (some ⟨gh, 0, none⟩) (i + 2) ch) (i + 2) (xs.map sB ++ [.slice (some ⟨b1, 0, none⟩) 1 1, .slice (some ⟨b2, 0, none⟩) 1 1]) V) := fun V h1 h2 =>
                  hI.wiped (y := (g, c, (Ls j).length, wpU (Ls j ++ mkL (j % 256) 40) ((Ls j).length + 40))) hx rfl rfl rfl rfl h1 h2
                generalize xs'.set j (g, c, (Ls j).length, wpU (Ls j ++ mkL (j % 256) 40) ((Ls j).length + 40)) = xn at MN IN
                generalize bytesL (wpU (Ls j ++ mkL (j % 256) 40) ((Ls j).length + 40)) = by' at WP IN
                simp only [sB, sF] at x0 x1
                obtain ⟨nl, enl⟩ : ∃ s : Nat, (Ls j).length = s := ⟨_, rfl⟩
                obtain ⟨nf, enf⟩ : ∃ s : Nat, nl + 40 = s := ⟨_, rfl⟩
                rw [enl] at x0 x1 WP IN
                rw [enf] at x1 WP IN
                clear hM hI hI2 hI3 hx hFL hown HM HI enl enf hlk hj
                go_upto_region 28 with (go_at_call 19; refine (WP.out).mono ?_; rintro e v14 ⟨rfl, hown, hO⟩)
                have IV : Hid (SI w xn (.slice (some ⟨gl, 0, none⟩) i cl) (.slice (some ⟨gh, 0, none⟩) (i + 2) ch) (i + 2) (xs.map sB ++ [.slice (some ⟨b1, 0, none⟩) 1 1, .slice (some ⟨b2, 0, none⟩) 1 1]) v14) := IN.out v14 hO hown
                clear hO hown IN WP x0 x1
                go_wp2
                go_roundw
                case rel => exact ⟨j + 1, by omega, by go_num, xn, MN.out, IV.out⟩
                case measure => simp [intOf]; omega
              · obtain rfl : j = i := by omega
                have jI : ¬ ((j : Int) < (j : Int)) := by omega
                have HAS2 : Hid (Has (wpP Ls) j xs') := hM.has
                have HI2 : Hid (SI w xs' u3 (.slice (some ⟨gh, 0, none⟩) (j + 2) ch) (j + 2) (xs'.map sB ++ [.slice (some ⟨b1, 0, none⟩) 1 1, .slice (some ⟨b2, 0, none⟩) 1 1]) wr) := by unfold Hid; rw [hM.2.1]; exact hI
                clear hM hI hj hj5 HM HI
                obtain ⟨fm, efm⟩ : ∃ fl, flat (wpP Ls) j = fl := ⟨_, rfl⟩
                have hfm : fm.length ≤ 16777216 := by
                  have e : lenSum (fun i => (wpP Ls i).length) j = lenSum (fun i => (Ls i).length) j := by congr 1; funext i; exact wpP_len Ls i
                  rw [← efm, flat_len, e, ← flat_len]; exact HFL.out
                have FB2 : ∀ i, fm.getD i 0 < 256 := by rw [← efm]; exact flat_byte (wpP Ls) (wpP_byte Ls) j
                have SM2 : Hid (Calls Tryd.prog 17 #[.slice (some ⟨gh, 0, none⟩) j ch] wr fun e w' => e = .returned (.agg (rowB 32 (sumF fm)).toArray) ∧ Below wr.heap.size wr w') := by
                  rw [← efm]; exact handed_sum (Tabs.below HT.out HI2.out.1 g2) HI2.out HAS2.out (by omega) (wpP_byte Ls) (fun i hi => by rw [wpP_len]; exact HLE.out i hi) hnT
                have JN2 : Hid (∀ V, SI w xs' u3 (.slice (some ⟨gh, 0, none⟩) (j + 2) ch) (j + 2) (xs'.map sB ++ [.slice (some ⟨b1, 0, none⟩) 1 1, .slice (some ⟨b2, 0, none⟩) 1 1]) V → Calls Tryd.prog 16 #[.slice (some ⟨gh, 0, none⟩) j ch] V fun e w' => ∃ v, e = .returned v ∧ w'.ownsRow V.heap.size 5 1 v fm.length (bytesL fm) ∧ Below V.heap.size V w') := fun V hV => by
                  obtain ⟨h1, h2⟩ := has_pc hV HAS2.out (by omega)
                  have := joined_is V (some ⟨gh, 0, none⟩) j ch (fun i => sB (xs'.getD i Loz)) (wpP Ls) (fun _ => ⟨gh, 0, rfl, h1⟩) h2 (by rw [efm]; omega)
                  rw [efm] at this; exact this
                have RS2 : Hid (∀ V pb v, V.cell? ⟨pb, 0, none⟩ = some v → Seg V v fm → Calls Tryd.prog 15 #[.slice (some ⟨pb, 0, none⟩) 1 1] V fun e w' => e = .returned (.agg (rowB 32 (sumF fm)).toArray) ∧ Below V.heap.size V w') := fun V pb v h1 h2 => rsum_is V pb v fm h1 h2 FB2 (by omega)
                have e33 : ∀ W : World, Sem.run Tryd.prog (Op.equalIn 10000 34 (.agg (rowB 32 (sumF fm)).toArray) (.agg (rowB 32 (sumF fm)).toArray)) W = .ok true W := fun W => by rw [eq32_run, (rowEq_iff 32 _ _).2 fun _ _ => rfl]
                generalize sumF fm = h2 at SM2 RS2 e33
                have hinf : (Tryd.prog.info? 34).map (·.size) = some 32 := by kernel_rfl
                clear efm FB2 e32
                go_upto_region 31 with (first
                  | (go_at_call 17; refine (SM2.out).mono ?_; rintro e v15 ⟨rfl, hB⟩; (have I15 : Hid (SI w xs' u3 (.slice (some ⟨gh, 0, none⟩) (j + 2) ch) (j + 2) (xs'.map sB ++ [.slice (some ⟨b1, 0, none⟩) 1 1, .slice (some ⟨b2, 0, none⟩) 1 1]) v15) := HI2.out.past hB); clear hB HI2 SM2)
                  | (refine store32_new h2 rfl _ _ rfl rfl rfl I15.out.1 ?_; intro v16 hr hw hv; (have I16 : Hid (SI w xs' u3 (.slice (some ⟨gh, 0, none⟩) (j + 2) ch) (j + 2) (xs'.map sB ++ [.slice (some ⟨b1, 0, none⟩) 1 1, .slice (some ⟨b2, 0, none⟩) 1 1]) v16) := I15.out.past hv); (have R16 : Hid (RowB v16 v15.heap.size 32 h2) := hr); clear hr hw hv I15))
                generalize v15.heap.size = b15 at R16 ⊢
                (try dsimp only [Act.put])
                refine wp_region_held_drew (S := fun V' => RowB V' b15 32 h2 ∧ SI w xs' u3 (.slice (some ⟨gh, 0, none⟩) (j + 2) ch) (j + 2) (xs'.map sB ++ [.slice (some ⟨b1, 0, none⟩) 1 1, .slice (some ⟨b2, 0, none⟩) 1 1]) V') (by kernel_rfl) ⟨R16.out.drew, I16.out.past (Below.refl _ _).drew⟩ (fun hHeld => ?_)
                generalize v16.drew = z0 at hHeld ⊢
                clear R16 I16
                refine wpAnyH_take (i := 0) (v := .agg (rowB 32 h2).toArray) ov0 (by kernel_rfl) (by kernel_rfl) (by kernel_rfl) (fun _ _ _ h => h) (yieldsIf_load_mid (by rfl) _ _ rfl b15 0 rfl (rowB 32 h2) _ (fun _ h => RowB.range h.1) Tryd.underlying34 rfl (by rw [rowB_len]; exact hinf)) hHeld ?_
                simp only [Act.put, List.setIfInBounds_toArray, List.set_cons_zero, List.set_cons_succ]
                refine wpAnyH_take (i := 1) (v := .slice (some ⟨gh, 0, none⟩) j ch) ov1 (by kernel_rfl) (by kernel_rfl) (by kernel_rfl) (fun _ _ _ h => h) (Or.inl ⟨by rfl, fun V' hS => ?_⟩) hHeld ?_
                · go_simp
                simp only [Act.put, List.setIfInBounds_toArray, List.set_cons_zero, List.set_cons_succ]
                refine wpAnyH_ready (rs := [2]) (by kernel_rfl) (by simp) ?_
                refine AllReadyH.cons ov2 (fun K hK => ?_) AllReadyH.nil
                rw [if_pos (by rfl)]
                go_simp
                refine (JN2.out _ hHeld.2).mono ?_
                rintro e v17 ⟨vj, rfl, hown, hB⟩
                obtain ⟨aj, cj, rfl, hjj⟩ := (owns_seg hown).1
                have SG17 : Hid (Seg v17 (.slice aj fm.length cj) fm) := ⟨aj, cj, rfl, hjj⟩
                have hHeld2 : (fun V' => RowB V' b15 32 h2 ∧ SI w xs' u3 (.slice (some ⟨gh, 0, none⟩) (j + 2) ch) (j + 2) (xs'.map sB ++ [.slice (some ⟨b1, 0, none⟩) 1 1, .slice (some ⟨b2, 0, none⟩) 1 1]) V') v17 := ⟨hHeld.1.below hB (hHeld.1.lt (by omega)), hHeld.2.past hB⟩
                clear hB hown hjj hHeld
                (try go_wp2_with fail)
                refine hK.out _ _ hHeld2 (fun _ => ?_)
                clear hK K
                (try simp only [Act.put, List.setIfInBounds_toArray, List.set_cons_zero, List.set_cons_succ])
                refine wpAnyH_ready (rs := [3]) (by kernel_rfl) (by simp) ?_
                refine AllReadyH.cons ov3 (fun K hK => ?_) AllReadyH.nil
                rw [if_pos (by rfl)]
                go_simp
                have hHeld3 : (fun V' => RowB V' b15 32 h2 ∧ SI w xs' u3 (.slice (some ⟨gh, 0, none⟩) (j + 2) ch) (j + 2) (xs'.map sB ++ [.slice (some ⟨b1, 0, none⟩) 1 1, .slice (some ⟨b2, 0, none⟩) 1 1]) V') (v17.alloc (.cells #[.slice aj fm.length cj] 29)) := ⟨hHeld2.1.alloc _, hHeld2.2.alloc _⟩
                refine hK.out _ _ hHeld3 (fun _ => ?_)
                clear hK K hHeld2
                (try simp only [Act.put, List.setIfInBounds_toArray, List.set_cons_zero, List.set_cons_succ])
                refine wpAnyH_ready (rs := [4]) (by kernel_rfl) (by simp) ?_
                refine AllReadyH.cons ov4 (fun K hK => ?_) AllReadyH.nil
                rw [if_pos (by rfl)]
                go_simp
                refine (RS2.out _ v17.heap.size (.slice aj fm.length cj) (by simp) (SG17.out.alloc _)).mono ?_
                rintro e v18 ⟨rfl, hB⟩
                have hHeld4 : (fun V' => RowB V' b15 32 h2 ∧ SI w xs' u3 (.slice (some ⟨gh, 0, none⟩) (j + 2) ch) (j + 2) (xs'.map sB ++ [.slice (some ⟨b1, 0, none⟩) 1 1, .slice (some ⟨b2, 0, none⟩) 1 1]) V') v18 := ⟨hHeld3.1.below hB (hHeld3.1.lt (by omega)), hHeld3.2.past hB⟩
                clear hB hHeld3
                (try go_wp2_with fail)
                refine hK.out _ _ hHeld4 (fun _ => ?_)
                clear hK K
                (try simp only [Act.put, List.setIfInBounds_toArray, List.set_cons_zero, List.set_cons_succ])
                refine wpAnyH_take (i := 5) (v := .bool true) ov5 (by kernel_rfl) (by kernel_rfl) (by kernel_rfl) (fun _ _ _ h => h) (Or.inl ⟨by rfl, fun V' hS => ?_⟩) hHeld4 ?_
                · go_simp
                simp only [Act.put, List.setIfInBounds_toArray, List.set_cons_zero, List.set_cons_succ]
                refine wpAnyH_take (i := 6) (v := .bool true) ov6 (by kernel_rfl) (by kernel_rfl) (by kernel_rfl) (fun _ _ _ h => h) (Or.inl ⟨by rfl, fun V' hS => ?_⟩) hHeld4 ?_
                · go_simp
                simp only [Act.put, List.setIfInBounds_toArray, List.set_cons_zero, List.set_cons_succ]
                refine wpAnyH_done (by kernel_rfl) ?_ _
                have B18 : Hid (Below w.heap.size w v18) := hHeld4.2.1
                clear hHeld4
                go_wp2
                go_ret
                exact ⟨rfl, B18.out⟩
end Go.Proofs.YteggikojfkmbkaaDoor
