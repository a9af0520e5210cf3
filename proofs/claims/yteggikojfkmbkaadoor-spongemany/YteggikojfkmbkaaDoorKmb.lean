/- SpongeMany: the walk. -/
import Derived.Test.YteggikojfkmbkaaDoorKma
import Derived.Deep.RegionHeld3
import Derived.BigQuiet
namespace Go.Proofs.YteggikojfkmbkaaDoor
open Go.RowKit
set_option maxHeartbeats 4000000 in
set_option maxRecDepth 100000 in
theorem many_walk (w : World) (hT : Tabs w) (ad : Option Addr) (cap : Nat) (l : List Nat) (hv : Seg w (.slice ad l.length cap) l) (hl : ∀ i, l.getD i 0 < 256) (hn : l.length ≤ 16777216) (z : Int) :
    Calls Tryd.prog 9 #[.slice ad l.length cap, .int .i64 z] w fun e w' => e = .returned (.bool true) ∧ Below w.heap.size w w' := by
  have HT : Hid (Tabs w) := hT
  have t2 := hT.lt
  have HV : Hid (Seg w (.slice ad l.length cap) l) := hv
  have HL : Hid _ := hl
  obtain ⟨n, en⟩ : ∃ n, n = l.length := ⟨_, rfl⟩
  have EN : Hid (n = l.length) := en
  have nI : (n : Int) ≤ 16777216 := by omega
  rw [← en]
  obtain ⟨t, et⟩ : ∃ t, Int.tmod z 40 = t := ⟨_, rfl⟩
  have tb : -40 < t ∧ t < 40 := by
    have h1 := Int.tmod_lt_of_pos z (show (0 : Int) < 40 by omega)
    have h2 := Int.lt_tmod_of_pos z (show (0 : Int) < 40 by omega)
    omega
  have q1 : IntKind.i64.wrap t = t := by rw [IntKind.wrap_i64]; omega
  have q2 : IntKind.i64.wrap (-t) = -t := by rw [IntKind.wrap_i64]; omega
  obtain ⟨q, eq⟩ : ∃ q : Nat, q = t.natAbs := ⟨_, rfl⟩
  have EQ : Hid (q = t.natAbs) := eq
  have qb : q < 40 := by omega
  have qI : (q : Int) < 40 := by omega
  obtain ⟨i0, hi, hz0, hz1, hz2⟩ := info_parts Tryd.info42
  obtain ⟨i1, hi1, hy0, hy1, hy2⟩ := info_parts Tryd.info8
  clear hT hv hl hn en eq
  go_enter Tryd.func9, Tryd.ntmps9
  go_upto_if 28 with (go_at_call 26; refine (known_any _ HT.out).mono ?_; rintro e v1 ⟨rfl, hB1⟩; (have W1 : Hid (Below w.heap.size w v1) := hB1); clear hB1)
  go_cut [6] (fun s6 wx => s6 = .int .i64 (q : Int) ∧ Below w.heap.size w wx)
  case first =>
    by_cases ht : t < 0
    · have r1 : -t = (q : Int) := by have := EQ.out; omega
      go_wp2
      go_meet
      case rel => exact ⟨rfl, W1.out⟩
    · have r1 : t = (q : Int) := by have := EQ.out; omega
      go_wp2
      go_meet
      case rel => exact ⟨by first | rfl | rw [r1], W1.out⟩
  case rest =>
    obtain ⟨rfl, hB⟩ := hcut
    have WB : Hid _ := hB
    clear hB tb q1 q2 et EQ W1
    go_wp2
    go_loopw [7, 8] (fun s7 i wr => ∃ k : Nat, k ≤ q + 1 ∧ i = .int .i64 k ∧ M1 w k s7 wr) (fun _ i _ => q + 1 - (intOf i).toNat)
    case atStart => exact ⟨0, Nat.zero_le _, rfl, M1.start w WB.out⟩
    case round =>
      obtain ⟨k, hk, rfl, hM1⟩ := hrel
      by_cases hkq : k < q + 1
      · have kI : (k : Int) ≤ (q : Int) := by omega
        obtain ⟨b, hM, hown, hne⟩ := hM1
        have HM : Hid _ := hM
        have HOW : Hid _ := hown
        have HNE : Hid _ := hne
        have b1 := hM.bel.size
        clear hM hown hne
        go_upto_region 12 with (go_at_call 21; refine (new_is _).mono ?_; rintro e v2 ⟨rfl, hs, hB⟩; (have S2 : Hid (Spo v2 wr.heap.size zeroK 0) := hs); (have B2 : Hid (Below wr.heap.size wr v2) := hB); (have z2 := hB.size); clear hs hB)
        have OW2 : Hid (v2.ownsRow w.heap.size 42 1 u7 k (ptrs b k)) := owns_below HOW.out B2.out
        go_wp2_with (at_builtin; refine wpList_append_own _ rfl _ _ 41 rfl w.heap.size 42 i0 (.pointer none) 1 8 Tryd.underlying41 hi hz0 hz1 hz2 rfl (by decide) _ _ _ rfl (World.ownsRow.alloc OW2.out _) ⟨v2.heap.size, 0, none⟩ 1 1 [.pointer (some ⟨wr.heap.size, 0, none⟩)] rfl rfl (fun j u hj => (by have hj0 : j = 0 := (by have := (List.getElem?_eq_some_iff.1 hj).1; simpa using this); subst hj0; simp at hj; subst hj; simp [Addr.add])) (fun u hu => (by rw [List.mem_singleton.1 hu]; exact rfl)) (by unfold maxLen; omega) (by omega) (by simp; omega) ?_; intro v' w2 hown' hgrow _)
        have R : Hid _ := m1_step HM.out HOW.out HNE.out B2.out S2.out hown' hgrow
        clear hown' hgrow
        go_wp2
        go_roundw
        case rel => exact ⟨k + 1, by omega, by go_num, R.out⟩
        case measure => simp [intOf]; omega
      · obtain rfl : k = q + 1 := by omega
        obtain ⟨g, c, b, rfl, hgl, hM, hcl, hgne⟩ := M1.open hM1 (by omega)
        obtain ⟨N, eN⟩ : ∃ N, N = q + 1 := ⟨_, rfl⟩
        rw [← eN] at hM hcl hgne ⊢
        have HM : Hid (Many w N b zeroS wr) := hM
        have HCL : Hid _ := hcl
        have HGNE : Hid _ := hgne
        have ENN : Hid (N = q + 1) := eN
        have kI : ¬ ((N : Int) ≤ (q : Int)) := by omega
        clear hM1 hM hcl hgne eN WB hkq hk
        go_wp2
        go_loopw [10] (fun i wx => ∃ k : Nat, k ≤ n ∧ i = .int .i64 k ∧ Many w N b (fun j => stM l j k) wx ∧ (∀ i, i < N → wx.cell? ⟨g, i, none⟩ = some (.pointer (some ⟨b i, 0, none⟩)))) (fun i _ => n - (intOf i).toNat)
        case atStart => exact ⟨0, Nat.zero_le _, rfl, HM.out, HCL.out⟩
        case round =>
          obtain ⟨k, hk, rfl, hM, hcl⟩ := hrel
          clear HM HCL
          by_cases hkn : k < n
          · have kn : (k : Int) < (n : Int) := by omega
            have KL : Hid (k < l.length) := by unfold Hid; rw [← EN.out]; exact hkn
            obtain ⟨ad', cap', e1, _, _, h4, _⟩ := HV.out
            injection e1 with e1 _ e2
            subst e1 e2
            obtain ⟨sb, so, rfl, hby⟩ := h4 (by intro e; have := KL.out; rw [e] at this; simp at this)
            have hx := hby k KL.out
            have hxb := HL.out k
            have hsb : sb < w.heap.size := World.block_lt_of_cell? w _ hx
            have HX : Hid _ := hx
            have a1 : ∀ j, stM l j (k + 1) = absL (stM l j k) [(l.getD k 0 + j) % 256] := fun j => rfl
            have A1 : Hid _ := a1
            have HM0 : Hid _ := hM
            have HCL0 : Hid _ := hcl
            clear hM hcl hby h4 a1 hx
            go_wp2
            go_loopw [11] (fun i wx => ∃ j : Nat, j ≤ N ∧ i = .int .i64 j ∧ Many w N b (fun i => if i < j then stM l i (k + 1) else stM l i k) wx ∧ (∀ i, i < N → wx.cell? ⟨g, i, none⟩ = some (.pointer (some ⟨b i, 0, none⟩)))) (fun i _ => N - (intOf i).toNat)
            case atStart => exact ⟨0, Nat.zero_le _, rfl, by simpa using HM0.out, HCL0.out⟩
            case round =>
              obtain ⟨j, hj, rfl, hM, hcl⟩ := hrel
              clear HM0 HCL0
              by_cases hjN : j < N
              · have jI : (j : Int) ≤ (q : Int) := by have := ENN.out; omega
                have jN : (j : Int) < (N : Int) := by omega
                have cg := hcl j hjN
                have cb := (Below.cell hM.bel (p := ⟨sb, so + k, none⟩) hsb).trans HX.out
                have hne := HGNE.out j hjN
                have hbj := hM.ge j hjN
                have hs0 := hM.sp j hjN
                simp only [show ¬ (j < j) by omega, if_false] at hs0
                have s2 := stM_lt l j k
                have a2 := A1.out j
                have HMj : Hid _ := hM
                have HCj : Hid _ := hcl
                generalize hsj : stM l j k = s at hs0 s2 a2
                generalize hsj' : stM l j (k + 1) = s' at a2
                generalize l.getD k 0 = x at cb hxb a2 A1
                generalize hbb : b j = bj at cg hne hbj hs0
                have xI : (x : Int) < 256 := by omega
                obtain ⟨y, ey⟩ : ∃ y : Nat, y = (x + j) % 256 := ⟨_, rfl⟩
                have e1 : IntKind.u8.wrap ((x : Int) + IntKind.u8.wrap (j : Int)) = (y : Int) := by rw [IntKind.wrap_u8, IntKind.wrap_u8]; omega
                rw [← ey] at a2
                have WS : Hid (∀ W pb, Tabs W → Spo W bj s.1 s.2 → pb ≠ bj → W.cell? ⟨pb, 0, none⟩ = some (.int .u8 (y : Int)) → Calls Tryd.prog 23 #[.pointer (some ⟨bj, 0, none⟩), .slice (some ⟨pb, 0, none⟩) 1 1] W fun e w' => e = .returned (.tuple #[]) ∧ Spo w' bj s'.1 s'.2 ∧ Only bj W w') := fun W pb hW hs hp hc => by
                  rw [a2]
                  exact write_is W bj pb 0 1 s [y] hW (by omega) hs s2 (fun i hi => by obtain rfl : i = 0 := by simpa using hi
                                                                                       exact hc) (fun i hi => by obtain rfl : i = 0 := by simpa using hi
                                                                                                                 show y < 256; omega) hp (by simp)
                have BA : Hid (∀ o, Below wr.heap.size wr (wr.drew.alloc o)) := fun o => ((Below.refl _ _).drew).alloc (by show wr.heap.size ≤ wr.heap.size; omega) _
                have TA : Hid (∀ o, Tabs (wr.drew.alloc o)) := fun o => Tabs.below HT.out (HMj.out.bel.trans ((BA.out o).mono HMj.out.bel.size)) t2
                have SA : Hid (∀ o, Spo (wr.drew.alloc o) bj s.1 s.2) := fun o => hs0.below (BA.out o) hs0.lt
                have hbl : bj < wr.heap.size := hs0.lt
                have hgl2 : g < wr.heap.size := World.block_lt_of_cell? wr _ cg
                have hsl2 : sb < wr.heap.size := World.block_lt_of_cell? wr _ cb
                have FIN : Hid (∀ o v3, Spo v3 bj s'.1 s'.2 → Only bj (wr.drew.alloc o) v3 → Many w N b (fun i => if i < j + 1 then stM l i (k + 1) else stM l i k) v3 ∧ ∀ i, i < N → v3.cell? ⟨g, i, none⟩ = some (.pointer (some ⟨b i, 0, none⟩))) := fun o v3 h1 h2 => by
                  rw [← hbb] at h1 h2
                  obtain ⟨r1, r2⟩ := many_step HMj.out HCj.out hjN (by rw [hbb]; exact hne) o h1 h2
                  refine ⟨r1.ext fun i hi => ?_, r2⟩
                  by_cases e : i = j
                  · subst e; simp [hsj']
                  · by_cases e2 : i < j
                    · simp [e, e2, show i < j + 1 by omega]
                    · simp [e, e2, show ¬ (i < j + 1) by omega]
                have nsb : sb ≠ bj := by omega
                clear hsj hsj' hbb a2 s2 hM hcl ey hs0 A1 HMj HCj HX
                go_upto_region 21 with fail
                go_region_held3 (fun w' => w'.cell? ⟨g, j, none⟩ = some (.pointer (some ⟨bj, 0, none⟩)) ∧ w'.cell? ⟨sb, so + k, none⟩ = some (.int .u8 (x : Int)))
                  (first | exact ⟨k1, k2⟩ | (constructor <;> go_simp))
                  ((go_at_call 23; refine (WS.out _ wr.heap.size (TA.out _) (SA.out _) (by omega) (by go_simp)).mono ?_; rintro e v3 ⟨rfl, hs, hk⟩; (have k1 : v3.cell? ⟨g, j, none⟩ = some (.pointer (some ⟨bj, 0, none⟩)) := ((hk.cell (p := ⟨g, j, none⟩) (by simp; omega) hne).trans (Below.cell (BA.out _) (p := ⟨g, j, none⟩) hgl2)).trans cg); (have k2 : v3.cell? ⟨sb, so + k, none⟩ = some (.int .u8 (x : Int)) := ((hk.cell (p := ⟨sb, so + k, none⟩) (by simp; omega) nsb).trans (Below.cell (BA.out _) (p := ⟨sb, so + k, none⟩) hsl2)).trans cb); (have R3 : Hid _ := FIN.out _ _ hs hk); clear hs hk))
                go_wp2
                go_roundw
                case rel => exact ⟨j + 1, by omega, by go_num, R3.out⟩
                case measure => simp [intOf]; omega
              · obtain rfl : j = N := by omega
                have jI : ¬ ((j : Int) ≤ (q : Int)) := by have := ENN.out; omega
                have HMj : Hid (Many w j b (fun i => stM l i (k + 1)) wr) := hM.ext fun i hi => by simp [hi]
                have HCj : Hid _ := hcl
                clear hM hcl A1
                go_wp2
                go_roundw
                case rel => exact ⟨k + 1, by omega, by go_num, HMj.out, HCj.out⟩
                case measure => simp [intOf]; omega
          · obtain rfl : k = n := by omega
            have kn : ¬ ((k : Int) < (k : Int)) := by omega
            have HM2 : Hid _ := hM
            have HC2 : Hid _ := hcl
            clear hM hcl
            go_wp2
            go_loopw [12] (fun i wx => ∃ j : Nat, j ≤ N ∧ i = .int .i64 j ∧ Many w N b (fun i => stM l i k) wx ∧ (∀ i, i < N → wx.cell? ⟨g, i, none⟩ = some (.pointer (some ⟨b i, 0, none⟩)))) (fun i _ => N - (intOf i).toNat)
            case atStart => exact ⟨0, Nat.zero_le _, rfl, HM2.out, HC2.out⟩
            case round =>
              obtain ⟨j, hj, rfl, hM, hcl⟩ := hrel
              clear HM2 HC2
              by_cases hjN : j < N
              · have jI : (j : Int) ≤ (q : Int) := by have := ENN.out; omega
                have jN : (j : Int) < (N : Int) := by omega
                obtain ⟨W0, e0⟩ : ∃ W0, W0 = wr := ⟨_, rfl⟩
                subst e0
                have cg := hcl j hjN
                have hgl2 : g < W0.heap.size := World.block_lt_of_cell? W0 _ cg
                have hs0 := hM.sp j hjN
                have hbl : b j < W0.heap.size := hs0.lt
                have s2 := stM_lt l j k
                have hsum := stM_sum l j
                rw [← EN.out] at hsum
                obtain ⟨hd, ehd⟩ : ∃ hd, hd = sumF (ownB l j k) := ⟨_, rfl⟩
                rw [← ehd] at hsum
                have HMj : Hid _ := hM
                have HCj : Hid _ := hcl
                generalize b j = bj at cg hs0 hbl
                have WB0 : Hid (Below w.heap.size w W0) := hM.bel
                have b00 := hM.bel.size
                have SU : Hid (∀ W, Below w.heap.size w W → Spo W bj (stM l j k).1 (stM l j k).2 → Calls Tryd.prog 24 #[.pointer (some ⟨bj, 0, none⟩)] W fun e w' => e = .returned (.agg (rowB 32 hd).toArray) ∧ Below W.heap.size W w') := fun W hB hs => by
                  rw [← hsum]; exact sum_is W bj _ _ (Tabs.below HT.out hB t2) hs s2
                generalize stM l j k = s at SU hs0 s2 hsum
                have HS0 : Hid (Spo W0 bj s.1 s.2) := hs0
                have EHD : Hid _ := ehd
                clear hM hcl hs0 hsum s2 ehd
                go_wp2
                go_loopw [13, 14] (fun s13 i wx => ∃ m : Nat, m ≤ k ∧ i = .int .i64 m ∧ wx.ownsRow W0.heap.size 5 1 s13 m (bytesL (ownB l j m)) ∧ Below W0.heap.size W0 wx) (fun _ i _ => k - (intOf i).toNat)
                case atStart => exact ⟨0, Nat.zero_le _, rfl, World.ownsRow_nil _ _ _ _, Below.refl _ _⟩
                case round =>
                  obtain ⟨m, hm, rfl, hown, hB⟩ := hrel
                  have HOW : Hid _ := hown
                  have HB : Hid _ := hB
                  have b0 := hB.size
                  by_cases hmk : m < k
                  · have mI : (m : Int) < (k : Int) := by omega
                    have KL : Hid (m < l.length) := by unfold Hid; rw [← EN.out]; exact hmk
                    obtain ⟨ad', cap', e1, _, _, h4, _⟩ := HV.out
                    injection e1 with e1 _ e2
                    subst e1 e2
                    obtain ⟨sb, so, rfl, hby⟩ := h4 (by intro e; have := KL.out; rw [e] at this; simp at this)
                    have hx := hby m KL.out
                    have hxb := HL.out m
                    have hsb : sb < w.heap.size := World.block_lt_of_cell? w _ hx
                    have cb := (Below.cell (WB0.out.trans (hB.mono b00)) (p := ⟨sb, so + m, none⟩) hsb).trans hx
                    obtain ⟨y, ey⟩ : ∃ y : Nat, y = (l.getD m 0 + j) % 256 := ⟨_, rfl⟩
                    have e1 : IntKind.u8.wrap (((l.getD m 0 : Nat) : Int) + IntKind.u8.wrap (j : Int)) = (y : Int) := by rw [IntKind.wrap_u8, IntKind.wrap_u8]; omega
                    have e2 : (((l.getD m 0 : Nat) : Int) + (j : Int)) % 256 = (y : Int) := by omega
                    have EY : Hid _ := ey
                    generalize l.getD m 0 = x at cb hxb e1 e2
                    have xI : (x : Int) < 256 := by omega
                    clear hown hB hby h4 hx ey
                    go_wp2_with (at_builtin; refine wpList_append_own _ rfl _ _ 29 rfl W0.heap.size 5 i1 (.int .u8 0) 1 1 Tryd.underlying29 hi1 hy0 hy1 hy2 rfl (by decide) _ _ _ rfl (World.ownsRow.alloc HOW.out _) ⟨wr.heap.size, 0, none⟩ 1 1 [.int .u8 (y : Int)] rfl rfl (fun j u hj => (by have hj0 : j = 0 := (by have := (List.getElem?_eq_some_iff.1 hj).1; simpa using this); subst hj0; simp at hj; subst hj; (first | (simp [Addr.add]; done) | (simp [Addr.add]; exact e2)))) (fun u hu => (by rw [List.mem_singleton.1 hu]; rfl)) (by unfold maxLen; omega) (by omega) (by simp; omega) ?_; intro v' w1 hown' hgrow _)
                    have R : Hid _ := own_step KL.out EY.out HOW.out HB.out hown' hgrow
                    clear hown' hgrow
                    go_wp2
                    go_roundw
                    case rel => exact ⟨m + 1, by omega, by go_num, R.out⟩
                    case measure => simp [intOf]; omega
                  · obtain rfl : m = k := by omega
                    have mI : ¬ ((m : Int) < (m : Int)) := by omega
                    obtain ⟨ao, co, rfl, hao⟩ := owns_any hown (by rw [ownB_len l j m (by rw [← EN.out]; omega)])
                    have HAO : Hid _ := hao
                    have cg2 := (hB.cell (p := ⟨g, j, none⟩) hgl2).trans cg
                    have X0 : Hid (Below W0.heap.size W0 wr) := hB
                    have SA : Hid (Spo wr bj s.1 s.2) := HS0.out.below hB hbl
                    clear HOW HB hown hB hao
                    go_wp2_with fail
                    refine (SU.out _ (Below.trans WB0.out (X0.out.mono b00)) SA.out).mono ?_
                    rintro e v4 ⟨rfl, hB⟩
                    have X4 : Hid (Below wr.heap.size wr v4) := hB
                    have W4 : Hid (Below w.heap.size w v4) := Below.trans (Below.trans WB0.out (X0.out.mono b00)) (hB.mono (by omega))
                    clear hB SU cg2
                    go_upto_region 31 with (refine store32_new hd rfl _ _ rfl rfl rfl W4.out ?_; intro v5 hr hw hv; (have W5 : Hid (Below w.heap.size w v5) := hw); (have X5 : Hid (Below wr.heap.size wr v5) := Below.trans X4.out (hv.mono X4.out.size)); (have H5 : Hid (RowB v5 v4.heap.size 32 hd) := hr); clear hr hw hv)
                    generalize v4.heap.size = bH at H5 ⊢
                    have eqd : ∀ W : World, Sem.run Tryd.prog (Op.equalIn 10000 34 (.agg (rowB 32 hd).toArray) (.agg (rowB 32 hd).toArray)) W = .ok true W := fun W => by rw [eq32_run, (rowEq_iff 32 hd hd).2 fun _ _ => rfl]
                    have hinf : (Tryd.prog.info? 34).map (·.size) = some 32 := by kernel_rfl
                    have SO : Hid (∀ W, Below wr.heap.size wr W → Below w.heap.size w W → ∀ pb, W.cell? ⟨pb, 0, none⟩ = some (.slice ao m co) → Calls Tryd.prog 17 #[.slice (some ⟨pb, 0, none⟩) 1 1] W fun e w' => e = .returned (.agg (rowB 32 hd).toArray) ∧ Below W.heap.size W w') := fun W hB hB0 pb h0 => by
                      rw [EHD.out]
                      refine sumArg W (Tabs.below HT.out hB0 t2) pb co ao _ (ownB_byte l j m) (by rw [ownB_len l j m (by rw [← EN.out]; omega)]; omega) (fun e => ?_) (by rw [ownB_len l j m (by rw [← EN.out]; omega)]; exact h0)
                      obtain ⟨sb, so, h1, h2⟩ := HAO.out e
                      exact ⟨sb, so, h1, h2.below hB⟩
                    refine wp_region_held_drew (S := fun w' => RowB w' bH 32 hd) (by kernel_rfl) (RowB.drew H5.out) (fun hHeld => ?_)
                    refine wpAnyH_take (i := 0) (v := .agg (rowB 32 hd).toArray) op0 (by kernel_rfl) (by kernel_rfl) (by kernel_rfl) (fun _ _ _ h => h) (yieldsIf_load_mid (by rfl) _ _ rfl bH 0 rfl (rowB 32 hd) _ (fun _ h => RowB.range h) Tryd.underlying34 rfl (by rw [rowB_len]; exact hinf)) hHeld ?_
                    simp only [Act.put, List.setIfInBounds_toArray, List.set_cons_zero, List.set_cons_succ]
                    refine wpAnyH_take (i := 1) (v := .slice ao m co) op1 (by kernel_rfl) (by kernel_rfl) (by kernel_rfl) (fun _ _ _ h => h) (Or.inl ⟨by rfl, fun W _ => ?_⟩) hHeld ?_
                    · go_simp
                    simp only [Act.put, List.setIfInBounds_toArray, List.set_cons_zero, List.set_cons_succ]
                    refine wpAnyH_ready (rs := [2]) (by kernel_rfl) (by simp) ?_
                    refine AllReadyH.cons op2 (fun K hK => ?_) AllReadyH.nil
                    rw [if_pos (by rfl)]
                    go_simp
                    have hB6 : Hid (Below v5.heap.size v5 (v5.drew.alloc (.cells #[.slice ao m co] 29))) := ((Below.refl _ _).drew).alloc (by show v5.heap.size ≤ v5.heap.size; omega) _
                    refine hK.out _ _ (RowB.alloc hHeld _) (fun hHeld2 => ?_)
                    clear hK K hHeld
                    refine wpAnyH_ready (rs := [3]) (by kernel_rfl) (by simp) ?_
                    refine AllReadyH.cons op3 (fun K hK => ?_) AllReadyH.nil
                    rw [if_pos (by rfl)]
                    go_simp
                    refine (SO.out _ (Below.trans X5.out (hB6.out.mono X5.out.size)) (Below.trans W5.out (hB6.out.mono W5.out.size)) v5.heap.size (by go_simp)).mono ?_
                    rintro e v7 ⟨rfl, hB⟩
                    have X7 : Hid (Below wr.heap.size wr v7) := Below.trans (Below.trans X5.out (hB6.out.mono X5.out.size)) (hB.mono (Below.trans X5.out (hB6.out.mono X5.out.size)).size)
                    have H7 : RowB v7 bH 32 hd := hHeld2.below hB (hHeld2.lt (by omega))
                    clear hB hHeld2
                    (try go_wp2_with fail)
                    refine hK.out _ _ H7 (fun _ => ?_)
                    clear hK K
                    (try simp only [Act.put, List.setIfInBounds_toArray, List.set_cons_zero, List.set_cons_succ])
                    refine wpAnyH_take (i := 4) (v := .bool false) op4 (by kernel_rfl) (by kernel_rfl) (by kernel_rfl) (fun _ _ _ h => h) (Or.inl ⟨by rfl, fun W _ => ?_⟩) H7 ?_
                    · go_simp
                    simp only [Act.put, List.setIfInBounds_toArray, List.set_cons_zero, List.set_cons_succ]
                    refine wpAnyH_done (by kernel_rfl) ?_ _
                    have R : Hid (Many w N b (fun i => stM l i m) v7 ∧ (∀ i, i < N → v7.cell? ⟨g, i, none⟩ = some (.pointer (some ⟨b i, 0, none⟩)))) :=
                      have hB07 : Below W0.heap.size W0 v7 := Below.trans X0.out (X7.out.mono X0.out.size)
                      ⟨HMj.out.past hB07, fun i hi => (hB07.cell (p := ⟨g, i, none⟩) hgl2).trans (HCj.out i hi)⟩
                    clear X0 X4 X5 X7 H7 H5 W4 W5 hB6 SO SA HMj HCj
                    go_wp2
                    go_roundw
                    case rel => exact ⟨j + 1, by omega, by go_num, R.out⟩
                    case measure => simp [intOf]; omega
              · obtain rfl : j = N := by omega
                have jI : ¬ ((j : Int) ≤ (q : Int)) := by have := ENN.out; omega
                have WE : Hid (Below w.heap.size w wr) := hM.bel
                clear hM hcl
                go_wp2
                go_ret
                exact ⟨rfl, WE.out⟩
end Go.Proofs.YteggikojfkmbkaaDoor
