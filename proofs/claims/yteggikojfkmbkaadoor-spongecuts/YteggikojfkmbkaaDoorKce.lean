/- SpongeCuts: the walk. -/
import Derived.Test.YteggikojfkmbkaaDoorKcd
import Derived.BigQuiet
namespace Go.Proofs.YteggikojfkmbkaaDoor
open Go.RowKit
set_option maxHeartbeats 4000000 in
set_option maxRecDepth 100000 in
theorem cuts_walk (w : World) (hT : Tabs w) (ad ao : Option Addr) (cap co : Nat) (l o : List Nat) (hv : Seg w (.slice ad l.length cap) l) (ho : Seg w (.slice ao o.length co) o) (hl : ∀ i, l.getD i 0 < 256) (hlo : ∀ i, o.getD i 0 < 256) (hn : l.length ≤ 16777216) (hno : o.length ≤ 4096)
    (la : Option Addr) (lc m : Nat) (zs : List Int) (hm : m ≤ 4096) (hc : m ≠ 0 → ∃ pb po, la = some ⟨pb, po, none⟩ ∧ ∀ i, i < m → w.cell? ⟨pb, po + i, none⟩ = some (.int .i64 (zs.getD i 0))) :
    Calls Tryd.prog 6 #[.slice ad l.length cap, .slice la m lc, .slice ao o.length co] w fun e w' => e = .returned (.bool true) ∧ Below w.heap.size w w' := by
  have HT : Hid (Tabs w) := hT
  have t2 := hT.lt
  have HV : Hid (Seg w (.slice ad l.length cap) l) := hv
  have HO : Hid (Seg w (.slice ao o.length co) o) := ho
  have HL : Hid _ := hl
  have HLO : Hid _ := hlo
  have HC : Hid _ := hc
  have HN : Hid (l.length ≤ 16777216) := hn
  have HNO : Hid (o.length ≤ 16777216) := by unfold Hid; omega
  obtain ⟨hh, ehh⟩ : ∃ hh, hh = sumF l := ⟨_, rfl⟩
  have EHH : Hid (hh = sumF l) := ehh
  obtain ⟨n, en⟩ : ∃ n, n = l.length := ⟨_, rfl⟩
  have EN : Hid (n = l.length) := en
  obtain ⟨no, eno⟩ : ∃ n, n = o.length := ⟨_, rfl⟩
  have ENO : Hid (no = o.length) := eno
  have nI : (n : Int) ≤ 16777216 := by omega
  have noI : (no : Int) ≤ 4096 := by omega
  have mI : (m : Int) ≤ 4096 := by omega
  obtain ⟨M, eM⟩ : ∃ M, M = m + 1 := ⟨_, rfl⟩
  have MI : (M : Int) ≤ 4097 := by omega
  have EM : Hid (M = m + 1) := eM
  rw [← en, ← eno]
  clear hT hv ho hl hlo hc hn hno en eno ehh eM
  go_enter Tryd.func6, Tryd.ntmps6
  go_upto_region 5 with (first
    | (go_at_call 26; refine (known_any _ HT.out).mono ?_; rintro e v1 ⟨rfl, hB1⟩; (have W1 : Hid (Below w.heap.size w v1) := hB1); clear hB1)
    | (go_at_call 21; refine (new_is _).mono ?_; rintro e v2 ⟨rfl, hs, hB⟩; (have W2 : Hid (Below w.heap.size w v2) := Below.trans W1.out (hB.mono W1.out.size)); (have S2 : Hid (Spo v2 v1.heap.size zeroK 0) := hs); (have z2 : v1.heap.size < v2.heap.size := Spo.lt hs); clear hs hB))
  go_upto_region 6 with (go_at_call 21; refine (new_is _).mono ?_; rintro e v3 ⟨rfl, hs, hB⟩; (have W3 : Hid (Below w.heap.size w v3) := Below.trans W2.out (hB.mono W2.out.size)); (have S3 : Hid (Spo v3 v1.heap.size zeroK 0) := Spo.below S2.out hB z2); (have T3 : Hid (Spo v3 v2.heap.size zeroK 0) := hs); (have z3 : v2.heap.size < v3.heap.size := Spo.lt hs); clear hs hB)
  have z1 := W1.out.size
  clear W1 S2 W2
  generalize v1.heap.size = bS at z1 z2 S3 ⊢
  generalize v2.heap.size = bT at z2 z3 T3 ⊢
  go_upto_region 8 with fail
  have SU : Hid (∀ W pb, Below w.heap.size w W → W.cell? ⟨pb, 0, none⟩ = some (.slice ad n cap) → Calls Tryd.prog 17 #[.slice (some ⟨pb, 0, none⟩) 1 1] W fun e w' => e = .returned (.agg (rowB 32 hh).toArray) ∧ Below W.heap.size W w') := fun W pb hB h0 => by
    rw [EHH.out]; exact sumSeg w W hB (Tabs.below HT.out hB t2) ad cap n l EN.out HV.out HL.out HN.out pb h0
  have WA : Hid (Below w.heap.size w (v3.alloc (.cells #[.slice ad n cap] 29))) := Below.alloc W3.out W3.out.size _
  have bA : Hid (Below v3.heap.size v3 (v3.alloc (.cells #[.slice ad n cap] 29))) := (Below.refl _ _).alloc (by omega) _
  go_wp2_with fail
  refine (SU.out _ v3.heap.size WA.out (by go_simp)).mono ?_
  rintro e v4 ⟨rfl, hB⟩
  have W4 : Hid (Below w.heap.size w v4) := Below.trans WA.out (hB.mono WA.out.size)
  have hB34 : Below v3.heap.size v3 v4 := Below.trans bA.out (hB.mono bA.out.size)
  have S4 : Hid (Spo v4 bS zeroK 0) := Spo.below S3.out hB34 (Spo.lt S3.out)
  have T4 : Hid (Spo v4 bT zeroK 0) := Spo.below T3.out hB34 (Spo.lt T3.out)
  have z4 := hB34.size
  clear hB hB34 bA WA SU S3 T3 W3
  go_upto_region 9 with (refine store32_new hh rfl _ _ rfl rfl rfl W4.out ?_; intro v5 hr hw hv; (have W5 : Hid (Below w.heap.size w v5) := hw); (have S5 : Hid (Spo v5 bS zeroK 0) := Spo.below S4.out hv (Spo.lt S4.out)); (have T5 : Hid (Spo v5 bT zeroK 0) := Spo.below T4.out hv (Spo.lt T4.out)); (have H5 : Hid (RowB v5 v4.heap.size 32 hh) := hr); (have z5 : v4.heap.size < v5.heap.size := RowB.lt hr (by omega)); clear hr hw hv)
  clear S4 T4 W4
  generalize v4.heap.size = bH at z4 z5 H5 ⊢
  have CU : Hid _ := cut_open w v5 (.slice ad n cap) l (by rw [EN.out]; exact HV.out) HN.out la lc m zs hm (fun h => by
    obtain ⟨pb, po, h1, h2⟩ := HC.out h
    exact ⟨pb, po, h1, fun i hi => (Below.cell W5.out (p := ⟨pb, po + i, none⟩) (World.block_lt_of_cell? w _ (h2 i hi))).trans (h2 i hi)⟩) M EM.out
  go_upto_region 10 with (go_at_call 27; refine Calls.mono CU.out ?_; rintro e v6 ⟨g, c, Ls, pvs, rfl, hg, hgl, hcl, hM, hS, hf, hB⟩; (have W6 : Hid (Below w.heap.size w v6) := Below.trans W5.out (hB.mono W5.out.size)); (have S6 : Hid (Spo v6 bS zeroK 0) := Spo.below S5.out hB (Spo.lt S5.out)); (have T6 : Hid (Spo v6 bT zeroK 0) := Spo.below T5.out hB (Spo.lt T5.out)); (have H6 : Hid (RowB v6 bH 32 hh) := RowB.below H5.out hB (RowB.lt H5.out (by omega))); (have CL6 : Hid _ := hcl); (have HM : Hid _ := hM); (have HS : Hid _ := hS); (have HF : Hid _ := hf); clear hB hcl hM hS hf)
  clear CU S5 T5 H5 W5 HC HV
  have SP : Hid (∀ W, Below w.heap.size w W → (∀ i, i < M → W.cell? ⟨g, i, none⟩ = some (pvs.getD i .nilFunc)) → Calls Tryd.prog 17 #[.slice (some ⟨g, 0, none⟩) M c] W fun e w' => e = .returned (.agg (rowB 32 hh).toArray) ∧ Below W.heap.size W w') := fun W hB hc => by
    rw [EHH.out]; exact sumCells w W hB (Tabs.below HT.out hB t2) g c M Ls pvs l HF.out HM.out (by omega) HL.out HN.out HS.out hc
  go_wp2_with fail
  refine (SP.out _ W6.out CL6.out).mono ?_
  rintro e v7 ⟨rfl, hB⟩
  have W7 : Hid (Below w.heap.size w v7) := Below.trans W6.out (hB.mono W6.out.size)
  have B67 : Hid (Below v6.heap.size v6 v7) := hB
  clear hB
  go_upto_region 11 with (refine store32_new hh rfl _ _ rfl rfl rfl W7.out ?_; intro v8 hr hw hv; (have W8 : Hid (Below w.heap.size w v8) := hw); (have B68 : Hid (Below v6.heap.size v6 v8) := Below.trans B67.out (hv.mono B67.out.size)); (have A8 : Hid (RowB v8 v7.heap.size 32 hh) := hr); clear hr hw hv)
  have z7 := B67.out.size
  have X0 : Hid (Cx w bS bT bH v7.heap.size g M hh hh pvs (zeroK, 0) (zeroK, 0) v8) := ⟨W8.out, Spo.below S6.out B68.out (Spo.lt S6.out), Spo.below T6.out B68.out (Spo.lt T6.out), RowB.below H6.out B68.out (RowB.lt H6.out (by omega)), A8.out, fun i hi => (Below.cell B68.out (p := ⟨g, i, none⟩) hgl).trans (CL6.out i hi)⟩
  have AP : Hid (Apart w.heap.size bS bT bH v7.heap.size g) := ⟨z1, by omega, by omega, by omega, by omega, by omega, by omega, by omega, by omega⟩
  generalize v7.heap.size = bA at X0 AP ⊢
  clear SP W6 W7 S6 T6 H6 CL6 B67 B68 A8 W8 z7 hgl
  go_wp2
  go_loopw [13] (fun i wr => ∃ k : Nat, k ≤ M ∧ i = .int .i64 k ∧ Cx w bS bT bH bA g M hh hh pvs (accL Ls k) (repL o k) wr) (fun i _ => M - (intOf i).toNat)
  case atStart => exact ⟨0, Nat.zero_le _, rfl, X0.out⟩
  case round =>
    obtain ⟨k, hk, rfl, hX⟩ := hrel
    clear X0
    have s1 := accL_lt Ls k
    have s2 := repL_lt o k
    have a1 : accL Ls (k + 1) = absL (accL Ls k) (Ls.getD k []) := rfl
    have a2 : repL o (k + 1) = absL (repL o k) o := rfl
    have a3 := accL_sum Ls k
    generalize accL Ls k = s at hX s1 a1 a3
    generalize haa : accL Ls (k + 1) = s' at a1
    generalize hbb : repL o (k + 1) = t' at a2
    have X : Hid (Cx w bS bT bH bA g M hh hh pvs s (repL o k) wr) := hX
    have HAA : Hid _ := haa
    have HBB : Hid _ := hbb
    clear haa hbb hX
    by_cases hkM : k < M
    · have kI : (k : Int) < (M : Int) := by omega
      generalize repL o k = t at X s2 a2
      obtain ⟨ak, ck, ev, _⟩ := HS.out k hkM
      have cell := X.out.cl k hkM
      have hseg := HS.out k hkM
      have hpc := piece_of Ls l HF.out HL.out k
      rw [ev] at cell hseg
      have hln := Nat.le_trans hpc.2 HN.out
      generalize hLk : Ls.getD k [] = Lk at a1 hpc cell hseg ev hln
      obtain ⟨nk, enk⟩ : ∃ nk, nk = Lk.length := ⟨_, rfl⟩
      rw [← enk] at cell
      have WS : Hid (∀ W, Below w.heap.size w W → Spo W bS s.1 s.2 → Calls Tryd.prog 23 #[.pointer (some ⟨bS, 0, none⟩), .slice ak nk ck] W fun e w' => e = .returned (.tuple #[]) ∧ Spo w' bS s'.1 s'.2 ∧ Only bS W w') := fun W hB hs => by
        rw [a1, enk]; exact write_old w W hB bS z1 s _ Lk (Tabs.below HT.out hB t2) (by omega) hs s1 hseg hpc.1 hln
      have WT : Hid (∀ W, Below w.heap.size w W → Spo W bT t.1 t.2 → Calls Tryd.prog 23 #[.pointer (some ⟨bT, 0, none⟩), .slice ao no co] W fun e w' => e = .returned (.tuple #[]) ∧ Spo w' bT t'.1 t'.2 ∧ Only bT W w') := fun W hB hs => by
        rw [a2, ENO.out]; exact write_old w W hB bT (by omega) t _ o (Tabs.below HT.out hB t2) (by omega) hs s2 HO.out HLO.out HNO.out
      have SS : Hid (∀ W, Below w.heap.size w W → Spo W bS s'.1 s'.2 → Calls Tryd.prog 24 #[.pointer (some ⟨bS, 0, none⟩)] W fun e w' => e = .returned (.agg (rowB 32 (hashF (endF s'.1 s'.2))).toArray) ∧ Below W.heap.size W w') := fun W hB hs => sum_is W bS s'.1 s'.2 (Tabs.below HT.out hB t2) hs (by rw [a1]; exact absL_lt _ s1)
      generalize hashF (endF s'.1 s'.2) = hz at SS
      clear a1 a2 a3 s1 s2 hLk hpc hseg hln enk ev
      obtain ⟨r, er⟩ : ∃ r : Nat, r = k % 2 := ⟨_, rfl⟩
      have q1 : Int.tmod (k : Int) 2 = (r : Int) := by rw [Int.tmod_eq_emod_of_nonneg (by omega)]; omega
      have q2 : IntKind.i64.wrap (r : Int) = (r : Int) := by rw [IntKind.wrap_i64]; omega
      clear er
      go_upto_region 15 with (go_at_call 23; refine (WS.out _ X.out.bel X.out.spS).mono ?_; rintro e x1 ⟨rfl, hs, hk⟩; (have X1 : Hid (Cx w bS bT bH bA g M hh hh pvs s' t x1) := Cx.onS X.out AP.out hs hk); clear hs hk)
      clear cell
      go_upto_region 16 with (go_at_call 23; refine (WT.out _ X1.out.bel X1.out.spT).mono ?_; rintro e x2 ⟨rfl, hs, hk⟩; (have X2 : Hid (Cx w bS bT bH bA g M hh hh pvs s' t' x2) := Cx.onT X1.out AP.out hs hk); clear hs hk)
      clear X X1 WS WT
      by_cases hr : r = 1
      · subst hr
        go_wp2_with (go_at_call 24; refine (SS.out _ X2.out.bel X2.out.spS).mono ?_; rintro e x3 ⟨rfl, hB⟩; (have X3 : Hid (Cx w bS bT bH bA g M hh hh pvs s' t' x3) := Cx.past X2.out hB); clear hB)
        go_roundw
        case rel => exact ⟨k + 1, by omega, by go_num, by rw [HAA.out, HBB.out]; exact X3.out⟩
        case measure => simp [intOf]; omega
      · have rI : ¬ ((r : Int) = 1) := by omega
        go_wp2
        go_roundw
        case rel => exact ⟨k + 1, by omega, by go_num, by rw [HAA.out, HBB.out]; exact X2.out⟩
        case measure => simp [intOf]; omega
    · obtain rfl : k = M := by omega
      have kI : ¬ ((k : Int) < (k : Int)) := by omega
      have a4 := a3 HM.out l HF.out
      rw [← EHH.out] at a4
      have b3 := repL_lt o k
      have HR : Hid (repL o k = repL o k) := rfl
      generalize hrep : repL o k = t at X b3 a2 s2
      have HREP : Hid (repL o k = t) := hrep
      clear hrep HR a1 a2 a3 HAA HBB HS HF HM HL EHH HN
      have SS : Hid (∀ W, Below w.heap.size w W → Spo W bS s.1 s.2 → Calls Tryd.prog 24 #[.pointer (some ⟨bS, 0, none⟩)] W fun e w' => e = .returned (.agg (rowB 32 hh).toArray) ∧ Below W.heap.size W w') := fun W hB hs => by
        rw [← a4]; exact sum_is W bS s.1 s.2 (Tabs.below HT.out hB t2) hs s1
      obtain ⟨hd, ehd⟩ : ∃ hd, hd = hashF (endF t.1 t.2) := ⟨_, rfl⟩
      have ST : Hid (∀ W b, Below w.heap.size w W → Spo W b t.1 t.2 → Calls Tryd.prog 24 #[.pointer (some ⟨b, 0, none⟩)] W fun e w' => e = .returned (.agg (rowB 32 hd).toArray) ∧ Below W.heap.size W w') := fun W b hB hs => by
        rw [ehd]; exact sum_is W b t.1 t.2 (Tabs.below HT.out hB t2) hs b3
      obtain ⟨he, ehe⟩ : ∃ he, he = sumF [] := ⟨_, rfl⟩
      have SE : Hid (∀ W, Below w.heap.size w W → Spo W bS zeroK 0 → Calls Tryd.prog 24 #[.pointer (some ⟨bS, 0, none⟩)] W fun e w' => e = .returned (.agg (rowB 32 he).toArray) ∧ Below W.heap.size W w') := fun W hB hs => by
        rw [ehe]; exact sum_is W bS zeroK 0 (Tabs.below HT.out hB t2) hs (by omega)
      have SN : Hid (∀ W, Below w.heap.size w W → Calls Tryd.prog 17 #[.slice none 0 0] W fun e w' => e = .returned (.agg (rowB 32 he).toArray) ∧ Below W.heap.size W w') := fun W hB => by
        rw [ehe]; exact sumNone W (Tabs.below HT.out hB t2)
      clear ehd ehe a4 s1 b3
      go_wp2_with fail
      refine (SS.out _ X.out.bel X.out.spS).mono ?_
      rintro e y1 ⟨rfl, hB⟩
      have X1 : Hid (Cx w bS bT bH bA g k hh hh pvs s t y1) := Cx.past X.out hB
      clear hB X SS
      go_upto_region 19 with (refine store32_new hh rfl _ _ rfl rfl rfl X1.out.bel ?_; intro y2 hr hw hv; (have X2 : Hid (Cx w bS bT bH bA g k hh hh pvs s t y2) := Cx.past X1.out hv); (have C2 : Hid (RowB y2 y1.heap.size 32 hh) := hr); clear hr hw hv)
      have z8 := Spo.lt X1.out.spS
      have z9 := Spo.lt X1.out.spT
      have z10 := X1.out.bel.size
      have z11 := RowB.lt C2.out (by omega)
      clear X1
      generalize y1.heap.size = bC at z8 z9 z10 z11 C2 ⊢
      go_wp2_with fail
      refine (ST.out _ bT X2.out.bel X2.out.spT).mono ?_
      rintro e y3 ⟨rfl, hB⟩
      have X3 : Hid (Cx w bS bT bH bA g k hh hh pvs s t y3) := Cx.past X2.out hB
      have C3 : Hid (RowB y3 bC 32 hh) := RowB.below C2.out hB z11
      have z12 := hB.size
      clear hB X2 C2
      go_upto_region 20 with (refine store32_new hd rfl _ _ rfl rfl rfl X3.out.bel ?_; intro y4 hr hw hv; (have X4 : Hid (Cx w bS bT bH bA g k hh hh pvs s t y4) := Cx.past X3.out hv); (have C4 : Hid (RowB y4 bC 32 hh) := RowB.below C3.out hv (by omega)); (have D4 : Hid (RowB y4 y3.heap.size 32 hd) := hr); clear hr hw hv)
      have z13 : bC < y3.heap.size := by omega
      clear X3 C3 z11 z12
      generalize y3.heap.size = bD at z13 D4 ⊢
      have eqr : ∀ W : World, Sem.run Tryd.prog (Op.equalIn 10000 34 (.agg (rowB 32 hh).toArray) (.agg (rowB 32 hh).toArray)) W = .ok true W := fun W => by rw [eq32_run, (rowEq_iff 32 hh hh).2 fun _ _ => rfl]
      have RA : Hid _ := X4.out.rA.range
      have RH : Hid _ := X4.out.rH.range
      have RC : Hid _ := C4.out.range
      go_upto_region 22 with (first
        | (refine load32g hh bA _ rfl rfl RA.out ?_ ?_; rfl)
        | (refine load32g hh bH _ rfl rfl RH.out ?_ ?_; rfl)
        | (refine load32g hh bC _ rfl rfl RC.out ?_ ?_; rfl))
      clear RA RH RC eqr
      go_wp2_with fail
      refine (reset_is _ bS s.1 s.2 X4.out.spS).mono ?_
      rintro e y5 ⟨rfl, hs, hk⟩
      have AP2 : Hid (Apart w.heap.size bS bT bC bD g) := ⟨AP.out.s, AP.out.t, AP.out.st, by omega, by omega, by omega, by omega, AP.out.gs, AP.out.gt⟩
      have Y4 : Cx w bS bT bC bD g k hh hd pvs s t y4 := ⟨X4.out.bel, X4.out.spS, X4.out.spT, C4.out, D4.out, X4.out.cl⟩
      have Y5 : Hid (Cx w bS bT bC bD g k hh hd pvs (zeroK, 0) t y5) := Cx.onS Y4 AP2.out hs hk
      clear hs hk Y4 X4 C4 D4 AP
      go_wp2
      go_loopw [16] (fun i wx => ∃ j : Nat, j ≤ k ∧ i = .int .i64 j ∧ Cx w bS bT bC bD g k hh hd pvs (repL o j) t wx) (fun i _ => k - (intOf i).toNat)
      case atStart => exact ⟨0, Nat.zero_le _, rfl, Y5.out⟩
      case round =>
        obtain ⟨j, hj, rfl, hY⟩ := hrel
        clear Y5
        have s2 := repL_lt o j
        have a2 : repL o (j + 1) = absL (repL o j) o := rfl
        by_cases hjk : j < k
        · have jI : (j : Int) < (k : Int) := by omega
          generalize repL o j = q at hY s2 a2
          generalize hbb : repL o (j + 1) = q' at a2
          have HBB : Hid _ := hbb
          have Y : Hid (Cx w bS bT bC bD g k hh hd pvs q t wr) := hY
          have WT : Hid (∀ W, Below w.heap.size w W → Spo W bS q.1 q.2 → Calls Tryd.prog 23 #[.pointer (some ⟨bS, 0, none⟩), .slice ao no co] W fun e w' => e = .returned (.tuple #[]) ∧ Spo w' bS q'.1 q'.2 ∧ Only bS W w') := fun W hB hs => by
            rw [a2, ENO.out]; exact write_old w W hB bS z1 q _ o (Tabs.below HT.out hB t2) (by omega) hs s2 HO.out HLO.out HNO.out
          clear hbb hY a2 s2
          go_wp2_with (go_at_call 23; refine (WT.out _ Y.out.bel Y.out.spS).mono ?_; rintro e x1 ⟨rfl, hs, hk⟩; (have Y1 : Hid (Cx w bS bT bC bD g k hh hd pvs q' t x1) := Cx.onS Y.out AP2.out hs hk); clear hs hk)
          go_roundw
          case rel => exact ⟨j + 1, by omega, by go_num, by rw [HBB.out]; exact Y1.out⟩
          case measure => simp [intOf]; omega
        · obtain rfl : j = k := by omega
          have jI : ¬ ((j : Int) < (j : Int)) := by omega
          rw [HREP.out] at hY
          have Y : Hid (Cx w bS bT bC bD g j hh hd pvs t t wr) := hY
          clear hY a2 s2 HREP
          go_wp2_with fail
          refine (ST.out _ bS Y.out.bel Y.out.spS).mono ?_
          rintro e y6 ⟨rfl, hB⟩
          have Y6 : Hid (Cx w bS bT bC bD g j hh hd pvs t t y6) := Cx.past Y.out hB
          clear hB Y ST
          go_upto_region 28 with (refine store32 hd bC rfl _ _ rfl rfl rfl (RowB.there Y6.out.rH) ?_)
          have Y7 : Hid (Cx w bS bT bC bD g 0 hd hd [] t t (y6.setCells bC 0 (rowB 32 hd))) := Cx.put Y6.out AP2.out (by omega) (by omega) hd
          generalize y6.setCells bC 0 (rowB 32 hd) = y7 at Y7 ⊢
          clear Y6
          go_wp2_with fail
          refine (reset_is _ bS t.1 t.2 Y7.out.spS).mono ?_
          rintro e y8 ⟨rfl, hs, hk⟩
          have Y8 : Hid (Cx w bS bT bC bD g 0 hd hd [] (zeroK, 0) t y8) := Cx.onS Y7.out AP2.out hs hk
          clear hs hk Y7
          go_wp2_with fail
          refine (SE.out _ Y8.out.bel Y8.out.spS).mono ?_
          rintro e y9 ⟨rfl, hB⟩
          have Y9 : Hid (Cx w bS bT bC bD g 0 hd hd [] (zeroK, 0) t y9) := Cx.past Y8.out hB
          clear hB Y8 SE
          go_upto_region 30 with (refine store32_new he rfl _ _ rfl rfl rfl Y9.out.bel ?_; intro y10 hr hw hv; (have Y10 : Hid (Cx w bS bT bC bD g 0 hd hd [] (zeroK, 0) t y10) := Cx.past Y9.out hv); (have E10 : Hid (RowB y10 y9.heap.size 32 he) := hr); clear hr hw hv)
          generalize y9.heap.size = bE at E10 ⊢
          clear Y9
          have eqd : ∀ W : World, Sem.run Tryd.prog (Op.equalIn 10000 34 (.agg (rowB 32 hd).toArray) (.agg (rowB 32 hd).toArray)) W = .ok true W := fun W => by rw [eq32_run, (rowEq_iff 32 hd hd).2 fun _ _ => rfl]
          have eqe : ∀ W : World, Sem.run Tryd.prog (Op.equalIn 10000 34 (.agg (rowB 32 he).toArray) (.agg (rowB 32 he).toArray)) W = .ok true W := fun W => by rw [eq32_run, (rowEq_iff 32 he he).2 fun _ _ => rfl]
          have hinf : (Tryd.prog.info? 34).map (·.size) = some 32 := by kernel_rfl
          refine wp_region_held_drew (S := fun w' => Below w.heap.size w w' ∧ RowB w' bC 32 hd ∧ RowB w' bD 32 hd ∧ RowB w' bE 32 he) (by kernel_rfl) ⟨Below.drew Y10.out.bel, RowB.drew Y10.out.rH, RowB.drew Y10.out.rA, RowB.drew E10.out⟩ (fun hHeld => ?_)
          refine wpAnyH_take (i := 0) (v := .agg (rowB 32 hd).toArray) op0 (by kernel_rfl) (by kernel_rfl) (by kernel_rfl) (fun _ _ _ h => h) (yieldsIf_load_mid (by rfl) _ _ rfl bC 0 rfl (rowB 32 hd) _ (fun _ h => RowB.range h.2.1) Tryd.underlying34 rfl (by rw [rowB_len]; exact hinf)) hHeld ?_
          try dsimp only [Act.put]
          refine wpAnyH_take (i := 1) (v := .agg (rowB 32 hd).toArray) op1 (by kernel_rfl) (by kernel_rfl) (by kernel_rfl) (fun _ _ _ h => h) (yieldsIf_load_mid (by rfl) _ _ rfl bD 0 rfl (rowB 32 hd) _ (fun _ h => RowB.range h.2.2.1) Tryd.underlying34 rfl (by rw [rowB_len]; exact hinf)) hHeld ?_
          try dsimp only [Act.put]
          refine wpAnyH_take (i := 2) (v := .bool true) op2 (by kernel_rfl) (by kernel_rfl) (by kernel_rfl) (fun _ _ _ h => h) (Or.inl ⟨by rfl, fun W _ => ?_⟩) hHeld ?_
          · go_simp
          try dsimp only [Act.put]
          refine wpAnyH_take (i := 3) (v := .bool true) op3 (by kernel_rfl) (by kernel_rfl) (by kernel_rfl) (fun _ _ _ h => h) (Or.inl ⟨by rfl, fun W _ => ?_⟩) hHeld ?_
          · go_simp
          try dsimp only [Act.put]
          refine wpAnyH_take (i := 4) (v := .agg (rowB 32 he).toArray) op4 (by kernel_rfl) (by kernel_rfl) (by kernel_rfl) (fun _ _ _ h => h) (yieldsIf_load_mid (by rfl) _ _ rfl bE 0 rfl (rowB 32 he) _ (fun _ h => RowB.range h.2.2.2) Tryd.underlying34 rfl (by rw [rowB_len]; exact hinf)) hHeld ?_
          try dsimp only [Act.put]
          refine wpAnyH_ready (rs := [5]) (by kernel_rfl) (by simp) ?_
          refine AllReadyH.cons op5 (fun K hK => ?_) AllReadyH.nil
          rw [if_pos (by rfl)]
          go_simp
          refine (SN.out _ hHeld.1).mono ?_
          rintro e y11 ⟨rfl, hB⟩
          have hH2 : Below w.heap.size w y11 ∧ RowB y11 bC 32 hd ∧ RowB y11 bD 32 hd ∧ RowB y11 bE 32 he := ⟨Below.trans hHeld.1 (hB.mono hHeld.1.size), hHeld.2.1.below hB (hHeld.2.1.lt (by omega)), hHeld.2.2.1.below hB (hHeld.2.2.1.lt (by omega)), hHeld.2.2.2.below hB (hHeld.2.2.2.lt (by omega))⟩
          clear hB hHeld
          (try go_wp2_with fail)
          refine hK.out _ _ hH2 (fun _ => ?_)
          clear hK K
          try dsimp only [Act.put]
          refine wpAnyH_take (i := 6) (v := .bool true) op6 (by kernel_rfl) (by kernel_rfl) (by kernel_rfl) (fun _ _ _ h => h) (Or.inl ⟨by rfl, fun W _ => ?_⟩) hH2 ?_
          · go_simp
          simp only [Act.put, List.setIfInBounds_toArray, List.set_cons_zero, List.set_cons_succ]
          refine wpAnyH_take (i := 7) (v := .bool true) op7 (by kernel_rfl) (by kernel_rfl) (by kernel_rfl) (fun _ _ _ h => h) (Or.inl ⟨by rfl, fun W _ => ?_⟩) hH2 ?_
          · go_simp
          simp only [Act.put, List.setIfInBounds_toArray, List.set_cons_zero, List.set_cons_succ]
          refine wpAnyH_take (i := 8) (v := .bool true) op8 (by kernel_rfl) (by kernel_rfl) (by kernel_rfl) (fun _ _ _ h => h) (Or.inl ⟨by rfl, fun W _ => ?_⟩) hH2 ?_
          · go_simp
          simp only [Act.put, List.setIfInBounds_toArray, List.set_cons_zero, List.set_cons_succ]
          refine wpAnyH_done (by kernel_rfl) ?_ _
          go_wp2
          go_ret
          exact ⟨rfl, hH2.1⟩
end Go.Proofs.YteggikojfkmbkaaDoor
