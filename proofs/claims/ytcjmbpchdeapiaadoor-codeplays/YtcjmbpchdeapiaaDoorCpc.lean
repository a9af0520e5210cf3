/- CodePlays: the walk. -/
import Derived.Test.YtcjmbpchdeapiaaDoorCpfM
namespace Go.Proofs.YtcjmbpchdeapiaaDoor
open Go.RowKit Go.Shelf
attribute [local go_sem] Oper.semAt_some
set_option maxHeartbeats 8000000 in
set_option maxRecDepth 100000 in
theorem codePlays_in (w : World) (hN : Nms w) (v : Value) (L0 : Nat) (b0 : Nat → Nat) (hL : L0 ≤ 9223372036854775807) (hv : BytesOf w v L0 b0) (ta : Option Addr) (tn tc : Nat) (z0 z1 : Nat → Int) (htn : tn ≤ 9223372036854775807) (ht : TnAt w ta tn z0 z1) : CallsIn Fence.wide 10 Tryd.prog 3 #[v, .slice ta tn tc] w fun e w' => e = .returned (.bool true) ∧ Below w.heap.size w w' := by
  have b1 : Below w.heap.size w (w.alloc (.cells #[.bool false] 4)) := (Below.refl _ w).alloc (Nat.le_refl _) _
  have c1 : CBox (w.alloc (.cells #[.bool false] 4)) w.heap.size 4 [.bool false] := CBox.new w 4 [.bool false]
  have HLD : Hid (Calls Tryd.prog 7 #[v] (w.alloc (.cells #[.bool false] 4)) fun e w' => ∃ g cap, e = .returned (.slice (some ⟨g, 0, none⟩) (cutN L0) cap) ∧ w'.ownsRow (w.heap.size + 1) 5 1 (.slice (some ⟨g, 0, none⟩) (cutN L0 + 75) cap) (cutN L0 + 75) (bsL (cutN L0 + 75) (mkB (cutN L0) b0)) ∧ CBox w' w.heap.size 4 [.bool false] ∧ Below w.heap.size w w') := (laid_is (w.alloc (.cells #[.bool false] 4)) v L0 b0 hL (hv.below rfl b1)).mono fun e w' ⟨g, cap, he, hO, hB⟩ => ⟨g, cap, he, by rw [World.size_alloc] at hO; exact hO, c1.past hB, b1.trans (hB.mono b1.size)⟩
  have HN : Hid (∀ V, Below w.heap.size w V → Nms V) := fun V hV => hN.past hV
  have HBB : Hid (∀ j, b0 j < 256) := by obtain ⟨_, _, _, h, _⟩ := hv; exact h
  have HTN : Hid (TnAt w ta tn z0 z1 ∧ tn ≤ 9223372036854775807) := ⟨ht, htn⟩
  obtain ⟨m, hm⟩ : ∃ m, cutN L0 = m := ⟨_, rfl⟩
  have HM : Hid (m ≤ 70000 ∧ m ≤ 70000) := by have := (cutN_le L0).2; rw [hm] at this; exact ⟨this, this⟩
  rw [hm] at HLD
  have tI : (tn : Int) ≤ 9223372036854775807 := by omega
  have mI : (m : Int) ≤ 70000 := by have := HM.out; omega
  obtain ⟨ad0, cap0, rfl, _⟩ := hv
  clear b1 c1 hm htn ht hL hN
  refine callsIn_of_wp_marks Tryd.func3 rfl trivial ?_ rfl
  simp only [Tryd.ntmps3, List.size_toArray, List.length_cons, List.length_nil, Nat.reduceAdd, Nat.reduceSub, Array.replicate_succ, Array.replicate_zero, List.push_toArray, List.append_toArray, List.nil_append, List.cons_append]
  refine wpIn_wide.2 ?_
  go_upto_region 2 with (go_at_call 7; refine HLD.out.mono ?_; rintro e w1 ⟨g, cap, rfl, hO, hC, hB⟩; (have N1 : Hid (w1.ownsRow (w.heap.size + 1) 5 1 (.slice (some ⟨g, 0, none⟩) (m + 75) cap) (m + 75) (bsL (m + 75) (mkB m b0)) ∧ CBox w1 w.heap.size 4 [.bool false] ∧ Below w.heap.size w w1) := ⟨hO, hC, hB⟩); (clear hO hC hB))
  clear HLD
  go_upto_region 3 with (at_builtin; refine wpList_copyb rfl _ _ rfl rfl g m cap b0 rfl (fun j hj => by rw [N1.out.1.cellAt j (by omega), bsL_get _ _ j (by omega), show mkB m b0 j = b0 j by unfold mkB; rw [if_pos hj]]) HM.out.1 ?_; intro v9 w9 hO9 hB9; (obtain ⟨na, nc, e9, hna⟩ := own_slice hO9); (subst e9); (have HNA : Hid (m ≠ 0 → ∃ q, na = some ⟨q, 0, none⟩) := hna); (clear hna); (have M : Hid (PyM w w9 g m cap na nc b0) := ⟨N1.out.2.1.past hB9, ownsRow_past N1.out.1 hB9, own_base9 hO9 (by have := N1.out.2.1.lt; omega), fun q hq e => by have h1 := (hO9.lt q hq).1; have h2 := (N1.out.1.lt g rfl).2; omega, N1.out.2.2.trans (hB9.mono N1.out.2.2.size), HBB.out⟩); (clear hO9 hB9))
  have H0 : Hid (PyM w w9 g m cap na nc b0) := M.out
  clear M N1 HBB
  go_wp2
  refine wp_loop (fun a' wq => ∃ (i : Nat) (b : Nat → Nat) (ds : List Deferred) (u8 u9 u10 u11 u12 u13 u14 u15 u16 u17 u18 u19 u20 u21 u22 u23 u24 u25 u26 u27 u28 u29 u30 u31 u32 u33 u34 u35 u36 u37 u38 u39 u40 u41 u42 u43 u44 u45 u46 u47 u48 u49 u50 u51 u52 u53 u54 u55 u56 u57 u58 u59 u60 u61 u62 u63 u64 u65 u66 u67 u68 u69 u70 u71 u72 u73 u74 u75 u76 u77 u78 u79 u80 u81 u82 u83 u84 u85 u86 u87 u88 u89 u90 u91 u92 u93 u94 u95 u96 u97 u98 u99 u100 u101 u102 u103 u104 u105 u106 u107 u108 u109 u110 u111 u112 u113 u114 u115 u116 u117 u118 u119 u120 u121 u122 u123 u124 u125 u126 u127 u128 u129 u130 u131 u132 u133 u134 u135 u136 u137 u138 u139 u140 u141 u142 u143 u144 u145 u146 u147 u148 u149 u150 u151 u152 u153 u154 u155 u156 u157 u158 u159 u160 u161 u162 u163 u164 u165 u166 u167 u168 u169 u170 u171 u172 u173 u174 u175 u176 u177 u178 u179 u180 u181 u182 u183 u184 u185 u186 u187 : Value), a' = { tmps := #[.slice ad0 L0 cap0, .slice ta tn tc, undef, undef, .pointer (some ⟨w.heap.size, 0, none⟩), .slice (some ⟨g, 0, none⟩) m cap, .slice na m nc, .int .i64 (i : Int), u8, u9, u10, u11, u12, u13, u14, u15, u16, u17, u18, u19, u20, u21, u22, u23, u24, u25, u26, u27, u28, u29, u30, u31, u32, u33, u34, u35, u36, u37, u38, u39, u40, u41, u42, u43, u44, u45, u46, u47, u48, u49, u50, u51, u52, u53, u54, u55, u56, u57, u58, u59, u60, u61, u62, u63, u64, u65, u66, u67, u68, u69, u70, u71, u72, u73, u74, u75, u76, u77, u78, u79, u80, u81, u82, u83, u84, u85, u86, u87, u88, u89, u90, u91, u92, u93, u94, u95, u96, u97, u98, u99, u100, u101, u102, u103, u104, u105, u106, u107, u108, u109, u110, u111, u112, u113, u114, u115, u116, u117, u118, u119, u120, u121, u122, u123, u124, u125, u126, u127, u128, u129, u130, u131, u132, u133, u134, u135, u136, u137, u138, u139, u140, u141, u142, u143, u144, u145, u146, u147, u148, u149, u150, u151, u152, u153, u154, u155, u156, u157, u158, u159, u160, u161, u162, u163, u164, u165, u166, u167, u168, u169, u170, u171, u172, u173, u174, u175, u176, u177, u178, u179, u180, u181, u182, u183, u184, u185, u186, u187], defers := ds } ∧ i ≤ tn + 1 ∧ i ≤ 21 ∧ PyM w wq g m cap na nc b ∧ Mrk w.heap.size i ds wq) (fun a' _ => 22 - a'.defers.length) ?_ ?_
  · refine ⟨0, b0, [], ?_⟩
    (repeat apply Exists.intro)
    exact ⟨rfl, Nat.zero_le _, by omega, H0.out, Mrk.nil _ _⟩
  clear H0
  rintro a' wq ⟨i, b, ds, hinv⟩
  obtain ⟨u8, hinv⟩ := hinv
  obtain ⟨u9, hinv⟩ := hinv
  obtain ⟨u10, hinv⟩ := hinv
  obtain ⟨u11, hinv⟩ := hinv
  obtain ⟨u12, hinv⟩ := hinv
  obtain ⟨u13, hinv⟩ := hinv
  obtain ⟨u14, hinv⟩ := hinv
  obtain ⟨u15, hinv⟩ := hinv
  obtain ⟨u16, hinv⟩ := hinv
  obtain ⟨u17, hinv⟩ := hinv
  obtain ⟨u18, hinv⟩ := hinv
  obtain ⟨u19, hinv⟩ := hinv
  obtain ⟨u20, hinv⟩ := hinv
  obtain ⟨u21, hinv⟩ := hinv
  obtain ⟨u22, hinv⟩ := hinv
  obtain ⟨u23, hinv⟩ := hinv
  obtain ⟨u24, hinv⟩ := hinv
  obtain ⟨u25, hinv⟩ := hinv
  obtain ⟨u26, hinv⟩ := hinv
  obtain ⟨u27, hinv⟩ := hinv
  obtain ⟨u28, hinv⟩ := hinv
  obtain ⟨u29, hinv⟩ := hinv
  obtain ⟨u30, hinv⟩ := hinv
  obtain ⟨u31, hinv⟩ := hinv
  obtain ⟨u32, hinv⟩ := hinv
  obtain ⟨u33, hinv⟩ := hinv
  obtain ⟨u34, hinv⟩ := hinv
  obtain ⟨u35, hinv⟩ := hinv
  obtain ⟨u36, hinv⟩ := hinv
  obtain ⟨u37, hinv⟩ := hinv
  obtain ⟨u38, hinv⟩ := hinv
  obtain ⟨u39, hinv⟩ := hinv
  obtain ⟨u40, hinv⟩ := hinv
  obtain ⟨u41, hinv⟩ := hinv
  obtain ⟨u42, hinv⟩ := hinv
  obtain ⟨u43, hinv⟩ := hinv
  obtain ⟨u44, hinv⟩ := hinv
  obtain ⟨u45, hinv⟩ := hinv
  obtain ⟨u46, hinv⟩ := hinv
  obtain ⟨u47, hinv⟩ := hinv
  obtain ⟨u48, hinv⟩ := hinv
  obtain ⟨u49, hinv⟩ := hinv
  obtain ⟨u50, hinv⟩ := hinv
  obtain ⟨u51, hinv⟩ := hinv
  obtain ⟨u52, hinv⟩ := hinv
  obtain ⟨u53, hinv⟩ := hinv
  obtain ⟨u54, hinv⟩ := hinv
  obtain ⟨u55, hinv⟩ := hinv
  obtain ⟨u56, hinv⟩ := hinv
  obtain ⟨u57, hinv⟩ := hinv
  obtain ⟨u58, hinv⟩ := hinv
  obtain ⟨u59, hinv⟩ := hinv
  obtain ⟨u60, hinv⟩ := hinv
  obtain ⟨u61, hinv⟩ := hinv
  obtain ⟨u62, hinv⟩ := hinv
  obtain ⟨u63, hinv⟩ := hinv
  obtain ⟨u64, hinv⟩ := hinv
  obtain ⟨u65, hinv⟩ := hinv
  obtain ⟨u66, hinv⟩ := hinv
  obtain ⟨u67, hinv⟩ := hinv
  obtain ⟨u68, hinv⟩ := hinv
  obtain ⟨u69, hinv⟩ := hinv
  obtain ⟨u70, hinv⟩ := hinv
  obtain ⟨u71, hinv⟩ := hinv
  obtain ⟨u72, hinv⟩ := hinv
  obtain ⟨u73, hinv⟩ := hinv
  obtain ⟨u74, hinv⟩ := hinv
  obtain ⟨u75, hinv⟩ := hinv
  obtain ⟨u76, hinv⟩ := hinv
  obtain ⟨u77, hinv⟩ := hinv
  obtain ⟨u78, hinv⟩ := hinv
  obtain ⟨u79, hinv⟩ := hinv
  obtain ⟨u80, hinv⟩ := hinv
  obtain ⟨u81, hinv⟩ := hinv
  obtain ⟨u82, hinv⟩ := hinv
  obtain ⟨u83, hinv⟩ := hinv
  obtain ⟨u84, hinv⟩ := hinv
  obtain ⟨u85, hinv⟩ := hinv
  obtain ⟨u86, hinv⟩ := hinv
  obtain ⟨u87, hinv⟩ := hinv
  obtain ⟨u88, hinv⟩ := hinv
  obtain ⟨u89, hinv⟩ := hinv
  obtain ⟨u90, hinv⟩ := hinv
  obtain ⟨u91, hinv⟩ := hinv
  obtain ⟨u92, hinv⟩ := hinv
  obtain ⟨u93, hinv⟩ := hinv
  obtain ⟨u94, hinv⟩ := hinv
  obtain ⟨u95, hinv⟩ := hinv
  obtain ⟨u96, hinv⟩ := hinv
  obtain ⟨u97, hinv⟩ := hinv
  obtain ⟨u98, hinv⟩ := hinv
  obtain ⟨u99, hinv⟩ := hinv
  obtain ⟨u100, hinv⟩ := hinv
  obtain ⟨u101, hinv⟩ := hinv
  obtain ⟨u102, hinv⟩ := hinv
  obtain ⟨u103, hinv⟩ := hinv
  obtain ⟨u104, hinv⟩ := hinv
  obtain ⟨u105, hinv⟩ := hinv
  obtain ⟨u106, hinv⟩ := hinv
  obtain ⟨u107, hinv⟩ := hinv
  obtain ⟨u108, hinv⟩ := hinv
  obtain ⟨u109, hinv⟩ := hinv
  obtain ⟨u110, hinv⟩ := hinv
  obtain ⟨u111, hinv⟩ := hinv
  obtain ⟨u112, hinv⟩ := hinv
  obtain ⟨u113, hinv⟩ := hinv
  obtain ⟨u114, hinv⟩ := hinv
  obtain ⟨u115, hinv⟩ := hinv
  obtain ⟨u116, hinv⟩ := hinv
  obtain ⟨u117, hinv⟩ := hinv
  obtain ⟨u118, hinv⟩ := hinv
  obtain ⟨u119, hinv⟩ := hinv
  obtain ⟨u120, hinv⟩ := hinv
  obtain ⟨u121, hinv⟩ := hinv
  obtain ⟨u122, hinv⟩ := hinv
  obtain ⟨u123, hinv⟩ := hinv
  obtain ⟨u124, hinv⟩ := hinv
  obtain ⟨u125, hinv⟩ := hinv
  obtain ⟨u126, hinv⟩ := hinv
  obtain ⟨u127, hinv⟩ := hinv
  obtain ⟨u128, hinv⟩ := hinv
  obtain ⟨u129, hinv⟩ := hinv
  obtain ⟨u130, hinv⟩ := hinv
  obtain ⟨u131, hinv⟩ := hinv
  obtain ⟨u132, hinv⟩ := hinv
  obtain ⟨u133, hinv⟩ := hinv
  obtain ⟨u134, hinv⟩ := hinv
  obtain ⟨u135, hinv⟩ := hinv
  obtain ⟨u136, hinv⟩ := hinv
  obtain ⟨u137, hinv⟩ := hinv
  obtain ⟨u138, hinv⟩ := hinv
  obtain ⟨u139, hinv⟩ := hinv
  obtain ⟨u140, hinv⟩ := hinv
  obtain ⟨u141, hinv⟩ := hinv
  obtain ⟨u142, hinv⟩ := hinv
  obtain ⟨u143, hinv⟩ := hinv
  obtain ⟨u144, hinv⟩ := hinv
  obtain ⟨u145, hinv⟩ := hinv
  obtain ⟨u146, hinv⟩ := hinv
  obtain ⟨u147, hinv⟩ := hinv
  obtain ⟨u148, hinv⟩ := hinv
  obtain ⟨u149, hinv⟩ := hinv
  obtain ⟨u150, hinv⟩ := hinv
  obtain ⟨u151, hinv⟩ := hinv
  obtain ⟨u152, hinv⟩ := hinv
  obtain ⟨u153, hinv⟩ := hinv
  obtain ⟨u154, hinv⟩ := hinv
  obtain ⟨u155, hinv⟩ := hinv
  obtain ⟨u156, hinv⟩ := hinv
  obtain ⟨u157, hinv⟩ := hinv
  obtain ⟨u158, hinv⟩ := hinv
  obtain ⟨u159, hinv⟩ := hinv
  obtain ⟨u160, hinv⟩ := hinv
  obtain ⟨u161, hinv⟩ := hinv
  obtain ⟨u162, hinv⟩ := hinv
  obtain ⟨u163, hinv⟩ := hinv
  obtain ⟨u164, hinv⟩ := hinv
  obtain ⟨u165, hinv⟩ := hinv
  obtain ⟨u166, hinv⟩ := hinv
  obtain ⟨u167, hinv⟩ := hinv
  obtain ⟨u168, hinv⟩ := hinv
  obtain ⟨u169, hinv⟩ := hinv
  obtain ⟨u170, hinv⟩ := hinv
  obtain ⟨u171, hinv⟩ := hinv
  obtain ⟨u172, hinv⟩ := hinv
  obtain ⟨u173, hinv⟩ := hinv
  obtain ⟨u174, hinv⟩ := hinv
  obtain ⟨u175, hinv⟩ := hinv
  obtain ⟨u176, hinv⟩ := hinv
  obtain ⟨u177, hinv⟩ := hinv
  obtain ⟨u178, hinv⟩ := hinv
  obtain ⟨u179, hinv⟩ := hinv
  obtain ⟨u180, hinv⟩ := hinv
  obtain ⟨u181, hinv⟩ := hinv
  obtain ⟨u182, hinv⟩ := hinv
  obtain ⟨u183, hinv⟩ := hinv
  obtain ⟨u184, hinv⟩ := hinv
  obtain ⟨u185, hinv⟩ := hinv
  obtain ⟨u186, hinv⟩ := hinv
  obtain ⟨u187, hinv⟩ := hinv
  obtain ⟨ha, hi1, hi2, hM, hD⟩ := hinv
  subst ha
  have M : Hid (PyM w wq g m cap na nc b) := hM
  have MK : Hid (Mrk w.heap.size i ds wq ∧ i ≤ 21) := ⟨hD, hi2⟩
  have HWQ : Hid (w.heap.size ≤ wq.heap.size) := hM.be.size
  have DL : Hid (ds.length = i) := by obtain ⟨Ds, rfl, h2, _⟩ := hD; show _ = _; rw [List.length_map]; exact h2
  clear hM hD
  by_cases e : i ≤ tn ∧ i ≤ 20
  rotate_left
  · as_aux_lemma =>
      have AW : Hid (Calls Tryd.prog 19 #[] wq fun e w' => e = .returned (.bool true) ∧ Below wq.heap.size wq w') := awake_is wq (HN.out _ M.out.be)
      have OF : Hid (∀ V, Below wq.heap.size wq V → V.frozen? ⟨w.heap.size, 0, none⟩ = false ∧ V.cell? ⟨w.heap.size, 0, none⟩ = some (.bool false)) := fun V hV => ⟨(M.out.rb.past hV).frozen 0, (M.out.rb.past hV).cell 0⟩
      have FN : Hid (∀ V, Below wq.heap.size wq V → Mrk w.heap.size i ds (V.setCell ⟨w.heap.size, 0, none⟩ (.bool true)) ∧ CBox (V.setCell ⟨w.heap.size, 0, none⟩ (.bool true)) w.heap.size 4 [.bool true] ∧ Below w.heap.size w (V.setCell ⟨w.heap.size, 0, none⟩ (.bool true))) := fun V hV => ⟨(MK.out.1.past hV).cell (M.out.rb.past hV) 0 _, (M.out.rb.past hV).set 0 _, (M.out.be.trans (hV.mono M.out.be.size)).setCell (p := ⟨w.heap.size, 0, none⟩) (Nat.le_refl _) _⟩
      clear M MK
      by_cases a1 : i ≤ tn
      · have p1 : (i : Int) ≤ (tn : Int) := by omega
        have p2 : ¬ (i : Int) ≤ 20 := by omega
        clear e a1
        go_wp2_with (go_at_call 19; refine AW.out.mono ?_; rintro e z9 ⟨rfl, hz⟩; (have ZB : Hid (Below wq.heap.size wq z9) := hz); (obtain ⟨fz, cz⟩ := OF.out z9 hz); clear hz)
        refine leaves_mrk (B := w.heap.size) (J := fun W => CBox W w.heap.size 4 [.bool true] ∧ Below w.heap.size w W) ?_ ?_ i ds _ (FN.out z9 ZB.out).1 (FN.out z9 ZB.out).2
        · exact fun _ X Y row hs hg hr => ⟨CBox.own (β := Unit) _ _ (fun _ => [.bool true]) () X Y row hs.1 hg (fun r e => by obtain ⟨_, o, h1, h2⟩ := hr r e; exact ⟨o, h1, isLD_not h2⟩), below_own9 hs.2 hg (fun r e => (hr r e).1)⟩
        · intro W hj
          have cF := hj.1.cell 0
          exact ⟨_, results_one rfl _ _ _ ⟨w.heap.size, 0, none⟩ rfl (by go_simp), rfl, hj.2⟩
      · have p1 : ¬ (i : Int) ≤ (tn : Int) := by omega
        clear e a1
        go_wp2_with (go_at_call 19; refine AW.out.mono ?_; rintro e z9 ⟨rfl, hz⟩; (have ZB : Hid (Below wq.heap.size wq z9) := hz); (obtain ⟨fz, cz⟩ := OF.out z9 hz); clear hz)
        refine leaves_mrk (B := w.heap.size) (J := fun W => CBox W w.heap.size 4 [.bool true] ∧ Below w.heap.size w W) ?_ ?_ i ds _ (FN.out z9 ZB.out).1 (FN.out z9 ZB.out).2
        · exact fun _ X Y row hs hg hr => ⟨CBox.own (β := Unit) _ _ (fun _ => [.bool true]) () X Y row hs.1 hg (fun r e => by obtain ⟨_, o, h1, h2⟩ := hr r e; exact ⟨o, h1, isLD_not h2⟩), below_own9 hs.2 hg (fun r e => (hr r e).1)⟩
        · intro W hj
          have cF := hj.1.cell 0
          exact ⟨_, results_one rfl _ _ _ ⟨w.heap.size, 0, none⟩ rfl (by go_simp), rfl, hj.2⟩
  have HI : Hid (i ≤ tn ∧ i ≤ 20) := e
  have p1 : (i : Int) ≤ (tn : Int) := by omega
  have p2 : (i : Int) ≤ 20 := by omega
  clear e hi1 hi2
  obtain ⟨k, hk⟩ := fullA_ex b m
  have HK : Hid (FullA b m k ∧ k ≤ m) := ⟨hk, hk.1.count⟩
  clear hk
  obtain ⟨kk, hkk⟩ : ∃ x, KK b m k = x := ⟨_, rfl⟩
  have HKK : Hid (KK b m k = kk ∧ kk ≤ 70000) := ⟨hkk, by have := HK.out; have := HM.out; unfold KK at hkk; split at hkk <;> omega⟩
  clear hkk
  go_upto_region 7 with (go_at_call 8; refine (scan_k _ _ m b k HK.out.1 (HN.out _ M.out.be) M.out.bw.1 M.out.bw.2 (by have := HM.out; omega)).mono ?_; rintro e w1 ⟨fv, rfl, hS, hB⟩; (rw [HKK.out.1] at hS); (obtain ⟨n0, hn0⟩ : ∃ x, x = wq.heap.size := ⟨_, rfl⟩); (rw [← hn0] at hS); (have N1 : Hid (PyM w w1 g m cap na nc b ∧ Bl wq w1 ∧ ScR n0 b kk fv w1) := ⟨M.out.past hB, (Bl.refl wq).past hB, hS⟩); (clear hS hB hn0))
  clear M
  go_upto_region 8 with (go_at_call 9; refine (rscan_k _ _ m b k HK.out.1 N1.out.1.bn.1 (by have := HM.out; omega)).mono ?_; rintro e w2 ⟨fv2, rfl, hS, hB⟩; (rw [HKK.out.1] at hS); (obtain ⟨n1, hn1⟩ : ∃ x, x = w1.heap.size := ⟨_, rfl⟩); (rw [← hn1] at hS); (have N2 : Hid (PyM w w2 g m cap na nc b ∧ Bl wq w2 ∧ ScR n0 b kk fv w2 ∧ RAll n1 b kk fv2 w2) := ⟨N1.out.1.past hB, N1.out.2.1.past hB, N1.out.2.2.past hB, hS⟩); (clear hS hB hn1))
  clear N1
  generalize scE b m k = er
  generalize scP b m k = pl
  go_upto_region 9 with (go_at_call 10; refine (check_k _ _ m b k HK.out.1 (HN.out _ N2.out.1.be) N2.out.1.bw.1 N2.out.1.bw.2 (by have := HM.out; omega)).mono ?_; rintro e w3 ⟨e3, p3, rfl, hC, hB⟩; (have N3 : Hid (PyM w w3 g m cap na nc b ∧ Bl wq w3 ∧ ScR n0 b kk fv w3 ∧ RAll n1 b kk fv2 w3) := ⟨N2.out.1.past hB, N2.out.2.1.past hB, N2.out.2.2.1.past hB, N2.out.2.2.2.past hB⟩); (have HC3 : Hid (ChRes b m k e3 p3) := hC); (clear hC hB))
  clear N2
  go_upto_region 10 with (go_at_call 11; refine (rcheck_k _ _ m b k e3 p3 HK.out.1 HC3.out N3.out.1.bn.1 (by have := HM.out; omega)).mono ?_; rintro e w4 ⟨rfl, hB⟩; (have N4 : Hid (PyM w w4 g m cap na nc b ∧ Bl wq w4 ∧ ScR n0 b kk fv w4 ∧ RAll n1 b kk fv2 w4) := ⟨N3.out.1.past hB, N3.out.2.1.past hB, N3.out.2.2.1.past hB, N3.out.2.2.2.past hB⟩); (clear hB))
  clear N3 HC3
  go_upto_region 11 with (go_at_call 12; refine (starts_k _ _ m b k HK.out.1 (HN.out _ N4.out.1.be) N4.out.1.bw.1 N4.out.1.bw.2 (by have := HM.out; omega)).mono ?_; rintro e w5 ⟨q5, rfl, hC, hB⟩; (have N5 : Hid (PyM w w5 g m cap na nc b ∧ Bl wq w5 ∧ ScR n0 b kk fv w5 ∧ RAll n1 b kk fv2 w5 ∧ CBox w5 q5 4 (stL b m k)) := ⟨N4.out.1.past hB, N4.out.2.1.past hB, N4.out.2.2.1.past hB, N4.out.2.2.2.past hB, hC⟩); (clear hC hB))
  clear N4
  go_upto_region 12 with (go_at_call 13; refine (rstarts_k _ _ m b k HK.out.1 N5.out.1.bn.1 (by have := HM.out; omega)).mono ?_; rintro e w6 ⟨q6, rfl, hC, hB⟩; (have N6 : Hid (PyM w w6 g m cap na nc b ∧ Bl wq w6 ∧ ScR n0 b kk fv w6 ∧ RAll n1 b kk fv2 w6 ∧ CBox w6 q5 4 (stL b m k) ∧ CBox w6 q6 4 (stL b m k)) := ⟨N5.out.1.past hB, N5.out.2.1.past hB, N5.out.2.2.1.past hB, N5.out.2.2.2.1.past hB, N5.out.2.2.2.2.past hB, hC⟩); (clear hC hB))
  clear N5
  refine wp_region_lit ?_
  refine lst_val (v := .int .i64 er) (by kernel_rfl) ?_ ?_
  · go_simp
  simp only [Act.put, List.setIfInBounds_toArray, List.set_cons_zero, List.set_cons_succ]
  refine lst_val (v := .int .i64 er) (by kernel_rfl) ?_ ?_
  · go_simp
  simp only [Act.put, List.setIfInBounds_toArray, List.set_cons_zero, List.set_cons_succ]
  refine lst_val (v := .bool false) (by kernel_rfl) ?_ ?_
  · go_simp
  simp only [Act.put, List.setIfInBounds_toArray, List.set_cons_zero, List.set_cons_succ]
  refine lst_val (v := .bool false) (by kernel_rfl) ?_ ?_
  · go_simp
  simp only [Act.put, List.setIfInBounds_toArray, List.set_cons_zero, List.set_cons_succ]
  refine lst_val (v := .int .i64 (pl : Int)) (by kernel_rfl) ?_ ?_
  · go_simp
  simp only [Act.put, List.setIfInBounds_toArray, List.set_cons_zero, List.set_cons_succ]
  refine lst_val (v := .int .i64 (pl : Int)) (by kernel_rfl) ?_ ?_
  · go_simp
  simp only [Act.put, List.setIfInBounds_toArray, List.set_cons_zero, List.set_cons_succ]
  refine lst_val (v := .bool false) (by kernel_rfl) ?_ ?_
  · go_simp
  simp only [Act.put, List.setIfInBounds_toArray, List.set_cons_zero, List.set_cons_succ]
  refine lst_val (v := .bool false) (by kernel_rfl) ?_ ?_
  · go_simp
  simp only [Act.put, List.setIfInBounds_toArray, List.set_cons_zero, List.set_cons_succ]
  refine lst_val (v := .bool false) (by kernel_rfl) ?_ ?_
  · go_simp
  simp only [Act.put, List.setIfInBounds_toArray, List.set_cons_zero, List.set_cons_succ]
  refine lst_val (v := fv) (by kernel_rfl) ?_ ?_
  · go_simp
  simp only [Act.put, List.setIfInBounds_toArray, List.set_cons_zero, List.set_cons_succ]
  refine lst_val (v := fv2) (by kernel_rfl) ?_ ?_
  · go_simp
  simp only [Act.put, List.setIfInBounds_toArray, List.set_cons_zero, List.set_cons_succ]
  refine lst_call (by kernel_rfl) (by first | (go_simp; done) | (go_simp; first | exact rfl | exact ⟨rfl, rfl⟩ | exact ⟨rfl, rfl, rfl⟩)) (sameAll_is _ fv fv2 b kk N6.out.1.hb (by have := HKK.out; omega) N6.out.2.2.1 N6.out.2.2.2.1) ?_
  rintro e w7 ⟨rfl, hB⟩
  refine ⟨_, rfl, ?_⟩
  have N7 : Hid (PyM w w7 g m cap na nc b ∧ Bl wq w7 ∧ ScR n0 b kk fv w7 ∧ RAll n1 b kk fv2 w7 ∧ CBox w7 q5 4 (stL b m k) ∧ CBox w7 q6 4 (stL b m k)) := ⟨N6.out.1.past hB, N6.out.2.1.past hB, N6.out.2.2.1.past hB, N6.out.2.2.2.1.past hB, N6.out.2.2.2.2.1.past hB, N6.out.2.2.2.2.2.past hB⟩
  clear hB N6
  simp only [Act.put, List.setIfInBounds_toArray, List.set_cons_zero, List.set_cons_succ]
  refine lst_val (v := .bool false) (by kernel_rfl) ?_ ?_
  · go_simp
  simp only [Act.put, List.setIfInBounds_toArray, List.set_cons_zero, List.set_cons_succ]
  refine lst_val (v := .bool false) (by kernel_rfl) ?_ ?_
  · go_simp
  simp only [Act.put, List.setIfInBounds_toArray, List.set_cons_zero, List.set_cons_succ]
  refine lst_val (v := .bool false) (by kernel_rfl) ?_ ?_
  · go_simp
  simp only [Act.put, List.setIfInBounds_toArray, List.set_cons_zero, List.set_cons_succ]
  refine lst_val (v := .int .i64 e3) (by kernel_rfl) ?_ ?_
  · go_simp
  simp only [Act.put, List.setIfInBounds_toArray, List.set_cons_zero, List.set_cons_succ]
  refine lst_val (v := .int .i64 e3) (by kernel_rfl) ?_ ?_
  · go_simp
  simp only [Act.put, List.setIfInBounds_toArray, List.set_cons_zero, List.set_cons_succ]
  refine lst_val (v := .bool false) (by kernel_rfl) ?_ ?_
  · go_simp
  simp only [Act.put, List.setIfInBounds_toArray, List.set_cons_zero, List.set_cons_succ]
  refine lst_val (v := .bool false) (by kernel_rfl) ?_ ?_
  · go_simp
  simp only [Act.put, List.setIfInBounds_toArray, List.set_cons_zero, List.set_cons_succ]
  refine lst_val (v := .bool false) (by kernel_rfl) ?_ ?_
  · go_simp
  simp only [Act.put, List.setIfInBounds_toArray, List.set_cons_zero, List.set_cons_succ]
  refine lst_val (v := .int .i64 (p3 : Int)) (by kernel_rfl) ?_ ?_
  · go_simp
  simp only [Act.put, List.setIfInBounds_toArray, List.set_cons_zero, List.set_cons_succ]
  refine lst_val (v := .int .i64 (p3 : Int)) (by kernel_rfl) ?_ ?_
  · go_simp
  simp only [Act.put, List.setIfInBounds_toArray, List.set_cons_zero, List.set_cons_succ]
  refine lst_val (v := .bool false) (by kernel_rfl) ?_ ?_
  · go_simp
  simp only [Act.put, List.setIfInBounds_toArray, List.set_cons_zero, List.set_cons_succ]
  refine lst_val (v := .bool false) (by kernel_rfl) ?_ ?_
  · go_simp
  simp only [Act.put, List.setIfInBounds_toArray, List.set_cons_zero, List.set_cons_succ]
  refine lst_val (v := .bool false) (by kernel_rfl) ?_ ?_
  · go_simp
  simp only [Act.put, List.setIfInBounds_toArray, List.set_cons_zero, List.set_cons_succ]
  refine lst_val (v := .slice (some ⟨q5, 0, none⟩) m m) (by kernel_rfl) ?_ ?_
  · go_simp
  simp only [Act.put, List.setIfInBounds_toArray, List.set_cons_zero, List.set_cons_succ]
  refine lst_val (v := .int .i64 (m : Int)) (by kernel_rfl) ?_ ?_
  · go_simp
  simp only [Act.put, List.setIfInBounds_toArray, List.set_cons_zero, List.set_cons_succ]
  refine lst_val (v := .slice (some ⟨q6, 0, none⟩) m m) (by kernel_rfl) ?_ ?_
  · go_simp
  simp only [Act.put, List.setIfInBounds_toArray, List.set_cons_zero, List.set_cons_succ]
  refine lst_val (v := .int .i64 (m : Int)) (by kernel_rfl) ?_ ?_
  · go_simp
  simp only [Act.put, List.setIfInBounds_toArray, List.set_cons_zero, List.set_cons_succ]
  refine lst_val (v := .bool false) (by kernel_rfl) ?_ ?_
  · go_simp
  simp only [Act.put, List.setIfInBounds_toArray, List.set_cons_zero, List.set_cons_succ]
  refine lst_val (v := .bool false) (by kernel_rfl) ?_ ?_
  · go_simp
  simp only [Act.put, List.setIfInBounds_toArray, List.set_cons_zero, List.set_cons_succ]
  refine lst_val (v := .bool false) (by kernel_rfl) ?_ ?_
  · go_simp
  simp only [Act.put, List.setIfInBounds_toArray, List.set_cons_zero, List.set_cons_succ]
  refine lst_val (v := .slice (some ⟨g, 0, none⟩) m cap) (by kernel_rfl) ?_ ?_
  · go_simp
  simp only [Act.put, List.setIfInBounds_toArray, List.set_cons_zero, List.set_cons_succ]
  refine lst_val (v := .slice na m nc) (by kernel_rfl) ?_ ?_
  · go_simp
  simp only [Act.put, List.setIfInBounds_toArray, List.set_cons_zero, List.set_cons_succ]
  refine lst_call (by kernel_rfl) (by first | (go_simp; done) | (go_simp; first | exact rfl | exact ⟨rfl, rfl⟩ | exact ⟨rfl, rfl, rfl⟩)) (lstands_is _ g m cap (w.heap.size + 1) _ m b HM.out.1 N7.out.1.rw' N7.out.1.bn.1 (Nat.le_refl _) (by have := HM.out; omega)) ?_
  rintro e w8 ⟨rfl, hB⟩
  refine ⟨_, rfl, ?_⟩
  have N8 : Hid (PyM w w8 g m cap na nc b ∧ Bl wq w8 ∧ CBox w8 q5 4 (stL b m k) ∧ CBox w8 q6 4 (stL b m k)) := ⟨N7.out.1.past hB, N7.out.2.1.past hB, N7.out.2.2.2.2.1.past hB, N7.out.2.2.2.2.2.past hB⟩
  clear hB N7
  simp only [Act.put, List.setIfInBounds_toArray, List.set_cons_zero, List.set_cons_succ]
  refine lst_val (v := .bool false) (by kernel_rfl) ?_ ?_
  · go_simp
  simp only [Act.put, List.setIfInBounds_toArray, List.set_cons_zero, List.set_cons_succ]
  refine lst_val (v := .bool false) (by kernel_rfl) ?_ ?_
  · go_simp
  simp only [Act.put, List.setIfInBounds_toArray, List.set_cons_zero, List.set_cons_succ]
  refine wpList_nil ?_
  clear HKK
  have H8 : Hid (PyM w w8 g m cap na nc b ∧ Bl wq w8 ∧ CBox w8 q5 4 (stL b m k) ∧ CBox w8 q6 4 (stL b m k)) := N8.out
  clear N8
  go_wp2
  go_loopw [20] (fun s20 wr => ∃ j : Nat, s20 = .int .i64 (j : Int) ∧ j ≤ m ∧ PyM w wr g m cap na nc b ∧ Bl wq wr ∧ CBox wr q5 4 (stL b m k) ∧ CBox wr q6 4 (stL b m k)) (fun s20 _ => m - (intOf s20).toNat)
  case atStart => exact ⟨0, rfl, Nat.zero_le _, H8.out⟩
  case round =>
    obtain ⟨j, rfl, hj, hM⟩ := hrel
    have N8 : Hid (PyM w wr g m cap na nc b ∧ Bl wq wr ∧ CBox wr q5 4 (stL b m k) ∧ CBox wr q6 4 (stL b m k)) := hM
    clear hM H8
    by_cases e : j = m
    rotate_left
    · as_aux_lemma =>
        have q1 : (j : Int) < (m : Int) := by omega
        have HJ : Hid (j < m) := by unfold Hid; omega
        clear e hj
        obtain ⟨j1, hj1⟩ : ∃ x, x = j + 1 := ⟨_, rfl⟩
        have HJ1 : Hid (j1 = j + 1) := hj1
        have u1 : (j : Int) + 1 = (j1 : Int) := by omega
        have u2 : IntKind.i64.wrap (j1 : Int) = (j1 : Int) := by rw [IntKind.wrap_i64]; have := HJ.out; have := HM.out; omega
        clear hj1
        obtain ⟨bj, hbj⟩ : ∃ x, stA b k j = x := ⟨_, rfl⟩
        have c5 : wr.cell? ⟨q5, j, none⟩ = some (.bool bj) := by rw [N8.out.2.2.1.cell j, stL_get b m k j HJ.out, hbj]
        have c6 : wr.cell? ⟨q6, j, none⟩ = some (.bool bj) := by rw [N8.out.2.2.2.cell j, stL_get b m k j HJ.out, hbj]
        have mB : (j : Int) < 1152921504606846976 := by have := HJ.out; have := HM.out; omega
        clear hbj
        go_upto_region 17 with fail
        refine wp_then_false ?_
        refine wp_region_held_drew (S := fun V' => V'.cell? ⟨q5, j, none⟩ = some (.bool bj) ∧ V'.cell? ⟨q6, j, none⟩ = some (.bool bj)) (by kernel_rfl) ⟨c5, c6⟩ (fun hHeld => ?_)
        have N9 : Hid (PyM w wr.drew g m cap na nc b ∧ Bl wq wr.drew ∧ CBox wr.drew q5 4 (stL b m k) ∧ CBox wr.drew q6 4 (stL b m k)) := ⟨N8.out.1.past below_drew9, N8.out.2.1.past below_drew9, N8.out.2.2.1.past below_drew9, N8.out.2.2.2.past below_drew9⟩
        clear N8
        generalize wr.drew = z0 at hHeld N9 ⊢
        refine wpAnyH_take (i := 0) (v := .slice (some ⟨q5, 0, none⟩) m m) ov0 (by kernel_rfl) (by kernel_rfl) (by kernel_rfl) (fun _ _ _ h => h) (Or.inl ⟨by rfl, fun V' hS => ?_⟩) hHeld ?_
        · go_simp
        simp only [Act.put, List.setIfInBounds_toArray, List.set_cons_zero, List.set_cons_succ]
        refine wpAnyH_take (i := 1) (v := .int .i64 (j : Int)) ov1 (by kernel_rfl) (by kernel_rfl) (by kernel_rfl) (fun _ _ _ h => h) (Or.inl ⟨by rfl, fun V' hS => ?_⟩) hHeld ?_
        · go_simp
        simp only [Act.put, List.setIfInBounds_toArray, List.set_cons_zero, List.set_cons_succ]
        refine wpAnyH_take (i := 2) (v := .pointer (some ⟨q5, j, none⟩)) ov2 (by kernel_rfl) (by kernel_rfl) (by kernel_rfl) (fun _ _ _ h => h) (Or.inl ⟨by rfl, fun V' hS => ?_⟩) hHeld ?_
        · go_simp
        simp only [Act.put, List.setIfInBounds_toArray, List.set_cons_zero, List.set_cons_succ]
        refine wpAnyH_take (i := 3) (v := .bool bj) ov3 (by kernel_rfl) (by kernel_rfl) (by kernel_rfl) (fun _ _ _ h => h) (Or.inl ⟨by rfl, fun V' hS => ?_⟩) hHeld ?_
        · have c0 := hS.1
          go_simp
        simp only [Act.put, List.setIfInBounds_toArray, List.set_cons_zero, List.set_cons_succ]
        refine wpAnyH_take (i := 4) (v := .slice (some ⟨q6, 0, none⟩) m m) ov4 (by kernel_rfl) (by kernel_rfl) (by kernel_rfl) (fun _ _ _ h => h) (Or.inl ⟨by rfl, fun V' hS => ?_⟩) hHeld ?_
        · go_simp
        simp only [Act.put, List.setIfInBounds_toArray, List.set_cons_zero, List.set_cons_succ]
        refine wpAnyH_take (i := 5) (v := .int .i64 (j : Int)) ov5 (by kernel_rfl) (by kernel_rfl) (by kernel_rfl) (fun _ _ _ h => h) (Or.inl ⟨by rfl, fun V' hS => ?_⟩) hHeld ?_
        · go_simp
        simp only [Act.put, List.setIfInBounds_toArray, List.set_cons_zero, List.set_cons_succ]
        refine wpAnyH_take (i := 6) (v := .pointer (some ⟨q6, j, none⟩)) ov6 (by kernel_rfl) (by kernel_rfl) (by kernel_rfl) (fun _ _ _ h => h) (Or.inl ⟨by rfl, fun V' hS => ?_⟩) hHeld ?_
        · go_simp
        simp only [Act.put, List.setIfInBounds_toArray, List.set_cons_zero, List.set_cons_succ]
        refine wpAnyH_take (i := 7) (v := .bool bj) ov7 (by kernel_rfl) (by kernel_rfl) (by kernel_rfl) (fun _ _ _ h => h) (Or.inl ⟨by rfl, fun V' hS => ?_⟩) hHeld ?_
        · have c0 := hS.2
          go_simp
        simp only [Act.put, List.setIfInBounds_toArray, List.set_cons_zero, List.set_cons_succ]
        refine wpAnyH_take (i := 8) (v := .bool false) ov8 (by kernel_rfl) (by kernel_rfl) (by kernel_rfl) (fun _ _ _ h => h) (Or.inl ⟨by rfl, fun V' hS => ?_⟩) hHeld ?_
        · go_simp
        simp only [Act.put, List.setIfInBounds_toArray, List.set_cons_zero, List.set_cons_succ]
        refine wpAnyH_done (by kernel_rfl) ?_ _
        clear hHeld c5 c6
        go_wp2
        go_roundw
        case rel => exact ⟨j1, rfl, by have := HJ.out; have := HJ1.out; omega, N9.out⟩
        case measure => (simp [intOf]; have := HJ.out; have := HJ1.out; omega)
    have q1 : ¬ (j : Int) < (m : Int) := by omega
    have M : Hid (PyM w wr g m cap na nc b) := N8.out.1
    have HBL : Hid (Bl wq wr) := N8.out.2.1
    clear e hj N8
    go_upto_region 20 with fail
    clear q1
    have N1 : Hid (Below wr.heap.size wr (wr.alloc (.cells #[.int .i64 0] 3)) ∧ Boxed (wr.alloc (.cells #[.int .i64 0] 3)) wr.heap.size 3 (.int .i64 ((0 : Nat) : Int)) ∧ wr.heap.size < (wr.alloc (.cells #[.int .i64 0] 3)).heap.size) := ⟨(Below.refl _ _).alloc (Nat.le_refl _) _, Boxed.new _ _ _, by simp⟩
    generalize wr.alloc (.cells #[.int .i64 0] 3) = V1 at N1 ⊢
    obtain ⟨n2, hn2⟩ : ∃ x, V1.heap.size = x := ⟨_, rfl⟩
    have HN2 : Hid (V1.heap.size = n2 ∧ wr.heap.size < n2) := ⟨hn2, by rw [← hn2]; exact N1.out.2.2⟩
    clear hn2
    go_upto_region 21 with (go_at_call 16; refine (rAll_k _ _ m b k HK.out.1 (M.out.past N1.out.1).bn.1 (by have := HM.out; omega)).mono ?_; rintro e w2 ⟨lv, rfl, hR, hB⟩; (rw [HN2.out.1] at hR); (obtain ⟨la, lc, e8, hlg⟩ := hR.slice); (subst e8); (have N2 : Hid (Below wr.heap.size wr w2 ∧ Boxed w2 wr.heap.size 3 (.int .i64 ((0 : Nat) : Int)) ∧ RAll n2 b k (.slice la k lc) w2 ∧ n2 ≤ w2.heap.size) := ⟨N1.out.1.trans (hB.mono N1.out.1.size), (hB.block _ N1.out.2.1.lt).trans N1.out.2.1, hR, by rw [← HN2.out.1]; exact hB.size⟩); (have HLG : Hid (k ≠ 0 → ∃ g, la = some ⟨g, 0, none⟩) := hlg); (clear hR hB hlg))
    clear N1
    have N3 : Hid (PlI wr n2 w2.heap.size k (.slice la k lc) b 0 (w2.alloc (.cells #[.slice la k lc] 25)) ∧ n2 ≤ w2.heap.size ∧ w2.heap.size < (w2.alloc (.cells #[.slice la k lc] 25)).heap.size) := ⟨⟨N2.out.1.alloc (N2.out.1.size) _, N2.out.2.1.alloc _, Boxed.new _ _ _, N2.out.2.2.1.past ((Below.refl _ _).alloc (Nat.le_refl _) _)⟩, N2.out.2.2.2, by simp⟩
    clear N2
    generalize w2.alloc (.cells #[.slice la k lc] 25) = V2 at N3 ⊢
    generalize w2.heap.size = ab at N3 ⊢
    obtain ⟨q9, hq9⟩ : ∃ x, V2.heap.size = x := ⟨_, rfl⟩
    have AL : Hid (Calls Tryd.prog 17 #[.slice (some ⟨g, 0, none⟩) m cap] V2 fun e w' => e = .returned (.func (.func 33) #[] #[.pointer (some ⟨q9 + 1, 0, none⟩)]) ∧ EaOk (q9 + 1) (.slice (some ⟨q9, 0, none⟩) m m) m b w' ∧ Below V2.heap.size V2 w' ∧ w'.heap.size = q9 + 2) := by have h9 := all_k V2 _ m b (by have := HM.out; omega) (HN.out _ (M.out.be.trans (N3.out.1.be.mono M.out.be.size))) (M.out.past N3.out.1.be).bw.1; rw [hq9] at h9; rw [hq9]; exact h9
    have HQ9 : Hid (ab < q9) := by have := N3.out.2.2; rw [hq9] at this; exact this
    clear hq9
    have hnil : ∀ W : World, Sem.run Tryd.prog (binOp BinOp.eql 37 (.func (.func 33) #[] #[.pointer (some ⟨q9 + 1, 0, none⟩)]) .nilFunc) W = .ok (.bool false) W := fun W => by kernel_rfl
    go_upto_region 22 with (go_at_call 17; refine (AL.out).mono ?_; rintro e w3 ⟨rfl, hE, hB, hs⟩; (have N4 : Hid (PlI wr n2 ab k (.slice la k lc) b 0 w3 ∧ EaOk (q9 + 1) (.slice (some ⟨q9, 0, none⟩) m m) m b w3 ∧ n2 ≤ ab ∧ w3.heap.size = q9 + 2) := ⟨N3.out.1.past hB, hE, N3.out.2.1, hs⟩); (clear hE hB hs))
    clear N3 AL
    go_wp2
    clear hnil
    have hS9 : EaS (fun j => j < w.heap.size ∨ j = q9 ∨ j = q9 + 1) (q9 + 1) (.slice (some ⟨q9, 0, none⟩) m m) := ⟨Or.inr (Or.inr rfl), fun g o m c e _ => by cases e; exact Or.inr (Or.inl rfl), fun k g hk => Or.inl (World.block_lt_of_cell? w _ ((HN.out w (Below.refl _ _)) k g hk 0 (by omega)))⟩
    have HB9 : Hid (wr.heap.size ≤ w3.heap.size ∧ w.heap.size ≤ wr.heap.size ∧ wr.heap.size < n2 ∧ n2 ≤ ab ∧ ab < q9) := ⟨N4.out.1.be.size, M.out.be.size, HN2.out.2, N4.out.2.2.1, HQ9.out⟩
    generalize hA0 : ({ tmps := _, defers := _ } : Act) = A0
    have hg0 : A0.eval (.tmp 125) = .func (.func 33) #[] #[.pointer (some ⟨q9 + 1, 0, none⟩)] := by rw [← hA0]; rfl
    have HA0 : Hid _ := hA0
    clear hA0
    refine wpIn_wide.1 (wpIn_rangeFunc_x (F := Fence.wide) (n := 10) (α := Nat × Nat × Nat) rfl (by omega) (gf := 33) (lb := #[.pointer (some ⟨q9 + 1, 0, none⟩)]) hg0 trivial (enters_of Tryd.func33 (by kernel_rfl) rfl) (each_seq 9 (by omega) (q9 + 1) (.slice (some ⟨q9, 0, none⟩) m m) m b (fun j => j < w.heap.size ∨ j = q9 ∨ j = q9 + 1) hS9 (fun ad cap e => by cases e; exact Nat.le_refl _) (by have := HM.out; omega) w3 N4.out.2.1) (fun _ _ _ _ h k => KeepC.trans h k) (fun _ W r o o' _ h ho => KeepC.put W r o o' h ho) (Below.refl _ _) (fun _ => rfl) (fun pre x V0 V1 hc => ⟨hc.1.size, fun k o _ hk _ => (hc.1.block k (Array.getElem?_eq_some_iff.1 hk).1).trans hk⟩)
      (fun pre W => PlI wr n2 ab k (.slice la k lc) b pre.length W) (fun _ _ _ => False) (fun pre x W => PlC wr n2 ab k (.slice la k lc) b m pre x W) (PlI.own9 HB9.out.1 (fun pre : List (Nat × Nat × Nat) => pre.length)) (fun _ _ _ _ _ hs _ _ => hs) (fun pre x => PlC.own9 HB9.out.1 pre x) (fun pre x V0 V1 h hc => PlC.come h hc) N4.out.1
      (fun x a' W => ∃ Bx, CBox W Bx 40 (insC b x) ∧ wr.heap.size < Bx ∧ a' = { tmps := (A0.tmps.setIfInBounds 126 (insX b x)).setIfInBounds 24 (.pointer (some ⟨Bx, 0, none⟩)), defers := [] })
      (fun x a' _ X Y row hs hg hr => by obtain ⟨Bx, h1, h2, h3⟩ := hs; exact ⟨Bx, CBox.own (β := Unit) _ _ (fun _ => insC b x) () X Y row h1 hg (fun r e => (hr r e).2), h2, h3⟩) ?assign ?body ?done ?stop)
    case stop =>
      rintro D c pre W _ _ h _
      exact h.elim
    case assign =>
      rintro l pre x W K hC hK
      have hx : insX b x = .agg #[.int .i64 (x.1 : Int), .int .i64 (b x.1 : Int), .slice (some ⟨x.2.1, 0, none⟩) (immA b x.1) (immA b x.1), .int .i64 (nxA b x.1 : Int)] := rfl
      have hBB : Below W.heap.size W (W.alloc (.cells #[.int .i64 (x.1 : Int), .int .i64 (b x.1 : Int), .slice (some ⟨x.2.1, 0, none⟩) (immA b x.1) (immA b x.1), .int .i64 (nxA b x.1 : Int)] 40)) := (Below.refl _ W).alloc (Nat.le_refl _) _
      have HF : Hid (∀ Bx : Nat, ({ tmps := (A0.tmps.setIfInBounds 126 (insX b x)).setIfInBounds 24 (.pointer (some ⟨Bx, 0, none⟩)), defers := [] } : Act) = { tmps := (A0.tmps.setIfInBounds 126 (insX b x)).setIfInBounds 24 (.pointer (some ⟨Bx, 0, none⟩)), defers := [] }) := fun _ => rfl
      obtain ⟨A1, hA1⟩ : ∃ A1, A0 = A1 := ⟨_, rfl⟩
      rw [hA1] at hK
      rw [← HA0.out]
      gi_wp2
      refine hK _ _ ((KeepsOthers.alloc _ _).from _) (KeepC.past hBB) (hC.past hBB) ⟨W.heap.size, CBox.new W _ _, hC.i.cn.lt, ?_⟩
      rw [← hA1, ← HA0.out]
      rfl
    case body =>
      rintro l pre x a' W hl ⟨r, hr⟩ hC ⟨Bx, h8, h9, rfl⟩
      have hck : pre.length < k := upto_lt hC.up HK.out.1
      obtain ⟨gl, hgl⟩ := HLG.out (by omega)
      subst hgl
      obtain ⟨ia, ic, d0, d1, d2, d3, hY⟩ := hC.i.ra.at M.out.hb pre.length hck
      have i0 := h8.cell 0
      have i1 := h8.cell 1
      have i2 := h8.cell 2
      have i3 := h8.cell 3
      simp only [insC, List.getElem?_cons_zero, List.getElem?_cons_succ] at i0 i1 i2 i3
      have hI := hC.ins
      rw [hC.at'] at i0 i1 i2 i3 hI
      rw [show nxA b (posA b pre.length) = posA b (pre.length + 1) from rfl] at i3
      have HBY : Hid (∀ V, Below W.heap.size W V → BytesOf V (.slice (some ⟨x.2.1, 0, none⟩) (immA b (posA b pre.length)) (immA b (posA b pre.length))) (immA b (posA b pre.length)) (fun j => b (posA b pre.length + 1 + j)) ∧ BytesOf V (.slice ia (immA b (posA b pre.length)) ic) (immA b (posA b pre.length)) (fun j => b (posA b pre.length + 1 + j))) := fun V hV => ⟨(hI.past hV).bytes, hY.below rfl hV⟩
      have cn := hC.i.cn.cell
      have al := hC.i.al.cell
      have HNE : Hid (∀ j, ((fun j => j < w.heap.size ∨ j = q9 ∨ j = q9 + 1) j ∨ j = x.2.2) → j ≠ wr.heap.size) := fun j hj => by have := HB9.out; have := hC.ne; rcases hj with (h | h | h) | h <;> omega
      have HLT : Hid (wr.heap.size < ab ∧ wr.heap.size < n2) := by have := HB9.out; exact ⟨by omega, by omega⟩
      have hPI := hC.i
      clear hC hI hY h8 h9
      generalize hcl : pre.length = c at *
      have HC : Hid (PlI wr n2 ab k (.slice (some ⟨gl, 0, none⟩) k lc) b c W ∧ pre.length = c) := ⟨hPI, hcl⟩
      clear hPI hcl
      generalize (fun j => b (posA b c + 1 + j)) = bi at HBY
      generalize immA b (posA b c) = n at HBY d2 i2
      generalize b (posA b c) = C at d1 i1
      generalize posA b (c + 1) = N at d3 i3
      generalize posA b c = A at d0 i0
      generalize x.2.1 = xq at HBY i2
      have HS : Hid (∀ V', Below W.heap.size W V' → V'.cell? ⟨wr.heap.size, 0, none⟩ = some (.int .i64 (c : Int)) ∧ V'.cell? ⟨ab, 0, none⟩ = some (.slice (some ⟨gl, 0, none⟩) k lc) ∧ V'.cell? ⟨Bx, 0, none⟩ = some (.int .i64 (A : Int)) ∧ V'.cell? ⟨Bx, 1, none⟩ = some (.int .i64 (C : Int)) ∧ V'.cell? ⟨Bx, 2, none⟩ = some (.slice (some ⟨xq, 0, none⟩) n n) ∧ V'.cell? ⟨Bx, 3, none⟩ = some (.int .i64 (N : Int)) ∧ V'.cell? ⟨gl, c * 4, none⟩ = some (.int .i64 (A : Int)) ∧ V'.cell? ⟨gl, c * 4 + 1, none⟩ = some (.int .i64 (C : Int)) ∧ V'.cell? ⟨gl, c * 4 + 2, none⟩ = some (.slice ia n ic) ∧ V'.cell? ⟨gl, c * 4 + 3, none⟩ = some (.int .i64 (N : Int))) := fun V' hV => ⟨cell_past9 hV cn, cell_past9 hV al, cell_past9 hV i0, cell_past9 hV i1, cell_past9 hV i2, cell_past9 hV i3, cell_past9 hV d0, cell_past9 hV d1, cell_past9 hV d2, cell_past9 hV d3⟩
      clear cn al i0 i1 i2 i3 d0 d1 d2 d3
      have q1 : ¬ (k : Int) ≤ (c : Int) := by omega
      have q2 : (c : Int) < (k : Int) := by omega
      obtain ⟨c1, hc1⟩ : ∃ x, x = c + 1 := ⟨_, rfl⟩
      have HC1 : Hid (c1 = c + 1) := hc1
      have hkk : k ≤ 70000 := by have := HK.out.2; have := HM.out; omega
      have u1 : (c : Int) + 1 = (c1 : Int) := by omega
      have u2 : IntKind.i64.wrap (c1 : Int) = (c1 : Int) := by rw [IntKind.wrap_i64]; omega
      clear hc1
      rw [← HA0.out]
      simp only [List.setIfInBounds_toArray, List.set_cons_zero, List.set_cons_succ]
      gi_wp2
      refine wpIn_region_heldR (S := fun V' => V'.cell? ⟨wr.heap.size, 0, none⟩ = some (.int .i64 (c : Int)) ∧ V'.cell? ⟨ab, 0, none⟩ = some (.slice (some ⟨gl, 0, none⟩) k lc) ∧ V'.cell? ⟨Bx, 0, none⟩ = some (.int .i64 (A : Int)) ∧ V'.cell? ⟨Bx, 1, none⟩ = some (.int .i64 (C : Int)) ∧ V'.cell? ⟨Bx, 2, none⟩ = some (.slice (some ⟨xq, 0, none⟩) n n) ∧ V'.cell? ⟨Bx, 3, none⟩ = some (.int .i64 (N : Int)) ∧ V'.cell? ⟨gl, c * 4, none⟩ = some (.int .i64 (A : Int)) ∧ V'.cell? ⟨gl, c * 4 + 1, none⟩ = some (.int .i64 (C : Int)) ∧ V'.cell? ⟨gl, c * 4 + 2, none⟩ = some (.slice ia n ic) ∧ V'.cell? ⟨gl, c * 4 + 3, none⟩ = some (.int .i64 (N : Int))) (by kernel_rfl) (by simp) (fun ⟨_, _, h⟩ => h) (HS.out _ below_drew9) (fun HH => ?_)
      have B1 : Hid (Below W.heap.size W W.drew) := below_drew9
      generalize W.drew = z1 at HH B1 ⊢
      refine wpAnyH_take (i := 0) (v := .int .i64 (c : Int)) ov0 (by kernel_rfl) (by kernel_rfl) (by kernel_rfl) (fun _ _ _ h => h) (Or.inl ⟨by rfl, fun V' hS => ?_⟩) HH ?_
      · have c0 := hS.1
        go_simp
      simp only [Act.put, List.setIfInBounds_toArray, List.set_cons_zero, List.set_cons_succ]
      refine wpAnyH_take (i := 1) (v := .slice (some ⟨gl, 0, none⟩) k lc) ov1 (by kernel_rfl) (by kernel_rfl) (by kernel_rfl) (fun _ _ _ h => h) (Or.inl ⟨by rfl, fun V' hS => ?_⟩) HH ?_
      · have c0 := hS.2.1
        go_simp
      simp only [Act.put, List.setIfInBounds_toArray, List.set_cons_zero, List.set_cons_succ]
      refine wpAnyH_take (i := 2) (v := .int .i64 (k : Int)) ov2 (by kernel_rfl) (by kernel_rfl) (by kernel_rfl) (fun _ _ _ h => h) (Or.inl ⟨by rfl, fun V' hS => ?_⟩) HH ?_
      · go_simp
      simp only [Act.put, List.setIfInBounds_toArray, List.set_cons_zero, List.set_cons_succ]
      refine wpAnyH_take (i := 3) (v := .bool false) ov3 (by kernel_rfl) (by kernel_rfl) (by kernel_rfl) (fun _ _ _ h => h) (Or.inl ⟨by rfl, fun V' hS => ?_⟩) HH ?_
      · go_simp
      simp only [Act.put, List.setIfInBounds_toArray, List.set_cons_zero, List.set_cons_succ]
      refine wpAnyH_take (i := 4) (v := .bool false) ov4 (by kernel_rfl) (by kernel_rfl) (by kernel_rfl) (fun _ _ _ h => h) (Or.inl ⟨by rfl, fun V' hS => ?_⟩) HH ?_
      · go_simp
      simp only [Act.put, List.setIfInBounds_toArray, List.set_cons_zero, List.set_cons_succ]
      refine wpAnyH_take (i := 5) (v := .agg #[.int .i64 (A : Int), .int .i64 (C : Int), .slice (some ⟨xq, 0, none⟩) n n, .int .i64 (N : Int)]) ov5 (by kernel_rfl) (by kernel_rfl) (by kernel_rfl) (fun _ _ _ h => h) (Or.inl ⟨by rfl, fun V' hS => ?_⟩) HH ?_
      · obtain ⟨_, _, c0, c1, c2, c3, _⟩ := hS
        go_simp
      simp only [Act.put, List.setIfInBounds_toArray, List.set_cons_zero, List.set_cons_succ]
      refine wpAnyH_take (i := 6) (v := .slice (some ⟨gl, 0, none⟩) k lc) ov6 (by kernel_rfl) (by kernel_rfl) (by kernel_rfl) (fun _ _ _ h => h) (Or.inl ⟨by rfl, fun V' hS => ?_⟩) HH ?_
      · have c0 := hS.2.1
        go_simp
      simp only [Act.put, List.setIfInBounds_toArray, List.set_cons_zero, List.set_cons_succ]
      refine wpAnyH_take (i := 7) (v := .int .i64 (c : Int)) ov7 (by kernel_rfl) (by kernel_rfl) (by kernel_rfl) (fun _ _ _ h => h) (Or.inl ⟨by rfl, fun V' hS => ?_⟩) HH ?_
      · have c0 := hS.1
        go_simp
      simp only [Act.put, List.setIfInBounds_toArray, List.set_cons_zero, List.set_cons_succ]
      refine wpAnyH_take (i := 8) (v := .pointer (some ⟨gl, c * 4, none⟩)) ov8 (by kernel_rfl) (by kernel_rfl) (by kernel_rfl) (fun _ _ _ h => h) (Or.inl ⟨by rfl, fun V' hS => ?_⟩) HH ?_
      · go_simp
      simp only [Act.put, List.setIfInBounds_toArray, List.set_cons_zero, List.set_cons_succ]
      refine wpAnyH_take (i := 9) (v := .agg #[.int .i64 (A : Int), .int .i64 (C : Int), .slice ia n ic, .int .i64 (N : Int)]) ov9 (by kernel_rfl) (by kernel_rfl) (by kernel_rfl) (fun _ _ _ h => h) (Or.inl ⟨by rfl, fun V' hS => ?_⟩) HH ?_
      · obtain ⟨_, _, _, _, _, _, c0, c1, c2, c3⟩ := hS
        go_simp
      simp only [Act.put, List.setIfInBounds_toArray, List.set_cons_zero, List.set_cons_succ]
      refine wpAnyH_ready (rs := [10]) (by kernel_rfl) (by simp) ?_
      refine AllReadyH.cons ov10 (fun K hK => ?_) AllReadyH.nil
      rw [if_pos (by rfl)]
      go_simp
      refine (same_is _ (A : Int) (C : Int) (N : Int) (.slice (some ⟨xq, 0, none⟩) n n) (.slice ia n ic) n bi bi (HBY.out _ B1.out).1 (HBY.out _ B1.out).2 (fun _ _ => rfl)).mono ?_
      rintro e z9 ⟨rfl, hB⟩
      have q9' := B1.out.trans (hB.mono B1.out.size)
      clear B1 hB
      have B1 : Hid (Below W.heap.size W z9) := q9'
      clear q9'
      (try go_wp2_with fail)
      refine hK.out _ _ (HS.out _ B1.out) (fun _ => ?_)
      clear hK K
      (try simp only [Act.put, List.setIfInBounds_toArray, List.set_cons_zero, List.set_cons_succ])
      generalize z9 = z1 at B1 ⊢
      refine wpAnyH_take (i := 11) (v := .bool false) ov11 (by kernel_rfl) (by kernel_rfl) (by kernel_rfl) (fun _ _ _ h => h) (Or.inl ⟨by rfl, fun V' hS => ?_⟩) (HS.out _ B1.out) ?_
      · go_simp
      simp only [Act.put, List.setIfInBounds_toArray, List.set_cons_zero, List.set_cons_succ]
      refine wpAnyH_take (i := 12) (v := .bool false) ov12 (by kernel_rfl) (by kernel_rfl) (by kernel_rfl) (fun _ _ _ h => h) (Or.inl ⟨by rfl, fun V' hS => ?_⟩) (HS.out _ B1.out) ?_
      · go_simp
      simp only [Act.put, List.setIfInBounds_toArray, List.set_cons_zero, List.set_cons_succ]
      refine wpAnyH_done (by kernel_rfl) ?_ _
      have c0 : z1.cell? ⟨wr.heap.size, 0, none⟩ = some (.int .i64 (c : Int)) := (HS.out _ B1.out).1
      have PI : Hid (PlI wr n2 ab k (.slice (some ⟨gl, 0, none⟩) k lc) b c z1) := HC.out.1.past B1.out
      have f0 := PI.out.cn.frozen
      clear HS HBY
      gi_wp2
      refine ⟨?_, ?_, ?_⟩
      · exact KeepsFrom.trans ⟨B1.out.size, fun q o _ hq _ => (B1.out.block q (Array.getElem?_eq_some_iff.1 hq).1).trans hq⟩ ((KeepsOthers.setCell _ _ _).from _)
      · exact KeepC.trans (KeepC.past B1.out) (fun j hj o v hv => (World.cell?_setCell_other _ _ _ _ (fun e => by injection e with e _ _; exact HNE.out j hj e.symm)).trans hv)
      · have h9 := PI.out.step HLT.out.1 HLT.out.2 c1
        show PlI wr n2 ab k _ b (pre ++ [x]).length _
        rw [show (pre ++ [x]).length = c1 by rw [List.length_append, List.length_singleton, HC.out.2, HC1.out]]
        exact h9
    case done =>
      rintro D xs W hD ⟨hFit, hFull⟩ hI hdd
      have hxk : xs.length = k := fullA_one hFull HK.out.1
      rw [hxk] at hI
      rw [← HA0.out]
      have HMD : Hid (Mrk w.heap.size (i + 1) ({ target := .collected D, args := #[] } :: ds) W ∧ i ≤ 21) := ⟨MK.out.1.cons (KeepsLD.below (HBL.out.past hI.be)) HWQ.out (by have h1 := Below.size HBL.out; have h2 := HB9.out.1; omega) hdd, MK.out.2⟩
      have HDL : Hid (({ target := .collected D, args := #[] } :: ds : List Deferred).length = i + 1) := by show _ = _; rw [List.length_cons, DL.out]
      have M2 : Hid (PyM w W g m cap na nc b) := M.out.past hI.be
      have cn := hI.cn.cell
      have al := hI.al.cell
      clear hFit hFull hI hdd hxk hD HA0 M HBL N4 HLG HN2 HB9 HQ9 hS9 hg0
      dsimp only
      generalize ({ target := .collected D, args := #[] } :: ds : List Deferred) = ds1 at HMD HDL ⊢
      have kI : (k : Int) ≤ 70000 := by have := HK.out.2; have := HM.out; omega
      obtain ⟨i1, hi1⟩ : ∃ x, x = i + 1 := ⟨_, rfl⟩
      have HI1 : Hid (i1 = i + 1) := hi1
      have v1 : (i : Int) + 1 = (i1 : Int) := by omega
      have v2 : IntKind.i64.wrap (i1 : Int) = (i1 : Int) := by rw [IntKind.wrap_i64]; have := HI.out; omega
      clear hi1
      by_cases e1 : i < tn
      rotate_left
      · as_aux_lemma =>
          have r1 : ¬ (i : Int) < (tn : Int) := by omega
          clear e1
          go_wp2
          refine ⟨⟨i1, b, ds1, ?_⟩, ?_⟩
          · (repeat apply Exists.intro)
            exact ⟨rfl, by have := HI.out; have := HI1.out; omega, by have := HI.out; have := HI1.out; omega, M2.out, by rw [HI1.out]; exact HMD.out.1⟩
          · show 22 - ds1.length < 22 - ds.length
            have h1 := HDL.out
            have h2 := DL.out
            have h3 := HI.out
            omega
      have r1 : (i : Int) < (tn : Int) := by omega
      by_cases e2 : 0 < m
      rotate_left
      · as_aux_lemma =>
          have r2 : ¬ (0 : Int) < (m : Int) := by omega
          clear e2
          go_wp2
          refine ⟨⟨i1, b, ds1, ?_⟩, ?_⟩
          · (repeat apply Exists.intro)
            exact ⟨rfl, by have := HI.out; have := HI1.out; omega, by have := HI.out; have := HI1.out; omega, M2.out, by rw [HI1.out]; exact HMD.out.1⟩
          · show 22 - ds1.length < 22 - ds.length
            have h1 := HDL.out
            have h2 := DL.out
            have h3 := HI.out
            omega
      have r2 : (0 : Int) < (m : Int) := by omega
      have HE : Hid (i < tn ∧ 0 < m) := ⟨e1, e2⟩
      clear e1 e2
      obtain ⟨tg, tq, hta, htc⟩ := HTN.out.1 (by have := HE.out; omega)
      subst hta
      have HTG : Hid (tg < w.heap.size) := World.block_lt_of_cell? w _ (htc i HE.out.1).1
      have t0 := cell_past9 M2.out.be (htc i HE.out.1).1
      have t1 := cell_past9 M2.out.be (htc i HE.out.1).2
      clear htc
      generalize z0 i = y0 at t0
      generalize z1 i = y1 at t1
      obtain ⟨rk, hr⟩ : ∃ r, r = Int.tmod y0 (m : Int) := ⟨_, rfl⟩
      have HR1 : Hid (-(m : Int) < rk ∧ rk < (m : Int)) := by
        have h1 := HE.out.2
        have h2 := Int.natAbs_tmod y0 (m : Int)
        have h3 := Nat.mod_lt y0.natAbs (show 0 < (m : Int).natAbs by omega)
        rw [← h2, ← hr] at h3
        unfold Hid
        omega
      have e1 : Int.tmod y0 (m : Int) = rk := hr.symm
      have e2 : IntKind.i64.wrap rk = rk := by have := HR1.out; have := HM.out; rw [IntKind.wrap_i64]; omega
      have e3 : ¬ (m : Int) = 0 := by have := HE.out; omega
      have e4 : ((m : Int) == 0) = false := by rw [beq_eq_false_iff_ne]; exact e3
      clear hr
      go_upto_region 33 with fail
      clear e1 e2 e3 e4 t0 r2
      obtain ⟨qn, hqn⟩ := HNA.out (by have := HE.out; omega)
      subst hqn
      obtain ⟨yn, hyn, hy8⟩ : ∃ yn : Nat, IntKind.u8.wrap y1 = (yn : Int) ∧ yn < 256 := ⟨(IntKind.u8.wrap y1).toNat, by rw [IntKind.wrap_u8]; omega, by rw [IntKind.wrap_u8]; omega⟩
      have HY8 : Hid (yn < 256) := hy8
      clear hy8
      by_cases er : rk < 0
      · as_aux_lemma =>
          have q3 : rk < 0 := er
          obtain ⟨kn, hm⟩ : ∃ kn : Nat, (kn : Int) = rk + (m : Int) := ⟨(rk + (m : Int)).toNat, by have := HR1.out; omega⟩
          have HKN : Hid (kn < m) := by have := HR1.out; unfold Hid; omega
          have e5 : rk + (m : Int) = (kn : Int) := hm.symm
          have e6 : IntKind.i64.wrap (kn : Int) = (kn : Int) := by have := HM.out; have := HKN.out; rw [IntKind.wrap_i64]; omega
          clear hm er
          go_upto_region 35 with fail
          clear q3 e5 e6 HR1
          have cg : W.cell? ⟨g, kn, none⟩ = some (.int .u8 (b kn : Int)) := by rw [M2.out.rw'.cellAt kn (by have := HKN.out; omega), bsL_get _ _ kn (by have := HKN.out; omega), show mkB m b kn = b kn by unfold mkB; rw [if_pos HKN.out]]
          have fg := M2.out.rw'.frozenAt kn
          have HT : Hid (PyM w ((W.setCell ⟨g, kn, none⟩ (.int .u8 (yn : Int))).setCell ⟨qn, kn, none⟩ (.int .u8 (yn : Int))) g m cap (some ⟨qn, 0, none⟩) nc (fun j => if j = kn then yn else b j)) := M2.out.turn HKN.out HY8.out
          have HMD2 : Hid (Mrk w.heap.size (i + 1) ds1 ((W.setCell ⟨g, kn, none⟩ (.int .u8 (yn : Int))).setCell ⟨qn, kn, none⟩ (.int .u8 (yn : Int)))) := M2.out.mrk HMD.out.1 kn _
          have hqg : qn ≠ g := M2.out.ne qn rfl
          have hro := ownsRow_setCell_other M2.out.rn (a := ⟨g, kn, none⟩) (fun e => by injection e with e; exact hqg e) (.int .u8 (yn : Int))
          have cq : (W.setCell ⟨g, kn, none⟩ (.int .u8 (yn : Int))).cell? ⟨qn, kn, none⟩ = some (.int .u8 (b kn : Int)) := by rw [hro.cellAt kn (by have := HKN.out; omega), bsL_get _ _ kn HKN.out]
          have fq := hro.frozenAt kn
          have t2 : (W.setCell ⟨g, kn, none⟩ (.int .u8 (yn : Int))).cell? ⟨tg, tq + i * 2 + 1, none⟩ = some (.int .i64 y1) := (World.cell?_setCell_other _ _ _ _ (fun e => by injection e with e _ _; have h1 := HTG.out; have h2 := (M2.out.rw'.lt g rfl).1; omega)).trans t1
          clear hro
          have knI : (kn : Int) < (m : Int) := by have := HKN.out; omega
          have knB : (kn : Int) < 1152921504606846976 := by have := HKN.out; have := HM.out; omega
          go_upto_region 36 with fail
          clear cg fg t1
          generalize W.setCell ⟨g, kn, none⟩ (.int .u8 (yn : Int)) = W5 at cq fq t2 HT HMD2 ⊢
          go_wp2
          refine ⟨⟨i1, (fun j => if j = kn then yn else b j), ds1, ?_⟩, ?_⟩
          · (repeat apply Exists.intro)
            exact ⟨rfl, by have := HI.out; have := HI1.out; omega, by have := HI.out; have := HI1.out; omega, HT.out, by rw [HI1.out]; exact HMD2.out⟩
          · show 22 - ds1.length < 22 - ds.length
            have h1 := HDL.out
            have h2 := DL.out
            have h3 := HI.out
            omega
      as_aux_lemma =>
        have q3 : ¬ rk < 0 := er
        obtain ⟨kn, hm⟩ : ∃ kn : Nat, rk = (kn : Int) := ⟨rk.toNat, by omega⟩
        subst hm
        have HKN : Hid (kn < m) := by have := HR1.out; unfold Hid; omega
        clear er
        go_upto_region 35 with fail
        clear q3 HR1
        have cg : W.cell? ⟨g, kn, none⟩ = some (.int .u8 (b kn : Int)) := by rw [M2.out.rw'.cellAt kn (by have := HKN.out; omega), bsL_get _ _ kn (by have := HKN.out; omega), show mkB m b kn = b kn by unfold mkB; rw [if_pos HKN.out]]
        have fg := M2.out.rw'.frozenAt kn
        have HT : Hid (PyM w ((W.setCell ⟨g, kn, none⟩ (.int .u8 (yn : Int))).setCell ⟨qn, kn, none⟩ (.int .u8 (yn : Int))) g m cap (some ⟨qn, 0, none⟩) nc (fun j => if j = kn then yn else b j)) := M2.out.turn HKN.out HY8.out
        have HMD2 : Hid (Mrk w.heap.size (i + 1) ds1 ((W.setCell ⟨g, kn, none⟩ (.int .u8 (yn : Int))).setCell ⟨qn, kn, none⟩ (.int .u8 (yn : Int)))) := M2.out.mrk HMD.out.1 kn _
        have hqg : qn ≠ g := M2.out.ne qn rfl
        have hro := ownsRow_setCell_other M2.out.rn (a := ⟨g, kn, none⟩) (fun e => by injection e with e; exact hqg e) (.int .u8 (yn : Int))
        have cq : (W.setCell ⟨g, kn, none⟩ (.int .u8 (yn : Int))).cell? ⟨qn, kn, none⟩ = some (.int .u8 (b kn : Int)) := by rw [hro.cellAt kn (by have := HKN.out; omega), bsL_get _ _ kn HKN.out]
        have fq := hro.frozenAt kn
        have t2 : (W.setCell ⟨g, kn, none⟩ (.int .u8 (yn : Int))).cell? ⟨tg, tq + i * 2 + 1, none⟩ = some (.int .i64 y1) := (World.cell?_setCell_other _ _ _ _ (fun e => by injection e with e _ _; have h1 := HTG.out; have h2 := (M2.out.rw'.lt g rfl).1; omega)).trans t1
        clear hro
        have knI : (kn : Int) < (m : Int) := by have := HKN.out; omega
        have knB : (kn : Int) < 1152921504606846976 := by have := HKN.out; have := HM.out; omega
        go_upto_region 36 with fail
        clear cg fg t1
        generalize W.setCell ⟨g, kn, none⟩ (.int .u8 (yn : Int)) = W5 at cq fq t2 HT HMD2 ⊢
        go_wp2
        refine ⟨⟨i1, (fun j => if j = kn then yn else b j), ds1, ?_⟩, ?_⟩
        · (repeat apply Exists.intro)
          exact ⟨rfl, by have := HI.out; have := HI1.out; omega, by have := HI.out; have := HI1.out; omega, HT.out, by rw [HI1.out]; exact HMD2.out⟩
        · show 22 - ds1.length < 22 - ds.length
          have h1 := HDL.out
          have h2 := DL.out
          have h3 := HI.out
          omega
theorem codePlays_walk (w : World) (hN : Nms w) (v : Value) (L0 : Nat) (b0 : Nat → Nat) (hL : L0 ≤ 9223372036854775807) (hv : BytesOf w v L0 b0) (ta : Option Addr) (tn tc : Nat) (z0 z1 : Nat → Int) (htn : tn ≤ 9223372036854775807) (ht : TnAt w ta tn z0 z1) : Calls Tryd.prog 3 #[v, .slice ta tn tc] w fun e w' => e = .returned (.bool true) ∧ Below w.heap.size w w' := callsIn_wide.1 (codePlays_in w hN v L0 b0 hL hv ta tn tc z0 z1 htn ht)
end Go.Proofs.YtcjmbpchdeapiaaDoor
