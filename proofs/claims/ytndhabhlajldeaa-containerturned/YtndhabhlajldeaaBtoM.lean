/- ContainerCuts: the walk. -/
import Derived.Test.YtndhabhlajldeaaBtkM
import Derived.Test.YtndhabhlajldeaaBtmM
import Derived.Test.YtndhabhlajldeaaBsf
import Derived.Test.YtndhabhlajldeaaFcuM
namespace Go.Proofs.Ytndhabhlajldeaa
open Go.RowKit
/-- a law's container in its box -/
structure CtM (bx : Nat) (w W : World) (L : List Value) (c : Con) : Prop where
  cb : CBox W bx 28 L
  cw : CW (fun _ => True) W (.agg L.toArray) c
  bel : Below w.heap.size w W
theorem CtM.past {bx : Nat} {w W W' : World} {L : List Value} {c : Con} (h : CtM bx w W L c) (k : Below W.heap.size W W') : CtM bx w W' L c := ⟨h.cb.past k, h.cw.past k, h.bel.trans (k.mono h.bel.size)⟩
theorem BL.take {P : Nat → Prop} {W : World} {ad : Option Addr} {n cap : Nat} {l : List Nat} (h : BL P W (.slice ad n cap) l) {m : Nat} (hm : m ≤ l.length) : BL P W (.slice ad m cap) (l.take m) := by
  have e0 : (l.take m).length = m := by rw [List.length_take]; omega
  have e1 : bV (l.take m) = (bV l).take m := by simp [bV, List.map_take]
  obtain ⟨h0, ad', cap', e, h1, h2, hz, h3⟩ := h
  injection e with e2 e3 e4
  subst e2 e3 e4
  unfold BL SL
  rw [e0, e1]
  refine ⟨by rw [List.length_take, bV_len]; omega, ad, cap, rfl, by omega, by omega, hz, fun hp => ?_⟩
  obtain ⟨g, a, e5, h4, h5, h6⟩ := h3 (by omega)
  refine ⟨g, a, e5, h4, h5, fun i x hx => h6 i x ?_⟩
  rw [List.getElem?_take] at hx
  split at hx
  · exact hx
  · cases hx
theorem slice_upto (a : Addr) (n cap j : Nat) (hj : j ≤ cap) (W : World) : Sem.run Try.prog (Instr.slice 22 (.slice (some a) n cap) none (some (.int .i64 (j : Int))) none) W = .ok (.slice (some a) j cap) W := by
  obtain ⟨g, k, p⟩ := a
  simp [Instr.slice, Instr.sliceBounds, run_underlying Try.underlying22, run_sliceBound W .i64 (j : Int) cap _ (by omega) (by omega), Addr.add]
theorem own_some {W : World} {B n : Nat} {ad : Option Addr} {cap : Nat} {cs : List Value} (h : W.ownsRow B 5 1 (.slice ad n cap) n cs) (h0 : 0 < cs.length) (hn : n ≤ 1152921504606846976) : ∃ a, ad = some a ∧ n ≤ cap := by
  obtain ⟨h1, ad', cap', e, h2, _, hz, h4⟩ := SL.own (P := fun _ => True) h hn (fun _ _ => trivial)
  injection e with e2 e3 e4
  clear e3
  subst e2 e4
  obtain ⟨g, a, e5, _⟩ := h4 (by omega)
  exact ⟨_, e5, h2⟩
set_option maxHeartbeats 8000000 in
set_option maxRecDepth 100000 in
theorem containerCuts_walk (w : World) (v : Value) (c : Con) (z : Int) (u : Value) (t : List Nat) (h : CW (fun _ => True) w v c) (hbc : BytC c) (hz : -9223372036854775808 ≤ z ∧ z ≤ 9223372036854775807) (hu : BL (fun _ => True) w u t) (htb : Byt t) (htl : t.length ≤ 140737488355328) : Calls Try.prog 10 #[v, .int .i64 z, u] w fun e w' => e = .returned (.bool true) ∧ Below w.heap.size w w' := by
  obtain ⟨ta, tc, ca, cc, sa, sc, da, dc, rfl⟩ := cw_form h
  obtain ⟨ua, uc, rfl, _, _⟩ := hu.len
  have b1 := below_alloc w (.cells #[.slice ta c.ts.length tc, .slice ca c.cs.length cc, .slice sa c.ss.length sc, .slice da c.d.length dc, .int .i64 c.n] 28)
  have M0 : Hid (CtM w.heap.size w (w.alloc (.cells #[.slice ta c.ts.length tc, .slice ca c.cs.length cc, .slice sa c.ss.length sc, .slice da c.d.length dc, .int .i64 c.n] 28)) [.slice ta c.ts.length tc, .slice ca c.cs.length cc, .slice sa c.ss.length sc, .slice da c.d.length dc, .int .i64 c.n] c) := ⟨CBox.new w _ [_, _, _, _, _], h.past b1, b1⟩
  have HU : Hid (∀ W, Below w.heap.size w W → BL (fun _ => True) W (.slice ua t.length uc) t) := fun W hW => hu.past hW
  have HBC : Hid (BytC c) := hbc
  have HTB : Hid (Byt t) := htb
  have nT : (t.length : Int) ≤ 140737488355328 := by omega
  have HZ0 : Hid (-9223372036854775808 ≤ z ∧ z ≤ 9223372036854775807) := hz
  clear h hbc hz hu htb htl b1
  go_enter Try.func10, Try.ntmps10
  go_upto_region 1 with fail
  generalize w.heap.size = bx at M0 ⊢
  generalize w.alloc _ = W0 at M0 ⊢
  refine wp_region_lit ?_
  refine lst_val (v := .agg #[.slice ta c.ts.length tc, .slice ca c.cs.length cc, .slice sa c.ss.length sc, .slice da c.d.length dc, .int .i64 c.n]) (by kernel_rfl) ?_ ?_
  · have a0 := M0.out.cb.cell 0; have a1 := M0.out.cb.cell 1; have a2 := M0.out.cb.cell 2; have a3 := M0.out.cb.cell 3; have a4 := M0.out.cb.cell 4
    go_simp
  simp only [Act.put, List.setIfInBounds_toArray, List.set_cons_zero, List.set_cons_succ]
  refine lst_call (by kernel_rfl) (by first | (go_simp; done) | (go_simp; first | exact rfl | exact ⟨rfl, rfl⟩ | exact ⟨rfl, rfl, rfl⟩)) (weight_is _ _ c M0.out.cw) ?_
  rintro e w1 ⟨⟨n, rfl, hn⟩, hB⟩
  refine ⟨_, rfl, ?_⟩
  have M1 : Hid (CtM bx w w1 [.slice ta c.ts.length tc, .slice ca c.cs.length cc, .slice sa c.ss.length sc, .slice da c.d.length dc, .int .i64 c.n] c) := M0.out.past hB
  have HWT : Hid (n ≤ 2097152 → total c = n) := hn
  clear hn hB M0
  simp only [Act.put, List.setIfInBounds_toArray, List.set_cons_zero, List.set_cons_succ]
  by_cases en : n ≤ 2097152
  rotate_left
  · have q1 : (2097152 : Int) < (n : Int) := by omega
    clear en HWT
    go_wp2
    go_ret
    exact ⟨rfl, M1.out.bel⟩
  have q1 : ¬ (2097152 : Int) < (n : Int) := by omega
  by_cases et : t.length ≤ 2097152
  rotate_left
  · have q2 : (2097152 : Int) < (t.length : Int) := by omega
    clear en et HWT
    go_wp2
    go_ret
    exact ⟨rfl, M1.out.bel⟩
  have q2 : ¬ (2097152 : Int) < (t.length : Int) := by omega
  have HTL : Hid (t.length ≤ 2097152) := et
  have HTO : Hid (total c ≤ 2097152) := by have := HWT.out en; unfold Hid; omega
  have HSM : Hid (Small c) := total_small HTO.out
  clear en et HWT
  go_upto_region 3 with fail
  clear q1 q2
  go_upto_region 5 with (go_at_call 16; refine (able_is _).mono ?_; rintro e w2 ⟨rfl, hB⟩; (have M2 : Hid (CtM bx w w2 [.slice ta c.ts.length tc, .slice ca c.cs.length cc, .slice sa c.ss.length sc, .slice da c.d.length dc, .int .i64 c.n] c) := M1.out.past hB); (clear hB M1))
  have a0 : w2.cell? ⟨bx, 0, none⟩ = some (.slice ta c.ts.length tc) := M2.out.cb.cell 0
  have a1 : w2.cell? ⟨bx, 1, none⟩ = some (.slice ca c.cs.length cc) := M2.out.cb.cell 1
  have a2 : w2.cell? ⟨bx, 2, none⟩ = some (.slice sa c.ss.length sc) := M2.out.cb.cell 2
  have a3 : w2.cell? ⟨bx, 3, none⟩ = some (.slice da c.d.length dc) := M2.out.cb.cell 3
  have a4 : w2.cell? ⟨bx, 4, none⟩ = some (.int .i64 c.n) := M2.out.cb.cell 4
  by_cases hm : May c
  rotate_left
  · have HMN : Hid (¬ May c) := hm
    clear hm
    go_wp2_with (go_at_call 40; refine (may_no _ _ c M2.out.cw HMN.out).mono ?_; rintro e w3 ⟨rfl, hB⟩; (have B3 : Hid (Below w.heap.size w w3) := M2.out.bel.trans (hB.mono M2.out.bel.size)); (clear hB))
    go_ret
    exact ⟨rfl, B3.out⟩
  have HMY : Hid (May c) := hm
  clear hm
  by_cases hd : (c.d.length : Int) = c.n
  rotate_left
  · have q1 : ((c.d.length : Int) == c.n) = false := by simp [hd]
    clear hd
    go_wp2_with (go_at_call 40; refine (may_yes _ _ c M2.out.cw HMY.out).mono ?_; rintro e w3 ⟨rfl, hB⟩; (have M3 : Hid (CtM bx w w3 [.slice ta c.ts.length tc, .slice ca c.cs.length cc, .slice sa c.ss.length sc, .slice da c.d.length dc, .int .i64 c.n] c) := M2.out.past hB); (clear hB); (have k3 : w3.cell? ⟨bx, 3, none⟩ = some (.slice da c.d.length dc) := M3.out.cb.cell 3); (have k4 : w3.cell? ⟨bx, 4, none⟩ = some (.int .i64 c.n) := M3.out.cb.cell 4))
    go_ret
    exact ⟨rfl, M3.out.bel⟩
  have q1 : ((c.d.length : Int) == c.n) = true := by simp [hd]
  obtain ⟨bs, hbs⟩ : ∃ bs, bs = ser c := ⟨_, rfl⟩
  have hp : prs bs false = .ok c := by rw [hbs]; exact prs_ser HMY.out false (fun _ => hd)
  have hby : Byt bs := by rw [hbs]; exact ser_byt HBC.out.1 HBC.out.2.1 HBC.out.2.2
  have hb67 : bs.length ≤ 2200000 := by
    have h1 := ser_total HMY.out
    have h2 := HTO.out
    have h3 := HMY.out.n2
    have h4 := HMY.out.ns
    rw [sum_lns, sum_lns, ← hbs] at h1
    unfold total fourOf at h2
    unfold endOf at h1
    split at h1 <;> omega
  have hb20 : 20 ≤ bs.length := by
    have h1 := ser_total HMY.out
    have h3 := HMY.out.n1
    have h5 := sum_pos HMY.out
    rw [← hbs] at h1
    unfold endOf at h1
    split at h1 <;> omega
  have HBS : Hid (bs.length ≤ 2200000) := hb67
  obtain ⟨bt, hbt⟩ : ∃ bt, bt = bs ++ t := ⟨_, rfl⟩
  have HBT : Hid (bs ++ t = bt) := hbt.symm
  have HB20 : Hid (20 ≤ bs.length) := hb20
  have SE : Hid (∀ (W : World) (R : Nat → Prop) (u : Value), CW R W u c → Calls Try.prog 35 #[u] W fun e w' => (∃ oa oc, e = .returned (.tuple #[.slice (some oa) bs.length oc, .int .i64 0]) ∧ bs.length ≤ oc ∧ w'.ownsRow W.heap.size 5 1 (.slice (some oa) bs.length oc) bs.length (bV bs)) ∧ Below W.heap.size W w') := fun W R u q => (serialize_is W u c q HSM.out).mono fun e w' q9 => by
    obtain ⟨v', rfl, hO, hB⟩ := q9
    have e1 : serR c = bs := by unfold serR; rw [if_pos (may_chk HMY.out), hbs]
    rw [e1] at hO
    obtain ⟨oa, oc, rfl⟩ := owns_sl hO
    obtain ⟨a, rfl, hc⟩ := own_some hO (by rw [bV_len]; omega) (by omega)
    exact ⟨⟨a, oc, by rw [may_chk HMY.out], hc, hO⟩, hB⟩
  have PT : Hid (∀ (W : World) (R : Nat → Prop) (u : Value) (m : Nat) (_ : m < bs.length), BL R W u (bs.take m) → Calls Try.prog 31 #[u, .bool false] W fun e w' => (∃ ta tc ca cc sa sc da dc, e = .returned (.tuple #[.agg #[.slice ta 0 tc, .slice ca 0 cc, .slice sa 0 sc, .slice da 0 dc, .int .i64 0], .agg #[.int .i64 50, .slice none 0 0, .int .i64 0, .int .i64 (m : Int)]])) ∧ Below W.heap.size W w') := fun W R u m hm q => (parse_ans W u (bs.take m) false q (byt_take hby m) (by rw [List.length_take]; omega)).mono fun e w' q9 => by
    rw [prs_take hp hm] at q9
    obtain ⟨⟨ta, tc, ca, cc, sa, sc, da, dc, e9, _⟩, hB⟩ := q9
    exact ⟨⟨ta, tc, ca, cc, sa, sc, da, dc, e9⟩, hB⟩
  have PM0 : Hid (t.length ≠ 0 → Hid (∀ (W : World) (R : Nat → Prop) (u : Value) (o' : Bool), BL R W u bt → Calls Try.prog 31 #[u, .bool o'] W fun e w' => (∃ ta tc ca cc sa sc da dc, e = .returned (.tuple #[.agg #[.slice ta 0 tc, .slice ca 0 cc, .slice sa 0 sc, .slice da 0 dc, .int .i64 0], .agg #[.int .i64 58, .slice none 0 0, .int .i64 0, .int .i64 (bs.length : Int)]])) ∧ Below W.heap.size W w')) := fun ht W R u o' q => (parse_ans W u bt o' q (by rw [hbt]; exact byt_app hby HTB.out) (by rw [hbt, List.length_append]; have := HTL.out; omega)).mono fun e w' q9 => by
    rw [hbt, prs_more hp ht o'] at q9
    obtain ⟨⟨ta, tc, ca, cc, sa, sc, da, dc, e9, _⟩, hB⟩ := q9
    exact ⟨⟨ta, tc, ca, cc, sa, sc, da, dc, e9⟩, hB⟩
  clear hd hbs hp hby hb67 hb20 hbt
  go_upto_region 7 with (go_at_call 40; refine (may_yes _ _ c M2.out.cw HMY.out).mono ?_; rintro e w3 ⟨rfl, hB⟩; (have M3 : Hid (CtM bx w w3 [.slice ta c.ts.length tc, .slice ca c.cs.length cc, .slice sa c.ss.length sc, .slice da c.d.length dc, .int .i64 c.n] c) := M2.out.past hB); (clear hB); (have k3 : w3.cell? ⟨bx, 3, none⟩ = some (.slice da c.d.length dc) := M3.out.cb.cell 3); (have k4 : w3.cell? ⟨bx, 4, none⟩ = some (.int .i64 c.n) := M3.out.cb.cell 4))
  clear k3 k4 q1 a0 a1 a2 a3 a4 M2
  have a0 : w3.cell? ⟨bx, 0, none⟩ = some (.slice ta c.ts.length tc) := M3.out.cb.cell 0
  have a1 : w3.cell? ⟨bx, 1, none⟩ = some (.slice ca c.cs.length cc) := M3.out.cb.cell 1
  have a2 : w3.cell? ⟨bx, 2, none⟩ = some (.slice sa c.ss.length sc) := M3.out.cb.cell 2
  have a3 : w3.cell? ⟨bx, 3, none⟩ = some (.slice da c.d.length dc) := M3.out.cb.cell 3
  have a4 : w3.cell? ⟨bx, 4, none⟩ = some (.int .i64 c.n) := M3.out.cb.cell 4
  go_upto_region 8 with (first | (go_at_call 19; refine (twin_is _ _ c M3.out.cw HSM.out).mono ?_; rintro e w4 ⟨v4, rfl, hD, hB⟩; (have N4 : Hid (CtM bx w w4 [.slice ta c.ts.length tc, .slice ca c.cs.length cc, .slice sa c.ss.length sc, .slice da c.d.length dc, .int .i64 c.n] c ∧ CW (fun _ => True) w4 v4 c) := ⟨M3.out.past hB, (hD.cw HSM.out).mono fun _ _ _ => trivial⟩); (clear hD hB)) | (go_at_call 35; refine (SE.out _ _ _ N4.out.2).mono ?_; rintro e w5 ⟨⟨oa, oc, rfl, hc, hO⟩, hB⟩; (have M5 : Hid (CtM bx w w5 [.slice ta c.ts.length tc, .slice ca c.cs.length cc, .slice sa c.ss.length sc, .slice da c.d.length dc, .int .i64 c.n] c) := N4.out.1.past hB); (have HOC : Hid (bs.length ≤ oc) := hc); (have BR : Hid (w5.ownsRow w.heap.size 5 1 (.slice (some oa) bs.length oc) bs.length (bV bs)) := owns_base hO N4.out.1.bel.size); (clear hO hB hc)))
  clear N4 M3 a0 a1 a2 a3 a4 SE
  have q1 : ¬ (bs.length : Int) < 20 := by have := HB20.out; omega
  go_upto_region 10 with fail
  clear q1
  obtain ⟨r, hr⟩ : ∃ r, r = Int.tmod z (bs.length : Int) := ⟨_, rfl⟩
  have hr1 : -(bs.length : Int) < r ∧ r < (bs.length : Int) := by
    have h1 := HB20.out
    have h2 := Int.natAbs_tmod z (bs.length : Int)
    have h3 := Nat.mod_lt z.natAbs (show 0 < (bs.length : Int).natAbs by omega)
    rw [← h2, ← hr] at h3
    omega
  have e1 : Int.tmod z (bs.length : Int) = r := hr.symm
  have e2 : IntKind.i64.wrap r = r := by have := HBS.out; rw [IntKind.wrap_i64]; omega
  have e3 : ¬ (bs.length : Int) = 0 := by have := HB20.out; omega
  have e4 : ((bs.length : Int) == 0) = false := by rw [beq_eq_false_iff_ne]; exact e3
  clear hr
  have HR1 : Hid (-(bs.length : Int) < r ∧ r < (bs.length : Int)) := hr1
  clear hr1
  go_upto_region 11 with fail
  clear e1 e2 e3 e4 HZ0
  by_cases er : r < 0
  · have q3 : r < 0 := er
    obtain ⟨m, hm⟩ : ∃ m : Nat, (m : Int) = r + (bs.length : Int) := ⟨(r + (bs.length : Int)).toNat, by have := HR1.out; omega⟩
    have HMB : Hid (m < bs.length) := by have := HR1.out; unfold Hid; omega
    have e5 : r + (bs.length : Int) = (m : Int) := hm.symm
    have e6 : IntKind.i64.wrap (m : Int) = (m : Int) := by have := HBS.out; have := HMB.out; rw [IntKind.wrap_i64]; omega
    clear hm er
    go_upto_region 13 with fail
    clear q3 e5 e6 HR1
    have HSL : Hid (∀ W, Sem.run Try.prog (Instr.slice 22 (.slice (some oa) bs.length oc) none (some (.int .i64 (m : Int))) none) W = .ok (.slice (some oa) m oc) W) := fun W => slice_upto oa bs.length oc m (by have := HMB.out; have := HOC.out; omega) W
    have BM : Hid (BL (fun _ => True) w5 (.slice (some oa) m oc) (bs.take m)) := BL.take (SL.own BR.out (by have := HBS.out; omega) (fun _ _ => trivial)) (by have := HMB.out; omega)
    have hsl := HSL.out
    go_upto_region 14 with (first | (go_at_call 32; refine (own_is _ _ _ BM.out (by rw [List.length_take]; have := HBS.out; omega)).mono ?_; rintro e w6 ⟨v6, rfl, hO, hB⟩; (have N6 : Hid (BL (fun _ => True) w6 v6 (bs.take m) ∧ Below w.heap.size w w6 ∧ w6.ownsRow w.heap.size 5 1 (.slice (some oa) bs.length oc) bs.length (bV bs)) := ⟨SL.own (by rw [show ((bs.take m).length) = (bs.take m).length from rfl]; exact hO) (by rw [List.length_take]; have := HBS.out; omega) (fun _ _ => trivial), M5.out.bel.trans (hB.mono M5.out.bel.size), owns_past BR.out hB⟩); (clear hO hB)) | (go_at_call 31; refine (PT.out _ _ _ m HMB.out N6.out.1).mono ?_; rintro e w7 ⟨⟨ta1, tc1, ca1, cc1, sa1, sc1, da1, dc1, rfl⟩, hB⟩; (have N7 : Hid (Below w.heap.size w w7 ∧ w7.ownsRow w.heap.size 5 1 (.slice (some oa) bs.length oc) bs.length (bV bs)) := ⟨N6.out.2.1.trans (hB.mono N6.out.2.1.size), owns_past N6.out.2.2 hB⟩); (clear hB)))
    clear hsl
    have T2 := two_boxes w7 [.slice ta1 0 tc1, .slice ca1 0 cc1, .slice sa1 0 sc1, .slice da1 0 dc1, .int .i64 0] [.int .i64 50, .slice none 0 0, .int .i64 0, .int .i64 (m : Int)]
    have N8 : Hid (Below w.heap.size w ((w7.alloc (.cells #[.slice ta1 0 tc1, .slice ca1 0 cc1, .slice sa1 0 sc1, .slice da1 0 dc1, .int .i64 0] 28)).alloc (.cells #[.int .i64 50, .slice none 0 0, .int .i64 0, .int .i64 (m : Int)] 47)) ∧ ((w7.alloc (.cells #[.slice ta1 0 tc1, .slice ca1 0 cc1, .slice sa1 0 sc1, .slice da1 0 dc1, .int .i64 0] 28)).alloc (.cells #[.int .i64 50, .slice none 0 0, .int .i64 0, .int .i64 (m : Int)] 47)).ownsRow w.heap.size 5 1 (.slice (some oa) bs.length oc) bs.length (bV bs) ∧ CBox ((w7.alloc (.cells #[.slice ta1 0 tc1, .slice ca1 0 cc1, .slice sa1 0 sc1, .slice da1 0 dc1, .int .i64 0] 28)).alloc (.cells #[.int .i64 50, .slice none 0 0, .int .i64 0, .int .i64 (m : Int)] 47)) (w7.heap.size + 1) 47 [.int .i64 50, .slice none 0 0, .int .i64 0, .int .i64 (m : Int)]) := ⟨N7.out.1.trans (T2.2.2.mono N7.out.1.size), owns_past N7.out.2 T2.2.2, T2.2.1⟩
    have HG : Hid (w.heap.size ≤ w7.heap.size + 1) := by have := N7.out.1.size; unfold Hid; omega
    clear T2 N6 N7 PT BM BR M5 HSL
    generalize w7.heap.size + 1 = b10 at N8 HG ⊢
    generalize w7.heap.size = b9 at N8 ⊢
    generalize (w7.alloc _).alloc _ = w8 at N8 ⊢
    have p0 : w8.cell? ⟨b10, 0, none⟩ = some (.int .i64 50) := N8.out.2.2.cell 0
    have p1 : w8.cell? ⟨b10, 1, none⟩ = some (.slice none 0 0) := N8.out.2.2.cell 1
    have p2 : w8.cell? ⟨b10, 2, none⟩ = some (.int .i64 0) := N8.out.2.2.cell 2
    have p3 : w8.cell? ⟨b10, 3, none⟩ = some (.int .i64 (m : Int)) := N8.out.2.2.cell 3
    go_upto_region 16 with fail
    clear p0 p1 p2 p3
    by_cases e0 : t.length = 0
    · have q1 : ((t.length : Int) == 0) = true := by simp [e0]
      clear e0
      go_wp2
      go_ret
      exact ⟨rfl, N8.out.1⟩
    · have q1 : ((t.length : Int) == 0) = false := by rw [beq_eq_false_iff_ne]; omega
      have PM : Hid (∀ (W : World) (R : Nat → Prop) (u : Value) (o' : Bool), BL R W u bt → Calls Try.prog 31 #[u, .bool o'] W fun e w' => (∃ ta tc ca cc sa sc da dc, e = .returned (.tuple #[.agg #[.slice ta 0 tc, .slice ca 0 cc, .slice sa 0 sc, .slice da 0 dc, .int .i64 0], .agg #[.int .i64 58, .slice none 0 0, .int .i64 0, .int .i64 (bs.length : Int)]])) ∧ Below W.heap.size W w') := PM0.out e0
      clear e0 PM0
      go_upto_region 18 with fail
      clear q1
      have BS : Hid (BL (fun _ => True) w8 (.slice (some oa) bs.length oc) bs) := SL.own N8.out.2.1 (by have := HBS.out; omega) (fun _ _ => trivial)
      go_upto_region 19 with (first | (go_at_call 32; refine (own_is _ _ _ BS.out (by have := HBS.out; omega)).mono ?_; rintro e w9 ⟨v9, rfl, hO, hB⟩; (have N9 : Hid (Below w.heap.size w w9 ∧ w9.ownsRow w.heap.size 5 1 v9 bs.length (bV bs) ∧ CBox w9 b10 47 [.int .i64 50, .slice none 0 0, .int .i64 0, .int .i64 (m : Int)]) := ⟨N8.out.1.trans (hB.mono N8.out.1.size), owns_base hO N8.out.1.size, N8.out.2.2.past hB⟩); (clear hO hB)) | (at_builtin; refine wpList_appB rfl _ _ rfl w.heap.size N9.out.1.size v9 bs rfl N9.out.2.1 (.slice ua t.length uc) t rfl (HU.out _ N9.out.1) (by have := HBS.out; have := HTL.out; omega) ?_; intro v11 w10 hA; rw [HBT.out] at hA))
      obtain ⟨xa, xc, exx⟩ := owns_sl hA.row
      subst exx
      have N10 : Hid (Below w.heap.size w w10 ∧ w10.ownsRow w.heap.size 5 1 (.slice xa bt.length xc) bt.length (bV bt) ∧ CBox w10 b10 47 [.int .i64 50, .slice none 0 0, .int .i64 0, .int .i64 (m : Int)]) := ⟨N9.out.1.trans (hA.below N9.out.2.1 N9.out.1.size), hA.row, N9.out.2.2.app hA N9.out.2.1 (by decide)⟩
      clear hA N9 N8 BS HU
      have HML : Hid (bt.length ≤ 16777216) := by unfold Hid; rw [← HBT.out, List.length_append]; have := HBS.out; have := HTL.out; omega
      have BT : Hid (BL (fun _ => True) w10 (.slice xa bt.length xc) bt) := SL.own N10.out.2.1 (by have := HML.out; omega) (fun _ _ => trivial)
      go_upto_region 20 with (first | (go_at_call 32; refine (own_is _ _ _ BT.out (by have := HML.out; omega)).mono ?_; rintro e w11 ⟨v12, rfl, hO, hB⟩; (have N11 : Hid (BL (fun _ => True) w11 v12 bt ∧ Below w.heap.size w w11 ∧ w11.ownsRow w.heap.size 5 1 (.slice xa bt.length xc) bt.length (bV bt) ∧ CBox w11 b10 47 [.int .i64 50, .slice none 0 0, .int .i64 0, .int .i64 (m : Int)]) := ⟨SL.own hO (by have := HML.out; omega) (fun _ _ => trivial), N10.out.1.trans (hB.mono N10.out.1.size), owns_past N10.out.2.1 hB, N10.out.2.2.past hB⟩); (clear hO hB)) | (go_at_call 31; refine (PM.out _ _ _ _ N11.out.1).mono ?_; rintro e w12 ⟨⟨ta2, tc2, ca2, cc2, sa2, sc2, da2, dc2, rfl⟩, hB⟩; (have N12 : Hid (Below w.heap.size w w12 ∧ w12.ownsRow w.heap.size 5 1 (.slice xa bt.length xc) bt.length (bV bt) ∧ CBox w12 b10 47 [.int .i64 50, .slice none 0 0, .int .i64 0, .int .i64 (m : Int)]) := ⟨N11.out.2.1.trans (hB.mono N11.out.2.1.size), owns_past N11.out.2.2.1 hB, N11.out.2.2.2.past hB⟩); (clear hB); (have k0 : w12.cell? ⟨b10, 0, none⟩ = some (.int .i64 50) := N12.out.2.2.cell 0); (have k1 : w12.cell? ⟨b10, 1, none⟩ = some (.slice none 0 0) := N12.out.2.2.cell 1); (have k2 : w12.cell? ⟨b10, 2, none⟩ = some (.int .i64 0) := N12.out.2.2.cell 2); (have k3 : w12.cell? ⟨b10, 3, none⟩ = some (.int .i64 (m : Int)) := N12.out.2.2.cell 3); (have f0 := CBox.frozen N12.out.2.2 0); (have f1 := CBox.frozen N12.out.2.2 1); (have f2 := CBox.frozen N12.out.2.2 2); (have f3 := CBox.frozen N12.out.2.2 3)))
      clear k0 k1 k2 k3 f0 f1 f2 f3
      have hs : But (fun y => y = b10) w12 ((((w12.setCell ⟨b10, 0, none⟩ (.int .i64 58)).setCell ⟨b10, 1, none⟩ (.slice none 0 0)).setCell ⟨b10, 2, none⟩ (.int .i64 0)).setCell ⟨b10, 3, none⟩ (.int .i64 (bs.length : Int))) := (((((But.refl (fun y => y = b10) w12).setCell ⟨b10, 0, none⟩ _ (Or.inl rfl)).setCell ⟨b10, 1, none⟩ _ (Or.inl rfl)).setCell ⟨b10, 2, none⟩ _ (Or.inl rfl)).setCell ⟨b10, 3, none⟩ _ (Or.inl rfl))
      have hg : w.heap.size ≤ b10 := HG.out
      have cb : CBox ((((w12.setCell ⟨b10, 0, none⟩ (.int .i64 58)).setCell ⟨b10, 1, none⟩ (.slice none 0 0)).setCell ⟨b10, 2, none⟩ (.int .i64 0)).setCell ⟨b10, 3, none⟩ (.int .i64 (bs.length : Int))) b10 47 [.int .i64 58, .slice none 0 0, .int .i64 0, .int .i64 (bs.length : Int)] := ((((N12.out.2.2.set 0 _).set 1 _).set 2 _).set 3 _)
      have ra : Alien w12 b10 := ⟨_, _, N12.out.2.2, by decide, by decide, by decide⟩
      have N13 : Hid (Below w.heap.size w ((((w12.setCell ⟨b10, 0, none⟩ (.int .i64 58)).setCell ⟨b10, 1, none⟩ (.slice none 0 0)).setCell ⟨b10, 2, none⟩ (.int .i64 0)).setCell ⟨b10, 3, none⟩ (.int .i64 (bs.length : Int))) ∧ ((((w12.setCell ⟨b10, 0, none⟩ (.int .i64 58)).setCell ⟨b10, 1, none⟩ (.slice none 0 0)).setCell ⟨b10, 2, none⟩ (.int .i64 0)).setCell ⟨b10, 3, none⟩ (.int .i64 (bs.length : Int))).ownsRow w.heap.size 5 1 (.slice xa bt.length xc) bt.length (bV bt) ∧ CBox ((((w12.setCell ⟨b10, 0, none⟩ (.int .i64 58)).setCell ⟨b10, 1, none⟩ (.slice none 0 0)).setCell ⟨b10, 2, none⟩ (.int .i64 0)).setCell ⟨b10, 3, none⟩ (.int .i64 (bs.length : Int))) b10 47 [.int .i64 58, .slice none 0 0, .int .i64 0, .int .i64 (bs.length : Int)]) := ⟨N12.out.1.trans (hs.below (fun k e => by omega) N12.out.1.size), row_alien N12.out.2.1 hs ra, cb⟩
      clear hs hg cb ra N12 N11 N10 BT
      generalize ((((w12.setCell ⟨b10, 0, none⟩ (.int .i64 58)).setCell ⟨b10, 1, none⟩ (.slice none 0 0)).setCell ⟨b10, 2, none⟩ (.int .i64 0)).setCell ⟨b10, 3, none⟩ (.int .i64 (bs.length : Int))) = w13 at N13 ⊢
      have BT : Hid (BL (fun _ => True) w13 (.slice xa bt.length xc) bt) := SL.own N13.out.2.1 (by have := HML.out; omega) (fun _ _ => trivial)
      go_upto_region 21 with (first | (go_at_call 32; refine (own_is _ _ _ BT.out (by have := HML.out; omega)).mono ?_; rintro e w14 ⟨v14, rfl, hO, hB⟩; (have N14 : Hid (BL (fun _ => True) w14 v14 bt ∧ Below w.heap.size w w14 ∧ CBox w14 b10 47 [.int .i64 58, .slice none 0 0, .int .i64 0, .int .i64 (bs.length : Int)]) := ⟨SL.own hO (by have := HML.out; omega) (fun _ _ => trivial), N13.out.1.trans (hB.mono N13.out.1.size), N13.out.2.2.past hB⟩); (clear hO hB)) | (go_at_call 31; refine (PM.out _ _ _ _ N14.out.1).mono ?_; rintro e w15 ⟨⟨ta3, tc3, ca3, cc3, sa3, sc3, da3, dc3, rfl⟩, hB⟩; (have N15 : Hid (Below w.heap.size w w15 ∧ CBox w15 b10 47 [.int .i64 58, .slice none 0 0, .int .i64 0, .int .i64 (bs.length : Int)]) := ⟨N14.out.2.1.trans (hB.mono N14.out.2.1.size), N14.out.2.2.past hB⟩); (clear hB)))
      have T2 := two_boxes w15 [.slice ta3 0 tc3, .slice ca3 0 cc3, .slice sa3 0 sc3, .slice da3 0 dc3, .int .i64 0] [.int .i64 58, .slice none 0 0, .int .i64 0, .int .i64 (bs.length : Int)]
      have N16 : Hid (Below w.heap.size w ((w15.alloc (.cells #[.slice ta3 0 tc3, .slice ca3 0 cc3, .slice sa3 0 sc3, .slice da3 0 dc3, .int .i64 0] 28)).alloc (.cells #[.int .i64 58, .slice none 0 0, .int .i64 0, .int .i64 (bs.length : Int)] 47)) ∧ CBox ((w15.alloc (.cells #[.slice ta3 0 tc3, .slice ca3 0 cc3, .slice sa3 0 sc3, .slice da3 0 dc3, .int .i64 0] 28)).alloc (.cells #[.int .i64 58, .slice none 0 0, .int .i64 0, .int .i64 (bs.length : Int)] 47)) b10 47 [.int .i64 58, .slice none 0 0, .int .i64 0, .int .i64 (bs.length : Int)] ∧ CBox ((w15.alloc (.cells #[.slice ta3 0 tc3, .slice ca3 0 cc3, .slice sa3 0 sc3, .slice da3 0 dc3, .int .i64 0] 28)).alloc (.cells #[.int .i64 58, .slice none 0 0, .int .i64 0, .int .i64 (bs.length : Int)] 47)) (w15.heap.size + 1) 47 [.int .i64 58, .slice none 0 0, .int .i64 0, .int .i64 (bs.length : Int)]) := ⟨N15.out.1.trans (T2.2.2.mono N15.out.1.size), N15.out.2.past T2.2.2, T2.2.1⟩
      clear T2 N14 N15 N13 BT PM
      generalize w15.heap.size + 1 = b13 at N16 ⊢
      generalize w15.heap.size = b12 at N16 ⊢
      generalize (w15.alloc _).alloc _ = w16 at N16 ⊢
      have p0 : w16.cell? ⟨b10, 0, none⟩ = some (.int .i64 58) := N16.out.2.1.cell 0
      have p1 : w16.cell? ⟨b10, 1, none⟩ = some (.slice none 0 0) := N16.out.2.1.cell 1
      have p2 : w16.cell? ⟨b10, 2, none⟩ = some (.int .i64 0) := N16.out.2.1.cell 2
      have p3 : w16.cell? ⟨b10, 3, none⟩ = some (.int .i64 (bs.length : Int)) := N16.out.2.1.cell 3
      have r0 : w16.cell? ⟨b13, 0, none⟩ = some (.int .i64 58) := N16.out.2.2.cell 0
      have r1 : w16.cell? ⟨b13, 1, none⟩ = some (.slice none 0 0) := N16.out.2.2.cell 1
      have r2 : w16.cell? ⟨b13, 2, none⟩ = some (.int .i64 0) := N16.out.2.2.cell 2
      have r3 : w16.cell? ⟨b13, 3, none⟩ = some (.int .i64 (bs.length : Int)) := N16.out.2.2.cell 3
      go_wp2
      go_ret
      exact ⟨rfl, N16.out.1⟩
  · obtain ⟨m, hm⟩ : ∃ m : Nat, r = (m : Int) := ⟨r.toNat, by omega⟩
    have HMB : Hid (m < bs.length) := by have := HR1.out; unfold Hid; omega
    clear HR1
    subst hm
    have q3 : ¬ (m : Int) < 0 := er
    clear er
    go_upto_region 13 with fail
    clear q3
    have HSL : Hid (∀ W, Sem.run Try.prog (Instr.slice 22 (.slice (some oa) bs.length oc) none (some (.int .i64 (m : Int))) none) W = .ok (.slice (some oa) m oc) W) := fun W => slice_upto oa bs.length oc m (by have := HMB.out; have := HOC.out; omega) W
    have BM : Hid (BL (fun _ => True) w5 (.slice (some oa) m oc) (bs.take m)) := BL.take (SL.own BR.out (by have := HBS.out; omega) (fun _ _ => trivial)) (by have := HMB.out; omega)
    have hsl := HSL.out
    go_upto_region 14 with (first | (go_at_call 32; refine (own_is _ _ _ BM.out (by rw [List.length_take]; have := HBS.out; omega)).mono ?_; rintro e w6 ⟨v6, rfl, hO, hB⟩; (have N6 : Hid (BL (fun _ => True) w6 v6 (bs.take m) ∧ Below w.heap.size w w6 ∧ w6.ownsRow w.heap.size 5 1 (.slice (some oa) bs.length oc) bs.length (bV bs)) := ⟨SL.own (by rw [show ((bs.take m).length) = (bs.take m).length from rfl]; exact hO) (by rw [List.length_take]; have := HBS.out; omega) (fun _ _ => trivial), M5.out.bel.trans (hB.mono M5.out.bel.size), owns_past BR.out hB⟩); (clear hO hB)) | (go_at_call 31; refine (PT.out _ _ _ m HMB.out N6.out.1).mono ?_; rintro e w7 ⟨⟨ta1, tc1, ca1, cc1, sa1, sc1, da1, dc1, rfl⟩, hB⟩; (have N7 : Hid (Below w.heap.size w w7 ∧ w7.ownsRow w.heap.size 5 1 (.slice (some oa) bs.length oc) bs.length (bV bs)) := ⟨N6.out.2.1.trans (hB.mono N6.out.2.1.size), owns_past N6.out.2.2 hB⟩); (clear hB)))
    clear hsl
    have T2 := two_boxes w7 [.slice ta1 0 tc1, .slice ca1 0 cc1, .slice sa1 0 sc1, .slice da1 0 dc1, .int .i64 0] [.int .i64 50, .slice none 0 0, .int .i64 0, .int .i64 (m : Int)]
    have N8 : Hid (Below w.heap.size w ((w7.alloc (.cells #[.slice ta1 0 tc1, .slice ca1 0 cc1, .slice sa1 0 sc1, .slice da1 0 dc1, .int .i64 0] 28)).alloc (.cells #[.int .i64 50, .slice none 0 0, .int .i64 0, .int .i64 (m : Int)] 47)) ∧ ((w7.alloc (.cells #[.slice ta1 0 tc1, .slice ca1 0 cc1, .slice sa1 0 sc1, .slice da1 0 dc1, .int .i64 0] 28)).alloc (.cells #[.int .i64 50, .slice none 0 0, .int .i64 0, .int .i64 (m : Int)] 47)).ownsRow w.heap.size 5 1 (.slice (some oa) bs.length oc) bs.length (bV bs) ∧ CBox ((w7.alloc (.cells #[.slice ta1 0 tc1, .slice ca1 0 cc1, .slice sa1 0 sc1, .slice da1 0 dc1, .int .i64 0] 28)).alloc (.cells #[.int .i64 50, .slice none 0 0, .int .i64 0, .int .i64 (m : Int)] 47)) (w7.heap.size + 1) 47 [.int .i64 50, .slice none 0 0, .int .i64 0, .int .i64 (m : Int)]) := ⟨N7.out.1.trans (T2.2.2.mono N7.out.1.size), owns_past N7.out.2 T2.2.2, T2.2.1⟩
    have HG : Hid (w.heap.size ≤ w7.heap.size + 1) := by have := N7.out.1.size; unfold Hid; omega
    clear T2 N6 N7 PT BM BR M5 HSL
    generalize w7.heap.size + 1 = b10 at N8 HG ⊢
    generalize w7.heap.size = b9 at N8 ⊢
    generalize (w7.alloc _).alloc _ = w8 at N8 ⊢
    have p0 : w8.cell? ⟨b10, 0, none⟩ = some (.int .i64 50) := N8.out.2.2.cell 0
    have p1 : w8.cell? ⟨b10, 1, none⟩ = some (.slice none 0 0) := N8.out.2.2.cell 1
    have p2 : w8.cell? ⟨b10, 2, none⟩ = some (.int .i64 0) := N8.out.2.2.cell 2
    have p3 : w8.cell? ⟨b10, 3, none⟩ = some (.int .i64 (m : Int)) := N8.out.2.2.cell 3
    go_upto_region 16 with fail
    clear p0 p1 p2 p3
    by_cases e0 : t.length = 0
    · have q1 : ((t.length : Int) == 0) = true := by simp [e0]
      clear e0
      go_wp2
      go_ret
      exact ⟨rfl, N8.out.1⟩
    · have q1 : ((t.length : Int) == 0) = false := by rw [beq_eq_false_iff_ne]; omega
      have PM : Hid (∀ (W : World) (R : Nat → Prop) (u : Value) (o' : Bool), BL R W u bt → Calls Try.prog 31 #[u, .bool o'] W fun e w' => (∃ ta tc ca cc sa sc da dc, e = .returned (.tuple #[.agg #[.slice ta 0 tc, .slice ca 0 cc, .slice sa 0 sc, .slice da 0 dc, .int .i64 0], .agg #[.int .i64 58, .slice none 0 0, .int .i64 0, .int .i64 (bs.length : Int)]])) ∧ Below W.heap.size W w') := PM0.out e0
      clear e0 PM0
      go_upto_region 18 with fail
      clear q1
      have BS : Hid (BL (fun _ => True) w8 (.slice (some oa) bs.length oc) bs) := SL.own N8.out.2.1 (by have := HBS.out; omega) (fun _ _ => trivial)
      go_upto_region 19 with (first | (go_at_call 32; refine (own_is _ _ _ BS.out (by have := HBS.out; omega)).mono ?_; rintro e w9 ⟨v9, rfl, hO, hB⟩; (have N9 : Hid (Below w.heap.size w w9 ∧ w9.ownsRow w.heap.size 5 1 v9 bs.length (bV bs) ∧ CBox w9 b10 47 [.int .i64 50, .slice none 0 0, .int .i64 0, .int .i64 (m : Int)]) := ⟨N8.out.1.trans (hB.mono N8.out.1.size), owns_base hO N8.out.1.size, N8.out.2.2.past hB⟩); (clear hO hB)) | (at_builtin; refine wpList_appB rfl _ _ rfl w.heap.size N9.out.1.size v9 bs rfl N9.out.2.1 (.slice ua t.length uc) t rfl (HU.out _ N9.out.1) (by have := HBS.out; have := HTL.out; omega) ?_; intro v11 w10 hA; rw [HBT.out] at hA))
      obtain ⟨xa, xc, exx⟩ := owns_sl hA.row
      subst exx
      have N10 : Hid (Below w.heap.size w w10 ∧ w10.ownsRow w.heap.size 5 1 (.slice xa bt.length xc) bt.length (bV bt) ∧ CBox w10 b10 47 [.int .i64 50, .slice none 0 0, .int .i64 0, .int .i64 (m : Int)]) := ⟨N9.out.1.trans (hA.below N9.out.2.1 N9.out.1.size), hA.row, N9.out.2.2.app hA N9.out.2.1 (by decide)⟩
      clear hA N9 N8 BS HU
      have HML : Hid (bt.length ≤ 16777216) := by unfold Hid; rw [← HBT.out, List.length_append]; have := HBS.out; have := HTL.out; omega
      have BT : Hid (BL (fun _ => True) w10 (.slice xa bt.length xc) bt) := SL.own N10.out.2.1 (by have := HML.out; omega) (fun _ _ => trivial)
      go_upto_region 20 with (first | (go_at_call 32; refine (own_is _ _ _ BT.out (by have := HML.out; omega)).mono ?_; rintro e w11 ⟨v12, rfl, hO, hB⟩; (have N11 : Hid (BL (fun _ => True) w11 v12 bt ∧ Below w.heap.size w w11 ∧ w11.ownsRow w.heap.size 5 1 (.slice xa bt.length xc) bt.length (bV bt) ∧ CBox w11 b10 47 [.int .i64 50, .slice none 0 0, .int .i64 0, .int .i64 (m : Int)]) := ⟨SL.own hO (by have := HML.out; omega) (fun _ _ => trivial), N10.out.1.trans (hB.mono N10.out.1.size), owns_past N10.out.2.1 hB, N10.out.2.2.past hB⟩); (clear hO hB)) | (go_at_call 31; refine (PM.out _ _ _ _ N11.out.1).mono ?_; rintro e w12 ⟨⟨ta2, tc2, ca2, cc2, sa2, sc2, da2, dc2, rfl⟩, hB⟩; (have N12 : Hid (Below w.heap.size w w12 ∧ w12.ownsRow w.heap.size 5 1 (.slice xa bt.length xc) bt.length (bV bt) ∧ CBox w12 b10 47 [.int .i64 50, .slice none 0 0, .int .i64 0, .int .i64 (m : Int)]) := ⟨N11.out.2.1.trans (hB.mono N11.out.2.1.size), owns_past N11.out.2.2.1 hB, N11.out.2.2.2.past hB⟩); (clear hB); (have k0 : w12.cell? ⟨b10, 0, none⟩ = some (.int .i64 50) := N12.out.2.2.cell 0); (have k1 : w12.cell? ⟨b10, 1, none⟩ = some (.slice none 0 0) := N12.out.2.2.cell 1); (have k2 : w12.cell? ⟨b10, 2, none⟩ = some (.int .i64 0) := N12.out.2.2.cell 2); (have k3 : w12.cell? ⟨b10, 3, none⟩ = some (.int .i64 (m : Int)) := N12.out.2.2.cell 3); (have f0 := CBox.frozen N12.out.2.2 0); (have f1 := CBox.frozen N12.out.2.2 1); (have f2 := CBox.frozen N12.out.2.2 2); (have f3 := CBox.frozen N12.out.2.2 3)))
      clear k0 k1 k2 k3 f0 f1 f2 f3
      have hs : But (fun y => y = b10) w12 ((((w12.setCell ⟨b10, 0, none⟩ (.int .i64 58)).setCell ⟨b10, 1, none⟩ (.slice none 0 0)).setCell ⟨b10, 2, none⟩ (.int .i64 0)).setCell ⟨b10, 3, none⟩ (.int .i64 (bs.length : Int))) := (((((But.refl (fun y => y = b10) w12).setCell ⟨b10, 0, none⟩ _ (Or.inl rfl)).setCell ⟨b10, 1, none⟩ _ (Or.inl rfl)).setCell ⟨b10, 2, none⟩ _ (Or.inl rfl)).setCell ⟨b10, 3, none⟩ _ (Or.inl rfl))
      have hg : w.heap.size ≤ b10 := HG.out
      have cb : CBox ((((w12.setCell ⟨b10, 0, none⟩ (.int .i64 58)).setCell ⟨b10, 1, none⟩ (.slice none 0 0)).setCell ⟨b10, 2, none⟩ (.int .i64 0)).setCell ⟨b10, 3, none⟩ (.int .i64 (bs.length : Int))) b10 47 [.int .i64 58, .slice none 0 0, .int .i64 0, .int .i64 (bs.length : Int)] := ((((N12.out.2.2.set 0 _).set 1 _).set 2 _).set 3 _)
      have ra : Alien w12 b10 := ⟨_, _, N12.out.2.2, by decide, by decide, by decide⟩
      have N13 : Hid (Below w.heap.size w ((((w12.setCell ⟨b10, 0, none⟩ (.int .i64 58)).setCell ⟨b10, 1, none⟩ (.slice none 0 0)).setCell ⟨b10, 2, none⟩ (.int .i64 0)).setCell ⟨b10, 3, none⟩ (.int .i64 (bs.length : Int))) ∧ ((((w12.setCell ⟨b10, 0, none⟩ (.int .i64 58)).setCell ⟨b10, 1, none⟩ (.slice none 0 0)).setCell ⟨b10, 2, none⟩ (.int .i64 0)).setCell ⟨b10, 3, none⟩ (.int .i64 (bs.length : Int))).ownsRow w.heap.size 5 1 (.slice xa bt.length xc) bt.length (bV bt) ∧ CBox ((((w12.setCell ⟨b10, 0, none⟩ (.int .i64 58)).setCell ⟨b10, 1, none⟩ (.slice none 0 0)).setCell ⟨b10, 2, none⟩ (.int .i64 0)).setCell ⟨b10, 3, none⟩ (.int .i64 (bs.length : Int))) b10 47 [.int .i64 58, .slice none 0 0, .int .i64 0, .int .i64 (bs.length : Int)]) := ⟨N12.out.1.trans (hs.below (fun k e => by omega) N12.out.1.size), row_alien N12.out.2.1 hs ra, cb⟩
      clear hs hg cb ra N12 N11 N10 BT
      generalize ((((w12.setCell ⟨b10, 0, none⟩ (.int .i64 58)).setCell ⟨b10, 1, none⟩ (.slice none 0 0)).setCell ⟨b10, 2, none⟩ (.int .i64 0)).setCell ⟨b10, 3, none⟩ (.int .i64 (bs.length : Int))) = w13 at N13 ⊢
      have BT : Hid (BL (fun _ => True) w13 (.slice xa bt.length xc) bt) := SL.own N13.out.2.1 (by have := HML.out; omega) (fun _ _ => trivial)
      go_upto_region 21 with (first | (go_at_call 32; refine (own_is _ _ _ BT.out (by have := HML.out; omega)).mono ?_; rintro e w14 ⟨v14, rfl, hO, hB⟩; (have N14 : Hid (BL (fun _ => True) w14 v14 bt ∧ Below w.heap.size w w14 ∧ CBox w14 b10 47 [.int .i64 58, .slice none 0 0, .int .i64 0, .int .i64 (bs.length : Int)]) := ⟨SL.own hO (by have := HML.out; omega) (fun _ _ => trivial), N13.out.1.trans (hB.mono N13.out.1.size), N13.out.2.2.past hB⟩); (clear hO hB)) | (go_at_call 31; refine (PM.out _ _ _ _ N14.out.1).mono ?_; rintro e w15 ⟨⟨ta3, tc3, ca3, cc3, sa3, sc3, da3, dc3, rfl⟩, hB⟩; (have N15 : Hid (Below w.heap.size w w15 ∧ CBox w15 b10 47 [.int .i64 58, .slice none 0 0, .int .i64 0, .int .i64 (bs.length : Int)]) := ⟨N14.out.2.1.trans (hB.mono N14.out.2.1.size), N14.out.2.2.past hB⟩); (clear hB)))
      have T2 := two_boxes w15 [.slice ta3 0 tc3, .slice ca3 0 cc3, .slice sa3 0 sc3, .slice da3 0 dc3, .int .i64 0] [.int .i64 58, .slice none 0 0, .int .i64 0, .int .i64 (bs.length : Int)]
      have N16 : Hid (Below w.heap.size w ((w15.alloc (.cells #[.slice ta3 0 tc3, .slice ca3 0 cc3, .slice sa3 0 sc3, .slice da3 0 dc3, .int .i64 0] 28)).alloc (.cells #[.int .i64 58, .slice none 0 0, .int .i64 0, .int .i64 (bs.length : Int)] 47)) ∧ CBox ((w15.alloc (.cells #[.slice ta3 0 tc3, .slice ca3 0 cc3, .slice sa3 0 sc3, .slice da3 0 dc3, .int .i64 0] 28)).alloc (.cells #[.int .i64 58, .slice none 0 0, .int .i64 0, .int .i64 (bs.length : Int)] 47)) b10 47 [.int .i64 58, .slice none 0 0, .int .i64 0, .int .i64 (bs.length : Int)] ∧ CBox ((w15.alloc (.cells #[.slice ta3 0 tc3, .slice ca3 0 cc3, .slice sa3 0 sc3, .slice da3 0 dc3, .int .i64 0] 28)).alloc (.cells #[.int .i64 58, .slice none 0 0, .int .i64 0, .int .i64 (bs.length : Int)] 47)) (w15.heap.size + 1) 47 [.int .i64 58, .slice none 0 0, .int .i64 0, .int .i64 (bs.length : Int)]) := ⟨N15.out.1.trans (T2.2.2.mono N15.out.1.size), N15.out.2.past T2.2.2, T2.2.1⟩
      clear T2 N14 N15 N13 BT PM
      generalize w15.heap.size + 1 = b13 at N16 ⊢
      generalize w15.heap.size = b12 at N16 ⊢
      generalize (w15.alloc _).alloc _ = w16 at N16 ⊢
      have p0 : w16.cell? ⟨b10, 0, none⟩ = some (.int .i64 58) := N16.out.2.1.cell 0
      have p1 : w16.cell? ⟨b10, 1, none⟩ = some (.slice none 0 0) := N16.out.2.1.cell 1
      have p2 : w16.cell? ⟨b10, 2, none⟩ = some (.int .i64 0) := N16.out.2.1.cell 2
      have p3 : w16.cell? ⟨b10, 3, none⟩ = some (.int .i64 (bs.length : Int)) := N16.out.2.1.cell 3
      have r0 : w16.cell? ⟨b13, 0, none⟩ = some (.int .i64 58) := N16.out.2.2.cell 0
      have r1 : w16.cell? ⟨b13, 1, none⟩ = some (.slice none 0 0) := N16.out.2.2.cell 1
      have r2 : w16.cell? ⟨b13, 2, none⟩ = some (.int .i64 0) := N16.out.2.2.cell 2
      have r3 : w16.cell? ⟨b13, 3, none⟩ = some (.int .i64 (bs.length : Int)) := N16.out.2.2.cell 3
      go_wp2
      go_ret
      exact ⟨rfl, N16.out.1⟩
end Go.Proofs.Ytndhabhlajldeaa
/- ContainerTurned: the walk. -/
namespace Go.Proofs.Ytndhabhlajldeaa
open Go.RowKit
theorem xor_turn (x : Nat) (hx : x < 256) (q : Int) (hq : 0 ≤ q ∧ q ≤ 255) (h0 : q ≠ 0) : ∃ y : Nat, y < 256 ∧ bits .xor .u8 (x : Int) q = (y : Int) ∧ y ≠ x := by
  have h : bits .xor .u8 (x : Int) q = IntKind.u8.wrap (((BitVec.ofInt 8 (x : Int) ^^^ BitVec.ofInt 8 q).toNat : Nat) : Int) := rfl
  have h1 : (BitVec.ofInt 8 (x : Int) ^^^ BitVec.ofInt 8 q).toNat < 256 := (BitVec.ofInt 8 (x : Int) ^^^ BitVec.ofInt 8 q).isLt
  refine ⟨(BitVec.ofInt 8 (x : Int) ^^^ BitVec.ofInt 8 q).toNat, h1, by rw [h, IntKind.wrap_u8]; omega, fun e => ?_⟩
  have e1 : (BitVec.ofInt 8 (x : Int)).toNat = x := by have := hx; rw [BitVec.toNat_ofInt]; omega
  have e2 : BitVec.ofInt 8 (x : Int) ^^^ BitVec.ofInt 8 q = BitVec.ofInt 8 (x : Int) := BitVec.eq_of_toNat_eq (by rw [e, e1])
  have e3 : BitVec.ofInt 8 q = 0#8 := by
    have := congrArg (fun t => BitVec.ofInt 8 (x : Int) ^^^ t) e2
    simpa [← BitVec.xor_assoc] using this
  have e4 := congrArg BitVec.toNat e3
  rw [BitVec.toNat_ofInt] at e4
  simp at e4
  omega
theorem wpList_appIs {w : World} {ops : Array Oper} {rest : List Oper} {o : Oper} {a : Act} {Q : Exit → Act → World → Prop} (hgd : o.guard = none) (s x : Operand)
    (ho : o.op = .call { callee := .builtin .append, args := #[s, x], argTypes := #[45, 45] }) (B : Nat) (hB : B ≤ w.heap.size) (v : Value) (l : List Nat) (hs : a.eval s = v) (hown : InO B w v l)
    (m : List Nat) (hx : a.eval x = .slice (some ⟨w.heap.size, 0, none⟩) m.length m.length) (hn : l.length + m.length ≤ 2199023255552)
    (h : ∀ v' w', App B 3 1 w w' v v' (l ++ m).length (iV (l ++ m)) → wpList Try.prog ops Q rest (a.put o.dst v') w') : wpList Try.prog ops Q (o :: rest) a (w.alloc (.cells (iV m).toArray 3)) :=
  wpList_plain hgd fun _ hK => by
    obtain ⟨ad, cap, rfl⟩ := owns_sl hown
    refine wp_apps s x 45 3 ho (.int .i64 0) 1 8 Try.underlying45 Try.infoI rfl (by omega) (by omega) B (Nat.le_trans hB (below_alloc _ _).size) ad l.length cap (iV l) hs (owns_past hown (below_alloc _ _)) ⟨w.heap.size, 0, none⟩ m.length m.length (iV m) hx (by rw [iV_len]; omega) (fun j c hj => ?_) (iV_one m) hn (fun ad' cap' w' q1 q2 q3 => hK _ _ (h _ _ ⟨?_, ?_, fun k hk => ?_⟩))
    · rw [Addr.add_mid, Nat.zero_add]
      exact ((CBox.new w 3 (iV m)).cell j).trans hj
    · rw [List.length_append, iV_app]; exact q1
    · have b1 : But (OwnV (.slice ad l.length cap)) w (w.alloc (.cells (iV m).toArray 3)) := below_but (below_alloc _ _)
      exact b1.trans (q2.mono fun k hk => own_iff.1 hk)
    · rcases q3.own (own_iff.2 hk) with e | e
      · exact Or.inl (own_iff.1 e)
      · exact Or.inr (Nat.le_trans (below_alloc _ _).size e)
theorem owns_app {B s n n1 n2 s' : Nat} {t t' : TypeId} {W W' : World} {v u u' : Value} {cs ds es : List Value} (h : W.ownsRow B t s v n cs) (k : App B t' s' W W' u u' n1 ds) (hu : W.ownsRow B t' s' u n2 es) (ht : t ≠ t') : W'.ownsRow B t s v n cs :=
  owns_row_blockB h fun g hg => k.but.block g (h.lt g hg).2 fun e => owns_apart h hu ht hg e
/-- in the midst of ContainerTurned -/
structure TuM (bx : Nat) (w W : World) (L : List Value) (sv : Value) (bs : List Nat) (pv : Value) (ps : List Nat) : Prop where
  cb : CBox W bx 28 L
  bel : Below w.heap.size w W
  row : W.ownsRow w.heap.size 5 1 sv bs.length (bV bs)
  pl : InO w.heap.size W pv ps
theorem TuM.app {bx : Nat} {w W W' : World} {L : List Value} {sv pv pv' : Value} {bs ps ps' : List Nat} (h : TuM bx w W L sv bs pv ps) (k : App w.heap.size 3 1 W W' pv pv' ps'.length (iV ps')) : TuM bx w W' L sv bs pv' ps' :=
  ⟨h.cb.but k.but (fun hu => own_box h.pl h.cb (by decide) hu rfl), h.bel.trans (k.below h.pl h.bel.size), owns_app h.row k h.pl (by decide), k.row⟩
theorem places_none {c : Con} (es : c.ss.length = 0) {n9 : Nat} (h9 : n9 = 9 + 2 * c.cs.length)   : ∀ (k p : Nat), ([0, 1, 2, 3, 6] ++ [n9, n9 + 3])[k]? = some p → Place c p := fun k p hp => by
  have e : endOf c = n9 := by unfold endOf; rw [if_pos es]; omega
  have := List.mem_of_getElem? hp
  simp at this
  unfold Place
  rw [e]
  omega
theorem places_some {c : Con} (es : c.ss.length ≠ 0) {n9 en : Nat} (h9 : n9 = 9 + 2 * c.cs.length) (h8 : en = 9 + 2 * c.cs.length + (3 + 4 * c.ss.length))   : ∀ (k p : Nat), ([0, 1, 2, 3, 6] ++ [n9] ++ [en, en + 3])[k]? = some p → Place c p := fun k p hp => by
  have e : endOf c = en := by unfold endOf; rw [if_neg es]; omega
  have := List.mem_of_getElem? hp
  simp at this
  unfold Place
  rw [e]
  omega
theorem row_get {W : World} {B n cap : Nat} {ad : Option Addr} {l : List Nat} (h : W.ownsRow B 5 1 (.slice ad n cap) n (bV l)) {i x : Nat} (hi : l[i]? = some x) : ∃ g, ad = some ⟨g, 0, none⟩ ∧ W.cell? ⟨g, i, none⟩ = some (.int .u8 (x : Int)) := by
  have hl : i < l.length := (List.getElem?_eq_some_iff.1 hi).1
  have h0 : (bV l).length = n * 1 := h.1
  rw [bV_len] at h0
  rcases id h.2 with ⟨e, e2⟩ | ⟨g, c', cur, e, hb, hh, hq, _, hz, ht⟩
  · omega
  · injection e with e1 _ _
    subst e1
    refine ⟨g, rfl, ?_⟩
    have := World.ownsRow.cells h (g := g) rfl i (.int .u8 (x : Int)) (bV_get hi)
    simpa [Addr.add_mid] using this
theorem byt_set {l : List Nat} (h : Byt l) {y : Nat} (hy : y < 256) {p : Nat} : Byt (l.set p y) := fun x hx => by
  rcases List.mem_or_eq_of_mem_set hx with e | e
  · exact h x e
  · rw [e]; exact hy
set_option maxHeartbeats 8000000 in
set_option maxRecDepth 100000 in
theorem containerTurned_walk (w : World) (v : Value) (c : Con) (z q : Int) (h : CW (fun _ => True) w v c) (hbc : BytC c) (hz : -9223372036854775808 ≤ z ∧ z ≤ 9223372036854775807) (hq : 0 ≤ q ∧ q ≤ 255) : Calls Try.prog 11 #[v, .int .i64 z, .int .u8 q] w fun e w' => e = .returned (.bool true) ∧ Below w.heap.size w w' := by
  obtain ⟨ta, tc, ca, cc, sa, sc, da, dc, rfl⟩ := cw_form h
  have b1 := below_alloc w (.cells #[.slice ta c.ts.length tc, .slice ca c.cs.length cc, .slice sa c.ss.length sc, .slice da c.d.length dc, .int .i64 c.n] 28)
  have M0 : Hid (CtM w.heap.size w (w.alloc (.cells #[.slice ta c.ts.length tc, .slice ca c.cs.length cc, .slice sa c.ss.length sc, .slice da c.d.length dc, .int .i64 c.n] 28)) [.slice ta c.ts.length tc, .slice ca c.cs.length cc, .slice sa c.ss.length sc, .slice da c.d.length dc, .int .i64 c.n] c) := ⟨CBox.new w _ [_, _, _, _, _], h.past b1, b1⟩
  have HBC : Hid (BytC c) := hbc
  have HZ0 : Hid (-9223372036854775808 ≤ z ∧ z ≤ 9223372036854775807) := hz
  have HQ0 : Hid (0 ≤ q ∧ q ≤ 255) := hq
  clear h hbc hz hq b1
  go_enter Try.func11, Try.ntmps11
  go_upto_region 1 with fail
  generalize w.heap.size = bx at M0 ⊢
  generalize w.alloc _ = W0 at M0 ⊢
  refine wp_region_lit ?_
  refine lst_val (v := .agg #[.slice ta c.ts.length tc, .slice ca c.cs.length cc, .slice sa c.ss.length sc, .slice da c.d.length dc, .int .i64 c.n]) (by kernel_rfl) ?_ ?_
  · have a0 := M0.out.cb.cell 0; have a1 := M0.out.cb.cell 1; have a2 := M0.out.cb.cell 2; have a3 := M0.out.cb.cell 3; have a4 := M0.out.cb.cell 4
    go_simp
  simp only [Act.put, List.setIfInBounds_toArray, List.set_cons_zero, List.set_cons_succ]
  refine lst_call (by kernel_rfl) (by first | (go_simp; done) | (go_simp; first | exact rfl | exact ⟨rfl, rfl⟩ | exact ⟨rfl, rfl, rfl⟩)) (weight_is _ _ c M0.out.cw) ?_
  rintro e w1 ⟨⟨n, rfl, hn⟩, hB⟩
  refine ⟨_, rfl, ?_⟩
  have M1 : Hid (CtM bx w w1 [.slice ta c.ts.length tc, .slice ca c.cs.length cc, .slice sa c.ss.length sc, .slice da c.d.length dc, .int .i64 c.n] c) := M0.out.past hB
  have HWT : Hid (n ≤ 2097152 → total c = n) := hn
  clear hn hB M0
  simp only [Act.put, List.setIfInBounds_toArray, List.set_cons_zero, List.set_cons_succ]
  by_cases en : n ≤ 2097152
  rotate_left
  · have q1 : (2097152 : Int) < (n : Int) := by omega
    clear en HWT
    go_wp2
    go_ret
    exact ⟨rfl, M1.out.bel⟩
  have q1 : ¬ (2097152 : Int) < (n : Int) := by omega
  have HTO : Hid (total c ≤ 2097152) := by have := HWT.out en; unfold Hid; omega
  have HSM : Hid (Small c) := total_small HTO.out
  clear en HWT
  go_upto_region 3 with fail
  clear q1
  go_upto_region 5 with (go_at_call 16; refine (able_is _).mono ?_; rintro e w2 ⟨rfl, hB⟩; (have M2 : Hid (CtM bx w w2 [.slice ta c.ts.length tc, .slice ca c.cs.length cc, .slice sa c.ss.length sc, .slice da c.d.length dc, .int .i64 c.n] c) := M1.out.past hB); (clear hB M1))
  have a0 : w2.cell? ⟨bx, 0, none⟩ = some (.slice ta c.ts.length tc) := M2.out.cb.cell 0
  have a1 : w2.cell? ⟨bx, 1, none⟩ = some (.slice ca c.cs.length cc) := M2.out.cb.cell 1
  have a2 : w2.cell? ⟨bx, 2, none⟩ = some (.slice sa c.ss.length sc) := M2.out.cb.cell 2
  have a3 : w2.cell? ⟨bx, 3, none⟩ = some (.slice da c.d.length dc) := M2.out.cb.cell 3
  have a4 : w2.cell? ⟨bx, 4, none⟩ = some (.int .i64 c.n) := M2.out.cb.cell 4
  by_cases hm : May c
  rotate_left
  · have HMN : Hid (¬ May c) := hm
    clear hm
    go_wp2_with (go_at_call 40; refine (may_no _ _ c M2.out.cw HMN.out).mono ?_; rintro e w3 ⟨rfl, hB⟩; (have B3 : Hid (Below w.heap.size w w3) := M2.out.bel.trans (hB.mono M2.out.bel.size)); (clear hB))
    go_ret
    exact ⟨rfl, B3.out⟩
  have HMY : Hid (May c) := hm
  clear hm
  by_cases hd : q = 0
  · subst hd
    go_wp2_with (go_at_call 40; refine (may_yes _ _ c M2.out.cw HMY.out).mono ?_; rintro e w3 ⟨rfl, hB⟩; (have M3 : Hid (CtM bx w w3 [.slice ta c.ts.length tc, .slice ca c.cs.length cc, .slice sa c.ss.length sc, .slice da c.d.length dc, .int .i64 c.n] c) := M2.out.past hB); (clear hB))
    go_ret
    exact ⟨rfl, M3.out.bel⟩
  have q1 : (q == 0) = false := by rw [beq_eq_false_iff_ne]; exact hd
  have HQ : Hid ((0 ≤ q ∧ q ≤ 255) ∧ q ≠ 0) := ⟨HQ0.out, hd⟩
  obtain ⟨bs, hbs⟩ : ∃ bs, bs = ser c := ⟨_, rfl⟩
  have HBE : Hid (bs = ser c) := hbs
  have HBY : Hid (Byt bs) := by rw [hbs]; exact ser_byt HBC.out.1 HBC.out.2.1 HBC.out.2.2
  have HBS : Hid (bs.length ≤ 2200000) := by
    have h1 := ser_total HMY.out
    have h2 := HTO.out
    have h3 := HMY.out.n2
    have h4 := HMY.out.ns
    rw [sum_lns, sum_lns, ← hbs] at h1
    unfold total fourOf at h2
    unfold endOf at h1
    unfold Hid
    split at h1 <;> omega
  have hb0 : 0 < bs.length := by rw [hbs]; exact Nat.lt_of_le_of_lt (Nat.zero_le _) (place_lt HMY.out (p := 0) (Or.inl rfl))
  have SE : Hid (∀ (W : World) (R : Nat → Prop) (u : Value), CW R W u c → Calls Try.prog 35 #[u] W fun e w' => (∃ oa oc, e = .returned (.tuple #[.slice (some oa) bs.length oc, .int .i64 0]) ∧ bs.length ≤ oc ∧ w'.ownsRow W.heap.size 5 1 (.slice (some oa) bs.length oc) bs.length (bV bs)) ∧ Below W.heap.size W w') := fun W R u q => (serialize_is W u c q HSM.out).mono fun e w' q9 => by
    obtain ⟨v', rfl, hO, hB⟩ := q9
    have e1 : serR c = bs := by unfold serR; rw [if_pos (may_chk HMY.out), hbs]
    rw [e1] at hO
    obtain ⟨oa, oc, rfl⟩ := owns_sl hO
    obtain ⟨a, rfl, hc⟩ := own_some hO (by rw [bV_len]; omega) (by have := HBS.out; omega)
    exact ⟨⟨a, oc, by rw [may_chk HMY.out], hc, hO⟩, hB⟩
  clear hd hbs hb0 HQ0
  go_upto_region 7 with (go_at_call 40; refine (may_yes _ _ c M2.out.cw HMY.out).mono ?_; rintro e w3 ⟨rfl, hB⟩; (have M3 : Hid (CtM bx w w3 [.slice ta c.ts.length tc, .slice ca c.cs.length cc, .slice sa c.ss.length sc, .slice da c.d.length dc, .int .i64 c.n] c) := M2.out.past hB); (clear hB))
  clear q1 a0 a1 a2 a3 a4 M2
  have a0 : w3.cell? ⟨bx, 0, none⟩ = some (.slice ta c.ts.length tc) := M3.out.cb.cell 0
  have a1 : w3.cell? ⟨bx, 1, none⟩ = some (.slice ca c.cs.length cc) := M3.out.cb.cell 1
  have a2 : w3.cell? ⟨bx, 2, none⟩ = some (.slice sa c.ss.length sc) := M3.out.cb.cell 2
  have a3 : w3.cell? ⟨bx, 3, none⟩ = some (.slice da c.d.length dc) := M3.out.cb.cell 3
  have a4 : w3.cell? ⟨bx, 4, none⟩ = some (.int .i64 c.n) := M3.out.cb.cell 4
  go_upto_region 8 with (first | (go_at_call 19; refine (twin_is _ _ c M3.out.cw HSM.out).mono ?_; rintro e w4 ⟨v4, rfl, hD, hB⟩; (have N4 : Hid (CtM bx w w4 [.slice ta c.ts.length tc, .slice ca c.cs.length cc, .slice sa c.ss.length sc, .slice da c.d.length dc, .int .i64 c.n] c ∧ CW (fun _ => True) w4 v4 c) := ⟨M3.out.past hB, (hD.cw HSM.out).mono fun _ _ _ => trivial⟩); (clear hD hB)) | (go_at_call 35; refine (SE.out _ _ _ N4.out.2).mono ?_; rintro e w5 ⟨⟨oa, oc, rfl, hc, hO⟩, hB⟩; (have M5 : Hid (CtM bx w w5 [.slice ta c.ts.length tc, .slice ca c.cs.length cc, .slice sa c.ss.length sc, .slice da c.d.length dc, .int .i64 c.n] c) := N4.out.1.past hB); (have HOC : Hid (bs.length ≤ oc) := hc); (have BR : Hid (w5.ownsRow w.heap.size 5 1 (.slice (some oa) bs.length oc) bs.length (bV bs)) := owns_base hO N4.out.1.bel.size); (clear hO hB hc)))
  clear N4 M3 a0 a1 a2 a3 a4 SE
  go_upto_region 11 with fail
  have BA := below_alloc w5 (.cells (iV [0, 1, 2, 3, 6]).toArray 3)
  have M6 : Hid (TuM bx w (w5.alloc (.cells (iV [0, 1, 2, 3, 6]).toArray 3)) [.slice ta c.ts.length tc, .slice ca c.cs.length cc, .slice sa c.ss.length sc, .slice da c.d.length dc, .int .i64 c.n] (.slice (some oa) bs.length oc) bs (.slice (some ⟨w5.heap.size, 0, none⟩) 5 5) [0, 1, 2, 3, 6]) := ⟨M5.out.cb.past BA, M5.out.bel.trans (BA.mono M5.out.bel.size), owns_past BR.out BA, World.ownsRow_lit w5 (iV [0, 1, 2, 3, 6]).toArray 5 M5.out.bel.size (by unfold maxLen; omega) rfl⟩
  clear BA BR M5
  generalize w5.heap.size = gp0 at M6 ⊢
  generalize hw6 : w5.alloc (.cells (iV [0, 1, 2, 3, 6]).toArray 3) = w6 at M6
  rw [show w5.alloc (.cells #[.int .i64 0, .int .i64 1, .int .i64 2, .int .i64 3, .int .i64 6] 3) = w6 from hw6]
  clear hw6
  obtain ⟨n2, hn2⟩ : ∃ n2, n2 = 2 * c.cs.length := ⟨_, rfl⟩
  obtain ⟨n9, hn9⟩ : ∃ n9, n9 = 9 + n2 := ⟨_, rfl⟩
  have HN9 : Hid (n9 = 9 + 2 * c.cs.length) := by unfold Hid; omega
  have hcs := HMY.out.n2
  have t1 : 2 * (c.cs.length : Int) = (n2 : Int) := by omega
  have t2 : IntKind.i64.wrap (n2 : Int) = (n2 : Int) := by rw [IntKind.wrap_i64]; omega
  have t3 : 9 + (n2 : Int) = (n9 : Int) := by omega
  have t4 : IntKind.i64.wrap (n9 : Int) = (n9 : Int) := by rw [IntKind.wrap_i64]; omega
  clear hn2 hn9 hcs
  have a0 : w6.cell? ⟨bx, 0, none⟩ = some (.slice ta c.ts.length tc) := M6.out.cb.cell 0
  have a1 : w6.cell? ⟨bx, 1, none⟩ = some (.slice ca c.cs.length cc) := M6.out.cb.cell 1
  have a2 : w6.cell? ⟨bx, 2, none⟩ = some (.slice sa c.ss.length sc) := M6.out.cb.cell 2
  have a3 : w6.cell? ⟨bx, 3, none⟩ = some (.slice da c.d.length dc) := M6.out.cb.cell 3
  have a4 : w6.cell? ⟨bx, 4, none⟩ = some (.int .i64 c.n) := M6.out.cb.cell 4
  go_upto_region 12 with fail
  clear t1 t2 t3 t4 a1
  by_cases es : c.ss.length = 0
  · have q2 : ¬ (0 : Int) < (c.ss.length : Int) := by omega
    go_upto_region 15 with fail
    clear q2 a0 a2 a3 a4
    obtain ⟨ps, hps⟩ : ∃ ps : List Nat, ps = [0, 1, 2, 3, 6] := ⟨_, rfl⟩
    have M7 : Hid (TuM bx w w6 [.slice ta c.ts.length tc, .slice ca c.cs.length cc, .slice sa c.ss.length sc, .slice da c.d.length dc, .int .i64 c.n] (.slice (some oa) bs.length oc) bs (.slice (some ⟨gp0, 0, none⟩) 5 5) ps) := by rw [hps]; exact M6.out
    have HLP : Hid (ps.length ≤ 6) := by unfold Hid; rw [hps]; decide
    have HPP : Hid (∀ (k p : Nat), (ps ++ [n9, n9 + 3])[k]? = some p → Place c p) := by
      have h9 := HN9.out
      unfold Hid
      rw [hps]
      exact places_none es h9
    have HEN : Hid (n9 ≤ 100000) := by have := HN9.out; have := HMY.out.n2; unfold Hid; omega
    clear hps es M6 HN9
    obtain ⟨e3, he3⟩ : ∃ e3, e3 = n9 + 3 := ⟨_, rfl⟩
    have HPS : Hid (∀ (k p : Nat), (ps ++ [n9, e3])[k]? = some p → Place c p) := by rw [he3]; exact HPP.out
    have r1 : (n9 : Int) + 3 = (e3 : Int) := by omega
    have r2 : IntKind.i64.wrap (e3 : Int) = (e3 : Int) := by have := HEN.out; rw [IntKind.wrap_i64]; omega
    clear he3
    obtain ⟨pl, hpl⟩ : ∃ pl, pl = ps ++ [n9, e3] := ⟨_, rfl⟩
    have HPL : Hid (ps ++ [n9, e3] = pl) := hpl.symm
    obtain ⟨np, hnp⟩ : ∃ np, np = pl.length := ⟨_, rfl⟩
    have hl2 : pl.length = ps.length + 2 := by rw [hpl, List.length_append]; rfl
    have HNP : Hid (pl.length = np ∧ 0 < np ∧ np ≤ 100) := ⟨hnp.symm, by omega, by have := HLP.out; omega⟩
    clear hl2
    clear hpl hnp
    go_upto_region 16 with (at_builtin; refine wpList_appIs rfl _ _ rfl w.heap.size M7.out.bel.size (.slice (some ⟨gp0, 0, none⟩) 5 5) ps rfl M7.out.pl [n9, e3] rfl (by have := HLP.out; simp only [List.length_cons, List.length_nil]; omega) ?_; intro v8 w8 hA; rw [HPL.out] at hA)
    obtain ⟨pa, pc, exx⟩ := owns_sl hA.row
    rw [HNP.out.1] at exx
    subst exx
    have M8 : Hid (TuM bx w w8 [.slice ta c.ts.length tc, .slice ca c.cs.length cc, .slice sa c.ss.length sc, .slice da c.d.length dc, .int .i64 c.n] (.slice (some oa) bs.length oc) bs (.slice pa np pc) pl) := M7.out.app hA
    clear hA r1 r2 M7
    obtain ⟨r, hr⟩ : ∃ r, r = Int.tmod z (np : Int) := ⟨_, rfl⟩
    have HR1 : Hid (-(np : Int) < r ∧ r < (np : Int)) := by
      have h1 := HNP.out
      have h2 := Int.natAbs_tmod z (np : Int)
      have h3 := Nat.mod_lt z.natAbs (show 0 < (np : Int).natAbs by omega)
      rw [← h2, ← hr] at h3
      unfold Hid
      omega
    have e1 : Int.tmod z (np : Int) = r := hr.symm
    have e2 : IntKind.i64.wrap r = r := by have := HNP.out; have := HR1.out; rw [IntKind.wrap_i64]; omega
    have e9 : ¬ (np : Int) = 0 := by have := HNP.out; omega
    have e4 : ((np : Int) == 0) = false := by rw [beq_eq_false_iff_ne]; exact e9
    clear hr
    go_upto_region 17 with fail
    clear e1 e2 e9 e4
    by_cases er : r < 0
    · have q3 : r < 0 := er
      obtain ⟨k, hm⟩ : ∃ k : Nat, (k : Int) = r + (np : Int) := ⟨(r + (np : Int)).toNat, by have := HR1.out; omega⟩
      have HKB : Hid (k < np) := by have := HR1.out; unfold Hid; omega
      have e5 : r + (np : Int) = (k : Int) := hm.symm
      have e6 : IntKind.i64.wrap (k : Int) = (k : Int) := by have := HNP.out; have := HKB.out; rw [IntKind.wrap_i64]; omega
      clear hm er
      go_upto_region 19 with fail
      clear q3 e5 e6 HR1
      obtain ⟨p, hp⟩ : ∃ p, pl[k]? = some p := ⟨pl[k]'(by have := HNP.out; have := HKB.out; omega), List.getElem?_eq_getElem _⟩
      have HPC : Hid (Place c p) := HPS.out k p (by rw [HPL.out]; exact hp)
      have hpb : p < bs.length := by rw [HBE.out]; exact place_lt HMY.out HPC.out
      obtain ⟨x, hx⟩ : ∃ x, bs[p]? = some x := ⟨bs[p], List.getElem?_eq_getElem hpb⟩
      have hx8 : x < 256 := HBY.out x (List.mem_of_getElem? hx)
      obtain ⟨y, hy, HXY0, hne⟩ := xor_turn x hx8 q HQ.out.1 HQ.out.2
      have HXY : Hid (bits .xor .u8 (x : Int) q = (y : Int)) := HXY0
      clear HXY0
      obtain ⟨gp, epa, cp⟩ := InO.get M8.out.pl hp
      subst epa
      obtain ⟨gb, eoa, cb⟩ := row_get M8.out.row hx
      injection eoa with eoa
      subst eoa
      have HGN : Hid (gp ≠ gb) := fun e => owns_apart M8.out.pl M8.out.row (by decide) (k := gp) rfl (by rw [e]; rfl)
      have HGB : Hid (w.heap.size ≤ gb) := (M8.out.row.lt gb rfl).1
      have FZ : Hid (w8.frozen? ⟨gb, p, none⟩ = false) := World.ownsRow.frozenAt M8.out.row p
      obtain ⟨bt, hbt⟩ : ∃ bt, bt = bs.set p y := ⟨_, rfl⟩
      have HBL : Hid (bt.length = bs.length) := by unfold Hid; rw [hbt, List.length_set]
      have HBV : Hid ((bV bs).set p (.int .u8 (y : Int)) = bV bt) := by rw [hbt]; unfold Hid bV; rw [List.map_set]
      have hyb : Byt bt := by rw [hbt]; exact byt_set HBY.out hy
      have PE : ∀ o', ∃ e a : Nat, 0 < e ∧ Hid (∀ (W : World) (R : Nat → Prop) (u : Value), BL R W u bt → Calls Try.prog 31 #[u, .bool o'] W fun e' w' => (∃ ta tc ca cc sa sc da dc, e' = .returned (.tuple #[.agg #[.slice ta 0 tc, .slice ca 0 cc, .slice sa 0 sc, .slice da 0 dc, .int .i64 0], .agg #[.int .i64 (e : Int), .slice none 0 0, .int .i64 0, .int .i64 (a : Int)]])) ∧ Below W.heap.size W w') := fun o' => by
        obtain ⟨e, a, h1, h2⟩ := prs_turned HMY.out (by rw [← HBE.out, ← hbt]; exact hyb) HPC.out (by rw [← HBE.out]; exact hx) hne o'
        rw [← HBE.out, ← hbt] at h1
        refine ⟨e, a, h2, fun W R u q => (parse_ans W u bt o' q hyb (by rw [HBL.out]; have := HBS.out; omega)).mono fun e' w' q9 => ?_⟩
        rw [h1] at q9
        obtain ⟨⟨ta, tc, ca, cc, sa, sc, da, dc, e9, _⟩, hB⟩ := q9
        exact ⟨⟨ta, tc, ca, cc, sa, sc, da, dc, e9⟩, hB⟩
      obtain ⟨f1, f2, hf, PF⟩ := PE false
      obtain ⟨g1, g2, hg, PT⟩ := PE true
      have q1 : ¬ (bs.length : Int) ≤ (p : Int) := by omega
      have kI : (k : Int) < (np : Int) := by have := HKB.out; omega
      have pI : (p : Int) < (bs.length : Int) := by omega
      have HF : Hid (0 < f1 ∧ 0 < g1) := ⟨hf, hg⟩
      have CB : Hid (w8.cell? ⟨gb, p, none⟩ = some (.int .u8 (x : Int))) := cb
      clear hp hpb hx hx8 hy hne hbt hyb PE hf hg cb HPC HKB
      have HCP : Hid (w8.cell? ⟨gp, k, none⟩ = some (.int .i64 (p : Int))) := cp
      go_upto_region 21 with fail
      clear q1 cp
      refine wp_region_held_drew (S := fun V' => V'.cell? ⟨gp, k, none⟩ = some (.int .i64 (p : Int))) (by kernel_rfl) HCP.out (fun HH => ?_)
      have MD : Hid (Below w.heap.size w w8.drew ∧ w8.drew.ownsRow w.heap.size 5 1 (.slice (some ⟨gb, 0, none⟩) bs.length oc) bs.length (bV bs)) := ⟨M8.out.bel.drew, M8.out.row⟩
      have CB0 : Hid (w8.drew.cell? ⟨gb, p, none⟩ = some (.int .u8 (x : Int))) := CB.out
      have FZ0 : Hid (w8.drew.frozen? ⟨gb, p, none⟩ = false) := FZ.out
      clear M8 CB FZ HCP
      generalize w8.drew = z0 at HH MD CB0 FZ0 ⊢
      refine wpAnyH_take (i := 0) (v := .slice (some ⟨gb, 0, none⟩) bs.length oc) ov0 (by kernel_rfl) (by kernel_rfl) (by kernel_rfl) (fun _ _ _ h => h) (Or.inl ⟨by rfl, fun V' hS => ?_⟩) HH ?_
      · go_simp
      simp only [Act.put, List.setIfInBounds_toArray, List.set_cons_zero, List.set_cons_succ]
      refine wpAnyH_take (i := 1) (v := .slice (some ⟨gp, 0, none⟩) np pc) ov1 (by kernel_rfl) (by kernel_rfl) (by kernel_rfl) (fun _ _ _ h => h) (Or.inl ⟨by rfl, fun V' hS => ?_⟩) HH ?_
      · go_simp
      simp only [Act.put, List.setIfInBounds_toArray, List.set_cons_zero, List.set_cons_succ]
      refine wpAnyH_take (i := 2) (v := .int .i64 (k : Int)) ov2 (by kernel_rfl) (by kernel_rfl) (by kernel_rfl) (fun _ _ _ h => h) (Or.inl ⟨by rfl, fun V' hS => ?_⟩) HH ?_
      · go_simp
      simp only [Act.put, List.setIfInBounds_toArray, List.set_cons_zero, List.set_cons_succ]
      refine wpAnyH_take (i := 3) (v := .pointer (some ⟨gp, k, none⟩)) ov3 (by kernel_rfl) (by kernel_rfl) (by kernel_rfl) (fun _ _ _ h => h) (Or.inl ⟨by rfl, fun V' hS => ?_⟩) HH ?_
      · go_simp
      simp only [Act.put, List.setIfInBounds_toArray, List.set_cons_zero, List.set_cons_succ]
      refine wpAnyH_take (i := 4) (v := .int .i64 (p : Int)) ov4 (by kernel_rfl) (by kernel_rfl) (by kernel_rfl) (fun _ _ _ h => h) (Or.inl ⟨by rfl, fun V' hS => ?_⟩) HH ?_
      · have c0 := hS
        go_simp
      simp only [Act.put, List.setIfInBounds_toArray, List.set_cons_zero, List.set_cons_succ]
      refine wpAnyH_take (i := 5) (v := .slice (some ⟨gb, 0, none⟩) bs.length oc) ov5 (by kernel_rfl) (by kernel_rfl) (by kernel_rfl) (fun _ _ _ h => h) (Or.inl ⟨by rfl, fun V' hS => ?_⟩) HH ?_
      · go_simp
      simp only [Act.put, List.setIfInBounds_toArray, List.set_cons_zero, List.set_cons_succ]
      refine wpAnyH_take (i := 6) (v := .slice (some ⟨gp, 0, none⟩) np pc) ov6 (by kernel_rfl) (by kernel_rfl) (by kernel_rfl) (fun _ _ _ h => h) (Or.inl ⟨by rfl, fun V' hS => ?_⟩) HH ?_
      · go_simp
      simp only [Act.put, List.setIfInBounds_toArray, List.set_cons_zero, List.set_cons_succ]
      refine wpAnyH_take (i := 7) (v := .int .i64 (k : Int)) ov7 (by kernel_rfl) (by kernel_rfl) (by kernel_rfl) (fun _ _ _ h => h) (Or.inl ⟨by rfl, fun V' hS => ?_⟩) HH ?_
      · go_simp
      simp only [Act.put, List.setIfInBounds_toArray, List.set_cons_zero, List.set_cons_succ]
      refine wpAnyH_take (i := 8) (v := .pointer (some ⟨gp, k, none⟩)) ov8 (by kernel_rfl) (by kernel_rfl) (by kernel_rfl) (fun _ _ _ h => h) (Or.inl ⟨by rfl, fun V' hS => ?_⟩) HH ?_
      · go_simp
      simp only [Act.put, List.setIfInBounds_toArray, List.set_cons_zero, List.set_cons_succ]
      refine wpAnyH_take (i := 9) (v := .int .i64 (p : Int)) ov9 (by kernel_rfl) (by kernel_rfl) (by kernel_rfl) (fun _ _ _ h => h) (Or.inl ⟨by rfl, fun V' hS => ?_⟩) HH ?_
      · have c0 := hS
        go_simp
      simp only [Act.put, List.setIfInBounds_toArray, List.set_cons_zero, List.set_cons_succ]
      refine wpAnyH_take (i := 10) (v := .pointer (some ⟨gb, p, none⟩)) ov10 (by kernel_rfl) (by kernel_rfl) (by kernel_rfl) (fun _ _ _ h => h) (Or.inl ⟨by rfl, fun V' hS => ?_⟩) HH ?_
      · go_simp
      simp only [Act.put, List.setIfInBounds_toArray, List.set_cons_zero, List.set_cons_succ]
      refine wpAnyH_take (i := 12) (v := .int .u8 q) ov12 (by kernel_rfl) (by kernel_rfl) (by kernel_rfl) (fun _ _ _ h => h) (Or.inl ⟨by rfl, fun V' hS => ?_⟩) HH ?_
      · go_simp
      simp only [Act.put, List.setIfInBounds_toArray, List.set_cons_zero, List.set_cons_succ]
      refine wpAnyH_ready (rs := [11]) (by kernel_rfl) (by simp) ?_
      refine AllReadyH.cons ov11 (fun K hK => ?_) AllReadyH.nil
      rw [if_pos (by rfl)]
      have c0 := CB0.out
      go_simp
      refine hK.out _ _ HH (fun _ => ?_)
      clear hK K
      (try simp only [Act.put, List.setIfInBounds_toArray, List.set_cons_zero, List.set_cons_succ])
      refine wpAnyH_take (i := 13) (v := .int .u8 (y : Int)) ov13 (by kernel_rfl) (by kernel_rfl) (by kernel_rfl) (fun _ _ _ h => h) (Or.inl ⟨by rfl, fun V' hS => ?_⟩) HH ?_
      · have c0 := HXY.out
        go_simp
      simp only [Act.put, List.setIfInBounds_toArray, List.set_cons_zero, List.set_cons_succ]
      refine wpAnyH_take (i := 14) (v := .pointer (some ⟨gb, p, none⟩)) ov14 (by kernel_rfl) (by kernel_rfl) (by kernel_rfl) (fun _ _ _ h => h) (Or.inl ⟨by rfl, fun V' hS => ?_⟩) HH ?_
      · go_simp
      simp only [Act.put, List.setIfInBounds_toArray, List.set_cons_zero, List.set_cons_succ]
      refine wpAnyH_ready (rs := [15]) (by kernel_rfl) (by simp) ?_
      refine AllReadyH.cons ov15 (fun K hK => ?_) AllReadyH.nil
      rw [if_pos (by rfl)]
      have c0 := CB0.out
      have f0 := FZ0.out
      go_simp
      clear c0 f0
      refine hK.out _ (z0.setCell ⟨gb, p, none⟩ (.int .u8 (y : Int))) ((World.cell?_setCell_far z0 ⟨gb, p, none⟩ ⟨gp, k, none⟩ _ (Ne.symm HGN.out)).trans HH) (fun _ => ?_)
      clear hK K
      (try simp only [Act.put, List.setIfInBounds_toArray, List.set_cons_zero, List.set_cons_succ])
      refine wpAnyH_done (by kernel_rfl) ?_ _
      clear HH
      have M9 : Hid (Below w.heap.size w (z0.setCell ⟨gb, p, none⟩ (.int .u8 (y : Int))) ∧ (z0.setCell ⟨gb, p, none⟩ (.int .u8 (y : Int))).ownsRow w.heap.size 5 1 (.slice (some ⟨gb, 0, none⟩) bs.length oc) bt.length (bV bt)) := ⟨MD.out.1.trans ((But.refl (fun y => y = gb) z0).setCell ⟨gb, p, none⟩ _ (Or.inl rfl) |>.below (fun k e => by have := HGB.out; omega) MD.out.1.size), by have h9 := World.ownsRow.stored MD.out.2 p (.int .u8 (y : Int)); rw [HBV.out] at h9; rw [HBL.out]; exact h9.1⟩
      generalize (z0.setCell ⟨gb, p, none⟩ (.int .u8 (y : Int))) = w9 at M9 ⊢
      clear MD CB0 FZ0
      have BTa : Hid (BL (fun _ => True) w9 (.slice (some ⟨gb, 0, none⟩) bs.length oc) bt) := by have h9 := SL.own (P := fun _ => True) M9.out.2 (by have := HBL.out; have := HBS.out; omega) (fun _ _ => trivial); exact h9
      go_upto_region 23 with (first | (go_at_call 32; refine (own_is _ _ _ BTa.out (by have := HBL.out; have := HBS.out; omega)).mono ?_; rintro e xa ⟨va, rfl, hO, hB⟩; (have Oa : Hid (BL (fun _ => True) xa va bt) := SL.own hO (by have := HBL.out; have := HBS.out; omega) (fun _ _ => trivial)); (have Na := And.intro hB True.intro); (clear hO hB)) | (go_at_call 31; refine (PF.out _ _ _ Oa.out).mono ?_; rintro e ya ⟨⟨ta1, tc1, ca1, cc1, sa1, sc1, da1, dc1, rfl⟩, hB⟩; (have Da : Hid (Below w9.heap.size w9 ya) := Na.1.trans (hB.mono Na.1.size)); (clear hB Na)))
      have T2 := two_boxes ya [.slice ta1 0 tc1, .slice ca1 0 cc1, .slice sa1 0 sc1, .slice da1 0 dc1, .int .i64 0] [.int .i64 (f1 : Int), .slice none 0 0, .int .i64 0, .int .i64 (f2 : Int)]
      have Ea : Hid (Below w9.heap.size w9 ((ya.alloc (.cells #[.slice ta1 0 tc1, .slice ca1 0 cc1, .slice sa1 0 sc1, .slice da1 0 dc1, .int .i64 0] 28)).alloc (.cells #[.int .i64 (f1 : Int), .slice none 0 0, .int .i64 0, .int .i64 (f2 : Int)] 47)) ∧ CBox ((ya.alloc (.cells #[.slice ta1 0 tc1, .slice ca1 0 cc1, .slice sa1 0 sc1, .slice da1 0 dc1, .int .i64 0] 28)).alloc (.cells #[.int .i64 (f1 : Int), .slice none 0 0, .int .i64 0, .int .i64 (f2 : Int)] 47)) (ya.heap.size + 1) 47 [.int .i64 (f1 : Int), .slice none 0 0, .int .i64 0, .int .i64 (f2 : Int)]) := ⟨Da.out.trans (T2.2.2.mono Da.out.size), T2.2.1⟩
      clear T2 Da Oa BTa
      generalize ya.heap.size + 1 = ba at Ea ⊢
      generalize ya.heap.size = bqa at Ea ⊢
      generalize (ya.alloc _).alloc _ = w10 at Ea ⊢
      have M10 : Hid (Below w.heap.size w w10 ∧ w10.ownsRow w.heap.size 5 1 (.slice (some ⟨gb, 0, none⟩) bs.length oc) bt.length (bV bt) ∧ CBox w10 ba 47 [.int .i64 (f1 : Int), .slice none 0 0, .int .i64 0, .int .i64 (f2 : Int)]) := ⟨M9.out.1.trans (Ea.out.1.mono M9.out.1.size), owns_past M9.out.2 Ea.out.1, Ea.out.2⟩
      clear M9 Ea PF
      have BTb : Hid (BL (fun _ => True) w10 (.slice (some ⟨gb, 0, none⟩) bs.length oc) bt) := by have h9 := SL.own (P := fun _ => True) M10.out.2.1 (by have := HBL.out; have := HBS.out; omega) (fun _ _ => trivial); exact h9
      go_upto_region 24 with (first | (go_at_call 32; refine (own_is _ _ _ BTb.out (by have := HBL.out; have := HBS.out; omega)).mono ?_; rintro e xb ⟨vb, rfl, hO, hB⟩; (have Ob : Hid (BL (fun _ => True) xb vb bt) := SL.own hO (by have := HBL.out; have := HBS.out; omega) (fun _ _ => trivial)); (have Nb := And.intro hB True.intro); (clear hO hB)) | (go_at_call 31; refine (PT.out _ _ _ Ob.out).mono ?_; rintro e yb ⟨⟨ta2, tc2, ca2, cc2, sa2, sc2, da2, dc2, rfl⟩, hB⟩; (have Db : Hid (Below w10.heap.size w10 yb) := Nb.1.trans (hB.mono Nb.1.size)); (clear hB Nb)))
      have T2 := two_boxes yb [.slice ta2 0 tc2, .slice ca2 0 cc2, .slice sa2 0 sc2, .slice da2 0 dc2, .int .i64 0] [.int .i64 (g1 : Int), .slice none 0 0, .int .i64 0, .int .i64 (g2 : Int)]
      have Eb : Hid (Below w10.heap.size w10 ((yb.alloc (.cells #[.slice ta2 0 tc2, .slice ca2 0 cc2, .slice sa2 0 sc2, .slice da2 0 dc2, .int .i64 0] 28)).alloc (.cells #[.int .i64 (g1 : Int), .slice none 0 0, .int .i64 0, .int .i64 (g2 : Int)] 47)) ∧ CBox ((yb.alloc (.cells #[.slice ta2 0 tc2, .slice ca2 0 cc2, .slice sa2 0 sc2, .slice da2 0 dc2, .int .i64 0] 28)).alloc (.cells #[.int .i64 (g1 : Int), .slice none 0 0, .int .i64 0, .int .i64 (g2 : Int)] 47)) (yb.heap.size + 1) 47 [.int .i64 (g1 : Int), .slice none 0 0, .int .i64 0, .int .i64 (g2 : Int)]) := ⟨Db.out.trans (T2.2.2.mono Db.out.size), T2.2.1⟩
      clear T2 Db Ob BTb
      generalize yb.heap.size + 1 = bb at Eb ⊢
      generalize yb.heap.size = bqb at Eb ⊢
      generalize (yb.alloc _).alloc _ = w11 at Eb ⊢
      have M11 : Hid (Below w.heap.size w w11 ∧ CBox w11 ba 47 [.int .i64 (f1 : Int), .slice none 0 0, .int .i64 0, .int .i64 (f2 : Int)] ∧ CBox w11 bb 47 [.int .i64 (g1 : Int), .slice none 0 0, .int .i64 0, .int .i64 (g2 : Int)]) := ⟨M10.out.1.trans (Eb.out.1.mono M10.out.1.size), M10.out.2.2.past Eb.out.1, Eb.out.2⟩
      clear M10 Eb PT
      have k0 : w11.cell? ⟨ba, 0, none⟩ = some (.int .i64 (f1 : Int)) := M11.out.2.1.cell 0
      have k1 : w11.cell? ⟨bb, 0, none⟩ = some (.int .i64 (g1 : Int)) := M11.out.2.2.cell 0
      have q4 : ((f1 : Int) == 0) = false := by have := HF.out; rw [beq_eq_false_iff_ne]; omega
      have q5 : ((g1 : Int) == 0) = false := by have := HF.out; rw [beq_eq_false_iff_ne]; omega
      have q6 : ((f1 : Int) != 0) = true := by have := HF.out; simp; omega
      have q7 : ((g1 : Int) != 0) = true := by have := HF.out; simp; omega
      clear HF
      go_wp2
      go_ret
      exact ⟨rfl, M11.out.1⟩
    · obtain ⟨k, hm⟩ : ∃ k : Nat, r = (k : Int) := ⟨r.toNat, by omega⟩
      have HKB : Hid (k < np) := by have := HR1.out; unfold Hid; omega
      clear HR1
      subst hm
      have q3 : ¬ (k : Int) < 0 := er
      clear er
      go_upto_region 19 with fail
      clear q3
      obtain ⟨p, hp⟩ : ∃ p, pl[k]? = some p := ⟨pl[k]'(by have := HNP.out; have := HKB.out; omega), List.getElem?_eq_getElem _⟩
      have HPC : Hid (Place c p) := HPS.out k p (by rw [HPL.out]; exact hp)
      have hpb : p < bs.length := by rw [HBE.out]; exact place_lt HMY.out HPC.out
      obtain ⟨x, hx⟩ : ∃ x, bs[p]? = some x := ⟨bs[p], List.getElem?_eq_getElem hpb⟩
      have hx8 : x < 256 := HBY.out x (List.mem_of_getElem? hx)
      obtain ⟨y, hy, HXY0, hne⟩ := xor_turn x hx8 q HQ.out.1 HQ.out.2
      have HXY : Hid (bits .xor .u8 (x : Int) q = (y : Int)) := HXY0
      clear HXY0
      obtain ⟨gp, epa, cp⟩ := InO.get M8.out.pl hp
      subst epa
      obtain ⟨gb, eoa, cb⟩ := row_get M8.out.row hx
      injection eoa with eoa
      subst eoa
      have HGN : Hid (gp ≠ gb) := fun e => owns_apart M8.out.pl M8.out.row (by decide) (k := gp) rfl (by rw [e]; rfl)
      have HGB : Hid (w.heap.size ≤ gb) := (M8.out.row.lt gb rfl).1
      have FZ : Hid (w8.frozen? ⟨gb, p, none⟩ = false) := World.ownsRow.frozenAt M8.out.row p
      obtain ⟨bt, hbt⟩ : ∃ bt, bt = bs.set p y := ⟨_, rfl⟩
      have HBL : Hid (bt.length = bs.length) := by unfold Hid; rw [hbt, List.length_set]
      have HBV : Hid ((bV bs).set p (.int .u8 (y : Int)) = bV bt) := by rw [hbt]; unfold Hid bV; rw [List.map_set]
      have hyb : Byt bt := by rw [hbt]; exact byt_set HBY.out hy
      have PE : ∀ o', ∃ e a : Nat, 0 < e ∧ Hid (∀ (W : World) (R : Nat → Prop) (u : Value), BL R W u bt → Calls Try.prog 31 #[u, .bool o'] W fun e' w' => (∃ ta tc ca cc sa sc da dc, e' = .returned (.tuple #[.agg #[.slice ta 0 tc, .slice ca 0 cc, .slice sa 0 sc, .slice da 0 dc, .int .i64 0], .agg #[.int .i64 (e : Int), .slice none 0 0, .int .i64 0, .int .i64 (a : Int)]])) ∧ Below W.heap.size W w') := fun o' => by
        obtain ⟨e, a, h1, h2⟩ := prs_turned HMY.out (by rw [← HBE.out, ← hbt]; exact hyb) HPC.out (by rw [← HBE.out]; exact hx) hne o'
        rw [← HBE.out, ← hbt] at h1
        refine ⟨e, a, h2, fun W R u q => (parse_ans W u bt o' q hyb (by rw [HBL.out]; have := HBS.out; omega)).mono fun e' w' q9 => ?_⟩
        rw [h1] at q9
        obtain ⟨⟨ta, tc, ca, cc, sa, sc, da, dc, e9, _⟩, hB⟩ := q9
        exact ⟨⟨ta, tc, ca, cc, sa, sc, da, dc, e9⟩, hB⟩
      obtain ⟨f1, f2, hf, PF⟩ := PE false
      obtain ⟨g1, g2, hg, PT⟩ := PE true
      have q1 : ¬ (bs.length : Int) ≤ (p : Int) := by omega
      have kI : (k : Int) < (np : Int) := by have := HKB.out; omega
      have pI : (p : Int) < (bs.length : Int) := by omega
      have HF : Hid (0 < f1 ∧ 0 < g1) := ⟨hf, hg⟩
      have CB : Hid (w8.cell? ⟨gb, p, none⟩ = some (.int .u8 (x : Int))) := cb
      clear hp hpb hx hx8 hy hne hbt hyb PE hf hg cb HPC HKB
      have HCP : Hid (w8.cell? ⟨gp, k, none⟩ = some (.int .i64 (p : Int))) := cp
      go_upto_region 21 with fail
      clear q1 cp
      refine wp_region_held_drew (S := fun V' => V'.cell? ⟨gp, k, none⟩ = some (.int .i64 (p : Int))) (by kernel_rfl) HCP.out (fun HH => ?_)
      have MD : Hid (Below w.heap.size w w8.drew ∧ w8.drew.ownsRow w.heap.size 5 1 (.slice (some ⟨gb, 0, none⟩) bs.length oc) bs.length (bV bs)) := ⟨M8.out.bel.drew, M8.out.row⟩
      have CB0 : Hid (w8.drew.cell? ⟨gb, p, none⟩ = some (.int .u8 (x : Int))) := CB.out
      have FZ0 : Hid (w8.drew.frozen? ⟨gb, p, none⟩ = false) := FZ.out
      clear M8 CB FZ HCP
      generalize w8.drew = z0 at HH MD CB0 FZ0 ⊢
      refine wpAnyH_take (i := 0) (v := .slice (some ⟨gb, 0, none⟩) bs.length oc) ov0 (by kernel_rfl) (by kernel_rfl) (by kernel_rfl) (fun _ _ _ h => h) (Or.inl ⟨by rfl, fun V' hS => ?_⟩) HH ?_
      · go_simp
      simp only [Act.put, List.setIfInBounds_toArray, List.set_cons_zero, List.set_cons_succ]
      refine wpAnyH_take (i := 1) (v := .slice (some ⟨gp, 0, none⟩) np pc) ov1 (by kernel_rfl) (by kernel_rfl) (by kernel_rfl) (fun _ _ _ h => h) (Or.inl ⟨by rfl, fun V' hS => ?_⟩) HH ?_
      · go_simp
      simp only [Act.put, List.setIfInBounds_toArray, List.set_cons_zero, List.set_cons_succ]
      refine wpAnyH_take (i := 2) (v := .int .i64 (k : Int)) ov2 (by kernel_rfl) (by kernel_rfl) (by kernel_rfl) (fun _ _ _ h => h) (Or.inl ⟨by rfl, fun V' hS => ?_⟩) HH ?_
      · go_simp
      simp only [Act.put, List.setIfInBounds_toArray, List.set_cons_zero, List.set_cons_succ]
      refine wpAnyH_take (i := 3) (v := .pointer (some ⟨gp, k, none⟩)) ov3 (by kernel_rfl) (by kernel_rfl) (by kernel_rfl) (fun _ _ _ h => h) (Or.inl ⟨by rfl, fun V' hS => ?_⟩) HH ?_
      · go_simp
      simp only [Act.put, List.setIfInBounds_toArray, List.set_cons_zero, List.set_cons_succ]
      refine wpAnyH_take (i := 4) (v := .int .i64 (p : Int)) ov4 (by kernel_rfl) (by kernel_rfl) (by kernel_rfl) (fun _ _ _ h => h) (Or.inl ⟨by rfl, fun V' hS => ?_⟩) HH ?_
      · have c0 := hS
        go_simp
      simp only [Act.put, List.setIfInBounds_toArray, List.set_cons_zero, List.set_cons_succ]
      refine wpAnyH_take (i := 5) (v := .slice (some ⟨gb, 0, none⟩) bs.length oc) ov5 (by kernel_rfl) (by kernel_rfl) (by kernel_rfl) (fun _ _ _ h => h) (Or.inl ⟨by rfl, fun V' hS => ?_⟩) HH ?_
      · go_simp
      simp only [Act.put, List.setIfInBounds_toArray, List.set_cons_zero, List.set_cons_succ]
      refine wpAnyH_take (i := 6) (v := .slice (some ⟨gp, 0, none⟩) np pc) ov6 (by kernel_rfl) (by kernel_rfl) (by kernel_rfl) (fun _ _ _ h => h) (Or.inl ⟨by rfl, fun V' hS => ?_⟩) HH ?_
      · go_simp
      simp only [Act.put, List.setIfInBounds_toArray, List.set_cons_zero, List.set_cons_succ]
      refine wpAnyH_take (i := 7) (v := .int .i64 (k : Int)) ov7 (by kernel_rfl) (by kernel_rfl) (by kernel_rfl) (fun _ _ _ h => h) (Or.inl ⟨by rfl, fun V' hS => ?_⟩) HH ?_
      · go_simp
      simp only [Act.put, List.setIfInBounds_toArray, List.set_cons_zero, List.set_cons_succ]
      refine wpAnyH_take (i := 8) (v := .pointer (some ⟨gp, k, none⟩)) ov8 (by kernel_rfl) (by kernel_rfl) (by kernel_rfl) (fun _ _ _ h => h) (Or.inl ⟨by rfl, fun V' hS => ?_⟩) HH ?_
      · go_simp
      simp only [Act.put, List.setIfInBounds_toArray, List.set_cons_zero, List.set_cons_succ]
      refine wpAnyH_take (i := 9) (v := .int .i64 (p : Int)) ov9 (by kernel_rfl) (by kernel_rfl) (by kernel_rfl) (fun _ _ _ h => h) (Or.inl ⟨by rfl, fun V' hS => ?_⟩) HH ?_
      · have c0 := hS
        go_simp
      simp only [Act.put, List.setIfInBounds_toArray, List.set_cons_zero, List.set_cons_succ]
      refine wpAnyH_take (i := 10) (v := .pointer (some ⟨gb, p, none⟩)) ov10 (by kernel_rfl) (by kernel_rfl) (by kernel_rfl) (fun _ _ _ h => h) (Or.inl ⟨by rfl, fun V' hS => ?_⟩) HH ?_
      · go_simp
      simp only [Act.put, List.setIfInBounds_toArray, List.set_cons_zero, List.set_cons_succ]
      refine wpAnyH_take (i := 12) (v := .int .u8 q) ov12 (by kernel_rfl) (by kernel_rfl) (by kernel_rfl) (fun _ _ _ h => h) (Or.inl ⟨by rfl, fun V' hS => ?_⟩) HH ?_
      · go_simp
      simp only [Act.put, List.setIfInBounds_toArray, List.set_cons_zero, List.set_cons_succ]
      refine wpAnyH_ready (rs := [11]) (by kernel_rfl) (by simp) ?_
      refine AllReadyH.cons ov11 (fun K hK => ?_) AllReadyH.nil
      rw [if_pos (by rfl)]
      have c0 := CB0.out
      go_simp
      refine hK.out _ _ HH (fun _ => ?_)
      clear hK K
      (try simp only [Act.put, List.setIfInBounds_toArray, List.set_cons_zero, List.set_cons_succ])
      refine wpAnyH_take (i := 13) (v := .int .u8 (y : Int)) ov13 (by kernel_rfl) (by kernel_rfl) (by kernel_rfl) (fun _ _ _ h => h) (Or.inl ⟨by rfl, fun V' hS => ?_⟩) HH ?_
      · have c0 := HXY.out
        go_simp
      simp only [Act.put, List.setIfInBounds_toArray, List.set_cons_zero, List.set_cons_succ]
      refine wpAnyH_take (i := 14) (v := .pointer (some ⟨gb, p, none⟩)) ov14 (by kernel_rfl) (by kernel_rfl) (by kernel_rfl) (fun _ _ _ h => h) (Or.inl ⟨by rfl, fun V' hS => ?_⟩) HH ?_
      · go_simp
      simp only [Act.put, List.setIfInBounds_toArray, List.set_cons_zero, List.set_cons_succ]
      refine wpAnyH_ready (rs := [15]) (by kernel_rfl) (by simp) ?_
      refine AllReadyH.cons ov15 (fun K hK => ?_) AllReadyH.nil
      rw [if_pos (by rfl)]
      have c0 := CB0.out
      have f0 := FZ0.out
      go_simp
      clear c0 f0
      refine hK.out _ (z0.setCell ⟨gb, p, none⟩ (.int .u8 (y : Int))) ((World.cell?_setCell_far z0 ⟨gb, p, none⟩ ⟨gp, k, none⟩ _ (Ne.symm HGN.out)).trans HH) (fun _ => ?_)
      clear hK K
      (try simp only [Act.put, List.setIfInBounds_toArray, List.set_cons_zero, List.set_cons_succ])
      refine wpAnyH_done (by kernel_rfl) ?_ _
      clear HH
      have M9 : Hid (Below w.heap.size w (z0.setCell ⟨gb, p, none⟩ (.int .u8 (y : Int))) ∧ (z0.setCell ⟨gb, p, none⟩ (.int .u8 (y : Int))).ownsRow w.heap.size 5 1 (.slice (some ⟨gb, 0, none⟩) bs.length oc) bt.length (bV bt)) := ⟨MD.out.1.trans ((But.refl (fun y => y = gb) z0).setCell ⟨gb, p, none⟩ _ (Or.inl rfl) |>.below (fun k e => by have := HGB.out; omega) MD.out.1.size), by have h9 := World.ownsRow.stored MD.out.2 p (.int .u8 (y : Int)); rw [HBV.out] at h9; rw [HBL.out]; exact h9.1⟩
      generalize (z0.setCell ⟨gb, p, none⟩ (.int .u8 (y : Int))) = w9 at M9 ⊢
      clear MD CB0 FZ0
      have BTa : Hid (BL (fun _ => True) w9 (.slice (some ⟨gb, 0, none⟩) bs.length oc) bt) := by have h9 := SL.own (P := fun _ => True) M9.out.2 (by have := HBL.out; have := HBS.out; omega) (fun _ _ => trivial); exact h9
      go_upto_region 23 with (first | (go_at_call 32; refine (own_is _ _ _ BTa.out (by have := HBL.out; have := HBS.out; omega)).mono ?_; rintro e xa ⟨va, rfl, hO, hB⟩; (have Oa : Hid (BL (fun _ => True) xa va bt) := SL.own hO (by have := HBL.out; have := HBS.out; omega) (fun _ _ => trivial)); (have Na := And.intro hB True.intro); (clear hO hB)) | (go_at_call 31; refine (PF.out _ _ _ Oa.out).mono ?_; rintro e ya ⟨⟨ta1, tc1, ca1, cc1, sa1, sc1, da1, dc1, rfl⟩, hB⟩; (have Da : Hid (Below w9.heap.size w9 ya) := Na.1.trans (hB.mono Na.1.size)); (clear hB Na)))
      have T2 := two_boxes ya [.slice ta1 0 tc1, .slice ca1 0 cc1, .slice sa1 0 sc1, .slice da1 0 dc1, .int .i64 0] [.int .i64 (f1 : Int), .slice none 0 0, .int .i64 0, .int .i64 (f2 : Int)]
      have Ea : Hid (Below w9.heap.size w9 ((ya.alloc (.cells #[.slice ta1 0 tc1, .slice ca1 0 cc1, .slice sa1 0 sc1, .slice da1 0 dc1, .int .i64 0] 28)).alloc (.cells #[.int .i64 (f1 : Int), .slice none 0 0, .int .i64 0, .int .i64 (f2 : Int)] 47)) ∧ CBox ((ya.alloc (.cells #[.slice ta1 0 tc1, .slice ca1 0 cc1, .slice sa1 0 sc1, .slice da1 0 dc1, .int .i64 0] 28)).alloc (.cells #[.int .i64 (f1 : Int), .slice none 0 0, .int .i64 0, .int .i64 (f2 : Int)] 47)) (ya.heap.size + 1) 47 [.int .i64 (f1 : Int), .slice none 0 0, .int .i64 0, .int .i64 (f2 : Int)]) := ⟨Da.out.trans (T2.2.2.mono Da.out.size), T2.2.1⟩
      clear T2 Da Oa BTa
      generalize ya.heap.size + 1 = ba at Ea ⊢
      generalize ya.heap.size = bqa at Ea ⊢
      generalize (ya.alloc _).alloc _ = w10 at Ea ⊢
      have M10 : Hid (Below w.heap.size w w10 ∧ w10.ownsRow w.heap.size 5 1 (.slice (some ⟨gb, 0, none⟩) bs.length oc) bt.length (bV bt) ∧ CBox w10 ba 47 [.int .i64 (f1 : Int), .slice none 0 0, .int .i64 0, .int .i64 (f2 : Int)]) := ⟨M9.out.1.trans (Ea.out.1.mono M9.out.1.size), owns_past M9.out.2 Ea.out.1, Ea.out.2⟩
      clear M9 Ea PF
      have BTb : Hid (BL (fun _ => True) w10 (.slice (some ⟨gb, 0, none⟩) bs.length oc) bt) := by have h9 := SL.own (P := fun _ => True) M10.out.2.1 (by have := HBL.out; have := HBS.out; omega) (fun _ _ => trivial); exact h9
      go_upto_region 24 with (first | (go_at_call 32; refine (own_is _ _ _ BTb.out (by have := HBL.out; have := HBS.out; omega)).mono ?_; rintro e xb ⟨vb, rfl, hO, hB⟩; (have Ob : Hid (BL (fun _ => True) xb vb bt) := SL.own hO (by have := HBL.out; have := HBS.out; omega) (fun _ _ => trivial)); (have Nb := And.intro hB True.intro); (clear hO hB)) | (go_at_call 31; refine (PT.out _ _ _ Ob.out).mono ?_; rintro e yb ⟨⟨ta2, tc2, ca2, cc2, sa2, sc2, da2, dc2, rfl⟩, hB⟩; (have Db : Hid (Below w10.heap.size w10 yb) := Nb.1.trans (hB.mono Nb.1.size)); (clear hB Nb)))
      have T2 := two_boxes yb [.slice ta2 0 tc2, .slice ca2 0 cc2, .slice sa2 0 sc2, .slice da2 0 dc2, .int .i64 0] [.int .i64 (g1 : Int), .slice none 0 0, .int .i64 0, .int .i64 (g2 : Int)]
      have Eb : Hid (Below w10.heap.size w10 ((yb.alloc (.cells #[.slice ta2 0 tc2, .slice ca2 0 cc2, .slice sa2 0 sc2, .slice da2 0 dc2, .int .i64 0] 28)).alloc (.cells #[.int .i64 (g1 : Int), .slice none 0 0, .int .i64 0, .int .i64 (g2 : Int)] 47)) ∧ CBox ((yb.alloc (.cells #[.slice ta2 0 tc2, .slice ca2 0 cc2, .slice sa2 0 sc2, .slice da2 0 dc2, .int .i64 0] 28)).alloc (.cells #[.int .i64 (g1 : Int), .slice none 0 0, .int .i64 0, .int .i64 (g2 : Int)] 47)) (yb.heap.size + 1) 47 [.int .i64 (g1 : Int), .slice none 0 0, .int .i64 0, .int .i64 (g2 : Int)]) := ⟨Db.out.trans (T2.2.2.mono Db.out.size), T2.2.1⟩
      clear T2 Db Ob BTb
      generalize yb.heap.size + 1 = bb at Eb ⊢
      generalize yb.heap.size = bqb at Eb ⊢
      generalize (yb.alloc _).alloc _ = w11 at Eb ⊢
      have M11 : Hid (Below w.heap.size w w11 ∧ CBox w11 ba 47 [.int .i64 (f1 : Int), .slice none 0 0, .int .i64 0, .int .i64 (f2 : Int)] ∧ CBox w11 bb 47 [.int .i64 (g1 : Int), .slice none 0 0, .int .i64 0, .int .i64 (g2 : Int)]) := ⟨M10.out.1.trans (Eb.out.1.mono M10.out.1.size), M10.out.2.2.past Eb.out.1, Eb.out.2⟩
      clear M10 Eb PT
      have k0 : w11.cell? ⟨ba, 0, none⟩ = some (.int .i64 (f1 : Int)) := M11.out.2.1.cell 0
      have k1 : w11.cell? ⟨bb, 0, none⟩ = some (.int .i64 (g1 : Int)) := M11.out.2.2.cell 0
      have q4 : ((f1 : Int) == 0) = false := by have := HF.out; rw [beq_eq_false_iff_ne]; omega
      have q5 : ((g1 : Int) == 0) = false := by have := HF.out; rw [beq_eq_false_iff_ne]; omega
      have q6 : ((f1 : Int) != 0) = true := by have := HF.out; simp; omega
      have q7 : ((g1 : Int) != 0) = true := by have := HF.out; simp; omega
      clear HF
      go_wp2
      go_ret
      exact ⟨rfl, M11.out.1⟩
  · have q2 : (0 : Int) < (c.ss.length : Int) := by omega
    have HES : Hid (c.ss.length ≠ 0) := es
    clear es
    go_upto_region 14 with (at_builtin; refine wpList_appIs rfl _ _ rfl w.heap.size M6.out.bel.size (.slice (some ⟨gp0, 0, none⟩) 5 5) [0, 1, 2, 3, 6] rfl M6.out.pl [n9] rfl (by simp) ?_; intro v7 w7 hA)
    clear q2 a0 a2 a3 a4
    obtain ⟨pa, pc, exx⟩ := owns_sl hA.row
    subst exx
    have M7 : Hid (TuM bx w w7 [.slice ta c.ts.length tc, .slice ca c.cs.length cc, .slice sa c.ss.length sc, .slice da c.d.length dc, .int .i64 c.n] (.slice (some oa) bs.length oc) bs (.slice pa ([0, 1, 2, 3, 6] ++ [n9]).length pc) ([0, 1, 2, 3, 6] ++ [n9])) := M6.out.app hA
    clear hA M6
    obtain ⟨n12, hn12⟩ : ∃ n12, n12 = n9 + 3 := ⟨_, rfl⟩
    obtain ⟨m4, hm4⟩ : ∃ m4, m4 = 4 * c.ss.length := ⟨_, rfl⟩
    obtain ⟨en, hen⟩ : ∃ en, en = n12 + m4 := ⟨_, rfl⟩
    have hss := HMY.out.ns
    have hcs := HMY.out.n2
    have h9 := HN9.out
    have t1 : (n9 : Int) + 3 = (n12 : Int) := by omega
    have t2 : IntKind.i64.wrap (n12 : Int) = (n12 : Int) := by rw [IntKind.wrap_i64]; omega
    have t3 : 4 * (c.ss.length : Int) = (m4 : Int) := by omega
    have t4 : IntKind.i64.wrap (m4 : Int) = (m4 : Int) := by rw [IntKind.wrap_i64]; omega
    have t5 : (n12 : Int) + (m4 : Int) = (en : Int) := by omega
    have t6 : IntKind.i64.wrap (en : Int) = (en : Int) := by rw [IntKind.wrap_i64]; omega
    have HEN : Hid (en ≤ 100000) := by unfold Hid; omega
    have HE2 : Hid (en = 9 + 2 * c.cs.length + (3 + 4 * c.ss.length)) := by unfold Hid; omega
    clear hn12 hm4 hen hss hcs h9
    have a2 : w7.cell? ⟨bx, 2, none⟩ = some (.slice sa c.ss.length sc) := M7.out.cb.cell 2
    go_upto_region 15 with fail
    clear t1 t2 t3 t4 t5 t6 a2
    obtain ⟨ps, hps⟩ : ∃ ps : List Nat, ps = [0, 1, 2, 3, 6] ++ [n9] := ⟨_, rfl⟩
    have HPP : Hid (∀ (k p : Nat), (ps ++ [en, en + 3])[k]? = some p → Place c p) := by
      have h9 := HN9.out
      have h8 := HE2.out
      unfold Hid
      rw [hps]
      exact places_some HES.out h9 h8
    have M8 : Hid (TuM bx w w7 [.slice ta c.ts.length tc, .slice ca c.cs.length cc, .slice sa c.ss.length sc, .slice da c.d.length dc, .int .i64 c.n] (.slice (some oa) bs.length oc) bs (.slice pa ([0, 1, 2, 3, 6] ++ [n9]).length pc) ps) := by rw [hps]; exact M7.out
    clear M7
    have M7 := M8
    clear M8
    have HLP : Hid (ps.length ≤ 6) := by unfold Hid; rw [hps]; simp
    clear hps HN9 HE2 HES
    obtain ⟨e3, he3⟩ : ∃ e3, e3 = en + 3 := ⟨_, rfl⟩
    have HPS : Hid (∀ (k p : Nat), (ps ++ [en, e3])[k]? = some p → Place c p) := by rw [he3]; exact HPP.out
    have r1 : (en : Int) + 3 = (e3 : Int) := by omega
    have r2 : IntKind.i64.wrap (e3 : Int) = (e3 : Int) := by have := HEN.out; rw [IntKind.wrap_i64]; omega
    clear he3
    obtain ⟨pl, hpl⟩ : ∃ pl, pl = ps ++ [en, e3] := ⟨_, rfl⟩
    have HPL : Hid (ps ++ [en, e3] = pl) := hpl.symm
    obtain ⟨np, hnp⟩ : ∃ np, np = pl.length := ⟨_, rfl⟩
    have hl2 : pl.length = ps.length + 2 := by rw [hpl, List.length_append]; rfl
    have HNP : Hid (pl.length = np ∧ 0 < np ∧ np ≤ 100) := ⟨hnp.symm, by omega, by have := HLP.out; omega⟩
    clear hl2
    clear hpl hnp
    go_upto_region 16 with (at_builtin; refine wpList_appIs rfl _ _ rfl w.heap.size M7.out.bel.size (.slice pa ([0, 1, 2, 3, 6] ++ [n9]).length pc) ps rfl M7.out.pl [en, e3] rfl (by have := HLP.out; simp only [List.length_cons, List.length_nil]; omega) ?_; intro v8 w8 hA; rw [HPL.out] at hA)
    obtain ⟨pa, pc, exx⟩ := owns_sl hA.row
    rw [HNP.out.1] at exx
    subst exx
    have M8 : Hid (TuM bx w w8 [.slice ta c.ts.length tc, .slice ca c.cs.length cc, .slice sa c.ss.length sc, .slice da c.d.length dc, .int .i64 c.n] (.slice (some oa) bs.length oc) bs (.slice pa np pc) pl) := M7.out.app hA
    clear hA r1 r2 M7
    obtain ⟨r, hr⟩ : ∃ r, r = Int.tmod z (np : Int) := ⟨_, rfl⟩
    have HR1 : Hid (-(np : Int) < r ∧ r < (np : Int)) := by
      have h1 := HNP.out
      have h2 := Int.natAbs_tmod z (np : Int)
      have h3 := Nat.mod_lt z.natAbs (show 0 < (np : Int).natAbs by omega)
      rw [← h2, ← hr] at h3
      unfold Hid
      omega
    have e1 : Int.tmod z (np : Int) = r := hr.symm
    have e2 : IntKind.i64.wrap r = r := by have := HNP.out; have := HR1.out; rw [IntKind.wrap_i64]; omega
    have e9 : ¬ (np : Int) = 0 := by have := HNP.out; omega
    have e4 : ((np : Int) == 0) = false := by rw [beq_eq_false_iff_ne]; exact e9
    clear hr
    go_upto_region 17 with fail
    clear e1 e2 e9 e4
    by_cases er : r < 0
    · have q3 : r < 0 := er
      obtain ⟨k, hm⟩ : ∃ k : Nat, (k : Int) = r + (np : Int) := ⟨(r + (np : Int)).toNat, by have := HR1.out; omega⟩
      have HKB : Hid (k < np) := by have := HR1.out; unfold Hid; omega
      have e5 : r + (np : Int) = (k : Int) := hm.symm
      have e6 : IntKind.i64.wrap (k : Int) = (k : Int) := by have := HNP.out; have := HKB.out; rw [IntKind.wrap_i64]; omega
      clear hm er
      go_upto_region 19 with fail
      clear q3 e5 e6 HR1
      obtain ⟨p, hp⟩ : ∃ p, pl[k]? = some p := ⟨pl[k]'(by have := HNP.out; have := HKB.out; omega), List.getElem?_eq_getElem _⟩
      have HPC : Hid (Place c p) := HPS.out k p (by rw [HPL.out]; exact hp)
      have hpb : p < bs.length := by rw [HBE.out]; exact place_lt HMY.out HPC.out
      obtain ⟨x, hx⟩ : ∃ x, bs[p]? = some x := ⟨bs[p], List.getElem?_eq_getElem hpb⟩
      have hx8 : x < 256 := HBY.out x (List.mem_of_getElem? hx)
      obtain ⟨y, hy, HXY0, hne⟩ := xor_turn x hx8 q HQ.out.1 HQ.out.2
      have HXY : Hid (bits .xor .u8 (x : Int) q = (y : Int)) := HXY0
      clear HXY0
      obtain ⟨gp, epa, cp⟩ := InO.get M8.out.pl hp
      subst epa
      obtain ⟨gb, eoa, cb⟩ := row_get M8.out.row hx
      injection eoa with eoa
      subst eoa
      have HGN : Hid (gp ≠ gb) := fun e => owns_apart M8.out.pl M8.out.row (by decide) (k := gp) rfl (by rw [e]; rfl)
      have HGB : Hid (w.heap.size ≤ gb) := (M8.out.row.lt gb rfl).1
      have FZ : Hid (w8.frozen? ⟨gb, p, none⟩ = false) := World.ownsRow.frozenAt M8.out.row p
      obtain ⟨bt, hbt⟩ : ∃ bt, bt = bs.set p y := ⟨_, rfl⟩
      have HBL : Hid (bt.length = bs.length) := by unfold Hid; rw [hbt, List.length_set]
      have HBV : Hid ((bV bs).set p (.int .u8 (y : Int)) = bV bt) := by rw [hbt]; unfold Hid bV; rw [List.map_set]
      have hyb : Byt bt := by rw [hbt]; exact byt_set HBY.out hy
      have PE : ∀ o', ∃ e a : Nat, 0 < e ∧ Hid (∀ (W : World) (R : Nat → Prop) (u : Value), BL R W u bt → Calls Try.prog 31 #[u, .bool o'] W fun e' w' => (∃ ta tc ca cc sa sc da dc, e' = .returned (.tuple #[.agg #[.slice ta 0 tc, .slice ca 0 cc, .slice sa 0 sc, .slice da 0 dc, .int .i64 0], .agg #[.int .i64 (e : Int), .slice none 0 0, .int .i64 0, .int .i64 (a : Int)]])) ∧ Below W.heap.size W w') := fun o' => by
        obtain ⟨e, a, h1, h2⟩ := prs_turned HMY.out (by rw [← HBE.out, ← hbt]; exact hyb) HPC.out (by rw [← HBE.out]; exact hx) hne o'
        rw [← HBE.out, ← hbt] at h1
        refine ⟨e, a, h2, fun W R u q => (parse_ans W u bt o' q hyb (by rw [HBL.out]; have := HBS.out; omega)).mono fun e' w' q9 => ?_⟩
        rw [h1] at q9
        obtain ⟨⟨ta, tc, ca, cc, sa, sc, da, dc, e9, _⟩, hB⟩ := q9
        exact ⟨⟨ta, tc, ca, cc, sa, sc, da, dc, e9⟩, hB⟩
      obtain ⟨f1, f2, hf, PF⟩ := PE false
      obtain ⟨g1, g2, hg, PT⟩ := PE true
      have q1 : ¬ (bs.length : Int) ≤ (p : Int) := by omega
      have kI : (k : Int) < (np : Int) := by have := HKB.out; omega
      have pI : (p : Int) < (bs.length : Int) := by omega
      have HF : Hid (0 < f1 ∧ 0 < g1) := ⟨hf, hg⟩
      have CB : Hid (w8.cell? ⟨gb, p, none⟩ = some (.int .u8 (x : Int))) := cb
      clear hp hpb hx hx8 hy hne hbt hyb PE hf hg cb HPC HKB
      have HCP : Hid (w8.cell? ⟨gp, k, none⟩ = some (.int .i64 (p : Int))) := cp
      go_upto_region 21 with fail
      clear q1 cp
      refine wp_region_held_drew (S := fun V' => V'.cell? ⟨gp, k, none⟩ = some (.int .i64 (p : Int))) (by kernel_rfl) HCP.out (fun HH => ?_)
      have MD : Hid (Below w.heap.size w w8.drew ∧ w8.drew.ownsRow w.heap.size 5 1 (.slice (some ⟨gb, 0, none⟩) bs.length oc) bs.length (bV bs)) := ⟨M8.out.bel.drew, M8.out.row⟩
      have CB0 : Hid (w8.drew.cell? ⟨gb, p, none⟩ = some (.int .u8 (x : Int))) := CB.out
      have FZ0 : Hid (w8.drew.frozen? ⟨gb, p, none⟩ = false) := FZ.out
      clear M8 CB FZ HCP
      generalize w8.drew = z0 at HH MD CB0 FZ0 ⊢
      refine wpAnyH_take (i := 0) (v := .slice (some ⟨gb, 0, none⟩) bs.length oc) ov0 (by kernel_rfl) (by kernel_rfl) (by kernel_rfl) (fun _ _ _ h => h) (Or.inl ⟨by rfl, fun V' hS => ?_⟩) HH ?_
      · go_simp
      simp only [Act.put, List.setIfInBounds_toArray, List.set_cons_zero, List.set_cons_succ]
      refine wpAnyH_take (i := 1) (v := .slice (some ⟨gp, 0, none⟩) np pc) ov1 (by kernel_rfl) (by kernel_rfl) (by kernel_rfl) (fun _ _ _ h => h) (Or.inl ⟨by rfl, fun V' hS => ?_⟩) HH ?_
      · go_simp
      simp only [Act.put, List.setIfInBounds_toArray, List.set_cons_zero, List.set_cons_succ]
      refine wpAnyH_take (i := 2) (v := .int .i64 (k : Int)) ov2 (by kernel_rfl) (by kernel_rfl) (by kernel_rfl) (fun _ _ _ h => h) (Or.inl ⟨by rfl, fun V' hS => ?_⟩) HH ?_
      · go_simp
      simp only [Act.put, List.setIfInBounds_toArray, List.set_cons_zero, List.set_cons_succ]
      refine wpAnyH_take (i := 3) (v := .pointer (some ⟨gp, k, none⟩)) ov3 (by kernel_rfl) (by kernel_rfl) (by kernel_rfl) (fun _ _ _ h => h) (Or.inl ⟨by rfl, fun V' hS => ?_⟩) HH ?_
      · go_simp
      simp only [Act.put, List.setIfInBounds_toArray, List.set_cons_zero, List.set_cons_succ]
      refine wpAnyH_take (i := 4) (v := .int .i64 (p : Int)) ov4 (by kernel_rfl) (by kernel_rfl) (by kernel_rfl) (fun _ _ _ h => h) (Or.inl ⟨by rfl, fun V' hS => ?_⟩) HH ?_
      · have c0 := hS
        go_simp
      simp only [Act.put, List.setIfInBounds_toArray, List.set_cons_zero, List.set_cons_succ]
      refine wpAnyH_take (i := 5) (v := .slice (some ⟨gb, 0, none⟩) bs.length oc) ov5 (by kernel_rfl) (by kernel_rfl) (by kernel_rfl) (fun _ _ _ h => h) (Or.inl ⟨by rfl, fun V' hS => ?_⟩) HH ?_
      · go_simp
      simp only [Act.put, List.setIfInBounds_toArray, List.set_cons_zero, List.set_cons_succ]
      refine wpAnyH_take (i := 6) (v := .slice (some ⟨gp, 0, none⟩) np pc) ov6 (by kernel_rfl) (by kernel_rfl) (by kernel_rfl) (fun _ _ _ h => h) (Or.inl ⟨by rfl, fun V' hS => ?_⟩) HH ?_
      · go_simp
      simp only [Act.put, List.setIfInBounds_toArray, List.set_cons_zero, List.set_cons_succ]
      refine wpAnyH_take (i := 7) (v := .int .i64 (k : Int)) ov7 (by kernel_rfl) (by kernel_rfl) (by kernel_rfl) (fun _ _ _ h => h) (Or.inl ⟨by rfl, fun V' hS => ?_⟩) HH ?_
      · go_simp
      simp only [Act.put, List.setIfInBounds_toArray, List.set_cons_zero, List.set_cons_succ]
      refine wpAnyH_take (i := 8) (v := .pointer (some ⟨gp, k, none⟩)) ov8 (by kernel_rfl) (by kernel_rfl) (by kernel_rfl) (fun _ _ _ h => h) (Or.inl ⟨by rfl, fun V' hS => ?_⟩) HH ?_
      · go_simp
      simp only [Act.put, List.setIfInBounds_toArray, List.set_cons_zero, List.set_cons_succ]
      refine wpAnyH_take (i := 9) (v := .int .i64 (p : Int)) ov9 (by kernel_rfl) (by kernel_rfl) (by kernel_rfl) (fun _ _ _ h => h) (Or.inl ⟨by rfl, fun V' hS => ?_⟩) HH ?_
      · have c0 := hS
        go_simp
      simp only [Act.put, List.setIfInBounds_toArray, List.set_cons_zero, List.set_cons_succ]
      refine wpAnyH_take (i := 10) (v := .pointer (some ⟨gb, p, none⟩)) ov10 (by kernel_rfl) (by kernel_rfl) (by kernel_rfl) (fun _ _ _ h => h) (Or.inl ⟨by rfl, fun V' hS => ?_⟩) HH ?_
      · go_simp
      simp only [Act.put, List.setIfInBounds_toArray, List.set_cons_zero, List.set_cons_succ]
      refine wpAnyH_take (i := 12) (v := .int .u8 q) ov12 (by kernel_rfl) (by kernel_rfl) (by kernel_rfl) (fun _ _ _ h => h) (Or.inl ⟨by rfl, fun V' hS => ?_⟩) HH ?_
      · go_simp
      simp only [Act.put, List.setIfInBounds_toArray, List.set_cons_zero, List.set_cons_succ]
      refine wpAnyH_ready (rs := [11]) (by kernel_rfl) (by simp) ?_
      refine AllReadyH.cons ov11 (fun K hK => ?_) AllReadyH.nil
      rw [if_pos (by rfl)]
      have c0 := CB0.out
      go_simp
      refine hK.out _ _ HH (fun _ => ?_)
      clear hK K
      (try simp only [Act.put, List.setIfInBounds_toArray, List.set_cons_zero, List.set_cons_succ])
      refine wpAnyH_take (i := 13) (v := .int .u8 (y : Int)) ov13 (by kernel_rfl) (by kernel_rfl) (by kernel_rfl) (fun _ _ _ h => h) (Or.inl ⟨by rfl, fun V' hS => ?_⟩) HH ?_
      · have c0 := HXY.out
        go_simp
      simp only [Act.put, List.setIfInBounds_toArray, List.set_cons_zero, List.set_cons_succ]
      refine wpAnyH_take (i := 14) (v := .pointer (some ⟨gb, p, none⟩)) ov14 (by kernel_rfl) (by kernel_rfl) (by kernel_rfl) (fun _ _ _ h => h) (Or.inl ⟨by rfl, fun V' hS => ?_⟩) HH ?_
      · go_simp
      simp only [Act.put, List.setIfInBounds_toArray, List.set_cons_zero, List.set_cons_succ]
      refine wpAnyH_ready (rs := [15]) (by kernel_rfl) (by simp) ?_
      refine AllReadyH.cons ov15 (fun K hK => ?_) AllReadyH.nil
      rw [if_pos (by rfl)]
      have c0 := CB0.out
      have f0 := FZ0.out
      go_simp
      clear c0 f0
      refine hK.out _ (z0.setCell ⟨gb, p, none⟩ (.int .u8 (y : Int))) ((World.cell?_setCell_far z0 ⟨gb, p, none⟩ ⟨gp, k, none⟩ _ (Ne.symm HGN.out)).trans HH) (fun _ => ?_)
      clear hK K
      (try simp only [Act.put, List.setIfInBounds_toArray, List.set_cons_zero, List.set_cons_succ])
      refine wpAnyH_done (by kernel_rfl) ?_ _
      clear HH
      have M9 : Hid (Below w.heap.size w (z0.setCell ⟨gb, p, none⟩ (.int .u8 (y : Int))) ∧ (z0.setCell ⟨gb, p, none⟩ (.int .u8 (y : Int))).ownsRow w.heap.size 5 1 (.slice (some ⟨gb, 0, none⟩) bs.length oc) bt.length (bV bt)) := ⟨MD.out.1.trans ((But.refl (fun y => y = gb) z0).setCell ⟨gb, p, none⟩ _ (Or.inl rfl) |>.below (fun k e => by have := HGB.out; omega) MD.out.1.size), by have h9 := World.ownsRow.stored MD.out.2 p (.int .u8 (y : Int)); rw [HBV.out] at h9; rw [HBL.out]; exact h9.1⟩
      generalize (z0.setCell ⟨gb, p, none⟩ (.int .u8 (y : Int))) = w9 at M9 ⊢
      clear MD CB0 FZ0
      have BTa : Hid (BL (fun _ => True) w9 (.slice (some ⟨gb, 0, none⟩) bs.length oc) bt) := by have h9 := SL.own (P := fun _ => True) M9.out.2 (by have := HBL.out; have := HBS.out; omega) (fun _ _ => trivial); exact h9
      go_upto_region 23 with (first | (go_at_call 32; refine (own_is _ _ _ BTa.out (by have := HBL.out; have := HBS.out; omega)).mono ?_; rintro e xa ⟨va, rfl, hO, hB⟩; (have Oa : Hid (BL (fun _ => True) xa va bt) := SL.own hO (by have := HBL.out; have := HBS.out; omega) (fun _ _ => trivial)); (have Na := And.intro hB True.intro); (clear hO hB)) | (go_at_call 31; refine (PF.out _ _ _ Oa.out).mono ?_; rintro e ya ⟨⟨ta1, tc1, ca1, cc1, sa1, sc1, da1, dc1, rfl⟩, hB⟩; (have Da : Hid (Below w9.heap.size w9 ya) := Na.1.trans (hB.mono Na.1.size)); (clear hB Na)))
      have T2 := two_boxes ya [.slice ta1 0 tc1, .slice ca1 0 cc1, .slice sa1 0 sc1, .slice da1 0 dc1, .int .i64 0] [.int .i64 (f1 : Int), .slice none 0 0, .int .i64 0, .int .i64 (f2 : Int)]
      have Ea : Hid (Below w9.heap.size w9 ((ya.alloc (.cells #[.slice ta1 0 tc1, .slice ca1 0 cc1, .slice sa1 0 sc1, .slice da1 0 dc1, .int .i64 0] 28)).alloc (.cells #[.int .i64 (f1 : Int), .slice none 0 0, .int .i64 0, .int .i64 (f2 : Int)] 47)) ∧ CBox ((ya.alloc (.cells #[.slice ta1 0 tc1, .slice ca1 0 cc1, .slice sa1 0 sc1, .slice da1 0 dc1, .int .i64 0] 28)).alloc (.cells #[.int .i64 (f1 : Int), .slice none 0 0, .int .i64 0, .int .i64 (f2 : Int)] 47)) (ya.heap.size + 1) 47 [.int .i64 (f1 : Int), .slice none 0 0, .int .i64 0, .int .i64 (f2 : Int)]) := ⟨Da.out.trans (T2.2.2.mono Da.out.size), T2.2.1⟩
      clear T2 Da Oa BTa
      generalize ya.heap.size + 1 = ba at Ea ⊢
      generalize ya.heap.size = bqa at Ea ⊢
      generalize (ya.alloc _).alloc _ = w10 at Ea ⊢
      have M10 : Hid (Below w.heap.size w w10 ∧ w10.ownsRow w.heap.size 5 1 (.slice (some ⟨gb, 0, none⟩) bs.length oc) bt.length (bV bt) ∧ CBox w10 ba 47 [.int .i64 (f1 : Int), .slice none 0 0, .int .i64 0, .int .i64 (f2 : Int)]) := ⟨M9.out.1.trans (Ea.out.1.mono M9.out.1.size), owns_past M9.out.2 Ea.out.1, Ea.out.2⟩
      clear M9 Ea PF
      have BTb : Hid (BL (fun _ => True) w10 (.slice (some ⟨gb, 0, none⟩) bs.length oc) bt) := by have h9 := SL.own (P := fun _ => True) M10.out.2.1 (by have := HBL.out; have := HBS.out; omega) (fun _ _ => trivial); exact h9
      go_upto_region 24 with (first | (go_at_call 32; refine (own_is _ _ _ BTb.out (by have := HBL.out; have := HBS.out; omega)).mono ?_; rintro e xb ⟨vb, rfl, hO, hB⟩; (have Ob : Hid (BL (fun _ => True) xb vb bt) := SL.own hO (by have := HBL.out; have := HBS.out; omega) (fun _ _ => trivial)); (have Nb := And.intro hB True.intro); (clear hO hB)) | (go_at_call 31; refine (PT.out _ _ _ Ob.out).mono ?_; rintro e yb ⟨⟨ta2, tc2, ca2, cc2, sa2, sc2, da2, dc2, rfl⟩, hB⟩; (have Db : Hid (Below w10.heap.size w10 yb) := Nb.1.trans (hB.mono Nb.1.size)); (clear hB Nb)))
      have T2 := two_boxes yb [.slice ta2 0 tc2, .slice ca2 0 cc2, .slice sa2 0 sc2, .slice da2 0 dc2, .int .i64 0] [.int .i64 (g1 : Int), .slice none 0 0, .int .i64 0, .int .i64 (g2 : Int)]
      have Eb : Hid (Below w10.heap.size w10 ((yb.alloc (.cells #[.slice ta2 0 tc2, .slice ca2 0 cc2, .slice sa2 0 sc2, .slice da2 0 dc2, .int .i64 0] 28)).alloc (.cells #[.int .i64 (g1 : Int), .slice none 0 0, .int .i64 0, .int .i64 (g2 : Int)] 47)) ∧ CBox ((yb.alloc (.cells #[.slice ta2 0 tc2, .slice ca2 0 cc2, .slice sa2 0 sc2, .slice da2 0 dc2, .int .i64 0] 28)).alloc (.cells #[.int .i64 (g1 : Int), .slice none 0 0, .int .i64 0, .int .i64 (g2 : Int)] 47)) (yb.heap.size + 1) 47 [.int .i64 (g1 : Int), .slice none 0 0, .int .i64 0, .int .i64 (g2 : Int)]) := ⟨Db.out.trans (T2.2.2.mono Db.out.size), T2.2.1⟩
      clear T2 Db Ob BTb
      generalize yb.heap.size + 1 = bb at Eb ⊢
      generalize yb.heap.size = bqb at Eb ⊢
      generalize (yb.alloc _).alloc _ = w11 at Eb ⊢
      have M11 : Hid (Below w.heap.size w w11 ∧ CBox w11 ba 47 [.int .i64 (f1 : Int), .slice none 0 0, .int .i64 0, .int .i64 (f2 : Int)] ∧ CBox w11 bb 47 [.int .i64 (g1 : Int), .slice none 0 0, .int .i64 0, .int .i64 (g2 : Int)]) := ⟨M10.out.1.trans (Eb.out.1.mono M10.out.1.size), M10.out.2.2.past Eb.out.1, Eb.out.2⟩
      clear M10 Eb PT
      have k0 : w11.cell? ⟨ba, 0, none⟩ = some (.int .i64 (f1 : Int)) := M11.out.2.1.cell 0
      have k1 : w11.cell? ⟨bb, 0, none⟩ = some (.int .i64 (g1 : Int)) := M11.out.2.2.cell 0
      have q4 : ((f1 : Int) == 0) = false := by have := HF.out; rw [beq_eq_false_iff_ne]; omega
      have q5 : ((g1 : Int) == 0) = false := by have := HF.out; rw [beq_eq_false_iff_ne]; omega
      have q6 : ((f1 : Int) != 0) = true := by have := HF.out; simp; omega
      have q7 : ((g1 : Int) != 0) = true := by have := HF.out; simp; omega
      clear HF
      go_wp2
      go_ret
      exact ⟨rfl, M11.out.1⟩
    · obtain ⟨k, hm⟩ : ∃ k : Nat, r = (k : Int) := ⟨r.toNat, by omega⟩
      have HKB : Hid (k < np) := by have := HR1.out; unfold Hid; omega
      clear HR1
      subst hm
      have q3 : ¬ (k : Int) < 0 := er
      clear er
      go_upto_region 19 with fail
      clear q3
      obtain ⟨p, hp⟩ : ∃ p, pl[k]? = some p := ⟨pl[k]'(by have := HNP.out; have := HKB.out; omega), List.getElem?_eq_getElem _⟩
      have HPC : Hid (Place c p) := HPS.out k p (by rw [HPL.out]; exact hp)
      have hpb : p < bs.length := by rw [HBE.out]; exact place_lt HMY.out HPC.out
      obtain ⟨x, hx⟩ : ∃ x, bs[p]? = some x := ⟨bs[p], List.getElem?_eq_getElem hpb⟩
      have hx8 : x < 256 := HBY.out x (List.mem_of_getElem? hx)
      obtain ⟨y, hy, HXY0, hne⟩ := xor_turn x hx8 q HQ.out.1 HQ.out.2
      have HXY : Hid (bits .xor .u8 (x : Int) q = (y : Int)) := HXY0
      clear HXY0
      obtain ⟨gp, epa, cp⟩ := InO.get M8.out.pl hp
      subst epa
      obtain ⟨gb, eoa, cb⟩ := row_get M8.out.row hx
      injection eoa with eoa
      subst eoa
      have HGN : Hid (gp ≠ gb) := fun e => owns_apart M8.out.pl M8.out.row (by decide) (k := gp) rfl (by rw [e]; rfl)
      have HGB : Hid (w.heap.size ≤ gb) := (M8.out.row.lt gb rfl).1
      have FZ : Hid (w8.frozen? ⟨gb, p, none⟩ = false) := World.ownsRow.frozenAt M8.out.row p
      obtain ⟨bt, hbt⟩ : ∃ bt, bt = bs.set p y := ⟨_, rfl⟩
      have HBL : Hid (bt.length = bs.length) := by unfold Hid; rw [hbt, List.length_set]
      have HBV : Hid ((bV bs).set p (.int .u8 (y : Int)) = bV bt) := by rw [hbt]; unfold Hid bV; rw [List.map_set]
      have hyb : Byt bt := by rw [hbt]; exact byt_set HBY.out hy
      have PE : ∀ o', ∃ e a : Nat, 0 < e ∧ Hid (∀ (W : World) (R : Nat → Prop) (u : Value), BL R W u bt → Calls Try.prog 31 #[u, .bool o'] W fun e' w' => (∃ ta tc ca cc sa sc da dc, e' = .returned (.tuple #[.agg #[.slice ta 0 tc, .slice ca 0 cc, .slice sa 0 sc, .slice da 0 dc, .int .i64 0], .agg #[.int .i64 (e : Int), .slice none 0 0, .int .i64 0, .int .i64 (a : Int)]])) ∧ Below W.heap.size W w') := fun o' => by
        obtain ⟨e, a, h1, h2⟩ := prs_turned HMY.out (by rw [← HBE.out, ← hbt]; exact hyb) HPC.out (by rw [← HBE.out]; exact hx) hne o'
        rw [← HBE.out, ← hbt] at h1
        refine ⟨e, a, h2, fun W R u q => (parse_ans W u bt o' q hyb (by rw [HBL.out]; have := HBS.out; omega)).mono fun e' w' q9 => ?_⟩
        rw [h1] at q9
        obtain ⟨⟨ta, tc, ca, cc, sa, sc, da, dc, e9, _⟩, hB⟩ := q9
        exact ⟨⟨ta, tc, ca, cc, sa, sc, da, dc, e9⟩, hB⟩
      obtain ⟨f1, f2, hf, PF⟩ := PE false
      obtain ⟨g1, g2, hg, PT⟩ := PE true
      have q1 : ¬ (bs.length : Int) ≤ (p : Int) := by omega
      have kI : (k : Int) < (np : Int) := by have := HKB.out; omega
      have pI : (p : Int) < (bs.length : Int) := by omega
      have HF : Hid (0 < f1 ∧ 0 < g1) := ⟨hf, hg⟩
      have CB : Hid (w8.cell? ⟨gb, p, none⟩ = some (.int .u8 (x : Int))) := cb
      clear hp hpb hx hx8 hy hne hbt hyb PE hf hg cb HPC HKB
      have HCP : Hid (w8.cell? ⟨gp, k, none⟩ = some (.int .i64 (p : Int))) := cp
      go_upto_region 21 with fail
      clear q1 cp
      refine wp_region_held_drew (S := fun V' => V'.cell? ⟨gp, k, none⟩ = some (.int .i64 (p : Int))) (by kernel_rfl) HCP.out (fun HH => ?_)
      have MD : Hid (Below w.heap.size w w8.drew ∧ w8.drew.ownsRow w.heap.size 5 1 (.slice (some ⟨gb, 0, none⟩) bs.length oc) bs.length (bV bs)) := ⟨M8.out.bel.drew, M8.out.row⟩
      have CB0 : Hid (w8.drew.cell? ⟨gb, p, none⟩ = some (.int .u8 (x : Int))) := CB.out
      have FZ0 : Hid (w8.drew.frozen? ⟨gb, p, none⟩ = false) := FZ.out
      clear M8 CB FZ HCP
      generalize w8.drew = z0 at HH MD CB0 FZ0 ⊢
      refine wpAnyH_take (i := 0) (v := .slice (some ⟨gb, 0, none⟩) bs.length oc) ov0 (by kernel_rfl) (by kernel_rfl) (by kernel_rfl) (fun _ _ _ h => h) (Or.inl ⟨by rfl, fun V' hS => ?_⟩) HH ?_
      · go_simp
      simp only [Act.put, List.setIfInBounds_toArray, List.set_cons_zero, List.set_cons_succ]
      refine wpAnyH_take (i := 1) (v := .slice (some ⟨gp, 0, none⟩) np pc) ov1 (by kernel_rfl) (by kernel_rfl) (by kernel_rfl) (fun _ _ _ h => h) (Or.inl ⟨by rfl, fun V' hS => ?_⟩) HH ?_
      · go_simp
      simp only [Act.put, List.setIfInBounds_toArray, List.set_cons_zero, List.set_cons_succ]
      refine wpAnyH_take (i := 2) (v := .int .i64 (k : Int)) ov2 (by kernel_rfl) (by kernel_rfl) (by kernel_rfl) (fun _ _ _ h => h) (Or.inl ⟨by rfl, fun V' hS => ?_⟩) HH ?_
      · go_simp
      simp only [Act.put, List.setIfInBounds_toArray, List.set_cons_zero, List.set_cons_succ]
      refine wpAnyH_take (i := 3) (v := .pointer (some ⟨gp, k, none⟩)) ov3 (by kernel_rfl) (by kernel_rfl) (by kernel_rfl) (fun _ _ _ h => h) (Or.inl ⟨by rfl, fun V' hS => ?_⟩) HH ?_
      · go_simp
      simp only [Act.put, List.setIfInBounds_toArray, List.set_cons_zero, List.set_cons_succ]
      refine wpAnyH_take (i := 4) (v := .int .i64 (p : Int)) ov4 (by kernel_rfl) (by kernel_rfl) (by kernel_rfl) (fun _ _ _ h => h) (Or.inl ⟨by rfl, fun V' hS => ?_⟩) HH ?_
      · have c0 := hS
        go_simp
      simp only [Act.put, List.setIfInBounds_toArray, List.set_cons_zero, List.set_cons_succ]
      refine wpAnyH_take (i := 5) (v := .slice (some ⟨gb, 0, none⟩) bs.length oc) ov5 (by kernel_rfl) (by kernel_rfl) (by kernel_rfl) (fun _ _ _ h => h) (Or.inl ⟨by rfl, fun V' hS => ?_⟩) HH ?_
      · go_simp
      simp only [Act.put, List.setIfInBounds_toArray, List.set_cons_zero, List.set_cons_succ]
      refine wpAnyH_take (i := 6) (v := .slice (some ⟨gp, 0, none⟩) np pc) ov6 (by kernel_rfl) (by kernel_rfl) (by kernel_rfl) (fun _ _ _ h => h) (Or.inl ⟨by rfl, fun V' hS => ?_⟩) HH ?_
      · go_simp
      simp only [Act.put, List.setIfInBounds_toArray, List.set_cons_zero, List.set_cons_succ]
      refine wpAnyH_take (i := 7) (v := .int .i64 (k : Int)) ov7 (by kernel_rfl) (by kernel_rfl) (by kernel_rfl) (fun _ _ _ h => h) (Or.inl ⟨by rfl, fun V' hS => ?_⟩) HH ?_
      · go_simp
      simp only [Act.put, List.setIfInBounds_toArray, List.set_cons_zero, List.set_cons_succ]
      refine wpAnyH_take (i := 8) (v := .pointer (some ⟨gp, k, none⟩)) ov8 (by kernel_rfl) (by kernel_rfl) (by kernel_rfl) (fun _ _ _ h => h) (Or.inl ⟨by rfl, fun V' hS => ?_⟩) HH ?_
      · go_simp
      simp only [Act.put, List.setIfInBounds_toArray, List.set_cons_zero, List.set_cons_succ]
      refine wpAnyH_take (i := 9) (v := .int .i64 (p : Int)) ov9 (by kernel_rfl) (by kernel_rfl) (by kernel_rfl) (fun _ _ _ h => h) (Or.inl ⟨by rfl, fun V' hS => ?_⟩) HH ?_
      · have c0 := hS
        go_simp
      simp only [Act.put, List.setIfInBounds_toArray, List.set_cons_zero, List.set_cons_succ]
      refine wpAnyH_take (i := 10) (v := .pointer (some ⟨gb, p, none⟩)) ov10 (by kernel_rfl) (by kernel_rfl) (by kernel_rfl) (fun _ _ _ h => h) (Or.inl ⟨by rfl, fun V' hS => ?_⟩) HH ?_
      · go_simp
      simp only [Act.put, List.setIfInBounds_toArray, List.set_cons_zero, List.set_cons_succ]
      refine wpAnyH_take (i := 12) (v := .int .u8 q) ov12 (by kernel_rfl) (by kernel_rfl) (by kernel_rfl) (fun _ _ _ h => h) (Or.inl ⟨by rfl, fun V' hS => ?_⟩) HH ?_
      · go_simp
      simp only [Act.put, List.setIfInBounds_toArray, List.set_cons_zero, List.set_cons_succ]
      refine wpAnyH_ready (rs := [11]) (by kernel_rfl) (by simp) ?_
      refine AllReadyH.cons ov11 (fun K hK => ?_) AllReadyH.nil
      rw [if_pos (by rfl)]
      have c0 := CB0.out
      go_simp
      refine hK.out _ _ HH (fun _ => ?_)
      clear hK K
      (try simp only [Act.put, List.setIfInBounds_toArray, List.set_cons_zero, List.set_cons_succ])
      refine wpAnyH_take (i := 13) (v := .int .u8 (y : Int)) ov13 (by kernel_rfl) (by kernel_rfl) (by kernel_rfl) (fun _ _ _ h => h) (Or.inl ⟨by rfl, fun V' hS => ?_⟩) HH ?_
      · have c0 := HXY.out
        go_simp
      simp only [Act.put, List.setIfInBounds_toArray, List.set_cons_zero, List.set_cons_succ]
      refine wpAnyH_take (i := 14) (v := .pointer (some ⟨gb, p, none⟩)) ov14 (by kernel_rfl) (by kernel_rfl) (by kernel_rfl) (fun _ _ _ h => h) (Or.inl ⟨by rfl, fun V' hS => ?_⟩) HH ?_
      · go_simp
      simp only [Act.put, List.setIfInBounds_toArray, List.set_cons_zero, List.set_cons_succ]
      refine wpAnyH_ready (rs := [15]) (by kernel_rfl) (by simp) ?_
      refine AllReadyH.cons ov15 (fun K hK => ?_) AllReadyH.nil
      rw [if_pos (by rfl)]
      have c0 := CB0.out
      have f0 := FZ0.out
      go_simp
      clear c0 f0
      refine hK.out _ (z0.setCell ⟨gb, p, none⟩ (.int .u8 (y : Int))) ((World.cell?_setCell_far z0 ⟨gb, p, none⟩ ⟨gp, k, none⟩ _ (Ne.symm HGN.out)).trans HH) (fun _ => ?_)
      clear hK K
      (try simp only [Act.put, List.setIfInBounds_toArray, List.set_cons_zero, List.set_cons_succ])
      refine wpAnyH_done (by kernel_rfl) ?_ _
      clear HH
      have M9 : Hid (Below w.heap.size w (z0.setCell ⟨gb, p, none⟩ (.int .u8 (y : Int))) ∧ (z0.setCell ⟨gb, p, none⟩ (.int .u8 (y : Int))).ownsRow w.heap.size 5 1 (.slice (some ⟨gb, 0, none⟩) bs.length oc) bt.length (bV bt)) := ⟨MD.out.1.trans ((But.refl (fun y => y = gb) z0).setCell ⟨gb, p, none⟩ _ (Or.inl rfl) |>.below (fun k e => by have := HGB.out; omega) MD.out.1.size), by have h9 := World.ownsRow.stored MD.out.2 p (.int .u8 (y : Int)); rw [HBV.out] at h9; rw [HBL.out]; exact h9.1⟩
      generalize (z0.setCell ⟨gb, p, none⟩ (.int .u8 (y : Int))) = w9 at M9 ⊢
      clear MD CB0 FZ0
      have BTa : Hid (BL (fun _ => True) w9 (.slice (some ⟨gb, 0, none⟩) bs.length oc) bt) := by have h9 := SL.own (P := fun _ => True) M9.out.2 (by have := HBL.out; have := HBS.out; omega) (fun _ _ => trivial); exact h9
      go_upto_region 23 with (first | (go_at_call 32; refine (own_is _ _ _ BTa.out (by have := HBL.out; have := HBS.out; omega)).mono ?_; rintro e xa ⟨va, rfl, hO, hB⟩; (have Oa : Hid (BL (fun _ => True) xa va bt) := SL.own hO (by have := HBL.out; have := HBS.out; omega) (fun _ _ => trivial)); (have Na := And.intro hB True.intro); (clear hO hB)) | (go_at_call 31; refine (PF.out _ _ _ Oa.out).mono ?_; rintro e ya ⟨⟨ta1, tc1, ca1, cc1, sa1, sc1, da1, dc1, rfl⟩, hB⟩; (have Da : Hid (Below w9.heap.size w9 ya) := Na.1.trans (hB.mono Na.1.size)); (clear hB Na)))
      have T2 := two_boxes ya [.slice ta1 0 tc1, .slice ca1 0 cc1, .slice sa1 0 sc1, .slice da1 0 dc1, .int .i64 0] [.int .i64 (f1 : Int), .slice none 0 0, .int .i64 0, .int .i64 (f2 : Int)]
      have Ea : Hid (Below w9.heap.size w9 ((ya.alloc (.cells #[.slice ta1 0 tc1, .slice ca1 0 cc1, .slice sa1 0 sc1, .slice da1 0 dc1, .int .i64 0] 28)).alloc (.cells #[.int .i64 (f1 : Int), .slice none 0 0, .int .i64 0, .int .i64 (f2 : Int)] 47)) ∧ CBox ((ya.alloc (.cells #[.slice ta1 0 tc1, .slice ca1 0 cc1, .slice sa1 0 sc1, .slice da1 0 dc1, .int .i64 0] 28)).alloc (.cells #[.int .i64 (f1 : Int), .slice none 0 0, .int .i64 0, .int .i64 (f2 : Int)] 47)) (ya.heap.size + 1) 47 [.int .i64 (f1 : Int), .slice none 0 0, .int .i64 0, .int .i64 (f2 : Int)]) := ⟨Da.out.trans (T2.2.2.mono Da.out.size), T2.2.1⟩
      clear T2 Da Oa BTa
      generalize ya.heap.size + 1 = ba at Ea ⊢
      generalize ya.heap.size = bqa at Ea ⊢
      generalize (ya.alloc _).alloc _ = w10 at Ea ⊢
      have M10 : Hid (Below w.heap.size w w10 ∧ w10.ownsRow w.heap.size 5 1 (.slice (some ⟨gb, 0, none⟩) bs.length oc) bt.length (bV bt) ∧ CBox w10 ba 47 [.int .i64 (f1 : Int), .slice none 0 0, .int .i64 0, .int .i64 (f2 : Int)]) := ⟨M9.out.1.trans (Ea.out.1.mono M9.out.1.size), owns_past M9.out.2 Ea.out.1, Ea.out.2⟩
      clear M9 Ea PF
      have BTb : Hid (BL (fun _ => True) w10 (.slice (some ⟨gb, 0, none⟩) bs.length oc) bt) := by have h9 := SL.own (P := fun _ => True) M10.out.2.1 (by have := HBL.out; have := HBS.out; omega) (fun _ _ => trivial); exact h9
      go_upto_region 24 with (first | (go_at_call 32; refine (own_is _ _ _ BTb.out (by have := HBL.out; have := HBS.out; omega)).mono ?_; rintro e xb ⟨vb, rfl, hO, hB⟩; (have Ob : Hid (BL (fun _ => True) xb vb bt) := SL.own hO (by have := HBL.out; have := HBS.out; omega) (fun _ _ => trivial)); (have Nb := And.intro hB True.intro); (clear hO hB)) | (go_at_call 31; refine (PT.out _ _ _ Ob.out).mono ?_; rintro e yb ⟨⟨ta2, tc2, ca2, cc2, sa2, sc2, da2, dc2, rfl⟩, hB⟩; (have Db : Hid (Below w10.heap.size w10 yb) := Nb.1.trans (hB.mono Nb.1.size)); (clear hB Nb)))
      have T2 := two_boxes yb [.slice ta2 0 tc2, .slice ca2 0 cc2, .slice sa2 0 sc2, .slice da2 0 dc2, .int .i64 0] [.int .i64 (g1 : Int), .slice none 0 0, .int .i64 0, .int .i64 (g2 : Int)]
      have Eb : Hid (Below w10.heap.size w10 ((yb.alloc (.cells #[.slice ta2 0 tc2, .slice ca2 0 cc2, .slice sa2 0 sc2, .slice da2 0 dc2, .int .i64 0] 28)).alloc (.cells #[.int .i64 (g1 : Int), .slice none 0 0, .int .i64 0, .int .i64 (g2 : Int)] 47)) ∧ CBox ((yb.alloc (.cells #[.slice ta2 0 tc2, .slice ca2 0 cc2, .slice sa2 0 sc2, .slice da2 0 dc2, .int .i64 0] 28)).alloc (.cells #[.int .i64 (g1 : Int), .slice none 0 0, .int .i64 0, .int .i64 (g2 : Int)] 47)) (yb.heap.size + 1) 47 [.int .i64 (g1 : Int), .slice none 0 0, .int .i64 0, .int .i64 (g2 : Int)]) := ⟨Db.out.trans (T2.2.2.mono Db.out.size), T2.2.1⟩
      clear T2 Db Ob BTb
      generalize yb.heap.size + 1 = bb at Eb ⊢
      generalize yb.heap.size = bqb at Eb ⊢
      generalize (yb.alloc _).alloc _ = w11 at Eb ⊢
      have M11 : Hid (Below w.heap.size w w11 ∧ CBox w11 ba 47 [.int .i64 (f1 : Int), .slice none 0 0, .int .i64 0, .int .i64 (f2 : Int)] ∧ CBox w11 bb 47 [.int .i64 (g1 : Int), .slice none 0 0, .int .i64 0, .int .i64 (g2 : Int)]) := ⟨M10.out.1.trans (Eb.out.1.mono M10.out.1.size), M10.out.2.2.past Eb.out.1, Eb.out.2⟩
      clear M10 Eb PT
      have k0 : w11.cell? ⟨ba, 0, none⟩ = some (.int .i64 (f1 : Int)) := M11.out.2.1.cell 0
      have k1 : w11.cell? ⟨bb, 0, none⟩ = some (.int .i64 (g1 : Int)) := M11.out.2.2.cell 0
      have q4 : ((f1 : Int) == 0) = false := by have := HF.out; rw [beq_eq_false_iff_ne]; omega
      have q5 : ((g1 : Int) == 0) = false := by have := HF.out; rw [beq_eq_false_iff_ne]; omega
      have q6 : ((f1 : Int) != 0) = true := by have := HF.out; simp; omega
      have q7 : ((g1 : Int) != 0) = true := by have := HF.out; simp; omega
      clear HF
      go_wp2
      go_ret
      exact ⟨rfl, M11.out.1⟩
end Go.Proofs.Ytndhabhlajldeaa
