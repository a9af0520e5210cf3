/- ContainerCuts: the walk. -/
import Derived.Test.YtndhabhlajldeaaBtkM
import Derived.Test.YtndhabhlajldeaaBtmM
import Derived.Test.YtndhabhlajldeaaBsf
import Derived.Test.YtndhabhlajldeaaFcc
namespace Go.Proofs.Ytndhabhlajldeaa
open Go.RowKit
/-- a law's container in its box -/
structure CtM (bx : Nat) (w W : World) (L : List Value) (c : Con) : Prop where
  cb : CBox W bx 28 L
  cw : CW (fun _ => True) W (.agg L.toArray) c
  bel : Below w.heap.size w W
theorem CtM.past {bx : Nat} {w W W' : World} {L : List Value} {c : Con} (h : CtM bx w W L c) (k : Below W.heap.size W W') : CtM bx w W' L c := ⟨h.cb.past k, h.cw.past k, h.bel.trans (k.mono h.bel.size)⟩
theorem BL.take {P : Nat → Prop} {W : World} {ad : Option Addr} {n cap : Nat} {l : List Nat} (h : BL P W (.slice ad n cap) l) {m : Nat} (hm : m ≤ l.length) : BL P W (.slice ad m cap) (l.take m) := by
  have e0 : (l.take m).length = m := by rw [List.length_take]; omega
  have e1 : bV (l.take m) = (bV l).take m := by simp [bV, List.map_take]
  obtain ⟨h0, ad', cap', e, h1, h2, hz, h3⟩ := h
  injection e with e2 e3 e4
  subst e2 e3 e4
  unfold BL SL
  rw [e0, e1]
  refine ⟨by rw [List.length_take, bV_len]; omega, ad, cap, rfl, by omega, by omega, hz, fun hp => ?_⟩
  obtain ⟨g, a, e5, h4, h5, h6⟩ := h3 (by omega)
  refine ⟨g, a, e5, h4, h5, fun i x hx => h6 i x ?_⟩
  rw [List.getElem?_take] at hx
  split at hx
  · exact hx
  · cases hx
theorem slice_upto (a : Addr) (n cap j : Nat) (hj : j ≤ cap) (W : World) : Sem.run Try.prog (Instr.slice 22 (.slice (some a) n cap) none (some (.int .i64 (j : Int))) none) W = .ok (.slice (some a) j cap) W := by
  obtain ⟨g, k, p⟩ := a
  simp [Instr.slice, Instr.sliceBounds, run_underlying Try.underlying22, run_sliceBound W .i64 (j : Int) cap _ (by omega) (by omega), Addr.add]
theorem own_some {W : World} {B n : Nat} {ad : Option Addr} {cap : Nat} {cs : List Value} (h : W.ownsRow B 5 1 (.slice ad n cap) n cs) (h0 : 0 < cs.length) (hn : n ≤ 1152921504606846976) : ∃ a, ad = some a ∧ n ≤ cap := by
  obtain ⟨h1, ad', cap', e, h2, _, hz, h4⟩ := SL.own (P := fun _ => True) h hn (fun _ _ => trivial)
  injection e with e2 e3 e4
  clear e3
  subst e2 e4
  obtain ⟨g, a, e5, _⟩ := h4 (by omega)
  exact ⟨_, e5, h2⟩
set_option maxHeartbeats 8000000 in
set_option maxRecDepth 100000 in
theorem containerCuts_walk (w : World) (v : Value) (c : Con) (z : Int) (u : Value) (t : List Nat) (h : CW (fun _ => True) w v c) (hbc : BytC c) (hz : -9223372036854775808 ≤ z ∧ z ≤ 9223372036854775807) (hu : BL (fun _ => True) w u t) (htb : Byt t) (htl : t.length ≤ 140737488355328) : Calls Try.prog 10 #[v, .int .i64 z, u] w fun e w' => e = .returned (.bool true) ∧ Below w.heap.size w w' := by
  obtain ⟨ta, tc, ca, cc, sa, sc, da, dc, rfl⟩ := cw_form h
  obtain ⟨ua, uc, rfl, _, _⟩ := hu.len
  have b1 := below_alloc w (.cells #[.slice ta c.ts.length tc, .slice ca c.cs.length cc, .slice sa c.ss.length sc, .slice da c.d.length dc, .int .i64 c.n] 28)
  have M0 : Hid (CtM w.heap.size w (w.alloc (.cells #[.slice ta c.ts.length tc, .slice ca c.cs.length cc, .slice sa c.ss.length sc, .slice da c.d.length dc, .int .i64 c.n] 28)) [.slice ta c.ts.length tc, .slice ca c.cs.length cc, .slice sa c.ss.length sc, .slice da c.d.length dc, .int .i64 c.n] c) := ⟨CBox.new w _ [_, _, _, _, _], h.past b1, b1⟩
  have HU : Hid (∀ W, Below w.heap.size w W → BL (fun _ => True) W (.slice ua t.length uc) t) := fun W hW => hu.past hW
  have HBC : Hid (BytC c) := hbc
  have HTB : Hid (Byt t) := htb
  have nT : (t.length : Int) ≤ 140737488355328 := by omega
  have HZ0 : Hid (-9223372036854775808 ≤ z ∧ z ≤ 9223372036854775807) := hz
  clear h hbc hz hu htb htl b1
  go_enter Try.func10, Try.ntmps10
  go_upto_region 1 with fail
  generalize w.heap.size = bx at M0 ⊢
  generalize w.alloc _ = W0 at M0 ⊢
  refine wp_region_lit ?_
  refine lst_val (v := .agg #[.slice ta c.ts.length tc, .slice ca c.cs.length cc, .slice sa c.ss.length sc, .slice da c.d.length dc, .int .i64 c.n]) (by kernel_rfl) ?_ ?_
  · have a0 := M0.out.cb.cell 0; have a1 := M0.out.cb.cell 1; have a2 := M0.out.cb.cell 2; have a3 := M0.out.cb.cell 3; have a4 := M0.out.cb.cell 4
    go_simp
  simp only [Act.put, List.setIfInBounds_toArray, List.set_cons_zero, List.set_cons_succ]
  refine lst_call (by kernel_rfl) (by first | (go_simp; done) | (go_simp; first | exact rfl | exact ⟨rfl, rfl⟩ | exact ⟨rfl, rfl, rfl⟩)) (weight_is _ _ c M0.out.cw) ?_
  rintro e w1 ⟨⟨n, rfl, hn⟩, hB⟩
  refine ⟨_, rfl, ?_⟩
  have M1 : Hid (CtM bx w w1 [.slice ta c.ts.length tc, .slice ca c.cs.length cc, .slice sa c.ss.length sc, .slice da c.d.length dc, .int .i64 c.n] c) := M0.out.past hB
  have HWT : Hid (n ≤ 2097152 → total c = n) := hn
  clear hn hB M0
  simp only [Act.put, List.setIfInBounds_toArray, List.set_cons_zero, List.set_cons_succ]
  by_cases en : n ≤ 2097152
  rotate_left
  · have q1 : (2097152 : Int) < (n : Int) := by omega
    clear en HWT
    go_wp2
    go_ret
    exact ⟨rfl, M1.out.bel⟩
  have q1 : ¬ (2097152 : Int) < (n : Int) := by omega
  by_cases et : t.length ≤ 2097152
  rotate_left
  · have q2 : (2097152 : Int) < (t.length : Int) := by omega
    clear en et HWT
    go_wp2
    go_ret
    exact ⟨rfl, M1.out.bel⟩
  have q2 : ¬ (2097152 : Int) < (t.length : Int) := by omega
  have HTL : Hid (t.length ≤ 2097152) := et
  have HTO : Hid (total c ≤ 2097152) := by have := HWT.out en; unfold Hid; omega
  have HSM : Hid (Small c) := total_small HTO.out
  clear en et HWT
  go_upto_region 3 with fail
  clear q1 q2
  go_upto_region 5 with (go_at_call 16; refine (able_is _).mono ?_; rintro e w2 ⟨rfl, hB⟩; (have M2 : Hid (CtM bx w w2 [.slice ta c.ts.length tc, .slice ca c.cs.length cc, .slice sa c.ss.length sc, .slice da c.d.length dc, .int .i64 c.n] c) := M1.out.past hB); (clear hB M1))
  have a0 : w2.cell? ⟨bx, 0, none⟩ = some (.slice ta c.ts.length tc) := M2.out.cb.cell 0
  have a1 : w2.cell? ⟨bx, 1, none⟩ = some (.slice ca c.cs.length cc) := M2.out.cb.cell 1
  have a2 : w2.cell? ⟨bx, 2, none⟩ = some (.slice sa c.ss.length sc) := M2.out.cb.cell 2
  have a3 : w2.cell? ⟨bx, 3, none⟩ = some (.slice da c.d.length dc) := M2.out.cb.cell 3
  have a4 : w2.cell? ⟨bx, 4, none⟩ = some (.int .i64 c.n) := M2.out.cb.cell 4
  by_cases hm : May c
  rotate_left
  · have HMN : Hid (¬ May c) := hm
    clear hm
    go_wp2_with (go_at_call 40; refine (may_no _ _ c M2.out.cw HMN.out).mono ?_; rintro e w3 ⟨rfl, hB⟩; (have B3 : Hid (Below w.heap.size w w3) := M2.out.bel.trans (hB.mono M2.out.bel.size)); (clear hB))
    go_ret
    exact ⟨rfl, B3.out⟩
  have HMY : Hid (May c) := hm
  clear hm
  by_cases hd : (c.d.length : Int) = c.n
  rotate_left
  · have q1 : ((c.d.length : Int) == c.n) = false := by simp [hd]
    clear hd
    go_wp2_with (go_at_call 40; refine (may_yes _ _ c M2.out.cw HMY.out).mono ?_; rintro e w3 ⟨rfl, hB⟩; (have M3 : Hid (CtM bx w w3 [.slice ta c.ts.length tc, .slice ca c.cs.length cc, .slice sa c.ss.length sc, .slice da c.d.length dc, .int .i64 c.n] c) := M2.out.past hB); (clear hB); (have k3 : w3.cell? ⟨bx, 3, none⟩ = some (.slice da c.d.length dc) := M3.out.cb.cell 3); (have k4 : w3.cell? ⟨bx, 4, none⟩ = some (.int .i64 c.n) := M3.out.cb.cell 4))
    go_ret
    exact ⟨rfl, M3.out.bel⟩
  have q1 : ((c.d.length : Int) == c.n) = true := by simp [hd]
  obtain ⟨bs, hbs⟩ : ∃ bs, bs = ser c := ⟨_, rfl⟩
  have hp : prs bs false = .ok c := by rw [hbs]; exact prs_ser HMY.out false (fun _ => hd)
  have hby : Byt bs := by rw [hbs]; exact ser_byt HBC.out.1 HBC.out.2.1 HBC.out.2.2
  have hb67 : bs.length ≤ 2200000 := by
    have h1 := ser_total HMY.out
    have h2 := HTO.out
    have h3 := HMY.out.n2
    have h4 := HMY.out.ns
    rw [sum_lns, sum_lns, ← hbs] at h1
    unfold total fourOf at h2
    unfold endOf at h1
    split at h1 <;> omega
  have hb20 : 20 ≤ bs.length := by
    have h1 := ser_total HMY.out
    have h3 := HMY.out.n1
    have h5 := sum_pos HMY.out
    rw [← hbs] at h1
    unfold endOf at h1
    split at h1 <;> omega
  have HBS : Hid (bs.length ≤ 2200000) := hb67
  obtain ⟨bt, hbt⟩ : ∃ bt, bt = bs ++ t := ⟨_, rfl⟩
  have HBT : Hid (bs ++ t = bt) := hbt.symm
  have HB20 : Hid (20 ≤ bs.length) := hb20
  have SE : Hid (∀ (W : World) (R : Nat → Prop) (u : Value), CW R W u c → Calls Try.prog 35 #[u] W fun e w' => (∃ oa oc, e = .returned (.tuple #[.slice (some oa) bs.length oc, .int .i64 0]) ∧ bs.length ≤ oc ∧ w'.ownsRow W.heap.size 5 1 (.slice (some oa) bs.length oc) bs.length (bV bs)) ∧ Below W.heap.size W w') := fun W R u q => (serialize_is W u c q HSM.out).mono fun e w' q9 => by
    obtain ⟨v', rfl, hO, hB⟩ := q9
    have e1 : serR c = bs := by unfold serR; rw [if_pos (may_chk HMY.out), hbs]
    rw [e1] at hO
    obtain ⟨oa, oc, rfl⟩ := owns_sl hO
    obtain ⟨a, rfl, hc⟩ := own_some hO (by rw [bV_len]; omega) (by omega)
    exact ⟨⟨a, oc, by rw [may_chk HMY.out], hc, hO⟩, hB⟩
  have PT : Hid (∀ (W : World) (R : Nat → Prop) (u : Value) (m : Nat) (_ : m < bs.length), BL R W u (bs.take m) → Calls Try.prog 31 #[u, .bool false] W fun e w' => (∃ ta tc ca cc sa sc da dc, e = .returned (.tuple #[.agg #[.slice ta 0 tc, .slice ca 0 cc, .slice sa 0 sc, .slice da 0 dc, .int .i64 0], .agg #[.int .i64 50, .slice none 0 0, .int .i64 0, .int .i64 (m : Int)]])) ∧ Below W.heap.size W w') := fun W R u m hm q => (parse_ans W u (bs.take m) false q (byt_take hby m) (by rw [List.length_take]; omega)).mono fun e w' q9 => by
    rw [prs_take hp hm] at q9
    obtain ⟨⟨ta, tc, ca, cc, sa, sc, da, dc, e9, _⟩, hB⟩ := q9
    exact ⟨⟨ta, tc, ca, cc, sa, sc, da, dc, e9⟩, hB⟩
  have PM0 : Hid (t.length ≠ 0 → Hid (∀ (W : World) (R : Nat → Prop) (u : Value) (o' : Bool), BL R W u bt → Calls Try.prog 31 #[u, .bool o'] W fun e w' => (∃ ta tc ca cc sa sc da dc, e = .returned (.tuple #[.agg #[.slice ta 0 tc, .slice ca 0 cc, .slice sa 0 sc, .slice da 0 dc, .int .i64 0], .agg #[.int .i64 58, .slice none 0 0, .int .i64 0, .int .i64 (bs.length : Int)]])) ∧ Below W.heap.size W w')) := fun ht W R u o' q => (parse_ans W u bt o' q (by rw [hbt]; exact byt_app hby HTB.out) (by rw [hbt, List.length_append]; have := HTL.out; omega)).mono fun e w' q9 => by
    rw [hbt, prs_more hp ht o'] at q9
    obtain ⟨⟨ta, tc, ca, cc, sa, sc, da, dc, e9, _⟩, hB⟩ := q9
    exact ⟨⟨ta, tc, ca, cc, sa, sc, da, dc, e9⟩, hB⟩
  clear hd hbs hp hby hb67 hb20 hbt
  go_upto_region 7 with (go_at_call 40; refine (may_yes _ _ c M2.out.cw HMY.out).mono ?_; rintro e w3 ⟨rfl, hB⟩; (have M3 : Hid (CtM bx w w3 [.slice ta c.ts.length tc, .slice ca c.cs.length cc, .slice sa c.ss.length sc, .slice da c.d.length dc, .int .i64 c.n] c) := M2.out.past hB); (clear hB); (have k3 : w3.cell? ⟨bx, 3, none⟩ = some (.slice da c.d.length dc) := M3.out.cb.cell 3); (have k4 : w3.cell? ⟨bx, 4, none⟩ = some (.int .i64 c.n) := M3.out.cb.cell 4))
  clear k3 k4 q1 a0 a1 a2 a3 a4 M2
  have a0 : w3.cell? ⟨bx, 0, none⟩ = some (.slice ta c.ts.length tc) := M3.out.cb.cell 0
  have a1 : w3.cell? ⟨bx, 1, none⟩ = some (.slice ca c.cs.length cc) := M3.out.cb.cell 1
  have a2 : w3.cell? ⟨bx, 2, none⟩ = some (.slice sa c.ss.length sc) := M3.out.cb.cell 2
  have a3 : w3.cell? ⟨bx, 3, none⟩ = some (.slice da c.d.length dc) := M3.out.cb.cell 3
  have a4 : w3.cell? ⟨bx, 4, none⟩ = some (.int .i64 c.n) := M3.out.cb.cell 4
  go_upto_region 8 with (first | (go_at_call 19; refine (twin_is _ _ c M3.out.cw HSM.out).mono ?_; rintro e w4 ⟨v4, rfl, hD, hB⟩; (have N4 : Hid (CtM bx w w4 [.slice ta c.ts.length tc, .slice ca c.cs.length cc, .slice sa c.ss.length sc, .slice da c.d.length dc, .int .i64 c.n] c ∧ CW (fun _ => True) w4 v4 c) := ⟨M3.out.past hB, (hD.cw HSM.out).mono fun _ _ _ => trivial⟩); (clear hD hB)) | (go_at_call 35; refine (SE.out _ _ _ N4.out.2).mono ?_; rintro e w5 ⟨⟨oa, oc, rfl, hc, hO⟩, hB⟩; (have M5 : Hid (CtM bx w w5 [.slice ta c.ts.length tc, .slice ca c.cs.length cc, .slice sa c.ss.length sc, .slice da c.d.length dc, .int .i64 c.n] c) := N4.out.1.past hB); (have HOC : Hid (bs.length ≤ oc) := hc); (have BR : Hid (w5.ownsRow w.heap.size 5 1 (.slice (some oa) bs.length oc) bs.length (bV bs)) := owns_base hO N4.out.1.bel.size); (clear hO hB hc)))
  clear N4 M3 a0 a1 a2 a3 a4 SE
  have q1 : ¬ (bs.length : Int) < 20 := by have := HB20.out; omega
  go_upto_region 10 with fail
  clear q1
  obtain ⟨r, hr⟩ : ∃ r, r = Int.tmod z (bs.length : Int) := ⟨_, rfl⟩
  have hr1 : -(bs.length : Int) < r ∧ r < (bs.length : Int) := by
    have h1 := HB20.out
    have h2 := Int.natAbs_tmod z (bs.length : Int)
    have h3 := Nat.mod_lt z.natAbs (show 0 < (bs.length : Int).natAbs by omega)
    rw [← h2, ← hr] at h3
    omega
  have e1 : Int.tmod z (bs.length : Int) = r := hr.symm
  have e2 : IntKind.i64.wrap r = r := by have := HBS.out; rw [IntKind.wrap_i64]; omega
  have e3 : ¬ (bs.length : Int) = 0 := by have := HB20.out; omega
  have e4 : ((bs.length : Int) == 0) = false := by rw [beq_eq_false_iff_ne]; exact e3
  clear hr
  have HR1 : Hid (-(bs.length : Int) < r ∧ r < (bs.length : Int)) := hr1
  clear hr1
  go_upto_region 11 with fail
  clear e1 e2 e3 e4 HZ0
  by_cases er : r < 0
  · have q3 : r < 0 := er
    obtain ⟨m, hm⟩ : ∃ m : Nat, (m : Int) = r + (bs.length : Int) := ⟨(r + (bs.length : Int)).toNat, by have := HR1.out; omega⟩
    have HMB : Hid (m < bs.length) := by have := HR1.out; unfold Hid; omega
    have e5 : r + (bs.length : Int) = (m : Int) := hm.symm
    have e6 : IntKind.i64.wrap (m : Int) = (m : Int) := by have := HBS.out; have := HMB.out; rw [IntKind.wrap_i64]; omega
    clear hm er
    go_upto_region 13 with fail
    clear q3 e5 e6 HR1
    have HSL : Hid (∀ W, Sem.run Try.prog (Instr.slice 22 (.slice (some oa) bs.length oc) none (some (.int .i64 (m : Int))) none) W = .ok (.slice (some oa) m oc) W) := fun W => slice_upto oa bs.length oc m (by have := HMB.out; have := HOC.out; omega) W
    have BM : Hid (BL (fun _ => True) w5 (.slice (some oa) m oc) (bs.take m)) := BL.take (SL.own BR.out (by have := HBS.out; omega) (fun _ _ => trivial)) (by have := HMB.out; omega)
    have hsl := HSL.out
    go_upto_region 14 with (first | (go_at_call 32; refine (own_is _ _ _ BM.out (by rw [List.length_take]; have := HBS.out; omega)).mono ?_; rintro e w6 ⟨v6, rfl, hO, hB⟩; (have N6 : Hid (BL (fun _ => True) w6 v6 (bs.take m) ∧ Below w.heap.size w w6 ∧ w6.ownsRow w.heap.size 5 1 (.slice (some oa) bs.length oc) bs.length (bV bs)) := ⟨SL.own (by rw [show ((bs.take m).length) = (bs.take m).length from rfl]; exact hO) (by rw [List.length_take]; have := HBS.out; omega) (fun _ _ => trivial), M5.out.bel.trans (hB.mono M5.out.bel.size), owns_past BR.out hB⟩); (clear hO hB)) | (go_at_call 31; refine (PT.out _ _ _ m HMB.out N6.out.1).mono ?_; rintro e w7 ⟨⟨ta1, tc1, ca1, cc1, sa1, sc1, da1, dc1, rfl⟩, hB⟩; (have N7 : Hid (Below w.heap.size w w7 ∧ w7.ownsRow w.heap.size 5 1 (.slice (some oa) bs.length oc) bs.length (bV bs)) := ⟨N6.out.2.1.trans (hB.mono N6.out.2.1.size), owns_past N6.out.2.2 hB⟩); (clear hB)))
    clear hsl
    have T2 := two_boxes w7 [.slice ta1 0 tc1, .slice ca1 0 cc1, .slice sa1 0 sc1, .slice da1 0 dc1, .int .i64 0] [.int .i64 50, .slice none 0 0, .int .i64 0, .int .i64 (m : Int)]
    have N8 : Hid (Below w.heap.size w ((w7.alloc (.cells #[.slice ta1 0 tc1, .slice ca1 0 cc1, .slice sa1 0 sc1, .slice da1 0 dc1, .int .i64 0] 28)).alloc (.cells #[.int .i64 50, .slice none 0 0, .int .i64 0, .int .i64 (m : Int)] 47)) ∧ ((w7.alloc (.cells #[.slice ta1 0 tc1, .slice ca1 0 cc1, .slice sa1 0 sc1, .slice da1 0 dc1, .int .i64 0] 28)).alloc (.cells #[.int .i64 50, .slice none 0 0, .int .i64 0, .int .i64 (m : Int)] 47)).ownsRow w.heap.size 5 1 (.slice (some oa) bs.length oc) bs.length (bV bs) ∧ CBox ((w7.alloc (.cells #[.slice ta1 0 tc1, .slice ca1 0 cc1, .slice sa1 0 sc1, .slice da1 0 dc1, .int .i64 0] 28)).alloc (.cells #[.int .i64 50, .slice none 0 0, .int .i64 0, .int .i64 (m : Int)] 47)) (w7.heap.size + 1) 47 [.int .i64 50, .slice none 0 0, .int .i64 0, .int .i64 (m : Int)]) := ⟨N7.out.1.trans (T2.2.2.mono N7.out.1.size), owns_past N7.out.2 T2.2.2, T2.2.1⟩
    have HG : Hid (w.heap.size ≤ w7.heap.size + 1) := by have := N7.out.1.size; unfold Hid; omega
    clear T2 N6 N7 PT BM BR M5 HSL
    generalize w7.heap.size + 1 = b10 at N8 HG ⊢
    generalize w7.heap.size = b9 at N8 ⊢
    generalize (w7.alloc _).alloc _ = w8 at N8 ⊢
    have p0 : w8.cell? ⟨b10, 0, none⟩ = some (.int .i64 50) := N8.out.2.2.cell 0
    have p1 : w8.cell? ⟨b10, 1, none⟩ = some (.slice none 0 0) := N8.out.2.2.cell 1
    have p2 : w8.cell? ⟨b10, 2, none⟩ = some (.int .i64 0) := N8.out.2.2.cell 2
    have p3 : w8.cell? ⟨b10, 3, none⟩ = some (.int .i64 (m : Int)) := N8.out.2.2.cell 3
    go_upto_region 16 with fail
    clear p0 p1 p2 p3
    by_cases e0 : t.length = 0
    · have q1 : ((t.length : Int) == 0) = true := by simp [e0]
      clear e0
      go_wp2
      go_ret
      exact ⟨rfl, N8.out.1⟩
    · have q1 : ((t.length : Int) == 0) = false := by rw [beq_eq_false_iff_ne]; omega
      have PM : Hid (∀ (W : World) (R : Nat → Prop) (u : Value) (o' : Bool), BL R W u bt → Calls Try.prog 31 #[u, .bool o'] W fun e w' => (∃ ta tc ca cc sa sc da dc, e = .returned (.tuple #[.agg #[.slice ta 0 tc, .slice ca 0 cc, .slice sa 0 sc, .slice da 0 dc, .int .i64 0], .agg #[.int .i64 58, .slice none 0 0, .int .i64 0, .int .i64 (bs.length : Int)]])) ∧ Below W.heap.size W w') := PM0.out e0
      clear e0 PM0
      go_upto_region 18 with fail
      clear q1
      have BS : Hid (BL (fun _ => True) w8 (.slice (some oa) bs.length oc) bs) := SL.own N8.out.2.1 (by have := HBS.out; omega) (fun _ _ => trivial)
      go_upto_region 19 with (first | (go_at_call 32; refine (own_is _ _ _ BS.out (by have := HBS.out; omega)).mono ?_; rintro e w9 ⟨v9, rfl, hO, hB⟩; (have N9 : Hid (Below w.heap.size w w9 ∧ w9.ownsRow w.heap.size 5 1 v9 bs.length (bV bs) ∧ CBox w9 b10 47 [.int .i64 50, .slice none 0 0, .int .i64 0, .int .i64 (m : Int)]) := ⟨N8.out.1.trans (hB.mono N8.out.1.size), owns_base hO N8.out.1.size, N8.out.2.2.past hB⟩); (clear hO hB)) | (at_builtin; refine wpList_appB rfl _ _ rfl w.heap.size N9.out.1.size v9 bs rfl N9.out.2.1 (.slice ua t.length uc) t rfl (HU.out _ N9.out.1) (by have := HBS.out; have := HTL.out; omega) ?_; intro v11 w10 hA; rw [HBT.out] at hA))
      obtain ⟨xa, xc, exx⟩ := owns_sl hA.row
      subst exx
      have N10 : Hid (Below w.heap.size w w10 ∧ w10.ownsRow w.heap.size 5 1 (.slice xa bt.length xc) bt.length (bV bt) ∧ CBox w10 b10 47 [.int .i64 50, .slice none 0 0, .int .i64 0, .int .i64 (m : Int)]) := ⟨N9.out.1.trans (hA.below N9.out.2.1 N9.out.1.size), hA.row, N9.out.2.2.app hA N9.out.2.1 (by decide)⟩
      clear hA N9 N8 BS HU
      have HML : Hid (bt.length ≤ 16777216) := by unfold Hid; rw [← HBT.out, List.length_append]; have := HBS.out; have := HTL.out; omega
      have BT : Hid (BL (fun _ => True) w10 (.slice xa bt.length xc) bt) := SL.own N10.out.2.1 (by have := HML.out; omega) (fun _ _ => trivial)
      go_upto_region 20 with (first | (go_at_call 32; refine (own_is _ _ _ BT.out (by have := HML.out; omega)).mono ?_; rintro e w11 ⟨v12, rfl, hO, hB⟩; (have N11 : Hid (BL (fun _ => True) w11 v12 bt ∧ Below w.heap.size w w11 ∧ w11.ownsRow w.heap.size 5 1 (.slice xa bt.length xc) bt.length (bV bt) ∧ CBox w11 b10 47 [.int .i64 50, .slice none 0 0, .int .i64 0, .int .i64 (m : Int)]) := ⟨SL.own hO (by have := HML.out; omega) (fun _ _ => trivial), N10.out.1.trans (hB.mono N10.out.1.size), owns_past N10.out.2.1 hB, N10.out.2.2.past hB⟩); (clear hO hB)) | (go_at_call 31; refine (PM.out _ _ _ _ N11.out.1).mono ?_; rintro e w12 ⟨⟨ta2, tc2, ca2, cc2, sa2, sc2, da2, dc2, rfl⟩, hB⟩; (have N12 : Hid (Below w.heap.size w w12 ∧ w12.ownsRow w.heap.size 5 1 (.slice xa bt.length xc) bt.length (bV bt) ∧ CBox w12 b10 47 [.int .i64 50, .slice none 0 0, .int .i64 0, .int .i64 (m : Int)]) := ⟨N11.out.2.1.trans (hB.mono N11.out.2.1.size), owns_past N11.out.2.2.1 hB, N11.out.2.2.2.past hB⟩); (clear hB); (have k0 : w12.cell? ⟨b10, 0, none⟩ = some (.int .i64 50) := N12.out.2.2.cell 0); (have k1 : w12.cell? ⟨b10, 1, none⟩ = some (.slice none 0 0) := N12.out.2.2.cell 1); (have k2 : w12.cell? ⟨b10, 2, none⟩ = some (.int .i64 0) := N12.out.2.2.cell 2); (have k3 : w12.cell? ⟨b10, 3, none⟩ = some (.int .i64 (m : Int)) := N12.out.2.2.cell 3); (have f0 := CBox.frozen N12.out.2.2 0); (have f1 := CBox.frozen N12.out.2.2 1); (have f2 := CBox.frozen N12.out.2.2 2); (have f3 := CBox.frozen N12.out.2.2 3)))
      clear k0 k1 k2 k3 f0 f1 f2 f3
      have hs : But (fun y => y = b10) w12 ((((w12.setCell ⟨b10, 0, none⟩ (.int .i64 58)).setCell ⟨b10, 1, none⟩ (.slice none 0 0)).setCell ⟨b10, 2, none⟩ (.int .i64 0)).setCell ⟨b10, 3, none⟩ (.int .i64 (bs.length : Int))) := (((((But.refl (fun y => y = b10) w12).setCell ⟨b10, 0, none⟩ _ (Or.inl rfl)).setCell ⟨b10, 1, none⟩ _ (Or.inl rfl)).setCell ⟨b10, 2, none⟩ _ (Or.inl rfl)).setCell ⟨b10, 3, none⟩ _ (Or.inl rfl))
      have hg : w.heap.size ≤ b10 := HG.out
      have cb : CBox ((((w12.setCell ⟨b10, 0, none⟩ (.int .i64 58)).setCell ⟨b10, 1, none⟩ (.slice none 0 0)).setCell ⟨b10, 2, none⟩ (.int .i64 0)).setCell ⟨b10, 3, none⟩ (.int .i64 (bs.length : Int))) b10 47 [.int .i64 58, .slice none 0 0, .int .i64 0, .int .i64 (bs.length : Int)] := ((((N12.out.2.2.set 0 _).set 1 _).set 2 _).set 3 _)
      have ra : Alien w12 b10 := ⟨_, _, N12.out.2.2, by decide, by decide, by decide⟩
      have N13 : Hid (Below w.heap.size w ((((w12.setCell ⟨b10, 0, none⟩ (.int .i64 58)).setCell ⟨b10, 1, none⟩ (.slice none 0 0)).setCell ⟨b10, 2, none⟩ (.int .i64 0)).setCell ⟨b10, 3, none⟩ (.int .i64 (bs.length : Int))) ∧ ((((w12.setCell ⟨b10, 0, none⟩ (.int .i64 58)).setCell ⟨b10, 1, none⟩ (.slice none 0 0)).setCell ⟨b10, 2, none⟩ (.int .i64 0)).setCell ⟨b10, 3, none⟩ (.int .i64 (bs.length : Int))).ownsRow w.heap.size 5 1 (.slice xa bt.length xc) bt.length (bV bt) ∧ CBox ((((w12.setCell ⟨b10, 0, none⟩ (.int .i64 58)).setCell ⟨b10, 1, none⟩ (.slice none 0 0)).setCell ⟨b10, 2, none⟩ (.int .i64 0)).setCell ⟨b10, 3, none⟩ (.int .i64 (bs.length : Int))) b10 47 [.int .i64 58, .slice none 0 0, .int .i64 0, .int .i64 (bs.length : Int)]) := ⟨N12.out.1.trans (hs.below (fun k e => by omega) N12.out.1.size), row_alien N12.out.2.1 hs ra, cb⟩
      clear hs hg cb ra N12 N11 N10 BT
      generalize ((((w12.setCell ⟨b10, 0, none⟩ (.int .i64 58)).setCell ⟨b10, 1, none⟩ (.slice none 0 0)).setCell ⟨b10, 2, none⟩ (.int .i64 0)).setCell ⟨b10, 3, none⟩ (.int .i64 (bs.length : Int))) = w13 at N13 ⊢
      have BT : Hid (BL (fun _ => True) w13 (.slice xa bt.length xc) bt) := SL.own N13.out.2.1 (by have := HML.out; omega) (fun _ _ => trivial)
      go_upto_region 21 with (first | (go_at_call 32; refine (own_is _ _ _ BT.out (by have := HML.out; omega)).mono ?_; rintro e w14 ⟨v14, rfl, hO, hB⟩; (have N14 : Hid (BL (fun _ => True) w14 v14 bt ∧ Below w.heap.size w w14 ∧ CBox w14 b10 47 [.int .i64 58, .slice none 0 0, .int .i64 0, .int .i64 (bs.length : Int)]) := ⟨SL.own hO (by have := HML.out; omega) (fun _ _ => trivial), N13.out.1.trans (hB.mono N13.out.1.size), N13.out.2.2.past hB⟩); (clear hO hB)) | (go_at_call 31; refine (PM.out _ _ _ _ N14.out.1).mono ?_; rintro e w15 ⟨⟨ta3, tc3, ca3, cc3, sa3, sc3, da3, dc3, rfl⟩, hB⟩; (have N15 : Hid (Below w.heap.size w w15 ∧ CBox w15 b10 47 [.int .i64 58, .slice none 0 0, .int .i64 0, .int .i64 (bs.length : Int)]) := ⟨N14.out.2.1.trans (hB.mono N14.out.2.1.size), N14.out.2.2.past hB⟩); (clear hB)))
      have T2 := two_boxes w15 [.slice ta3 0 tc3, .slice ca3 0 cc3, .slice sa3 0 sc3, .slice da3 0 dc3, .int .i64 0] [.int .i64 58, .slice none 0 0, .int .i64 0, .int .i64 (bs.length : Int)]
      have N16 : Hid (Below w.heap.size w ((w15.alloc (.cells #[.slice ta3 0 tc3, .slice ca3 0 cc3, .slice sa3 0 sc3, .slice da3 0 dc3, .int .i64 0] 28)).alloc (.cells #[.int .i64 58, .slice none 0 0, .int .i64 0, .int .i64 (bs.length : Int)] 47)) ∧ CBox ((w15.alloc (.cells #[.slice ta3 0 tc3, .slice ca3 0 cc3, .slice sa3 0 sc3, .slice da3 0 dc3, .int .i64 0] 28)).alloc (.cells #[.int .i64 58, .slice none 0 0, .int .i64 0, .int .i64 (bs.length : Int)] 47)) b10 47 [.int .i64 58, .slice none 0 0, .int .i64 0, .int .i64 (bs.length : Int)] ∧ CBox ((w15.alloc (.cells #[.slice ta3 0 tc3, .slice ca3 0 cc3, .slice sa3 0 sc3, .slice da3 0 dc3, .int .i64 0] 28)).alloc (.cells #[.int .i64 58, .slice none 0 0, .int .i64 0, .int .i64 (bs.length : Int)] 47)) (w15.heap.size + 1) 47 [.int .i64 58, .slice none 0 0, .int .i64 0, .int .i64 (bs.length : Int)]) := ⟨N15.out.1.trans (T2.2.2.mono N15.out.1.size), N15.out.2.past T2.2.2, T2.2.1⟩
      clear T2 N14 N15 N13 BT PM
      generalize w15.heap.size + 1 = b13 at N16 ⊢
      generalize w15.heap.size = b12 at N16 ⊢
      generalize (w15.alloc _).alloc _ = w16 at N16 ⊢
      have p0 : w16.cell? ⟨b10, 0, none⟩ = some (.int .i64 58) := N16.out.2.1.cell 0
      have p1 : w16.cell? ⟨b10, 1, none⟩ = some (.slice none 0 0) := N16.out.2.1.cell 1
      have p2 : w16.cell? ⟨b10, 2, none⟩ = some (.int .i64 0) := N16.out.2.1.cell 2
      have p3 : w16.cell? ⟨b10, 3, none⟩ = some (.int .i64 (bs.length : Int)) := N16.out.2.1.cell 3
      have r0 : w16.cell? ⟨b13, 0, none⟩ = some (.int .i64 58) := N16.out.2.2.cell 0
      have r1 : w16.cell? ⟨b13, 1, none⟩ = some (.slice none 0 0) := N16.out.2.2.cell 1
      have r2 : w16.cell? ⟨b13, 2, none⟩ = some (.int .i64 0) := N16.out.2.2.cell 2
      have r3 : w16.cell? ⟨b13, 3, none⟩ = some (.int .i64 (bs.length : Int)) := N16.out.2.2.cell 3
      go_wp2
      go_ret
      exact ⟨rfl, N16.out.1⟩
  · obtain ⟨m, hm⟩ : ∃ m : Nat, r = (m : Int) := ⟨r.toNat, by omega⟩
    have HMB : Hid (m < bs.length) := by have := HR1.out; unfold Hid; omega
    clear HR1
    subst hm
    have q3 : ¬ (m : Int) < 0 := er
    clear er
    go_upto_region 13 with fail
    clear q3
    have HSL : Hid (∀ W, Sem.run Try.prog (Instr.slice 22 (.slice (some oa) bs.length oc) none (some (.int .i64 (m : Int))) none) W = .ok (.slice (some oa) m oc) W) := fun W => slice_upto oa bs.length oc m (by have := HMB.out; have := HOC.out; omega) W
    have BM : Hid (BL (fun _ => True) w5 (.slice (some oa) m oc) (bs.take m)) := BL.take (SL.own BR.out (by have := HBS.out; omega) (fun _ _ => trivial)) (by have := HMB.out; omega)
    have hsl := HSL.out
    go_upto_region 14 with (first | (go_at_call 32; refine (own_is _ _ _ BM.out (by rw [List.length_take]; have := HBS.out; omega)).mono ?_; rintro e w6 ⟨v6, rfl, hO, hB⟩; (have N6 : Hid (BL (fun _ => True) w6 v6 (bs.take m) ∧ Below w.heap.size w w6 ∧ w6.ownsRow w.heap.size 5 1 (.slice (some oa) bs.length oc) bs.length (bV bs)) := ⟨SL.own (by rw [show ((bs.take m).length) = (bs.take m).length from rfl]; exact hO) (by rw [List.length_take]; have := HBS.out; omega) (fun _ _ => trivial), M5.out.bel.trans (hB.mono M5.out.bel.size), owns_past BR.out hB⟩); (clear hO hB)) | (go_at_call 31; refine (PT.out _ _ _ m HMB.out N6.out.1).mono ?_; rintro e w7 ⟨⟨ta1, tc1, ca1, cc1, sa1, sc1, da1, dc1, rfl⟩, hB⟩; (have N7 : Hid (Below w.heap.size w w7 ∧ w7.ownsRow w.heap.size 5 1 (.slice (some oa) bs.length oc) bs.length (bV bs)) := ⟨N6.out.2.1.trans (hB.mono N6.out.2.1.size), owns_past N6.out.2.2 hB⟩); (clear hB)))
    clear hsl
    have T2 := two_boxes w7 [.slice ta1 0 tc1, .slice ca1 0 cc1, .slice sa1 0 sc1, .slice da1 0 dc1, .int .i64 0] [.int .i64 50, .slice none 0 0, .int .i64 0, .int .i64 (m : Int)]
    have N8 : Hid (Below w.heap.size w ((w7.alloc (.cells #[.slice ta1 0 tc1, .slice ca1 0 cc1, .slice sa1 0 sc1, .slice da1 0 dc1, .int .i64 0] 28)).alloc (.cells #[.int .i64 50, .slice none 0 0, .int .i64 0, .int .i64 (m : Int)] 47)) ∧ ((w7.alloc (.cells #[.slice ta1 0 tc1, .slice ca1 0 cc1, .slice sa1 0 sc1, .slice da1 0 dc1, .int .i64 0] 28)).alloc (.cells #[.int .i64 50, .slice none 0 0, .int .i64 0, .int .i64 (m : Int)] 47)).ownsRow w.heap.size 5 1 (.slice (some oa) bs.length oc) bs.length (bV bs) ∧ CBox ((w7.alloc (.cells #[.slice ta1 0 tc1, .slice ca1 0 cc1, .slice sa1 0 sc1, .slice da1 0 dc1, .int .i64 0] 28)).alloc (.cells #[.int .i64 50, .slice none 0 0, .int .i64 0, .int .i64 (m : Int)] 47)) (w7.heap.size + 1) 47 [.int .i64 50, .slice none 0 0, .int .i64 0, .int .i64 (m : Int)]) := ⟨N7.out.1.trans (T2.2.2.mono N7.out.1.size), owns_past N7.out.2 T2.2.2, T2.2.1⟩
    have HG : Hid (w.heap.size ≤ w7.heap.size + 1) := by have := N7.out.1.size; unfold Hid; omega
    clear T2 N6 N7 PT BM BR M5 HSL
    generalize w7.heap.size + 1 = b10 at N8 HG ⊢
    generalize w7.heap.size = b9 at N8 ⊢
    generalize (w7.alloc _).alloc _ = w8 at N8 ⊢
    have p0 : w8.cell? ⟨b10, 0, none⟩ = some (.int .i64 50) := N8.out.2.2.cell 0
    have p1 : w8.cell? ⟨b10, 1, none⟩ = some (.slice none 0 0) := N8.out.2.2.cell 1
    have p2 : w8.cell? ⟨b10, 2, none⟩ = some (.int .i64 0) := N8.out.2.2.cell 2
    have p3 : w8.cell? ⟨b10, 3, none⟩ = some (.int .i64 (m : Int)) := N8.out.2.2.cell 3
    go_upto_region 16 with fail
    clear p0 p1 p2 p3
    by_cases e0 : t.length = 0
    · have q1 : ((t.length : Int) == 0) = true := by simp [e0]
      clear e0
      go_wp2
      go_ret
      exact ⟨rfl, N8.out.1⟩
    · have q1 : ((t.length : Int) == 0) = false := by rw [beq_eq_false_iff_ne]; omega
      have PM : Hid (∀ (W : World) (R : Nat → Prop) (u : Value) (o' : Bool), BL R W u bt → Calls Try.prog 31 #[u, .bool o'] W fun e w' => (∃ ta tc ca cc sa sc da dc, e = .returned (.tuple #[.agg #[.slice ta 0 tc, .slice ca 0 cc, .slice sa 0 sc, .slice da 0 dc, .int .i64 0], .agg #[.int .i64 58, .slice none 0 0, .int .i64 0, .int .i64 (bs.length : Int)]])) ∧ Below W.heap.size W w') := PM0.out e0
      clear e0 PM0
      go_upto_region 18 with fail
      clear q1
      have BS : Hid (BL (fun _ => True) w8 (.slice (some oa) bs.length oc) bs) := SL.own N8.out.2.1 (by have := HBS.out; omega) (fun _ _ => trivial)
      go_upto_region 19 with (first | (go_at_call 32; refine (own_is _ _ _ BS.out (by have := HBS.out; omega)).mono ?_; rintro e w9 ⟨v9, rfl, hO, hB⟩; (have N9 : Hid (Below w.heap.size w w9 ∧ w9.ownsRow w.heap.size 5 1 v9 bs.length (bV bs) ∧ CBox w9 b10 47 [.int .i64 50, .slice none 0 0, .int .i64 0, .int .i64 (m : Int)]) := ⟨N8.out.1.trans (hB.mono N8.out.1.size), owns_base hO N8.out.1.size, N8.out.2.2.past hB⟩); (clear hO hB)) | (at_builtin; refine wpList_appB rfl _ _ rfl w.heap.size N9.out.1.size v9 bs rfl N9.out.2.1 (.slice ua t.length uc) t rfl (HU.out _ N9.out.1) (by have := HBS.out; have := HTL.out; omega) ?_; intro v11 w10 hA; rw [HBT.out] at hA))
      obtain ⟨xa, xc, exx⟩ := owns_sl hA.row
      subst exx
      have N10 : Hid (Below w.heap.size w w10 ∧ w10.ownsRow w.heap.size 5 1 (.slice xa bt.length xc) bt.length (bV bt) ∧ CBox w10 b10 47 [.int .i64 50, .slice none 0 0, .int .i64 0, .int .i64 (m : Int)]) := ⟨N9.out.1.trans (hA.below N9.out.2.1 N9.out.1.size), hA.row, N9.out.2.2.app hA N9.out.2.1 (by decide)⟩
      clear hA N9 N8 BS HU
      have HML : Hid (bt.length ≤ 16777216) := by unfold Hid; rw [← HBT.out, List.length_append]; have := HBS.out; have := HTL.out; omega
      have BT : Hid (BL (fun _ => True) w10 (.slice xa bt.length xc) bt) := SL.own N10.out.2.1 (by have := HML.out; omega) (fun _ _ => trivial)
      go_upto_region 20 with (first | (go_at_call 32; refine (own_is _ _ _ BT.out (by have := HML.out; omega)).mono ?_; rintro e w11 ⟨v12, rfl, hO, hB⟩; (have N11 : Hid (BL (fun _ => True) w11 v12 bt ∧ Below w.heap.size w w11 ∧ w11.ownsRow w.heap.size 5 1 (.slice xa bt.length xc) bt.length (bV bt) ∧ CBox w11 b10 47 [.int .i64 50, .slice none 0 0, .int .i64 0, .int .i64 (m : Int)]) := ⟨SL.own hO (by have := HML.out; omega) (fun _ _ => trivial), N10.out.1.trans (hB.mono N10.out.1.size), owns_past N10.out.2.1 hB, N10.out.2.2.past hB⟩); (clear hO hB)) | (go_at_call 31; refine (PM.out _ _ _ _ N11.out.1).mono ?_; rintro e w12 ⟨⟨ta2, tc2, ca2, cc2, sa2, sc2, da2, dc2, rfl⟩, hB⟩; (have N12 : Hid (Below w.heap.size w w12 ∧ w12.ownsRow w.heap.size 5 1 (.slice xa bt.length xc) bt.length (bV bt) ∧ CBox w12 b10 47 [.int .i64 50, .slice none 0 0, .int .i64 0, .int .i64 (m : Int)]) := ⟨N11.out.2.1.trans (hB.mono N11.out.2.1.size), owns_past N11.out.2.2.1 hB, N11.out.2.2.2.past hB⟩); (clear hB); (have k0 : w12.cell? ⟨b10, 0, none⟩ = some (.int .i64 50) := N12.out.2.2.cell 0); (have k1 : w12.cell? ⟨b10, 1, none⟩ = some (.slice none 0 0) := N12.out.2.2.cell 1); (have k2 : w12.cell? ⟨b10, 2, none⟩ = some (.int .i64 0) := N12.out.2.2.cell 2); (have k3 : w12.cell? ⟨b10, 3, none⟩ = some (.int .i64 (m : Int)) := N12.out.2.2.cell 3); (have f0 := CBox.frozen N12.out.2.2 0); (have f1 := CBox.frozen N12.out.2.2 1); (have f2 := CBox.frozen N12.out.2.2 2); (have f3 := CBox.frozen N12.out.2.2 3)))
      clear k0 k1 k2 k3 f0 f1 f2 f3
      have hs : But (fun y => y = b10) w12 ((((w12.setCell ⟨b10, 0, none⟩ (.int .i64 58)).setCell ⟨b10, 1, none⟩ (.slice none 0 0)).setCell ⟨b10, 2, none⟩ (.int .i64 0)).setCell ⟨b10, 3, none⟩ (.int .i64 (bs.length : Int))) := (((((But.refl (fun y => y = b10) w12).setCell ⟨b10, 0, none⟩ _ (Or.inl rfl)).setCell ⟨b10, 1, none⟩ _ (Or.inl rfl)).setCell ⟨b10, 2, none⟩ _ (Or.inl rfl)).setCell ⟨b10, 3, none⟩ _ (Or.inl rfl))
      have hg : w.heap.size ≤ b10 := HG.out
      have cb : CBox ((((w12.setCell ⟨b10, 0, none⟩ (.int .i64 58)).setCell ⟨b10, 1, none⟩ (.slice none 0 0)).setCell ⟨b10, 2, none⟩ (.int .i64 0)).setCell ⟨b10, 3, none⟩ (.int .i64 (bs.length : Int))) b10 47 [.int .i64 58, .slice none 0 0, .int .i64 0, .int .i64 (bs.length : Int)] := ((((N12.out.2.2.set 0 _).set 1 _).set 2 _).set 3 _)
      have ra : Alien w12 b10 := ⟨_, _, N12.out.2.2, by decide, by decide, by decide⟩
      have N13 : Hid (Below w.heap.size w ((((w12.setCell ⟨b10, 0, none⟩ (.int .i64 58)).setCell ⟨b10, 1, none⟩ (.slice none 0 0)).setCell ⟨b10, 2, none⟩ (.int .i64 0)).setCell ⟨b10, 3, none⟩ (.int .i64 (bs.length : Int))) ∧ ((((w12.setCell ⟨b10, 0, none⟩ (.int .i64 58)).setCell ⟨b10, 1, none⟩ (.slice none 0 0)).setCell ⟨b10, 2, none⟩ (.int .i64 0)).setCell ⟨b10, 3, none⟩ (.int .i64 (bs.length : Int))).ownsRow w.heap.size 5 1 (.slice xa bt.length xc) bt.length (bV bt) ∧ CBox ((((w12.setCell ⟨b10, 0, none⟩ (.int .i64 58)).setCell ⟨b10, 1, none⟩ (.slice none 0 0)).setCell ⟨b10, 2, none⟩ (.int .i64 0)).setCell ⟨b10, 3, none⟩ (.int .i64 (bs.length : Int))) b10 47 [.int .i64 58, .slice none 0 0, .int .i64 0, .int .i64 (bs.length : Int)]) := ⟨N12.out.1.trans (hs.below (fun k e => by omega) N12.out.1.size), row_alien N12.out.2.1 hs ra, cb⟩
      clear hs hg cb ra N12 N11 N10 BT
      generalize ((((w12.setCell ⟨b10, 0, none⟩ (.int .i64 58)).setCell ⟨b10, 1, none⟩ (.slice none 0 0)).setCell ⟨b10, 2, none⟩ (.int .i64 0)).setCell ⟨b10, 3, none⟩ (.int .i64 (bs.length : Int))) = w13 at N13 ⊢
      have BT : Hid (BL (fun _ => True) w13 (.slice xa bt.length xc) bt) := SL.own N13.out.2.1 (by have := HML.out; omega) (fun _ _ => trivial)
      go_upto_region 21 with (first | (go_at_call 32; refine (own_is _ _ _ BT.out (by have := HML.out; omega)).mono ?_; rintro e w14 ⟨v14, rfl, hO, hB⟩; (have N14 : Hid (BL (fun _ => True) w14 v14 bt ∧ Below w.heap.size w w14 ∧ CBox w14 b10 47 [.int .i64 58, .slice none 0 0, .int .i64 0, .int .i64 (bs.length : Int)]) := ⟨SL.own hO (by have := HML.out; omega) (fun _ _ => trivial), N13.out.1.trans (hB.mono N13.out.1.size), N13.out.2.2.past hB⟩); (clear hO hB)) | (go_at_call 31; refine (PM.out _ _ _ _ N14.out.1).mono ?_; rintro e w15 ⟨⟨ta3, tc3, ca3, cc3, sa3, sc3, da3, dc3, rfl⟩, hB⟩; (have N15 : Hid (Below w.heap.size w w15 ∧ CBox w15 b10 47 [.int .i64 58, .slice none 0 0, .int .i64 0, .int .i64 (bs.length : Int)]) := ⟨N14.out.2.1.trans (hB.mono N14.out.2.1.size), N14.out.2.2.past hB⟩); (clear hB)))
      have T2 := two_boxes w15 [.slice ta3 0 tc3, .slice ca3 0 cc3, .slice sa3 0 sc3, .slice da3 0 dc3, .int .i64 0] [.int .i64 58, .slice none 0 0, .int .i64 0, .int .i64 (bs.length : Int)]
      have N16 : Hid (Below w.heap.size w ((w15.alloc (.cells #[.slice ta3 0 tc3, .slice ca3 0 cc3, .slice sa3 0 sc3, .slice da3 0 dc3, .int .i64 0] 28)).alloc (.cells #[.int .i64 58, .slice none 0 0, .int .i64 0, .int .i64 (bs.length : Int)] 47)) ∧ CBox ((w15.alloc (.cells #[.slice ta3 0 tc3, .slice ca3 0 cc3, .slice sa3 0 sc3, .slice da3 0 dc3, .int .i64 0] 28)).alloc (.cells #[.int .i64 58, .slice none 0 0, .int .i64 0, .int .i64 (bs.length : Int)] 47)) b10 47 [.int .i64 58, .slice none 0 0, .int .i64 0, .int .i64 (bs.length : Int)] ∧ CBox ((w15.alloc (.cells #[.slice ta3 0 tc3, .slice ca3 0 cc3, .slice sa3 0 sc3, .slice da3 0 dc3, .int .i64 0] 28)).alloc (.cells #[.int .i64 58, .slice none 0 0, .int .i64 0, .int .i64 (bs.length : Int)] 47)) (w15.heap.size + 1) 47 [.int .i64 58, .slice none 0 0, .int .i64 0, .int .i64 (bs.length : Int)]) := ⟨N15.out.1.trans (T2.2.2.mono N15.out.1.size), N15.out.2.past T2.2.2, T2.2.1⟩
      clear T2 N14 N15 N13 BT PM
      generalize w15.heap.size + 1 = b13 at N16 ⊢
      generalize w15.heap.size = b12 at N16 ⊢
      generalize (w15.alloc _).alloc _ = w16 at N16 ⊢
      have p0 : w16.cell? ⟨b10, 0, none⟩ = some (.int .i64 58) := N16.out.2.1.cell 0
      have p1 : w16.cell? ⟨b10, 1, none⟩ = some (.slice none 0 0) := N16.out.2.1.cell 1
      have p2 : w16.cell? ⟨b10, 2, none⟩ = some (.int .i64 0) := N16.out.2.1.cell 2
      have p3 : w16.cell? ⟨b10, 3, none⟩ = some (.int .i64 (bs.length : Int)) := N16.out.2.1.cell 3
      have r0 : w16.cell? ⟨b13, 0, none⟩ = some (.int .i64 58) := N16.out.2.2.cell 0
      have r1 : w16.cell? ⟨b13, 1, none⟩ = some (.slice none 0 0) := N16.out.2.2.cell 1
      have r2 : w16.cell? ⟨b13, 2, none⟩ = some (.int .i64 0) := N16.out.2.2.cell 2
      have r3 : w16.cell? ⟨b13, 3, none⟩ = some (.int .i64 (bs.length : Int)) := N16.out.2.2.cell 3
      go_wp2
      go_ret
      exact ⟨rfl, N16.out.1⟩
end Go.Proofs.Ytndhabhlajldeaa
