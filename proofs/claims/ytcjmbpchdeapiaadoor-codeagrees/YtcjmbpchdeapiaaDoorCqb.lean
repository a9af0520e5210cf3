/- CodeAgrees: the walk. -/
import Derived.Test.YtcjmbpchdeapiaaDoorCqaM
namespace Go.Proofs.YtcjmbpchdeapiaaDoor
open Go.RowKit Go.Shelf
attribute [local go_sem] Oper.semAt_some
theorem below_al2 (w : World) (o1 o2 : Obj) : Below w.heap.size w ((w.alloc o1).alloc o2) := ((Below.refl _ w).alloc (Nat.le_refl _) _).alloc (by simp) _
set_option maxHeartbeats 8000000 in
set_option maxRecDepth 100000 in
theorem codeAgrees_in (w : World) (hN : Nms w) (v : Value) (L0 : Nat) (b : Nat → Nat) (hL : L0 ≤ 9223372036854775807) (hv : BytesOf w v L0 b) (hcp : ∀ ad cap, v = .slice ad L0 cap → L0 ≤ cap) : CallsIn Fence.wide 10 Tryd.prog 4 #[v] w fun e w' => e = .returned (.bool true) ∧ Below w.heap.size w w' := by
  obtain ⟨ad0, cap0, rfl, _⟩ := id hv
  have bq := below_al2 w (.cells #[.slice ad0 L0 cap0] 22) (.cells #[.bool false] 4)
  have x1 : Boxed ((w.alloc (.cells #[.slice ad0 L0 cap0] 22)).alloc (.cells #[.bool false] 4)) w.heap.size 22 (.slice ad0 L0 cap0) := (Boxed.new _ _ _).alloc _
  have x2 : Boxed ((w.alloc (.cells #[.slice ad0 L0 cap0] 22)).alloc (.cells #[.bool false] 4)) (w.heap.size + 1) 4 (.bool false) := by have h9 := Boxed.new (w.alloc (.cells #[.slice ad0 L0 cap0] 22)) 4 (.bool false); rw [World.size_alloc] at h9; exact h9
  have HBB : Hid (∀ j, b j < 256) := by obtain ⟨_, _, _, h, _⟩ := hv; exact h
  obtain ⟨m, hm⟩ : ∃ m, cutN L0 = m := ⟨_, rfl⟩
  have HM : Hid (m ≤ 70000) := by have := (cutN_le L0).2; rw [hm] at this; exact this
  have HCUT : Hid (Calls Tryd.prog 20 #[.slice ad0 L0 cap0] ((w.alloc (.cells #[.slice ad0 L0 cap0] 22)).alloc (.cells #[.bool false] 4)) fun e w' => ∃ g cap, e = .returned (.slice (some ⟨g, 0, none⟩) m cap) ∧ w'.ownsRow (w.heap.size + 2) 5 1 (.slice (some ⟨g, 0, none⟩) m cap) m (bsL m b) ∧ Boxed w' w.heap.size 22 (.slice ad0 L0 cap0) ∧ Boxed w' (w.heap.size + 1) 4 (.bool false) ∧ Below w.heap.size w w') := (cut_at ((w.alloc (.cells #[.slice ad0 L0 cap0] 22)).alloc (.cells #[.bool false] 4)) _ L0 b hL (hv.below rfl bq) hcp).mono fun e w' ⟨g, cap, he, hO, hB⟩ => by
    rw [hm] at he hO
    simp only [World.size_alloc] at hO
    exact ⟨g, cap, he, hO, (hB.block _ x1.lt).trans x1, (hB.block _ x2.lt).trans x2, bq.trans (hB.mono bq.size)⟩
  have HN : Hid (∀ V, Below w.heap.size w V → Nms V) := fun V hV => hN.past hV
  have mI : (m : Int) ≤ 70000 := by have := HM.out; omega
  clear bq x1 x2 hm hL hN hv hcp
  refine callsIn_of_wp_marks Tryd.func4 rfl trivial ?_ rfl
  simp only [Tryd.ntmps4, List.size_toArray, List.length_cons, List.length_nil, Nat.reduceAdd, Nat.reduceSub, Array.replicate_succ, Array.replicate_zero, List.push_toArray, List.append_toArray, List.nil_append, List.cons_append]
  refine wpIn_wide.2 ?_
  go_upto_region 2 with (go_at_call 20; refine HCUT.out.mono ?_; rintro e w1 ⟨g, cap, rfl, hO, h1, h2, hB⟩; (have k0 := h1.cell); (have f0 := h1.frozen); (have N1 : Hid (Boxed w1 w.heap.size 22 (.slice ad0 L0 cap0) ∧ Boxed w1 (w.heap.size + 1) 4 (.bool false) ∧ w1.ownsRow (w.heap.size + 2) 5 1 (.slice (some ⟨g, 0, none⟩) m cap) m (bsL m b) ∧ Below w.heap.size w w1) := ⟨h1, h2, hO, hB⟩); (clear hO h1 h2 hB))
  clear HCUT k0 f0
  have N2 : Hid (Boxed (w1.setCell ⟨w.heap.size, 0, none⟩ (.slice (some ⟨g, 0, none⟩) m cap)) w.heap.size 22 (.slice (some ⟨g, 0, none⟩) m cap) ∧ Boxed (w1.setCell ⟨w.heap.size, 0, none⟩ (.slice (some ⟨g, 0, none⟩) m cap)) (w.heap.size + 1) 4 (.bool false) ∧ (w1.setCell ⟨w.heap.size, 0, none⟩ (.slice (some ⟨g, 0, none⟩) m cap)).ownsRow (w.heap.size + 2) 5 1 (.slice (some ⟨g, 0, none⟩) m cap) m (bsL m b) ∧ Below w.heap.size w (w1.setCell ⟨w.heap.size, 0, none⟩ (.slice (some ⟨g, 0, none⟩) m cap))) := ⟨N1.out.1.set _, N1.out.2.1.other (by omega) _, ownsRow_setCell_other N1.out.2.2.1 (fun e => by have := (N1.out.2.2.1.lt _ e).1; simp at this; omega) _, N1.out.2.2.2.setCell (p := ⟨w.heap.size, 0, none⟩) (Nat.le_refl _) _⟩
  clear N1
  generalize w1.setCell ⟨w.heap.size, 0, none⟩ (.slice (some ⟨g, 0, none⟩) m cap) = V0 at N2 ⊢
  obtain ⟨k, hk⟩ := fullA_ex b m
  have HK : Hid (FullA b m k ∧ k ≤ m) := ⟨hk, hk.1.count⟩
  clear hk
  obtain ⟨kk, hkk⟩ : ∃ x, KK b m k = x := ⟨_, rfl⟩
  have HKK : Hid (KK b m k = kk ∧ kk ≤ 70000) := ⟨hkk, by have := HK.out; have := HM.out; unfold KK at hkk; split at hkk <;> omega⟩
  clear hkk
  obtain ⟨er, her⟩ : ∃ x, scE b m k = x := ⟨_, rfl⟩
  have HER : Hid (scE b m k = er) := her
  clear her
  obtain ⟨sp, hsp⟩ : ∃ x, scP b m k = x := ⟨_, rfl⟩
  have HSP : Hid (scP b m k = sp) := hsp
  clear hsp
  have b0c := N2.out.1.cell
  have BW : Hid (∀ V, Below V0.heap.size V0 V → BytesOf V (.slice (some ⟨g, 0, none⟩) m cap) m b ∧ ∀ ad c, Value.slice (some ⟨g, 0, none⟩) m cap = .slice ad m c → m ≤ c) := fun V hV => own_bytes (ownsRow_past N2.out.2.2.1 hV) HBB.out
  have HSC : Hid (Calls Tryd.prog 8 #[.slice (some ⟨g, 0, none⟩) m cap] V0 fun e w' => ∃ fa fc, e = .returned (.tuple #[.slice fa kk fc, .int .i64 er, .int .i64 (sp : Int)]) ∧ ScR V0.heap.size b kk (.slice fa kk fc) w' ∧ Below V0.heap.size V0 w') := (scan_k _ _ m b k HK.out.1 (HN.out _ N2.out.2.2.2) (BW.out _ (Below.refl _ _)).1 (BW.out _ (Below.refl _ _)).2 (by have := HM.out; omega)).mono fun e w' ⟨fv, he, hS, hB⟩ => by
    rw [HKK.out.1] at hS
    obtain ⟨xs, h1, h2, h3, h4⟩ := id hS
    obtain ⟨fa, fc, rfl, _⟩ := own_slice h3
    rw [HER.out, HSP.out] at he
    exact ⟨fa, fc, he, hS, hB⟩
  go_upto_region 3 with (go_at_call 8; refine HSC.out.mono ?_; rintro e w2 ⟨fa, fc, rfl, hS, hB⟩; (obtain ⟨n0, hn0⟩ : ∃ x, x = V0.heap.size := ⟨_, rfl⟩); (rw [← hn0] at hS); (have N3 : Hid ((Boxed w2 w.heap.size 22 (.slice (some ⟨g, 0, none⟩) m cap) ∧ Boxed w2 (w.heap.size + 1) 4 (.bool false) ∧ w2.ownsRow (w.heap.size + 2) 5 1 (.slice (some ⟨g, 0, none⟩) m cap) m (bsL m b) ∧ Below w.heap.size w w2) ∧ ScR n0 b kk (.slice fa kk fc) w2 ∧ Below V0.heap.size V0 w2) := ⟨⟨(hB.block _ N2.out.1.lt).trans N2.out.1, (hB.block _ N2.out.2.1.lt).trans N2.out.2.1, ownsRow_past N2.out.2.2.1 hB, N2.out.2.2.2.trans (hB.mono N2.out.2.2.2.size)⟩, hS, hB⟩); (clear hS hB hn0))
  clear HSC b0c N2
  have bq := below_al2 w2 (.cells #[.slice fa kk fc] 25) (.cells #[.int .i64 er] 26)
  have N4 : Hid ((Boxed ((w2.alloc (.cells #[.slice fa kk fc] 25)).alloc (.cells #[.int .i64 er] 26)) w.heap.size 22 (.slice (some ⟨g, 0, none⟩) m cap) ∧ Boxed ((w2.alloc (.cells #[.slice fa kk fc] 25)).alloc (.cells #[.int .i64 er] 26)) (w.heap.size + 1) 4 (.bool false) ∧ ((w2.alloc (.cells #[.slice fa kk fc] 25)).alloc (.cells #[.int .i64 er] 26)).ownsRow (w.heap.size + 2) 5 1 (.slice (some ⟨g, 0, none⟩) m cap) m (bsL m b) ∧ Below w.heap.size w ((w2.alloc (.cells #[.slice fa kk fc] 25)).alloc (.cells #[.int .i64 er] 26))) ∧ Boxed ((w2.alloc (.cells #[.slice fa kk fc] 25)).alloc (.cells #[.int .i64 er] 26)) w2.heap.size 25 (.slice fa kk fc) ∧ ScR n0 b kk (.slice fa kk fc) ((w2.alloc (.cells #[.slice fa kk fc] 25)).alloc (.cells #[.int .i64 er] 26)) ∧ Boxed ((w2.alloc (.cells #[.slice fa kk fc] 25)).alloc (.cells #[.int .i64 er] 26)) (w2.heap.size + 1) 26 (.int .i64 er) ∧ Below V0.heap.size V0 ((w2.alloc (.cells #[.slice fa kk fc] 25)).alloc (.cells #[.int .i64 er] 26))) := ⟨⟨(bq.block _ N3.out.1.1.lt).trans N3.out.1.1, (bq.block _ N3.out.1.2.1.lt).trans N3.out.1.2.1, ownsRow_past N3.out.1.2.2.1 bq, N3.out.1.2.2.2.trans (bq.mono N3.out.1.2.2.2.size)⟩, (Boxed.new _ _ _).alloc _, N3.out.2.1.past bq, (by have h9 := Boxed.new (w2.alloc (.cells #[.slice fa kk fc] 25)) 26 (.int .i64 er); rw [World.size_alloc] at h9; exact h9), N3.out.2.2.trans (bq.mono N3.out.2.2.size)⟩
  clear N3 bq
  generalize ((w2.alloc (.cells #[.slice fa kk fc] 25)).alloc (.cells #[.int .i64 er] 26)) = V1 at N4 ⊢
  obtain ⟨l3, hl3⟩ : ∃ x, w2.heap.size = x := ⟨_, rfl⟩
  rw [hl3] at N4 ⊢
  obtain ⟨l4, hl4⟩ : ∃ x, l3 + 1 = x := ⟨_, rfl⟩
  rw [hl4] at N4 ⊢
  clear hl3 hl4
  have b0c := N4.out.1.1.cell
  go_upto_region 4 with (go_at_call 12; refine (starts_k _ _ m b k HK.out.1 (HN.out _ N4.out.1.2.2.2) (BW.out _ N4.out.2.2.2.2).1 (BW.out _ N4.out.2.2.2.2).2 (by have := HM.out; omega)).mono ?_; rintro e w3 ⟨q5, rfl, hC, hB⟩; (have N5 : Hid ((Boxed w3 w.heap.size 22 (.slice (some ⟨g, 0, none⟩) m cap) ∧ Boxed w3 (w.heap.size + 1) 4 (.bool false) ∧ w3.ownsRow (w.heap.size + 2) 5 1 (.slice (some ⟨g, 0, none⟩) m cap) m (bsL m b) ∧ Below w.heap.size w w3) ∧ CBox w3 q5 4 (stL b m k) ∧ Below V0.heap.size V0 w3 ∧ Boxed w3 l3 25 (.slice fa kk fc) ∧ ScR n0 b kk (.slice fa kk fc) w3 ∧ Boxed w3 l4 26 (.int .i64 er)) := ⟨⟨(hB.block _ N4.out.1.1.lt).trans N4.out.1.1, (hB.block _ N4.out.1.2.1.lt).trans N4.out.1.2.1, ownsRow_past N4.out.1.2.2.1 hB, N4.out.1.2.2.2.trans (hB.mono N4.out.1.2.2.2.size)⟩, hC, N4.out.2.2.2.2.trans (hB.mono N4.out.2.2.2.2.size), (hB.block _ N4.out.2.1.lt).trans N4.out.2.1, N4.out.2.2.1.past hB, (hB.block _ N4.out.2.2.2.1.lt).trans N4.out.2.2.2.1⟩); (clear hC hB))
  clear N4 b0c
  have bq : Below w3.heap.size w3 (w3.alloc (.cells #[.slice (some ⟨q5, 0, none⟩) m m] 31)) := (Below.refl _ _).alloc (Nat.le_refl _) _
  have M : Hid (AgM w (w3.alloc (.cells #[.slice (some ⟨q5, 0, none⟩) m m] 31)) g m cap l3 l4 w3.heap.size q5 n0 kk k fa fc er b ∧ Below V0.heap.size V0 (w3.alloc (.cells #[.slice (some ⟨q5, 0, none⟩) m m] 31))) := ⟨⟨(bq.block _ N5.out.1.1.lt).trans N5.out.1.1, (bq.block _ N5.out.1.2.1.lt).trans N5.out.1.2.1, ownsRow_past N5.out.1.2.2.1 bq, (bq.block _ N5.out.2.2.2.1.lt).trans N5.out.2.2.2.1, N5.out.2.2.2.2.1.past bq, (bq.block _ N5.out.2.2.2.2.2.lt).trans N5.out.2.2.2.2.2, Boxed.new _ _ _, N5.out.2.1.past bq, N5.out.1.2.2.2.trans (bq.mono N5.out.1.2.2.2.size), HBB.out⟩, N5.out.2.2.1.trans (bq.mono N5.out.2.2.1.size)⟩
  clear N5 bq
  generalize (w3.alloc (.cells #[.slice (some ⟨q5, 0, none⟩) m m] 31)) = V at M ⊢
  generalize w3.heap.size = l6 at M ⊢
  have b0c := M.out.1.bb.cell
  have s0c := M.out.1.sb.cell
  go_upto_region 6 with fail
  clear s0c b0c
  go_upto_region 9 with fail
  have NI : Hid (AgI V b 0 (((V.alloc (.cells #[.int .i64 0] 3)).alloc (.cells #[.int .i64 0] 3)).alloc (.cells #[.int .i64 0] 3)) ∧ (((V.alloc (.cells #[.int .i64 0] 3)).alloc (.cells #[.int .i64 0] 3)).alloc (.cells #[.int .i64 0] 3)).heap.size = V.heap.size + 3) := ⟨⟨((Below.refl _ _).alloc (Nat.le_refl _) _ |>.alloc (by simp) _).alloc (by simp; omega) _, ((Boxed.new V 3 _).alloc _).alloc _, (by have h9 := (Boxed.new (V.alloc (.cells #[.int .i64 0] 3)) 3 (.int .i64 0)).alloc (.cells #[.int .i64 0] 3); rw [World.size_alloc] at h9; exact h9), (by have h9 := Boxed.new ((V.alloc (.cells #[.int .i64 0] 3)).alloc (.cells #[.int .i64 0] 3)) 3 (.int .i64 0); simp only [World.size_alloc] at h9; exact h9)⟩, by simp⟩
  generalize (((V.alloc (.cells #[.int .i64 0] 3)).alloc (.cells #[.int .i64 0] 3)).alloc (.cells #[.int .i64 0] 3)) = V3 at NI ⊢
  have b0c := (M.out.1.past NI.out.1.be).bb.cell
  obtain ⟨q9, hq9⟩ : ∃ x, V3.heap.size = x := ⟨_, rfl⟩
  have AL : Hid (Calls Tryd.prog 17 #[.slice (some ⟨g, 0, none⟩) m cap] V3 fun e w' => e = .returned (.func (.func 33) #[] #[.pointer (some ⟨q9 + 1, 0, none⟩)]) ∧ EaOk (q9 + 1) (.slice (some ⟨q9, 0, none⟩) m m) m b w' ∧ Below V3.heap.size V3 w' ∧ w'.heap.size = q9 + 2) := by have h9 := all_k V3 _ m b (by have := HM.out; omega) (HN.out _ (M.out.1.past NI.out.1.be).be) (M.out.1.past NI.out.1.be).bw.1; rw [hq9] at h9; rw [hq9]; exact h9
  have HQ9 : Hid (q9 = V.heap.size + 3) := by rw [← hq9]; exact NI.out.2
  clear hq9
  have hnil : ∀ W : World, Sem.run Tryd.prog (binOp BinOp.eql 37 (.func (.func 33) #[] #[.pointer (some ⟨q9 + 1, 0, none⟩)]) .nilFunc) W = .ok (.bool false) W := fun W => by kernel_rfl
  go_upto_region 10 with (go_at_call 17; refine AL.out.mono ?_; rintro e w4 ⟨rfl, hE, hB, hs⟩; (have N9 : Hid (AgI V b 0 w4 ∧ EaOk (q9 + 1) (.slice (some ⟨q9, 0, none⟩) m m) m b w4 ∧ w4.heap.size = q9 + 2) := ⟨NI.out.1.past hB, hE, hs⟩); (clear hE hB hs))
  clear AL NI b0c
  go_wp2
  clear hnil
  obtain ⟨p9, hp9⟩ : ∃ x, V.heap.size + 1 + 1 = x := ⟨_, rfl⟩
  obtain ⟨p8, hp8⟩ : ∃ x, V.heap.size + 1 = x := ⟨_, rfl⟩
  rw [hp9, hp8]
  have HP : Hid (V.heap.size + 1 = p8 ∧ V.heap.size + 2 = p9) := ⟨hp8, by omega⟩
  clear hp8 hp9
  have hS9 : EaS (fun j => j < w.heap.size ∨ j = q9 ∨ j = q9 + 1) (q9 + 1) (.slice (some ⟨q9, 0, none⟩) m m) := ⟨Or.inr (Or.inr rfl), fun g o m c e _ => by cases e; exact Or.inr (Or.inl rfl), fun k g hk => Or.inl (World.block_lt_of_cell? w _ ((HN.out w (Below.refl _ _)) k g hk 0 (by omega)))⟩
  have HB9 : Hid (V.heap.size ≤ w4.heap.size ∧ w.heap.size ≤ V.heap.size) := ⟨N9.out.1.be.size, M.out.1.be.size⟩
  generalize hA0 : ({ tmps := _, defers := _ } : Act) = A0
  have hg0 : A0.eval (.tmp 37) = .func (.func 33) #[] #[.pointer (some ⟨q9 + 1, 0, none⟩)] := by rw [← hA0]; rfl
  have HA0 : Hid _ := hA0
  clear hA0
  refine wpIn_wide.1 (wpIn_rangeFunc_x (F := Fence.wide) (n := 10) (α := Nat × Nat × Nat) rfl (by omega) (gf := 33) (lb := #[.pointer (some ⟨q9 + 1, 0, none⟩)]) hg0 trivial (enters_of Tryd.func33 (by kernel_rfl) rfl) (each_seq 9 (by omega) (q9 + 1) (.slice (some ⟨q9, 0, none⟩) m m) m b (fun j => j < w.heap.size ∨ j = q9 ∨ j = q9 + 1) hS9 (fun ad cap e => by cases e; exact Nat.le_refl _) (by have := HM.out; omega) w4 N9.out.2.1) (fun _ _ _ _ h k => KeepC.trans h k) (fun _ W r o o' _ h ho => KeepC.put W r o o' h ho) (Below.refl _ _) (fun _ => rfl) (fun pre x V0 V1 hc => ⟨hc.1.size, fun k o _ hk _ => (hc.1.block k (Array.getElem?_eq_some_iff.1 hk).1).trans hk⟩)
    (fun pre W => AgI V b pre.length W) (fun _ _ _ => False) (fun pre x W => AgC V b m pre x W) (AgI.own9 HB9.out.1 (fun pre : List (Nat × Nat × Nat) => pre.length)) (fun _ _ _ _ _ hs _ _ => hs) (fun pre x => AgC.own9 HB9.out.1 pre x) (fun pre x V0 V1 h hc => AgC.come h hc) N9.out.1
    (fun x a' W => ∃ Bx, CBox W Bx 40 (insC b x) ∧ V.heap.size + 2 < Bx ∧ a' = { tmps := (A0.tmps.setIfInBounds 38 (insX b x)).setIfInBounds 11 (.pointer (some ⟨Bx, 0, none⟩)), defers := [] })
    (fun x a' _ X Y row hs hg hr => by obtain ⟨Bx, h1, h2, h3⟩ := hs; exact ⟨Bx, CBox.own (β := Unit) _ _ (fun _ => insC b x) () X Y row h1 hg (fun r e => (hr r e).2), h2, h3⟩) ?assign ?body ?done ?stop)
  case stop =>
    rintro D c pre W _ _ h _
    exact h.elim
  case assign =>
    rintro l pre x W K hC hK
    have hx : insX b x = .agg #[.int .i64 (x.1 : Int), .int .i64 (b x.1 : Int), .slice (some ⟨x.2.1, 0, none⟩) (immA b x.1) (immA b x.1), .int .i64 (nxA b x.1 : Int)] := rfl
    have hBB : Below W.heap.size W (W.alloc (.cells #[.int .i64 (x.1 : Int), .int .i64 (b x.1 : Int), .slice (some ⟨x.2.1, 0, none⟩) (immA b x.1) (immA b x.1), .int .i64 (nxA b x.1 : Int)] 40)) := (Below.refl _ W).alloc (Nat.le_refl _) _
    obtain ⟨A1, hA1⟩ : ∃ A1, A0 = A1 := ⟨_, rfl⟩
    rw [hA1] at hK
    rw [← HA0.out]
    gi_wp2
    refine hK _ _ ((KeepsOthers.alloc _ _).from _) (KeepC.past hBB) (hC.past hBB) ⟨W.heap.size, CBox.new W _ _, hC.i.la.lt, ?_⟩
    rw [← hA1, ← HA0.out]
    rfl
  case body =>
    rintro l pre x a' W hl ⟨r, hr⟩ hC ⟨Bx, h8, h9, rfl⟩
    have hck : pre.length < k := upto_lt hC.up HK.out.1
    have MW := M.out.1.past hC.i.be
    have hok := hC.up pre.length (by omega)
    have hN3 := (okA_parts hok).2.2
    have i0 := h8.cell 0
    have i1 := h8.cell 1
    have i2 := h8.cell 2
    have i3 := h8.cell 3
    simp only [insC, List.getElem?_cons_zero, List.getElem?_cons_succ] at i0 i1 i2 i3
    have hI := hC.ins
    rw [hC.at'] at i0 i1 i2 i3 hI
    rw [show nxA b (posA b pre.length) = posA b (pre.length + 1) from rfl] at i3
    rw [show posA b pre.length + 1 + immA b (posA b pre.length) = posA b (pre.length + 1) from rfl] at hN3
    have HO : Hid (Calls Tryd.prog 21 #[.slice (some ⟨g, 0, none⟩) m cap, .int .i64 (posA b pre.length : Int)] W fun e w' => ∃ q, e = .returned (.tuple #[.agg #[.int .i64 (posA b pre.length : Int), .int .i64 (b (posA b pre.length) : Int), .slice (some ⟨q, 0, none⟩) (immA b (posA b pre.length)) (immA b (posA b pre.length)), .int .i64 (posA b (pre.length + 1) : Int)], .int .i64 0]) ∧ Below W.heap.size W w' ∧ InsB w' q (immA b (posA b pre.length)) (fun j => b (posA b pre.length + 1 + j))) := (one_yes W _ m b (posA b pre.length) (HN.out _ MW.be) MW.bw.1 MW.bw.2 (by have := HM.out; omega) hok).mono fun e w' ⟨q, _, _, he, hB, hO⟩ => ⟨q, he, hB, hO⟩
    have hsc := MW.sc
    obtain ⟨xs, hxl, hxf, hxo, hxq⟩ := hsc
    have HRW : Hid (er = 0 → kk = k ∧ ∃ gl ql, fa = some ⟨gl, 0, none⟩ ∧ W.cell? ⟨gl, pre.length * 4, none⟩ = some (.int .i64 (posA b pre.length : Int)) ∧ W.cell? ⟨gl, pre.length * 4 + 1, none⟩ = some (.int .i64 (b (posA b pre.length) : Int)) ∧ W.cell? ⟨gl, pre.length * 4 + 2, none⟩ = some (.slice (some ⟨ql, 0, none⟩) (immA b (posA b pre.length)) (immA b (posA b pre.length))) ∧ W.cell? ⟨gl, pre.length * 4 + 3, none⟩ = some (.int .i64 (posA b (pre.length + 1) : Int)) ∧ InsB W ql (immA b (posA b pre.length)) (fun i => b (posA b pre.length + 1 + i))) := fun h0 => by
      have hkk : kk = k := by have h1 := HKK.out.1; unfold KK at h1; rw [HER.out, if_pos h0] at h1; exact h1.symm
      refine ⟨hkk, ?_⟩
      obtain ⟨ad, cc, e9, hg9⟩ := own_slice hxo
      injection e9 with e9 _ _
      obtain ⟨gl, hgl⟩ := hg9 (by omega)
      rw [hgl] at e9
      rw [e9] at hxo
      obtain ⟨ql, d0, d1, d2, d3, _, hI9⟩ := row_at hxl hxf hxo hxq pre.length (by omega)
      exact ⟨gl, ql, e9, d0, d1, d2, d3, hI9⟩
    have HST : Hid (∀ j, posA b pre.length ≤ j → j < posA b (pre.length + 1) → W.cell? ⟨q5, j, none⟩ = some (.bool (decide (j = posA b pre.length)))) := fun j h1 h2 => by rw [MW.s5.cell j, stL_get b m k j (by omega), st_in hck h1 h2]
    have bc9 := MW.bb.cell
    have ec := MW.eb.cell
    have lc9 := MW.lb.cell
    have sc9 := MW.sb.cell
    have pc9 := hC.i.p.cell
    have nc9 := hC.i.n.cell
    rw [HP.out.1] at nc9
    have HBX : Hid (V.heap.size + 2 < Bx) := h9
    have HNE : Hid (∀ j, ((fun j => j < w.heap.size ∨ j = q9 ∨ j = q9 + 1) j ∨ j = x.2.2) → j ≠ V.heap.size ∧ j ≠ p8 ∧ j ≠ p9) := fun j hj => by have := HB9.out; have := hC.ne; have := HQ9.out; have := HP.out; rcases hj with (h | h | h) | h <;> (refine ⟨?_, ?_, ?_⟩ <;> omega)
    have hPI := hC.i
    have hlt9 := posA_lt b pre.length (pre.length + 1) (by omega)
    clear hC MW h8 h9 hxl hxf hxo hxq hok
    generalize hcl : pre.length = c at *
    have HC : Hid (AgI V b c W ∧ pre.length = c) := ⟨hPI, hcl⟩
    clear hPI hcl
    generalize hbi : (fun j => b (posA b c + 1 + j)) = bi at *
    clear hbi
    generalize hnn : immA b (posA b c) = n at *
    clear hnn
    generalize hCC : b (posA b c) = C at *
    clear hCC
    obtain ⟨N, hNN⟩ : ∃ N, posA b (c + 1) = N := ⟨_, rfl⟩
    obtain ⟨A, hAA⟩ : ∃ A, posA b c = A := ⟨_, rfl⟩
    have HA : Hid (posA b c = A ∧ posA b (c + 1) = N) := ⟨hAA, hNN⟩
    rw [hNN] at i3 HO HRW HST hN3 hlt9
    rw [hAA] at i0 HO HRW HST pc9 hlt9
    clear hAA hNN
    have HAN : Hid (A < N ∧ N ≤ m) := ⟨hlt9, hN3⟩
    clear hlt9 hN3
    generalize x.2.1 = xq at i2 hI
    obtain ⟨c1, hc1⟩ : ∃ x, x = c + 1 := ⟨_, rfl⟩
    have HC1 : Hid (c1 = c + 1) := hc1
    have hkk7 : k ≤ 70000 := by have := HK.out.2; have := HM.out; omega
    have v1 : (c : Int) + 1 = (c1 : Int) := by omega
    have v2 : IntKind.i64.wrap (c1 : Int) = (c1 : Int) := by rw [IntKind.wrap_i64]; omega
    clear hc1
    have HI9 : Hid (InsB W xq n bi) := hI
    clear hI
    rw [← HA0.out]
    simp only [List.setIfInBounds_toArray, List.set_cons_zero, List.set_cons_succ]
    gi_wp2_with (refine ⟨trivial, ?_⟩; gi_at_call 21; refine (CallsIn.inRound l (callsIn_wide.2 HO.out)).mono ?_; rintro e w5 ⟨q, rfl, hB, hO⟩; (have N4 : Hid (Below W.heap.size W w5 ∧ InsB w5 q n bi) := ⟨hB, hO⟩); (clear hB hO HO))
    have hq : Below w5.heap.size w5 (w5.alloc (.cells #[.int .i64 (A : Int), .int .i64 (C : Int), .slice (some ⟨q, 0, none⟩) n n, .int .i64 (N : Int)] 40)) := (Below.refl _ _).alloc (Nat.le_refl _) _
    have N5 : Hid (Below W.heap.size W (w5.alloc (.cells #[.int .i64 (A : Int), .int .i64 (C : Int), .slice (some ⟨q, 0, none⟩) n n, .int .i64 (N : Int)] 40)) ∧ CBox (w5.alloc (.cells #[.int .i64 (A : Int), .int .i64 (C : Int), .slice (some ⟨q, 0, none⟩) n n, .int .i64 (N : Int)] 40)) w5.heap.size 40 [.int .i64 (A : Int), .int .i64 (C : Int), .slice (some ⟨q, 0, none⟩) n n, .int .i64 (N : Int)] ∧ InsB (w5.alloc (.cells #[.int .i64 (A : Int), .int .i64 (C : Int), .slice (some ⟨q, 0, none⟩) n n, .int .i64 (N : Int)] 40)) q n bi) := ⟨N4.out.1.trans (hq.mono N4.out.1.size), CBox.new w5 _ _, N4.out.2.past hq⟩
    clear hq N4
    generalize w5.alloc (.cells #[.int .i64 (A : Int), .int .i64 (C : Int), .slice (some ⟨q, 0, none⟩) n n, .int .i64 (N : Int)] 40) = V5 at N5 ⊢
    generalize w5.heap.size = B2 at N5 ⊢
    by_cases e0 : er = 0
    · obtain ⟨hkk, gl, ql, hfa, d0, d1, d2, d3, hL9⟩ := HRW.out e0
      subst hkk hfa e0
      have q1 : ¬ (kk : Int) ≤ (c : Int) := by omega
      have q2 : (c : Int) < (kk : Int) := by omega
      have HBY : Hid (∀ V', Below V5.heap.size V5 V' → BytesOf V' (.slice (some ⟨xq, 0, none⟩) n n) n bi ∧ BytesOf V' (.slice (some ⟨q, 0, none⟩) n n) n bi ∧ BytesOf V' (.slice (some ⟨ql, 0, none⟩) n n) n bi) := fun V' hV => ⟨((HI9.out.past N5.out.1).past hV).bytes, (N5.out.2.2.past hV).bytes, ((hL9.past N5.out.1).past hV).bytes⟩
      clear hL9 HRW
      have HS : Hid (∀ V', Below V5.heap.size V5 V' → V'.cell? ⟨Bx, 0, none⟩ = some (.int .i64 (A : Int)) ∧ V'.cell? ⟨Bx, 1, none⟩ = some (.int .i64 (C : Int)) ∧ V'.cell? ⟨Bx, 2, none⟩ = some (.slice (some ⟨xq, 0, none⟩) n n) ∧ V'.cell? ⟨Bx, 3, none⟩ = some (.int .i64 (N : Int)) ∧ V'.cell? ⟨B2, 0, none⟩ = some (.int .i64 (A : Int)) ∧ V'.cell? ⟨B2, 1, none⟩ = some (.int .i64 (C : Int)) ∧ V'.cell? ⟨B2, 2, none⟩ = some (.slice (some ⟨q, 0, none⟩) n n) ∧ V'.cell? ⟨B2, 3, none⟩ = some (.int .i64 (N : Int)) ∧ V'.cell? ⟨l4, 0, none⟩ = some (.int .i64 0) ∧ V'.cell? ⟨p8, 0, none⟩ = some (.int .i64 (c : Int)) ∧ V'.cell? ⟨l3, 0, none⟩ = some (.slice (some ⟨gl, 0, none⟩) kk fc) ∧ V'.cell? ⟨gl, c * 4, none⟩ = some (.int .i64 (A : Int)) ∧ V'.cell? ⟨gl, c * 4 + 1, none⟩ = some (.int .i64 (C : Int)) ∧ V'.cell? ⟨gl, c * 4 + 2, none⟩ = some (.slice (some ⟨ql, 0, none⟩) n n) ∧ V'.cell? ⟨gl, c * 4 + 3, none⟩ = some (.int .i64 (N : Int))) := fun V' hV => ⟨cell_past9 (N5.out.1.trans (hV.mono N5.out.1.size)) i0, cell_past9 (N5.out.1.trans (hV.mono N5.out.1.size)) i1, cell_past9 (N5.out.1.trans (hV.mono N5.out.1.size)) i2, cell_past9 (N5.out.1.trans (hV.mono N5.out.1.size)) i3, (N5.out.2.1.past hV).cell 0, (N5.out.2.1.past hV).cell 1, (N5.out.2.1.past hV).cell 2, (N5.out.2.1.past hV).cell 3, cell_past9 (N5.out.1.trans (hV.mono N5.out.1.size)) ec, cell_past9 (N5.out.1.trans (hV.mono N5.out.1.size)) nc9, cell_past9 (N5.out.1.trans (hV.mono N5.out.1.size)) lc9, cell_past9 (N5.out.1.trans (hV.mono N5.out.1.size)) d0, cell_past9 (N5.out.1.trans (hV.mono N5.out.1.size)) d1, cell_past9 (N5.out.1.trans (hV.mono N5.out.1.size)) d2, cell_past9 (N5.out.1.trans (hV.mono N5.out.1.size)) d3⟩
      refine wpIn_region_heldR (S := fun V' => V'.cell? ⟨Bx, 0, none⟩ = some (.int .i64 (A : Int)) ∧ V'.cell? ⟨Bx, 1, none⟩ = some (.int .i64 (C : Int)) ∧ V'.cell? ⟨Bx, 2, none⟩ = some (.slice (some ⟨xq, 0, none⟩) n n) ∧ V'.cell? ⟨Bx, 3, none⟩ = some (.int .i64 (N : Int)) ∧ V'.cell? ⟨B2, 0, none⟩ = some (.int .i64 (A : Int)) ∧ V'.cell? ⟨B2, 1, none⟩ = some (.int .i64 (C : Int)) ∧ V'.cell? ⟨B2, 2, none⟩ = some (.slice (some ⟨q, 0, none⟩) n n) ∧ V'.cell? ⟨B2, 3, none⟩ = some (.int .i64 (N : Int)) ∧ V'.cell? ⟨l4, 0, none⟩ = some (.int .i64 0) ∧ V'.cell? ⟨p8, 0, none⟩ = some (.int .i64 (c : Int)) ∧ V'.cell? ⟨l3, 0, none⟩ = some (.slice (some ⟨gl, 0, none⟩) kk fc) ∧ V'.cell? ⟨gl, c * 4, none⟩ = some (.int .i64 (A : Int)) ∧ V'.cell? ⟨gl, c * 4 + 1, none⟩ = some (.int .i64 (C : Int)) ∧ V'.cell? ⟨gl, c * 4 + 2, none⟩ = some (.slice (some ⟨ql, 0, none⟩) n n) ∧ V'.cell? ⟨gl, c * 4 + 3, none⟩ = some (.int .i64 (N : Int))) (by kernel_rfl) (by simp) (fun ⟨_, _, h⟩ => h) (HS.out _ below_drew9) (fun HH => ?_)
      have B5 : Hid (Below V5.heap.size V5 V5.drew) := below_drew9
      generalize V5.drew = z1 at HH B5 ⊢
      refine wpAnyH_take (i := 0) (v := .int .i64 0) ov0 (by kernel_rfl) (by kernel_rfl) (by kernel_rfl) (fun _ _ _ h => h) (Or.inl ⟨by rfl, fun V' hS => ?_⟩) HH ?_
      · go_simp
      simp only [Act.put, List.setIfInBounds_toArray, List.set_cons_zero, List.set_cons_succ]
      refine wpAnyH_take (i := 1) (v := .bool false) ov1 (by kernel_rfl) (by kernel_rfl) (by kernel_rfl) (fun _ _ _ h => h) (Or.inl ⟨by rfl, fun V' hS => ?_⟩) HH ?_
      · go_simp
      simp only [Act.put, List.setIfInBounds_toArray, List.set_cons_zero, List.set_cons_succ]
      refine wpAnyH_take (i := 2) (v := .bool false) ov2 (by kernel_rfl) (by kernel_rfl) (by kernel_rfl) (fun _ _ _ h => h) (Or.inl ⟨by rfl, fun V' hS => ?_⟩) HH ?_
      · go_simp
      simp only [Act.put, List.setIfInBounds_toArray, List.set_cons_zero, List.set_cons_succ]
      refine wpAnyH_take (i := 3) (v := .agg #[.int .i64 (A : Int), .int .i64 (C : Int), .slice (some ⟨xq, 0, none⟩) n n, .int .i64 (N : Int)]) ov3 (by kernel_rfl) (by kernel_rfl) (by kernel_rfl) (fun _ _ _ h => h) (Or.inl ⟨by rfl, fun V' hS => ?_⟩) HH ?_
      · obtain ⟨c0, c1, c2, c3, _⟩ := hS
        go_simp
      simp only [Act.put, List.setIfInBounds_toArray, List.set_cons_zero, List.set_cons_succ]
      refine wpAnyH_take (i := 4) (v := .agg #[.int .i64 (A : Int), .int .i64 (C : Int), .slice (some ⟨q, 0, none⟩) n n, .int .i64 (N : Int)]) ov4 (by kernel_rfl) (by kernel_rfl) (by kernel_rfl) (fun _ _ _ h => h) (Or.inl ⟨by rfl, fun V' hS => ?_⟩) HH ?_
      · obtain ⟨_, _, _, _, c0, c1, c2, c3, _⟩ := hS
        go_simp
      simp only [Act.put, List.setIfInBounds_toArray, List.set_cons_zero, List.set_cons_succ]
      refine wpAnyH_ready (rs := [5]) (by kernel_rfl) (by simp) ?_
      refine AllReadyH.cons ov5 (fun K hK => ?_) AllReadyH.nil
      rw [if_pos (by rfl)]
      go_simp
      refine (same_is _ (A : Int) (C : Int) (N : Int) (.slice (some ⟨xq, 0, none⟩) n n) (.slice (some ⟨q, 0, none⟩) n n) n bi bi (HBY.out _ B5.out).1 (HBY.out _ B5.out).2.1 (fun _ _ => rfl)).mono ?_
      rintro e z9 ⟨rfl, hB⟩
      have q9' := B5.out.trans (hB.mono B5.out.size)
      clear B5 hB
      have B5 : Hid (Below V5.heap.size V5 z9) := q9'
      clear q9'
      (try go_wp2_with fail)
      refine hK.out _ _ (HS.out _ B5.out) (fun _ => ?_)
      clear hK K
      (try simp only [Act.put, List.setIfInBounds_toArray, List.set_cons_zero, List.set_cons_succ])
      generalize z9 = z1 at B5 ⊢
      refine wpAnyH_take (i := 6) (v := .bool false) ov6 (by kernel_rfl) (by kernel_rfl) (by kernel_rfl) (fun _ _ _ h => h) (Or.inl ⟨by rfl, fun V' hS => ?_⟩) (HS.out _ B5.out) ?_
      · go_simp
      simp only [Act.put, List.setIfInBounds_toArray, List.set_cons_zero, List.set_cons_succ]
      refine wpAnyH_take (i := 7) (v := .bool false) ov7 (by kernel_rfl) (by kernel_rfl) (by kernel_rfl) (fun _ _ _ h => h) (Or.inl ⟨by rfl, fun V' hS => ?_⟩) (HS.out _ B5.out) ?_
      · go_simp
      simp only [Act.put, List.setIfInBounds_toArray, List.set_cons_zero, List.set_cons_succ]
      refine wpAnyH_take (i := 8) (v := .bool false) ov8 (by kernel_rfl) (by kernel_rfl) (by kernel_rfl) (fun _ _ _ h => h) (Or.inl ⟨by rfl, fun V' hS => ?_⟩) (HS.out _ B5.out) ?_
      · go_simp
      simp only [Act.put, List.setIfInBounds_toArray, List.set_cons_zero, List.set_cons_succ]
      refine wpAnyH_take (i := 9) (v := .int .i64 0) ov9 (by kernel_rfl) (by kernel_rfl) (by kernel_rfl) (fun _ _ _ h => h) (Or.inl ⟨by rfl, fun V' hS => ?_⟩) (HS.out _ B5.out) ?_
      · obtain ⟨_, _, _, _, _, _, _, _, c0, _⟩ := hS
        go_simp
      simp only [Act.put, List.setIfInBounds_toArray, List.set_cons_zero, List.set_cons_succ]
      refine wpAnyH_take (i := 10) (v := .bool true) ov10 (by kernel_rfl) (by kernel_rfl) (by kernel_rfl) (fun _ _ _ h => h) (Or.inl ⟨by rfl, fun V' hS => ?_⟩) (HS.out _ B5.out) ?_
      · go_simp
      simp only [Act.put, List.setIfInBounds_toArray, List.set_cons_zero, List.set_cons_succ]
      refine wpAnyH_take (i := 11) (v := .bool true) ov11 (by kernel_rfl) (by kernel_rfl) (by kernel_rfl) (fun _ _ _ h => h) (Or.inl ⟨by rfl, fun V' hS => ?_⟩) (HS.out _ B5.out) ?_
      · go_simp
      simp only [Act.put, List.setIfInBounds_toArray, List.set_cons_zero, List.set_cons_succ]
      refine wpAnyH_take (i := 12) (v := .int .i64 (c : Int)) ov12 (by kernel_rfl) (by kernel_rfl) (by kernel_rfl) (fun _ _ _ h => h) (Or.inl ⟨by rfl, fun V' hS => ?_⟩) (HS.out _ B5.out) ?_
      · obtain ⟨_, _, _, _, _, _, _, _, _, c0, _⟩ := hS
        go_simp
      simp only [Act.put, List.setIfInBounds_toArray, List.set_cons_zero, List.set_cons_succ]
      refine wpAnyH_take (i := 13) (v := .slice (some ⟨gl, 0, none⟩) kk fc) ov13 (by kernel_rfl) (by kernel_rfl) (by kernel_rfl) (fun _ _ _ h => h) (Or.inl ⟨by rfl, fun V' hS => ?_⟩) (HS.out _ B5.out) ?_
      · obtain ⟨_, _, _, _, _, _, _, _, _, _, c0, _⟩ := hS
        go_simp
      simp only [Act.put, List.setIfInBounds_toArray, List.set_cons_zero, List.set_cons_succ]
      refine wpAnyH_take (i := 14) (v := .int .i64 (kk : Int)) ov14 (by kernel_rfl) (by kernel_rfl) (by kernel_rfl) (fun _ _ _ h => h) (Or.inl ⟨by rfl, fun V' hS => ?_⟩) (HS.out _ B5.out) ?_
      · go_simp
      simp only [Act.put, List.setIfInBounds_toArray, List.set_cons_zero, List.set_cons_succ]
      refine wpAnyH_take (i := 15) (v := .bool false) ov15 (by kernel_rfl) (by kernel_rfl) (by kernel_rfl) (fun _ _ _ h => h) (Or.inl ⟨by rfl, fun V' hS => ?_⟩) (HS.out _ B5.out) ?_
      · go_simp
      simp only [Act.put, List.setIfInBounds_toArray, List.set_cons_zero, List.set_cons_succ]
      refine wpAnyH_take (i := 16) (v := .bool false) ov16 (by kernel_rfl) (by kernel_rfl) (by kernel_rfl) (fun _ _ _ h => h) (Or.inl ⟨by rfl, fun V' hS => ?_⟩) (HS.out _ B5.out) ?_
      · go_simp
      simp only [Act.put, List.setIfInBounds_toArray, List.set_cons_zero, List.set_cons_succ]
      refine wpAnyH_take (i := 17) (v := .slice (some ⟨gl, 0, none⟩) kk fc) ov17 (by kernel_rfl) (by kernel_rfl) (by kernel_rfl) (fun _ _ _ h => h) (Or.inl ⟨by rfl, fun V' hS => ?_⟩) (HS.out _ B5.out) ?_
      · obtain ⟨_, _, _, _, _, _, _, _, _, _, c0, _⟩ := hS
        go_simp
      simp only [Act.put, List.setIfInBounds_toArray, List.set_cons_zero, List.set_cons_succ]
      refine wpAnyH_take (i := 18) (v := .int .i64 (c : Int)) ov18 (by kernel_rfl) (by kernel_rfl) (by kernel_rfl) (fun _ _ _ h => h) (Or.inl ⟨by rfl, fun V' hS => ?_⟩) (HS.out _ B5.out) ?_
      · obtain ⟨_, _, _, _, _, _, _, _, _, c0, _⟩ := hS
        go_simp
      simp only [Act.put, List.setIfInBounds_toArray, List.set_cons_zero, List.set_cons_succ]
      refine wpAnyH_take (i := 19) (v := .pointer (some ⟨gl, c * 4, none⟩)) ov19 (by kernel_rfl) (by kernel_rfl) (by kernel_rfl) (fun _ _ _ h => h) (Or.inl ⟨by rfl, fun V' hS => ?_⟩) (HS.out _ B5.out) ?_
      · go_simp
      simp only [Act.put, List.setIfInBounds_toArray, List.set_cons_zero, List.set_cons_succ]
      refine wpAnyH_take (i := 20) (v := .agg #[.int .i64 (A : Int), .int .i64 (C : Int), .slice (some ⟨ql, 0, none⟩) n n, .int .i64 (N : Int)]) ov20 (by kernel_rfl) (by kernel_rfl) (by kernel_rfl) (fun _ _ _ h => h) (Or.inl ⟨by rfl, fun V' hS => ?_⟩) (HS.out _ B5.out) ?_
      · obtain ⟨_, _, _, _, _, _, _, _, _, _, _, c0, c1, c2, c3⟩ := hS
        go_simp
      simp only [Act.put, List.setIfInBounds_toArray, List.set_cons_zero, List.set_cons_succ]
      refine wpAnyH_take (i := 21) (v := .agg #[.int .i64 (A : Int), .int .i64 (C : Int), .slice (some ⟨xq, 0, none⟩) n n, .int .i64 (N : Int)]) ov21 (by kernel_rfl) (by kernel_rfl) (by kernel_rfl) (fun _ _ _ h => h) (Or.inl ⟨by rfl, fun V' hS => ?_⟩) (HS.out _ B5.out) ?_
      · obtain ⟨c0, c1, c2, c3, _⟩ := hS
        go_simp
      simp only [Act.put, List.setIfInBounds_toArray, List.set_cons_zero, List.set_cons_succ]
      refine wpAnyH_ready (rs := [22]) (by kernel_rfl) (by simp) ?_
      refine AllReadyH.cons ov22 (fun K hK => ?_) AllReadyH.nil
      rw [if_pos (by rfl)]
      go_simp
      refine (same_is _ (A : Int) (C : Int) (N : Int) (.slice (some ⟨ql, 0, none⟩) n n) (.slice (some ⟨xq, 0, none⟩) n n) n bi bi (HBY.out _ B5.out).2.2 (HBY.out _ B5.out).1 (fun _ _ => rfl)).mono ?_
      rintro e z9 ⟨rfl, hB⟩
      have q9' := B5.out.trans (hB.mono B5.out.size)
      clear B5 hB
      have B5 : Hid (Below V5.heap.size V5 z9) := q9'
      clear q9'
      (try go_wp2_with fail)
      refine hK.out _ _ (HS.out _ B5.out) (fun _ => ?_)
      clear hK K
      (try simp only [Act.put, List.setIfInBounds_toArray, List.set_cons_zero, List.set_cons_succ])
      generalize z9 = z1 at B5 ⊢
      refine wpAnyH_take (i := 23) (v := .bool false) ov23 (by kernel_rfl) (by kernel_rfl) (by kernel_rfl) (fun _ _ _ h => h) (Or.inl ⟨by rfl, fun V' hS => ?_⟩) (HS.out _ B5.out) ?_
      · go_simp
      simp only [Act.put, List.setIfInBounds_toArray, List.set_cons_zero, List.set_cons_succ]
      refine wpAnyH_take (i := 24) (v := .bool false) ov24 (by kernel_rfl) (by kernel_rfl) (by kernel_rfl) (fun _ _ _ h => h) (Or.inl ⟨by rfl, fun V' hS => ?_⟩) (HS.out _ B5.out) ?_
      · go_simp
      simp only [Act.put, List.setIfInBounds_toArray, List.set_cons_zero, List.set_cons_succ]
      refine wpAnyH_take (i := 25) (v := .bool false) ov25 (by kernel_rfl) (by kernel_rfl) (by kernel_rfl) (fun _ _ _ h => h) (Or.inl ⟨by rfl, fun V' hS => ?_⟩) (HS.out _ B5.out) ?_
      · go_simp
      simp only [Act.put, List.setIfInBounds_toArray, List.set_cons_zero, List.set_cons_succ]
      refine wpAnyH_take (i := 26) (v := .bool false) ov26 (by kernel_rfl) (by kernel_rfl) (by kernel_rfl) (fun _ _ _ h => h) (Or.inl ⟨by rfl, fun V' hS => ?_⟩) (HS.out _ B5.out) ?_
      · go_simp
      simp only [Act.put, List.setIfInBounds_toArray, List.set_cons_zero, List.set_cons_succ]
      refine wpAnyH_done (by kernel_rfl) ?_ _
      clear HH
      have BZ : Hid (Below W.heap.size W z1) := N5.out.1.trans (B5.out.mono N5.out.1.size)
      clear HS HBY B5 N5
      have pz := cell_past9 BZ.out pc9
      gi_wp2
      clear pz
      gi_loopw [14] (fun s14 wx => ∃ j : Nat, s14 = .int .i64 (j : Int) ∧ A ≤ j ∧ j ≤ N ∧ Below W.heap.size W wx) (fun s14 _ => N - (intOf s14).toNat)
      case atStart => exact ⟨A, rfl, Nat.le_refl _, by have := HAN.out; omega, BZ.out⟩
      case round =>
        obtain ⟨j, rfl, hj1, hj2, hBR⟩ := hrel
        have BR : Hid (Below W.heap.size W wr) := hBR
        clear hBR BZ
        have y0 := cell_past9 BR.out i3
        have y1 := cell_past9 BR.out bc9
        by_cases ej : j = N
        rotate_left
        · as_aux_lemma =>
            have HJ : Hid (A ≤ j ∧ j < N) := ⟨hj1, by omega⟩
            have q1 : (j : Int) < (N : Int) := by omega
            have q2 : (j : Int) < (m : Int) := by have := HAN.out; omega
            have q3 : (j : Int) < 1152921504606846976 := by have := HAN.out; have := HM.out; omega
            clear ej hj1 hj2
            obtain ⟨j1, hj1⟩ : ∃ x, x = j + 1 := ⟨_, rfl⟩
            have HJ1 : Hid (j1 = j + 1) := hj1
            have u1 : (j : Int) + 1 = (j1 : Int) := by omega
            have u2 : IntKind.i64.wrap (j1 : Int) = (j1 : Int) := by rw [IntKind.wrap_i64]; have := HJ.out; have := HAN.out; have := HM.out; omega
            clear hj1
            have s0 := cell_past9 BR.out sc9
            have s2 := cell_past9 BR.out pc9
            have s1 : wr.cell? ⟨q5, j, none⟩ = some (.bool (decide (j = A))) := cell_past9 BR.out (HST.out j HJ.out.1 HJ.out.2)
            gi_wp2
            clear y0 y1
            by_cases ea : j = A
            · subst ea
              rw [decide_eq_true rfl] at s1
              refine wpIn_region_heldR (S := fun V' => V'.cell? ⟨l6, 0, none⟩ = some (.slice (some ⟨q5, 0, none⟩) m m) ∧ V'.cell? ⟨q5, j, none⟩ = some (.bool true) ∧ V'.cell? ⟨V.heap.size, 0, none⟩ = some (.int .i64 (j : Int))) (by kernel_rfl) (by simp) (fun ⟨_, _, h⟩ => h) ⟨cell_past9 below_drew9 s0, cell_past9 below_drew9 s1, cell_past9 below_drew9 s2⟩ (fun HH => ?_)
              have BJ : Hid (Below W.heap.size W wr.drew) := BR.out.trans (below_drew9.mono BR.out.size)
              generalize wr.drew = z2 at HH BJ ⊢
              refine wpAnyH_take (i := 0) (v := .slice (some ⟨q5, 0, none⟩) m m) ov0 (by kernel_rfl) (by kernel_rfl) (by kernel_rfl) (fun _ _ _ h => h) (Or.inl ⟨by rfl, fun V' hS => ?_⟩) HH ?_
              · have c0 := hS.1
                go_simp
              simp only [Act.put, List.setIfInBounds_toArray, List.set_cons_zero, List.set_cons_succ]
              refine wpAnyH_take (i := 1) (v := .int .i64 (j : Int)) ov1 (by kernel_rfl) (by kernel_rfl) (by kernel_rfl) (fun _ _ _ h => h) (Or.inl ⟨by rfl, fun V' hS => ?_⟩) HH ?_
              · go_simp
              simp only [Act.put, List.setIfInBounds_toArray, List.set_cons_zero, List.set_cons_succ]
              refine wpAnyH_take (i := 2) (v := .pointer (some ⟨q5, j, none⟩)) ov2 (by kernel_rfl) (by kernel_rfl) (by kernel_rfl) (fun _ _ _ h => h) (Or.inl ⟨by rfl, fun V' hS => ?_⟩) HH ?_
              · go_simp
              simp only [Act.put, List.setIfInBounds_toArray, List.set_cons_zero, List.set_cons_succ]
              refine wpAnyH_take (i := 3) (v := .bool true) ov3 (by kernel_rfl) (by kernel_rfl) (by kernel_rfl) (fun _ _ _ h => h) (Or.inl ⟨by rfl, fun V' hS => ?_⟩) HH ?_
              · have c0 := hS.2.1
                go_simp
              simp only [Act.put, List.setIfInBounds_toArray, List.set_cons_zero, List.set_cons_succ]
              refine wpAnyH_take (i := 4) (v := .int .i64 (j : Int)) ov4 (by kernel_rfl) (by kernel_rfl) (by kernel_rfl) (fun _ _ _ h => h) (Or.inl ⟨by rfl, fun V' hS => ?_⟩) HH ?_
              · go_simp
              simp only [Act.put, List.setIfInBounds_toArray, List.set_cons_zero, List.set_cons_succ]
              refine wpAnyH_take (i := 5) (v := .int .i64 (j : Int)) ov5 (by kernel_rfl) (by kernel_rfl) (by kernel_rfl) (fun _ _ _ h => h) (Or.inl ⟨by rfl, fun V' hS => ?_⟩) HH ?_
              · have c0 := hS.2.2
                go_simp
              simp only [Act.put, List.setIfInBounds_toArray, List.set_cons_zero, List.set_cons_succ]
              refine wpAnyH_take (i := 6) (v := .bool true) ov6 (by kernel_rfl) (by kernel_rfl) (by kernel_rfl) (fun _ _ _ h => h) (Or.inl ⟨by rfl, fun V' hS => ?_⟩) HH ?_
              · go_simp
              simp only [Act.put, List.setIfInBounds_toArray, List.set_cons_zero, List.set_cons_succ]
              refine wpAnyH_take (i := 7) (v := .bool false) ov7 (by kernel_rfl) (by kernel_rfl) (by kernel_rfl) (fun _ _ _ h => h) (Or.inl ⟨by rfl, fun V' hS => ?_⟩) HH ?_
              · go_simp
              simp only [Act.put, List.setIfInBounds_toArray, List.set_cons_zero, List.set_cons_succ]
              refine wpAnyH_done (by kernel_rfl) ?_ _
              clear HH s0 s1 s2
              gi_wp2
              go_roundw
              case rel => exact ⟨j1, rfl, by have := HJ1.out; have := HJ.out; omega, by have := HJ1.out; have := HJ.out; omega, BJ.out⟩
              case measure => (simp [intOf]; have := HJ1.out; have := HJ.out; omega)
            · rw [decide_eq_false ea] at s1
              have q4 : ((j : Int) == (A : Int)) = false := by simp; omega
              refine wpIn_region_heldR (S := fun V' => V'.cell? ⟨l6, 0, none⟩ = some (.slice (some ⟨q5, 0, none⟩) m m) ∧ V'.cell? ⟨q5, j, none⟩ = some (.bool false) ∧ V'.cell? ⟨V.heap.size, 0, none⟩ = some (.int .i64 (A : Int))) (by kernel_rfl) (by simp) (fun ⟨_, _, h⟩ => h) ⟨cell_past9 below_drew9 s0, cell_past9 below_drew9 s1, cell_past9 below_drew9 s2⟩ (fun HH => ?_)
              have BJ : Hid (Below W.heap.size W wr.drew) := BR.out.trans (below_drew9.mono BR.out.size)
              generalize wr.drew = z2 at HH BJ ⊢
              refine wpAnyH_take (i := 0) (v := .slice (some ⟨q5, 0, none⟩) m m) ov0 (by kernel_rfl) (by kernel_rfl) (by kernel_rfl) (fun _ _ _ h => h) (Or.inl ⟨by rfl, fun V' hS => ?_⟩) HH ?_
              · have c0 := hS.1
                go_simp
              simp only [Act.put, List.setIfInBounds_toArray, List.set_cons_zero, List.set_cons_succ]
              refine wpAnyH_take (i := 1) (v := .int .i64 (j : Int)) ov1 (by kernel_rfl) (by kernel_rfl) (by kernel_rfl) (fun _ _ _ h => h) (Or.inl ⟨by rfl, fun V' hS => ?_⟩) HH ?_
              · go_simp
              simp only [Act.put, List.setIfInBounds_toArray, List.set_cons_zero, List.set_cons_succ]
              refine wpAnyH_take (i := 2) (v := .pointer (some ⟨q5, j, none⟩)) ov2 (by kernel_rfl) (by kernel_rfl) (by kernel_rfl) (fun _ _ _ h => h) (Or.inl ⟨by rfl, fun V' hS => ?_⟩) HH ?_
              · go_simp
              simp only [Act.put, List.setIfInBounds_toArray, List.set_cons_zero, List.set_cons_succ]
              refine wpAnyH_take (i := 3) (v := .bool false) ov3 (by kernel_rfl) (by kernel_rfl) (by kernel_rfl) (fun _ _ _ h => h) (Or.inl ⟨by rfl, fun V' hS => ?_⟩) HH ?_
              · have c0 := hS.2.1
                go_simp
              simp only [Act.put, List.setIfInBounds_toArray, List.set_cons_zero, List.set_cons_succ]
              refine wpAnyH_take (i := 4) (v := .int .i64 (j : Int)) ov4 (by kernel_rfl) (by kernel_rfl) (by kernel_rfl) (fun _ _ _ h => h) (Or.inl ⟨by rfl, fun V' hS => ?_⟩) HH ?_
              · go_simp
              simp only [Act.put, List.setIfInBounds_toArray, List.set_cons_zero, List.set_cons_succ]
              refine wpAnyH_take (i := 5) (v := .int .i64 (A : Int)) ov5 (by kernel_rfl) (by kernel_rfl) (by kernel_rfl) (fun _ _ _ h => h) (Or.inl ⟨by rfl, fun V' hS => ?_⟩) HH ?_
              · have c0 := hS.2.2
                go_simp
              simp only [Act.put, List.setIfInBounds_toArray, List.set_cons_zero, List.set_cons_succ]
              refine wpAnyH_take (i := 6) (v := .bool false) ov6 (by kernel_rfl) (by kernel_rfl) (by kernel_rfl) (fun _ _ _ h => h) (Or.inl ⟨by rfl, fun V' hS => ?_⟩) HH ?_
              · go_simp
              simp only [Act.put, List.setIfInBounds_toArray, List.set_cons_zero, List.set_cons_succ]
              refine wpAnyH_take (i := 7) (v := .bool false) ov7 (by kernel_rfl) (by kernel_rfl) (by kernel_rfl) (fun _ _ _ h => h) (Or.inl ⟨by rfl, fun V' hS => ?_⟩) HH ?_
              · go_simp
              simp only [Act.put, List.setIfInBounds_toArray, List.set_cons_zero, List.set_cons_succ]
              refine wpAnyH_done (by kernel_rfl) ?_ _
              clear HH s0 s1 s2
              gi_wp2
              go_roundw
              case rel => exact ⟨j1, rfl, by have := HJ1.out; have := HJ.out; omega, by have := HJ1.out; have := HJ.out; omega, BJ.out⟩
              case measure => (simp [intOf]; have := HJ1.out; have := HJ.out; omega)
        have q1 : ¬ (j : Int) < (N : Int) := by omega
        clear ej hj1 hj2
        have PI := HC.out.1.past BR.out
        have s7 := PI.p.cell
        have f7 := PI.p.frozen
        have s8 := PI.n.cell
        have f8 := PI.n.frozen
        have s9 := PI.la.cell
        have f9 := PI.la.frozen
        rw [HP.out.1] at s8 f8
        rw [HP.out.2] at s9 f9
        rw [HA.out.1] at s7
        have m1 : ¬ p9 = V.heap.size := by have := HP.out; omega
        have m2 : ¬ p8 = V.heap.size := by have := HP.out; omega
        have m3 : ¬ p9 = p8 := by have := HP.out; omega
        have m4 : ¬ Bx = p9 := by have := HP.out; have := HBX.out; omega
        have m5 : ¬ Bx = V.heap.size := by have := HBX.out; omega
        have m6 : ¬ V.heap.size = p9 := fun e => m1 e.symm
        have m7 : ¬ p8 = p9 := fun e => m3 e.symm
        have m8 : ¬ V.heap.size = p8 := fun e => m2 e.symm
        have m9 : ¬ p9 = Bx := fun e => m4 e.symm
        have m10 : ¬ V.heap.size = Bx := fun e => m5 e.symm
        gi_wp2
        refine ⟨?_, ?_, ?_⟩
        · exact KeepsFrom.trans ⟨BR.out.size, fun q o _ hq _ => (BR.out.block q (Array.getElem?_eq_some_iff.1 hq).1).trans hq⟩ (((KeepsOthers.setCell _ _ _).trans (KeepsOthers.setCell _ _ _)).trans (KeepsOthers.setCell _ _ _) |>.from _)
        · exact KeepC.trans (KeepC.past BR.out) (KeepC.trans (KeepC.trans (keepC_set (fun j hj e => (HNE.out j hj).2.2 e)) (keepC_set (fun j hj e => (HNE.out j hj).1 e))) (keepC_set (fun j hj e => (HNE.out j hj).2.1 e)))
        · show AgI V b (pre ++ [x]).length _
          rw [show (pre ++ [x]).length = c + 1 by rw [List.length_append, List.length_singleton, HC.out.2]]
          have h9 := PI.step
          rw [HP.out.1, HP.out.2, HA.out.1, HA.out.2, ← HC1.out] at h9
          rw [← HC1.out]
          exact h9
    · have q0 : (er == 0) = false := by simp; exact e0
      have HBY : Hid (∀ V', Below V5.heap.size V5 V' → BytesOf V' (.slice (some ⟨xq, 0, none⟩) n n) n bi ∧ BytesOf V' (.slice (some ⟨q, 0, none⟩) n n) n bi ∧ True) := fun V' hV => ⟨((HI9.out.past N5.out.1).past hV).bytes, (N5.out.2.2.past hV).bytes, trivial⟩
      clear HRW
      have HS : Hid (∀ V', Below V5.heap.size V5 V' → V'.cell? ⟨Bx, 0, none⟩ = some (.int .i64 (A : Int)) ∧ V'.cell? ⟨Bx, 1, none⟩ = some (.int .i64 (C : Int)) ∧ V'.cell? ⟨Bx, 2, none⟩ = some (.slice (some ⟨xq, 0, none⟩) n n) ∧ V'.cell? ⟨Bx, 3, none⟩ = some (.int .i64 (N : Int)) ∧ V'.cell? ⟨B2, 0, none⟩ = some (.int .i64 (A : Int)) ∧ V'.cell? ⟨B2, 1, none⟩ = some (.int .i64 (C : Int)) ∧ V'.cell? ⟨B2, 2, none⟩ = some (.slice (some ⟨q, 0, none⟩) n n) ∧ V'.cell? ⟨B2, 3, none⟩ = some (.int .i64 (N : Int)) ∧ V'.cell? ⟨l4, 0, none⟩ = some (.int .i64 er)) := fun V' hV => ⟨cell_past9 (N5.out.1.trans (hV.mono N5.out.1.size)) i0, cell_past9 (N5.out.1.trans (hV.mono N5.out.1.size)) i1, cell_past9 (N5.out.1.trans (hV.mono N5.out.1.size)) i2, cell_past9 (N5.out.1.trans (hV.mono N5.out.1.size)) i3, (N5.out.2.1.past hV).cell 0, (N5.out.2.1.past hV).cell 1, (N5.out.2.1.past hV).cell 2, (N5.out.2.1.past hV).cell 3, cell_past9 (N5.out.1.trans (hV.mono N5.out.1.size)) ec⟩
      refine wpIn_region_heldR (S := fun V' => V'.cell? ⟨Bx, 0, none⟩ = some (.int .i64 (A : Int)) ∧ V'.cell? ⟨Bx, 1, none⟩ = some (.int .i64 (C : Int)) ∧ V'.cell? ⟨Bx, 2, none⟩ = some (.slice (some ⟨xq, 0, none⟩) n n) ∧ V'.cell? ⟨Bx, 3, none⟩ = some (.int .i64 (N : Int)) ∧ V'.cell? ⟨B2, 0, none⟩ = some (.int .i64 (A : Int)) ∧ V'.cell? ⟨B2, 1, none⟩ = some (.int .i64 (C : Int)) ∧ V'.cell? ⟨B2, 2, none⟩ = some (.slice (some ⟨q, 0, none⟩) n n) ∧ V'.cell? ⟨B2, 3, none⟩ = some (.int .i64 (N : Int)) ∧ V'.cell? ⟨l4, 0, none⟩ = some (.int .i64 er)) (by kernel_rfl) (by simp) (fun ⟨_, _, h⟩ => h) (HS.out _ below_drew9) (fun HH => ?_)
      have B5 : Hid (Below V5.heap.size V5 V5.drew) := below_drew9
      generalize V5.drew = z1 at HH B5 ⊢
      refine wpAnyH_take (i := 0) (v := .int .i64 0) ov0 (by kernel_rfl) (by kernel_rfl) (by kernel_rfl) (fun _ _ _ h => h) (Or.inl ⟨by rfl, fun V' hS => ?_⟩) HH ?_
      · go_simp
      simp only [Act.put, List.setIfInBounds_toArray, List.set_cons_zero, List.set_cons_succ]
      refine wpAnyH_take (i := 1) (v := .bool false) ov1 (by kernel_rfl) (by kernel_rfl) (by kernel_rfl) (fun _ _ _ h => h) (Or.inl ⟨by rfl, fun V' hS => ?_⟩) HH ?_
      · go_simp
      simp only [Act.put, List.setIfInBounds_toArray, List.set_cons_zero, List.set_cons_succ]
      refine wpAnyH_take (i := 2) (v := .bool false) ov2 (by kernel_rfl) (by kernel_rfl) (by kernel_rfl) (fun _ _ _ h => h) (Or.inl ⟨by rfl, fun V' hS => ?_⟩) HH ?_
      · go_simp
      simp only [Act.put, List.setIfInBounds_toArray, List.set_cons_zero, List.set_cons_succ]
      refine wpAnyH_take (i := 3) (v := .agg #[.int .i64 (A : Int), .int .i64 (C : Int), .slice (some ⟨xq, 0, none⟩) n n, .int .i64 (N : Int)]) ov3 (by kernel_rfl) (by kernel_rfl) (by kernel_rfl) (fun _ _ _ h => h) (Or.inl ⟨by rfl, fun V' hS => ?_⟩) HH ?_
      · obtain ⟨c0, c1, c2, c3, _⟩ := hS
        go_simp
      simp only [Act.put, List.setIfInBounds_toArray, List.set_cons_zero, List.set_cons_succ]
      refine wpAnyH_take (i := 4) (v := .agg #[.int .i64 (A : Int), .int .i64 (C : Int), .slice (some ⟨q, 0, none⟩) n n, .int .i64 (N : Int)]) ov4 (by kernel_rfl) (by kernel_rfl) (by kernel_rfl) (fun _ _ _ h => h) (Or.inl ⟨by rfl, fun V' hS => ?_⟩) HH ?_
      · obtain ⟨_, _, _, _, c0, c1, c2, c3, _⟩ := hS
        go_simp
      simp only [Act.put, List.setIfInBounds_toArray, List.set_cons_zero, List.set_cons_succ]
      refine wpAnyH_ready (rs := [5]) (by kernel_rfl) (by simp) ?_
      refine AllReadyH.cons ov5 (fun K hK => ?_) AllReadyH.nil
      rw [if_pos (by rfl)]
      go_simp
      refine (same_is _ (A : Int) (C : Int) (N : Int) (.slice (some ⟨xq, 0, none⟩) n n) (.slice (some ⟨q, 0, none⟩) n n) n bi bi (HBY.out _ B5.out).1 (HBY.out _ B5.out).2.1 (fun _ _ => rfl)).mono ?_
      rintro e z9 ⟨rfl, hB⟩
      have q9' := B5.out.trans (hB.mono B5.out.size)
      clear B5 hB
      have B5 : Hid (Below V5.heap.size V5 z9) := q9'
      clear q9'
      (try go_wp2_with fail)
      refine hK.out _ _ (HS.out _ B5.out) (fun _ => ?_)
      clear hK K
      (try simp only [Act.put, List.setIfInBounds_toArray, List.set_cons_zero, List.set_cons_succ])
      generalize z9 = z1 at B5 ⊢
      refine wpAnyH_take (i := 6) (v := .bool false) ov6 (by kernel_rfl) (by kernel_rfl) (by kernel_rfl) (fun _ _ _ h => h) (Or.inl ⟨by rfl, fun V' hS => ?_⟩) (HS.out _ B5.out) ?_
      · go_simp
      simp only [Act.put, List.setIfInBounds_toArray, List.set_cons_zero, List.set_cons_succ]
      refine wpAnyH_take (i := 7) (v := .bool false) ov7 (by kernel_rfl) (by kernel_rfl) (by kernel_rfl) (fun _ _ _ h => h) (Or.inl ⟨by rfl, fun V' hS => ?_⟩) (HS.out _ B5.out) ?_
      · go_simp
      simp only [Act.put, List.setIfInBounds_toArray, List.set_cons_zero, List.set_cons_succ]
      refine wpAnyH_take (i := 8) (v := .bool false) ov8 (by kernel_rfl) (by kernel_rfl) (by kernel_rfl) (fun _ _ _ h => h) (Or.inl ⟨by rfl, fun V' hS => ?_⟩) (HS.out _ B5.out) ?_
      · go_simp
      simp only [Act.put, List.setIfInBounds_toArray, List.set_cons_zero, List.set_cons_succ]
      refine wpAnyH_take (i := 9) (v := .int .i64 er) ov9 (by kernel_rfl) (by kernel_rfl) (by kernel_rfl) (fun _ _ _ h => h) (Or.inl ⟨by rfl, fun V' hS => ?_⟩) (HS.out _ B5.out) ?_
      · obtain ⟨_, _, _, _, _, _, _, _, c0⟩ := hS
        go_simp
      simp only [Act.put, List.setIfInBounds_toArray, List.set_cons_zero, List.set_cons_succ]
      refine wpAnyH_take (i := 10) (v := .bool false) ov10 (by kernel_rfl) (by kernel_rfl) (by kernel_rfl) (fun _ _ _ h => h) (Or.inl ⟨by rfl, fun V' hS => ?_⟩) (HS.out _ B5.out) ?_
      · go_simp
      simp only [Act.put, List.setIfInBounds_toArray, List.set_cons_zero, List.set_cons_succ]
      refine wpAnyH_take (i := 11) (v := .bool false) ov11 (by kernel_rfl) (by kernel_rfl) (by kernel_rfl) (fun _ _ _ h => h) (Or.inl ⟨by rfl, fun V' hS => ?_⟩) (HS.out _ B5.out) ?_
      · go_simp
      simp only [Act.put, List.setIfInBounds_toArray, List.set_cons_zero, List.set_cons_succ]
      refine wpAnyH_take (i := 12) (v := undef) ov12 (by kernel_rfl) (by kernel_rfl) (by kernel_rfl) (fun _ _ _ h => h) (Or.inr ⟨by rfl, rfl⟩) (HS.out _ B5.out) ?_
      simp only [Act.put, List.setIfInBounds_toArray, List.set_cons_zero, List.set_cons_succ]
      refine wpAnyH_take (i := 13) (v := undef) ov13 (by kernel_rfl) (by kernel_rfl) (by kernel_rfl) (fun _ _ _ h => h) (Or.inr ⟨by rfl, rfl⟩) (HS.out _ B5.out) ?_
      simp only [Act.put, List.setIfInBounds_toArray, List.set_cons_zero, List.set_cons_succ]
      refine wpAnyH_take (i := 14) (v := undef) ov14 (by kernel_rfl) (by kernel_rfl) (by kernel_rfl) (fun _ _ _ h => h) (Or.inr ⟨by rfl, rfl⟩) (HS.out _ B5.out) ?_
      simp only [Act.put, List.setIfInBounds_toArray, List.set_cons_zero, List.set_cons_succ]
      refine wpAnyH_take (i := 15) (v := undef) ov15 (by kernel_rfl) (by kernel_rfl) (by kernel_rfl) (fun _ _ _ h => h) (Or.inr ⟨by rfl, rfl⟩) (HS.out _ B5.out) ?_
      simp only [Act.put, List.setIfInBounds_toArray, List.set_cons_zero, List.set_cons_succ]
      refine wpAnyH_take (i := 16) (v := undef) ov16 (by kernel_rfl) (by kernel_rfl) (by kernel_rfl) (fun _ _ _ h => h) (Or.inr ⟨by rfl, rfl⟩) (HS.out _ B5.out) ?_
      simp only [Act.put, List.setIfInBounds_toArray, List.set_cons_zero, List.set_cons_succ]
      refine wpAnyH_take (i := 17) (v := undef) ov17 (by kernel_rfl) (by kernel_rfl) (by kernel_rfl) (fun _ _ _ h => h) (Or.inr ⟨by rfl, rfl⟩) (HS.out _ B5.out) ?_
      simp only [Act.put, List.setIfInBounds_toArray, List.set_cons_zero, List.set_cons_succ]
      refine wpAnyH_take (i := 18) (v := undef) ov18 (by kernel_rfl) (by kernel_rfl) (by kernel_rfl) (fun _ _ _ h => h) (Or.inr ⟨by rfl, rfl⟩) (HS.out _ B5.out) ?_
      simp only [Act.put, List.setIfInBounds_toArray, List.set_cons_zero, List.set_cons_succ]
      refine wpAnyH_take (i := 19) (v := undef) ov19 (by kernel_rfl) (by kernel_rfl) (by kernel_rfl) (fun _ _ _ h => h) (Or.inr ⟨by rfl, rfl⟩) (HS.out _ B5.out) ?_
      simp only [Act.put, List.setIfInBounds_toArray, List.set_cons_zero, List.set_cons_succ]
      refine wpAnyH_take (i := 20) (v := undef) ov20 (by kernel_rfl) (by kernel_rfl) (by kernel_rfl) (fun _ _ _ h => h) (Or.inr ⟨by rfl, rfl⟩) (HS.out _ B5.out) ?_
      simp only [Act.put, List.setIfInBounds_toArray, List.set_cons_zero, List.set_cons_succ]
      refine wpAnyH_take (i := 21) (v := undef) ov21 (by kernel_rfl) (by kernel_rfl) (by kernel_rfl) (fun _ _ _ h => h) (Or.inr ⟨by rfl, rfl⟩) (HS.out _ B5.out) ?_
      simp only [Act.put, List.setIfInBounds_toArray, List.set_cons_zero, List.set_cons_succ]
      refine wpAnyH_take (i := 22) (v := undef) ov22 (by kernel_rfl) (by kernel_rfl) (by kernel_rfl) (fun _ _ _ h => h) (Or.inr ⟨by rfl, rfl⟩) (HS.out _ B5.out) ?_
      simp only [Act.put, List.setIfInBounds_toArray, List.set_cons_zero, List.set_cons_succ]
      refine wpAnyH_take (i := 23) (v := undef) ov23 (by kernel_rfl) (by kernel_rfl) (by kernel_rfl) (fun _ _ _ h => h) (Or.inr ⟨by rfl, rfl⟩) (HS.out _ B5.out) ?_
      simp only [Act.put, List.setIfInBounds_toArray, List.set_cons_zero, List.set_cons_succ]
      refine wpAnyH_take (i := 24) (v := undef) ov24 (by kernel_rfl) (by kernel_rfl) (by kernel_rfl) (fun _ _ _ h => h) (Or.inr ⟨by rfl, rfl⟩) (HS.out _ B5.out) ?_
      simp only [Act.put, List.setIfInBounds_toArray, List.set_cons_zero, List.set_cons_succ]
      refine wpAnyH_take (i := 25) (v := .bool false) ov25 (by kernel_rfl) (by kernel_rfl) (by kernel_rfl) (fun _ _ _ h => h) (Or.inl ⟨by rfl, fun V' hS => ?_⟩) (HS.out _ B5.out) ?_
      · go_simp
      simp only [Act.put, List.setIfInBounds_toArray, List.set_cons_zero, List.set_cons_succ]
      refine wpAnyH_take (i := 26) (v := .bool false) ov26 (by kernel_rfl) (by kernel_rfl) (by kernel_rfl) (fun _ _ _ h => h) (Or.inl ⟨by rfl, fun V' hS => ?_⟩) (HS.out _ B5.out) ?_
      · go_simp
      simp only [Act.put, List.setIfInBounds_toArray, List.set_cons_zero, List.set_cons_succ]
      refine wpAnyH_done (by kernel_rfl) ?_ _
      clear HH
      have BZ : Hid (Below W.heap.size W z1) := N5.out.1.trans (B5.out.mono N5.out.1.size)
      clear HS HBY B5 N5
      have pz := cell_past9 BZ.out pc9
      gi_wp2
      clear pz
      gi_loopw [14] (fun s14 wx => ∃ j : Nat, s14 = .int .i64 (j : Int) ∧ A ≤ j ∧ j ≤ N ∧ Below W.heap.size W wx) (fun s14 _ => N - (intOf s14).toNat)
      case atStart => exact ⟨A, rfl, Nat.le_refl _, by have := HAN.out; omega, BZ.out⟩
      case round =>
        obtain ⟨j, rfl, hj1, hj2, hBR⟩ := hrel
        have BR : Hid (Below W.heap.size W wr) := hBR
        clear hBR BZ
        have y0 := cell_past9 BR.out i3
        have y1 := cell_past9 BR.out bc9
        by_cases ej : j = N
        rotate_left
        · as_aux_lemma =>
            have HJ : Hid (A ≤ j ∧ j < N) := ⟨hj1, by omega⟩
            have q1 : (j : Int) < (N : Int) := by omega
            have q2 : (j : Int) < (m : Int) := by have := HAN.out; omega
            have q3 : (j : Int) < 1152921504606846976 := by have := HAN.out; have := HM.out; omega
            clear ej hj1 hj2
            obtain ⟨j1, hj1⟩ : ∃ x, x = j + 1 := ⟨_, rfl⟩
            have HJ1 : Hid (j1 = j + 1) := hj1
            have u1 : (j : Int) + 1 = (j1 : Int) := by omega
            have u2 : IntKind.i64.wrap (j1 : Int) = (j1 : Int) := by rw [IntKind.wrap_i64]; have := HJ.out; have := HAN.out; have := HM.out; omega
            clear hj1
            have s0 := cell_past9 BR.out sc9
            have s2 := cell_past9 BR.out pc9
            have s1 : wr.cell? ⟨q5, j, none⟩ = some (.bool (decide (j = A))) := cell_past9 BR.out (HST.out j HJ.out.1 HJ.out.2)
            gi_wp2
            clear y0 y1
            by_cases ea : j = A
            · subst ea
              rw [decide_eq_true rfl] at s1
              refine wpIn_region_heldR (S := fun V' => V'.cell? ⟨l6, 0, none⟩ = some (.slice (some ⟨q5, 0, none⟩) m m) ∧ V'.cell? ⟨q5, j, none⟩ = some (.bool true) ∧ V'.cell? ⟨V.heap.size, 0, none⟩ = some (.int .i64 (j : Int))) (by kernel_rfl) (by simp) (fun ⟨_, _, h⟩ => h) ⟨cell_past9 below_drew9 s0, cell_past9 below_drew9 s1, cell_past9 below_drew9 s2⟩ (fun HH => ?_)
              have BJ : Hid (Below W.heap.size W wr.drew) := BR.out.trans (below_drew9.mono BR.out.size)
              generalize wr.drew = z2 at HH BJ ⊢
              refine wpAnyH_take (i := 0) (v := .slice (some ⟨q5, 0, none⟩) m m) ov0 (by kernel_rfl) (by kernel_rfl) (by kernel_rfl) (fun _ _ _ h => h) (Or.inl ⟨by rfl, fun V' hS => ?_⟩) HH ?_
              · have c0 := hS.1
                go_simp
              simp only [Act.put, List.setIfInBounds_toArray, List.set_cons_zero, List.set_cons_succ]
              refine wpAnyH_take (i := 1) (v := .int .i64 (j : Int)) ov1 (by kernel_rfl) (by kernel_rfl) (by kernel_rfl) (fun _ _ _ h => h) (Or.inl ⟨by rfl, fun V' hS => ?_⟩) HH ?_
              · go_simp
              simp only [Act.put, List.setIfInBounds_toArray, List.set_cons_zero, List.set_cons_succ]
              refine wpAnyH_take (i := 2) (v := .pointer (some ⟨q5, j, none⟩)) ov2 (by kernel_rfl) (by kernel_rfl) (by kernel_rfl) (fun _ _ _ h => h) (Or.inl ⟨by rfl, fun V' hS => ?_⟩) HH ?_
              · go_simp
              simp only [Act.put, List.setIfInBounds_toArray, List.set_cons_zero, List.set_cons_succ]
              refine wpAnyH_take (i := 3) (v := .bool true) ov3 (by kernel_rfl) (by kernel_rfl) (by kernel_rfl) (fun _ _ _ h => h) (Or.inl ⟨by rfl, fun V' hS => ?_⟩) HH ?_
              · have c0 := hS.2.1
                go_simp
              simp only [Act.put, List.setIfInBounds_toArray, List.set_cons_zero, List.set_cons_succ]
              refine wpAnyH_take (i := 4) (v := .int .i64 (j : Int)) ov4 (by kernel_rfl) (by kernel_rfl) (by kernel_rfl) (fun _ _ _ h => h) (Or.inl ⟨by rfl, fun V' hS => ?_⟩) HH ?_
              · go_simp
              simp only [Act.put, List.setIfInBounds_toArray, List.set_cons_zero, List.set_cons_succ]
              refine wpAnyH_take (i := 5) (v := .int .i64 (j : Int)) ov5 (by kernel_rfl) (by kernel_rfl) (by kernel_rfl) (fun _ _ _ h => h) (Or.inl ⟨by rfl, fun V' hS => ?_⟩) HH ?_
              · have c0 := hS.2.2
                go_simp
              simp only [Act.put, List.setIfInBounds_toArray, List.set_cons_zero, List.set_cons_succ]
              refine wpAnyH_take (i := 6) (v := .bool true) ov6 (by kernel_rfl) (by kernel_rfl) (by kernel_rfl) (fun _ _ _ h => h) (Or.inl ⟨by rfl, fun V' hS => ?_⟩) HH ?_
              · go_simp
              simp only [Act.put, List.setIfInBounds_toArray, List.set_cons_zero, List.set_cons_succ]
              refine wpAnyH_take (i := 7) (v := .bool false) ov7 (by kernel_rfl) (by kernel_rfl) (by kernel_rfl) (fun _ _ _ h => h) (Or.inl ⟨by rfl, fun V' hS => ?_⟩) HH ?_
              · go_simp
              simp only [Act.put, List.setIfInBounds_toArray, List.set_cons_zero, List.set_cons_succ]
              refine wpAnyH_done (by kernel_rfl) ?_ _
              clear HH s0 s1 s2
              gi_wp2
              go_roundw
              case rel => exact ⟨j1, rfl, by have := HJ1.out; have := HJ.out; omega, by have := HJ1.out; have := HJ.out; omega, BJ.out⟩
              case measure => (simp [intOf]; have := HJ1.out; have := HJ.out; omega)
            · rw [decide_eq_false ea] at s1
              have q4 : ((j : Int) == (A : Int)) = false := by simp; omega
              refine wpIn_region_heldR (S := fun V' => V'.cell? ⟨l6, 0, none⟩ = some (.slice (some ⟨q5, 0, none⟩) m m) ∧ V'.cell? ⟨q5, j, none⟩ = some (.bool false) ∧ V'.cell? ⟨V.heap.size, 0, none⟩ = some (.int .i64 (A : Int))) (by kernel_rfl) (by simp) (fun ⟨_, _, h⟩ => h) ⟨cell_past9 below_drew9 s0, cell_past9 below_drew9 s1, cell_past9 below_drew9 s2⟩ (fun HH => ?_)
              have BJ : Hid (Below W.heap.size W wr.drew) := BR.out.trans (below_drew9.mono BR.out.size)
              generalize wr.drew = z2 at HH BJ ⊢
              refine wpAnyH_take (i := 0) (v := .slice (some ⟨q5, 0, none⟩) m m) ov0 (by kernel_rfl) (by kernel_rfl) (by kernel_rfl) (fun _ _ _ h => h) (Or.inl ⟨by rfl, fun V' hS => ?_⟩) HH ?_
              · have c0 := hS.1
                go_simp
              simp only [Act.put, List.setIfInBounds_toArray, List.set_cons_zero, List.set_cons_succ]
              refine wpAnyH_take (i := 1) (v := .int .i64 (j : Int)) ov1 (by kernel_rfl) (by kernel_rfl) (by kernel_rfl) (fun _ _ _ h => h) (Or.inl ⟨by rfl, fun V' hS => ?_⟩) HH ?_
              · go_simp
              simp only [Act.put, List.setIfInBounds_toArray, List.set_cons_zero, List.set_cons_succ]
              refine wpAnyH_take (i := 2) (v := .pointer (some ⟨q5, j, none⟩)) ov2 (by kernel_rfl) (by kernel_rfl) (by kernel_rfl) (fun _ _ _ h => h) (Or.inl ⟨by rfl, fun V' hS => ?_⟩) HH ?_
              · go_simp
              simp only [Act.put, List.setIfInBounds_toArray, List.set_cons_zero, List.set_cons_succ]
              refine wpAnyH_take (i := 3) (v := .bool false) ov3 (by kernel_rfl) (by kernel_rfl) (by kernel_rfl) (fun _ _ _ h => h) (Or.inl ⟨by rfl, fun V' hS => ?_⟩) HH ?_
              · have c0 := hS.2.1
                go_simp
              simp only [Act.put, List.setIfInBounds_toArray, List.set_cons_zero, List.set_cons_succ]
              refine wpAnyH_take (i := 4) (v := .int .i64 (j : Int)) ov4 (by kernel_rfl) (by kernel_rfl) (by kernel_rfl) (fun _ _ _ h => h) (Or.inl ⟨by rfl, fun V' hS => ?_⟩) HH ?_
              · go_simp
              simp only [Act.put, List.setIfInBounds_toArray, List.set_cons_zero, List.set_cons_succ]
              refine wpAnyH_take (i := 5) (v := .int .i64 (A : Int)) ov5 (by kernel_rfl) (by kernel_rfl) (by kernel_rfl) (fun _ _ _ h => h) (Or.inl ⟨by rfl, fun V' hS => ?_⟩) HH ?_
              · have c0 := hS.2.2
                go_simp
              simp only [Act.put, List.setIfInBounds_toArray, List.set_cons_zero, List.set_cons_succ]
              refine wpAnyH_take (i := 6) (v := .bool false) ov6 (by kernel_rfl) (by kernel_rfl) (by kernel_rfl) (fun _ _ _ h => h) (Or.inl ⟨by rfl, fun V' hS => ?_⟩) HH ?_
              · go_simp
              simp only [Act.put, List.setIfInBounds_toArray, List.set_cons_zero, List.set_cons_succ]
              refine wpAnyH_take (i := 7) (v := .bool false) ov7 (by kernel_rfl) (by kernel_rfl) (by kernel_rfl) (fun _ _ _ h => h) (Or.inl ⟨by rfl, fun V' hS => ?_⟩) HH ?_
              · go_simp
              simp only [Act.put, List.setIfInBounds_toArray, List.set_cons_zero, List.set_cons_succ]
              refine wpAnyH_done (by kernel_rfl) ?_ _
              clear HH s0 s1 s2
              gi_wp2
              go_roundw
              case rel => exact ⟨j1, rfl, by have := HJ1.out; have := HJ.out; omega, by have := HJ1.out; have := HJ.out; omega, BJ.out⟩
              case measure => (simp [intOf]; have := HJ1.out; have := HJ.out; omega)
        have q1 : ¬ (j : Int) < (N : Int) := by omega
        clear ej hj1 hj2
        have PI := HC.out.1.past BR.out
        have s7 := PI.p.cell
        have f7 := PI.p.frozen
        have s8 := PI.n.cell
        have f8 := PI.n.frozen
        have s9 := PI.la.cell
        have f9 := PI.la.frozen
        rw [HP.out.1] at s8 f8
        rw [HP.out.2] at s9 f9
        rw [HA.out.1] at s7
        have m1 : ¬ p9 = V.heap.size := by have := HP.out; omega
        have m2 : ¬ p8 = V.heap.size := by have := HP.out; omega
        have m3 : ¬ p9 = p8 := by have := HP.out; omega
        have m4 : ¬ Bx = p9 := by have := HP.out; have := HBX.out; omega
        have m5 : ¬ Bx = V.heap.size := by have := HBX.out; omega
        have m6 : ¬ V.heap.size = p9 := fun e => m1 e.symm
        have m7 : ¬ p8 = p9 := fun e => m3 e.symm
        have m8 : ¬ V.heap.size = p8 := fun e => m2 e.symm
        have m9 : ¬ p9 = Bx := fun e => m4 e.symm
        have m10 : ¬ V.heap.size = Bx := fun e => m5 e.symm
        gi_wp2
        refine ⟨?_, ?_, ?_⟩
        · exact KeepsFrom.trans ⟨BR.out.size, fun q o _ hq _ => (BR.out.block q (Array.getElem?_eq_some_iff.1 hq).1).trans hq⟩ (((KeepsOthers.setCell _ _ _).trans (KeepsOthers.setCell _ _ _)).trans (KeepsOthers.setCell _ _ _) |>.from _)
        · exact KeepC.trans (KeepC.past BR.out) (KeepC.trans (KeepC.trans (keepC_set (fun j hj e => (HNE.out j hj).2.2 e)) (keepC_set (fun j hj e => (HNE.out j hj).1 e))) (keepC_set (fun j hj e => (HNE.out j hj).2.1 e)))
        · show AgI V b (pre ++ [x]).length _
          rw [show (pre ++ [x]).length = c + 1 by rw [List.length_append, List.length_singleton, HC.out.2]]
          have h9 := PI.step
          rw [HP.out.1, HP.out.2, HA.out.1, HA.out.2, ← HC1.out] at h9
          rw [← HC1.out]
          exact h9
  case done =>
    rintro D xs W hD ⟨hFit, hFull⟩ hI hdd
    have hxk : xs.length = k := fullA_one hFull HK.out.1
    rw [hxk] at hI
    rw [← HA0.out]
    have HMD : Hid (Mrk w.heap.size 1 [{ target := .collected D, args := #[] }] W) := (Mrk.nil w.heap.size V).cons (KeepsLD.below hI.be) HB9.out.2 (Nat.le_trans HB9.out.1 hD) hdd
    have MW : Hid (AgM w W g m cap l3 l4 l6 q5 n0 kk k fa fc er b) := M.out.1.past hI.be
    have PI : Hid (AgI V b k W) := hI
    clear hFit hFull hI hdd hxk hD HA0 N9 hS9 hg0
    dsimp only
    generalize ([{ target := .collected D, args := #[] }] : List Deferred) = ds1 at HMD ⊢
    obtain ⟨Pk, hPk⟩ : ∃ x, posA b k = x := ⟨_, rfl⟩
    have HPK : Hid (posA b k = Pk ∧ Pk ≤ m) := ⟨hPk, by rw [← hPk]; exact HK.out.1.1.le_len⟩
    clear hPk
    obtain ⟨f, hf⟩ : ∃ x, errA b m Pk = x := ⟨_, rfl⟩
    have HF : Hid (errA b m Pk = f) := hf
    clear hf
    have pc9 := PI.out.p.cell
    rw [HPK.out.1] at pc9
    have kI : (k : Int) ≤ 70000 := by have := HK.out.2; have := HM.out; omega
    go_wp2
    go_loopw [15] (fun s15 wr => ∃ j : Nat, s15 = .int .i64 (j : Int) ∧ Pk ≤ j ∧ j ≤ m ∧ wr = W) (fun s15 _ => m - (intOf s15).toNat)
    case atStart => exact ⟨Pk, rfl, Nat.le_refl _, HPK.out.2, rfl⟩
    case round =>
      obtain ⟨j, rfl, hj1, hj2, hwr⟩ := hrel
      subst hwr
      have bc9 := MW.out.bb.cell
      by_cases ej : j = m
      rotate_left
      · as_aux_lemma =>
          have HJ : Hid (Pk ≤ j ∧ j < m) := ⟨hj1, by omega⟩
          have q1 : (j : Int) < (m : Int) := by have := HJ.out; omega
          have q3 : (j : Int) < 1152921504606846976 := by have := HM.out; omega
          clear ej hj1 hj2
          obtain ⟨j1, hj1⟩ : ∃ x, x = j + 1 := ⟨_, rfl⟩
          have HJ1 : Hid (j1 = j + 1) := hj1
          have u1 : (j : Int) + 1 = (j1 : Int) := by omega
          have u2 : IntKind.i64.wrap (j1 : Int) = (j1 : Int) := by rw [IntKind.wrap_i64]; have := HJ.out; have := HM.out; omega
          clear hj1
          have s0 := MW.out.sb.cell
          have s1 : wr.cell? ⟨q5, j, none⟩ = some (.bool false) := by rw [MW.out.s5.cell j, stL_get b m k j HJ.out.2, st_out (by rw [HPK.out.1]; exact HJ.out.1)]
          go_wp2
          go_roundw
          case rel => exact ⟨j1, rfl, by have := HJ1.out; have := HJ.out; omega, by have := HJ1.out; have := HJ.out; omega, by first | rfl | trivial⟩
          case measure => (simp [intOf]; have := HJ1.out; have := HJ.out; omega)
      have q1 : ¬ (j : Int) < (m : Int) := by omega
      clear ej hj1 hj2
      have HO : Hid (Calls Tryd.prog 21 #[.slice (some ⟨g, 0, none⟩) m cap, .int .i64 (Pk : Int)] wr fun e w' => e = .returned (.tuple #[.agg #[.int .i64 0, .int .i64 0, .slice none 0 0, .int .i64 0], .int .i64 f]) ∧ Below wr.heap.size wr w') := by have h9 := one_no wr _ m b Pk (HN.out _ MW.out.be) MW.out.bw.1 (by have := HM.out; omega) (by rw [← HPK.out.1]; exact HK.out.1.2); rw [HF.out] at h9; exact h9
      go_upto_region 31 with (go_at_call 21; refine HO.out.mono ?_; rintro e w5 ⟨rfl, hB⟩; (have N5 : Hid (Below wr.heap.size wr w5) := hB); (clear hB HO))
      clear bc9 pc9 q1
      have bq : Below w5.heap.size w5 (w5.alloc (.cells #[.int .i64 0, .int .i64 0, .slice none 0 0, .int .i64 0] 40)) := (Below.refl _ _).alloc (Nat.le_refl _) _
      have N6 : Hid (Below wr.heap.size wr (w5.alloc (.cells #[.int .i64 0, .int .i64 0, .slice none 0 0, .int .i64 0] 40))) := N5.out.trans (bq.mono N5.out.size)
      clear N5 bq
      generalize w5.alloc (.cells #[.int .i64 0, .int .i64 0, .slice none 0 0, .int .i64 0] 40) = V5 at N6 ⊢
      have M5 : Hid (AgM w V5 g m cap l3 l4 l6 q5 n0 kk k fa fc er b) := MW.out.past N6.out
      have P5 : Hid (AgI V b k V5) := PI.out.past N6.out
      have MD5 : Hid (Mrk w.heap.size 1 ds1 V5) := HMD.out.past N6.out
      clear MW PI HMD N6
      have AW : Hid (Calls Tryd.prog 19 #[] V5 fun e w' => e = .returned (.bool true) ∧ Below V5.heap.size V5 w') := awake_is V5 (HN.out _ M5.out.be)
      have rbx : ∀ Z, Below V5.heap.size V5 Z → Boxed Z (w.heap.size + 1) 4 (.bool false) := fun Z hZ => (hZ.block _ M5.out.rb.lt).trans M5.out.rb
      have OF : Hid (∀ Z, Below V5.heap.size V5 Z → Z.frozen? ⟨w.heap.size + 1, 0, none⟩ = false ∧ Z.cell? ⟨w.heap.size + 1, 0, none⟩ = some (.bool false)) := fun Z hZ => ⟨(rbx Z hZ).frozen, (rbx Z hZ).cell⟩
      have FN : Hid (∀ Z, Below V5.heap.size V5 Z → Mrk w.heap.size 1 ds1 (Z.setCell ⟨w.heap.size + 1, 0, none⟩ (.bool true)) ∧ Boxed (Z.setCell ⟨w.heap.size + 1, 0, none⟩ (.bool true)) (w.heap.size + 1) 4 (.bool true) ∧ Below w.heap.size w (Z.setCell ⟨w.heap.size + 1, 0, none⟩ (.bool true))) := fun Z hZ => ⟨(MD5.out.past hZ).cell (rbx Z hZ) 0 _, (rbx Z hZ).set _, (M5.out.be.trans (hZ.mono M5.out.be.size)).setCell (p := ⟨w.heap.size + 1, 0, none⟩) (Nat.le_succ _) _⟩
      clear rbx
      have pc := P5.out.p.cell
      rw [HPK.out.1] at pc
      have nc := P5.out.n.cell
      have lc := P5.out.la.cell
      rw [HP.out.1] at nc
      rw [HP.out.2] at lc
      have bc := M5.out.bb.cell
      have ec := M5.out.eb.cell
      have fc9 := M5.out.lb.cell
      by_cases a1 : Pk < m
      · as_aux_lemma =>
          have hfe : f ≠ 0 := by rw [← HF.out]; unfold errA; rw [if_neg (by omega)]; split <;> decide
          have hee : er = f := by rw [← HER.out, ← HF.out]; unfold scE; rw [if_neg (by omega), if_pos (by rw [HPK.out.1]; exact a1), HPK.out.1]
          have hss : sp = Pk := by rw [← HSP.out]; unfold scP; rw [if_neg (by omega), if_pos (by rw [HPK.out.1]; exact a1), HPK.out.1]
          subst hee hss
          have q1 : (sp : Int) < (m : Int) := by omega
          have q2 : (er != 0) = true := by rw [bne, beq_eq_false_iff_ne.2 hfe]; rfl
          have q3 : (er == er) = true := by simp
          clear a1 hfe
          go_wp2_with (go_at_call 19; refine AW.out.mono ?_; rintro e z9 ⟨rfl, hz⟩; (have ZB : Hid (Below V5.heap.size V5 z9) := hz); (obtain ⟨fz, cz⟩ := OF.out z9 hz); clear hz)
          refine leaves_mrk (B := w.heap.size) (J := fun W => Boxed W (w.heap.size + 1) 4 (.bool true) ∧ Below w.heap.size w W) ?_ ?_ 1 _ _ (FN.out z9 ZB.out).1 (FN.out z9 ZB.out).2
          · exact fun _ X Y row hs hg hr => ⟨boxed_own (β := Unit) _ _ (fun _ => .bool true) () X Y row hs.1 hg (fun r e => by obtain ⟨_, o, h1, h2⟩ := hr r e; exact ⟨o, h1, isLD_not h2⟩), below_own9 hs.2 hg (fun r e => (hr r e).1)⟩
          · intro W hj
            have cF := hj.1.cell
            exact ⟨_, results_one rfl _ _ _ ⟨w.heap.size + 1, 0, none⟩ rfl (by go_simp), rfl, hj.2⟩
      have q1 : ¬ (Pk : Int) < (m : Int) := by omega
      have hpm : Pk = m := by have := HPK.out.2; omega
      by_cases a2 : k = 0
      · as_aux_lemma =>
          have hm0 : m = 0 := by have h1 := HPK.out.1; rw [a2] at h1; have h2 : posA b 0 = 0 := rfl; omega
          have hee : er = 62 := by rw [← HER.out]; unfold scE; rw [if_pos hm0]
          have hss : sp = 0 := by rw [← HSP.out]; unfold scP; rw [if_pos hm0]
          have hff : f = 1 := by rw [← HF.out]; unfold errA; rw [if_pos (by omega)]
          subst hee hss hff a2
          clear hm0 hpm a1
          go_wp2_with (go_at_call 19; refine AW.out.mono ?_; rintro e z9 ⟨rfl, hz⟩; (have ZB : Hid (Below V5.heap.size V5 z9) := hz); (obtain ⟨fz, cz⟩ := OF.out z9 hz); clear hz)
          refine leaves_mrk (B := w.heap.size) (J := fun W => Boxed W (w.heap.size + 1) 4 (.bool true) ∧ Below w.heap.size w W) ?_ ?_ 1 _ _ (FN.out z9 ZB.out).1 (FN.out z9 ZB.out).2
          · exact fun _ X Y row hs hg hr => ⟨boxed_own (β := Unit) _ _ (fun _ => .bool true) () X Y row hs.1 hg (fun r e => by obtain ⟨_, o, h1, h2⟩ := hr r e; exact ⟨o, h1, isLD_not h2⟩), below_own9 hs.2 hg (fun r e => (hr r e).1)⟩
          · intro W hj
            have cF := hj.1.cell
            exact ⟨_, results_one rfl _ _ _ ⟨w.heap.size + 1, 0, none⟩ rfl (by go_simp), rfl, hj.2⟩
      have hm0 : m ≠ 0 := by have := posA_ge b k; have := HPK.out.1; omega
      have n1 : ((k : Int) == 0) = false := by simp; omega
      by_cases a3 : er = 0
      · as_aux_lemma =>
          have hkk : kk = k := by have h1 := HKK.out.1; unfold KK at h1; rw [HER.out, if_pos a3] at h1; exact h1.symm
          subst a3 hkk
          clear hm0 hpm a1 a2
          go_wp2_with (go_at_call 19; refine AW.out.mono ?_; rintro e z9 ⟨rfl, hz⟩; (have ZB : Hid (Below V5.heap.size V5 z9) := hz); (obtain ⟨fz, cz⟩ := OF.out z9 hz); clear hz)
          refine leaves_mrk (B := w.heap.size) (J := fun W => Boxed W (w.heap.size + 1) 4 (.bool true) ∧ Below w.heap.size w W) ?_ ?_ 1 _ _ (FN.out z9 ZB.out).1 (FN.out z9 ZB.out).2
          · exact fun _ X Y row hs hg hr => ⟨boxed_own (β := Unit) _ _ (fun _ => .bool true) () X Y row hs.1 hg (fun r e => by obtain ⟨_, o, h1, h2⟩ := hr r e; exact ⟨o, h1, isLD_not h2⟩), below_own9 hs.2 hg (fun r e => (hr r e).1)⟩
          · intro W hj
            have cF := hj.1.cell
            exact ⟨_, results_one rfl _ _ _ ⟨w.heap.size + 1, 0, none⟩ rfl (by go_simp), rfl, hj.2⟩
      have hee : er = 62 := by have h1 := HER.out; unfold scE at h1; rw [if_neg hm0, if_neg (by rw [HPK.out.1]; omega)] at h1; split at h1; (· exact absurd h1.symm a3); (· exact h1.symm)
      have hss : sp = laA b k := by have h1 := HER.out; have h2 := HSP.out; unfold scE at h1; unfold scP at h2; rw [if_neg hm0, if_neg (by rw [HPK.out.1]; omega)] at h1 h2; unfold laA; rw [if_neg a2]; split at h1; (· exact absurd h1.symm a3); (· rename_i h9; rw [if_neg h9] at h2; exact h2.symm)
      rw [← hss] at lc
      subst hee
      clear hss hm0 hpm a1 a2 a3
      go_wp2_with (go_at_call 19; refine AW.out.mono ?_; rintro e z9 ⟨rfl, hz⟩; (have ZB : Hid (Below V5.heap.size V5 z9) := hz); (obtain ⟨fz, cz⟩ := OF.out z9 hz); clear hz)
      refine leaves_mrk (B := w.heap.size) (J := fun W => Boxed W (w.heap.size + 1) 4 (.bool true) ∧ Below w.heap.size w W) ?_ ?_ 1 _ _ (FN.out z9 ZB.out).1 (FN.out z9 ZB.out).2
      · exact fun _ X Y row hs hg hr => ⟨boxed_own (β := Unit) _ _ (fun _ => .bool true) () X Y row hs.1 hg (fun r e => by obtain ⟨_, o, h1, h2⟩ := hr r e; exact ⟨o, h1, isLD_not h2⟩), below_own9 hs.2 hg (fun r e => (hr r e).1)⟩
      · intro W hj
        have cF := hj.1.cell
        exact ⟨_, results_one rfl _ _ _ ⟨w.heap.size + 1, 0, none⟩ rfl (by go_simp), rfl, hj.2⟩
theorem codeAgrees_walk (w : World) (hN : Nms w) (v : Value) (L0 : Nat) (b : Nat → Nat) (hL : L0 ≤ 9223372036854775807) (hv : BytesOf w v L0 b) (hcp : ∀ ad cap, v = .slice ad L0 cap → L0 ≤ cap) : Calls Tryd.prog 4 #[v] w fun e w' => e = .returned (.bool true) ∧ Below w.heap.size w w' := callsIn_wide.1 (codeAgrees_in w hN v L0 b hL hv hcp)
end Go.Proofs.YtcjmbpchdeapiaaDoor
