/- Package code: Scan. -/
import Derived.Test.YtcjmbpchdeapiaaDoorCdk
namespace Go.Proofs.YtcjmbpchdeapiaaDoor
open Go.RowKit Go.Shelf
attribute [local go_sem] Oper.semAt_some
/-- what Scan answers: the error, the place -/
def scE (b : Nat → Nat) (L k : Nat) : Int := if L = 0 then 62 else if posA b k < L then errA b L (posA b k) else if endsV (b (posA b (k - 1)) : Int) = true then 0 else 62
def scP (b : Nat → Nat) (L k : Nat) : Nat := if L = 0 then 0 else if posA b k < L then posA b k else if endsV (b (posA b (k - 1)) : Int) = true then 0 else posA b (k - 1)
/-- the instructions that Scan tells -/
def ScR (n0 : Nat) (b : Nat → Nat) (k : Nat) (fv : Value) (W : World) : Prop := ∃ xs : List (Nat × Nat × Nat), xs.length = k ∧ FitA b xs ∧ W.ownsRow n0 40 4 fv k (insL b xs) ∧ InsQ n0 b xs W
set_option maxRecDepth 100000 in
set_option maxHeartbeats 1000000 in
theorem scan_nil (w : World) (v : Value) (b : Nat → Nat) (hv : BytesOf w v 0 b) : Calls Tryd.prog 8 #[v] w fun e w' => e = .returned (.tuple #[.slice none 0 0, .int .i64 62, .int .i64 0]) ∧ Below w.heap.size w w' := by
  obtain ⟨ad, cap, rfl, _⟩ := hv
  go_enter Tryd.func8, Tryd.ntmps8
  go_wp2
  exact bodyPost_ret (results_tmp3 rfl _ _ _) rfl ⟨rfl, Below.refl _ _⟩
set_option maxRecDepth 100000 in
set_option maxHeartbeats 2000000 in
theorem scan_in (w : World) (v : Value) (L : Nat) (b : Nat → Nat) (hN : Nms w) (hv : BytesOf w v L b) (hcp : ∀ ad cap, v = .slice ad L cap → L ≤ cap) (hL : L ≤ 1000000) (h0 : L ≠ 0) :
    CallsIn Fence.wide 10 Tryd.prog 8 #[v] w fun e w' => ∃ k fv, FullA b L k ∧ e = .returned (.tuple #[fv, .int .i64 (scE b L k), .int .i64 (scP b L k : Int)]) ∧ Below w.heap.size w w' ∧ (scE b L k ≠ 0 → fv = .slice none 0 0) ∧ (scE b L k = 0 → ScR (w.heap.size + 3) b k fv w') := by
  have HV : Hid (BytesOf w v L b) := hv
  obtain ⟨ad, cap, rfl, hb, _, hc⟩ := hv
  obtain ⟨g, o, rfl, hcc⟩ := hc h0
  have gl : g < w.heap.size := World.block_lt_of_cell? w _ (hcc 0 (by omega))
  have L0 : ¬ (L : Int) = 0 := by omega
  have lI : (L : Int) ≤ 1000000 := by omega
  have HCP : Hid (∀ ad' cap', Value.slice (some ⟨g, o, none⟩) L cap = .slice ad' L cap' → L ≤ cap') := hcp
  clear hc hcc hcp hb
  obtain ⟨i0, hi, hz0, hz1, hz2⟩ := info_parts infoI4
  refine callsIn_of_wp_marks Tryd.func8 rfl trivial ?_ rfl
  simp only [Tryd.ntmps8, List.size_toArray, List.length_cons, List.length_nil, Nat.reduceAdd, Nat.reduceSub, Array.replicate_succ, Array.replicate_zero, List.push_toArray, List.append_toArray, List.nil_append, List.cons_append]
  gi_wp2_with (refine ⟨trivial, ?_⟩; gi_at_call 23; refine (callsIn_wide.2 (each_is _ _ _ _)).mono ?_; rintro e w' ⟨rfl, hw⟩; rw [hw]; clear hw)
  have bF : Boxed (((w.alloc (.cells #[.slice none 0 0] 25)).alloc (.cells #[.int .i64 0, .int .i64 0, .slice none 0 0, .int .i64 0] 40)).alloc (.cells #[.slice (some ⟨g, o, none⟩) L cap] 22)) w.heap.size 25 (.slice none 0 0) := ((Boxed.new w 25 (.slice none 0 0)).alloc _).alloc _
  have cL : CBox (((w.alloc (.cells #[.slice none 0 0] 25)).alloc (.cells #[.int .i64 0, .int .i64 0, .slice none 0 0, .int .i64 0] 40)).alloc (.cells #[.slice (some ⟨g, o, none⟩) L cap] 22)) (w.heap.size + 1) 40 [.int .i64 0, .int .i64 0, .slice none 0 0, .int .i64 0] := by
    have := (CBox.new (w.alloc (.cells #[.slice none 0 0] 25)) 40 [.int .i64 0, .int .i64 0, .slice none 0 0, .int .i64 0]).alloc (.cells #[.slice (some ⟨g, o, none⟩) L cap] 22)
    rw [World.size_alloc] at this; exact this
  have cB : Boxed (((w.alloc (.cells #[.slice none 0 0] 25)).alloc (.cells #[.int .i64 0, .int .i64 0, .slice none 0 0, .int .i64 0] 40)).alloc (.cells #[.slice (some ⟨g, o, none⟩) L cap] 22)) (w.heap.size + 1 + 1) 22 (.slice (some ⟨g, o, none⟩) L cap) := by
    have := Boxed.new ((w.alloc (.cells #[.slice none 0 0] 25)).alloc (.cells #[.int .i64 0, .int .i64 0, .slice none 0 0, .int .i64 0] 40)) 22 (.slice (some ⟨g, o, none⟩) L cap)
    simp only [World.size_alloc] at this; exact this
  have hB0 : Below w.heap.size w (((w.alloc (.cells #[.slice none 0 0] 25)).alloc (.cells #[.int .i64 0, .int .i64 0, .slice none 0 0, .int .i64 0] 40)).alloc (.cells #[.slice (some ⟨g, o, none⟩) L cap] 22)) := (((Below.refl _ w).alloc (Nat.le_refl _) _).alloc (by simp) _).alloc (by simp; omega) _
  have hsz : (((w.alloc (.cells #[.slice none 0 0] 25)).alloc (.cells #[.int .i64 0, .int .i64 0, .slice none 0 0, .int .i64 0] 40)).alloc (.cells #[.slice (some ⟨g, o, none⟩) L cap] 22)).heap.size = w.heap.size + 3 := by simp
  generalize ((w.alloc (.cells #[.slice none 0 0] 25)).alloc (.cells #[.int .i64 0, .int .i64 0, .slice none 0 0, .int .i64 0] 40)).alloc (.cells #[.slice (some ⟨g, o, none⟩) L cap] 22) = W0 at bF cL cB hB0 hsz ⊢
  have hS : EaS (fun k => k < w.heap.size ∨ k = w.heap.size + 2) (w.heap.size + 1 + 1) (.slice (some ⟨g, o, none⟩) L cap) := ⟨Or.inr rfl, fun g' o' m c e _ => by cases e; exact Or.inl gl, fun k g' hk => Or.inl (World.block_lt_of_cell? w _ (hN k g' hk 0 (by omega)))⟩
  have hE : EaOk (w.heap.size + 1 + 1) (.slice (some ⟨g, o, none⟩) L cap) L b W0 := ⟨cB.cell, HV.out.below rfl hB0, hN.past hB0⟩
  refine wpIn_rangeFunc_x (F := Fence.wide) (α := Nat × Nat × Nat) rfl (by omega) (gf := 33) (lb := #[.pointer (some ⟨w.heap.size + 1 + 1, 0, none⟩)]) rfl trivial (enters_of Tryd.func33 (by kernel_rfl) rfl)
    (each_seq 9 (by omega) (w.heap.size + 1 + 1) (.slice (some ⟨g, o, none⟩) L cap) L b (fun k => k < w.heap.size ∨ k = w.heap.size + 2) hS HCP.out hL W0 hE)
    (fun _ _ _ _ h k => KeepC.trans h k) (fun _ W r o o' _ h ho => KeepC.put W r o o' h ho) (Below.refl _ _) (fun _ => rfl) (fun pre x V0 V1 hc => ⟨hc.1.size, fun k o _ hk _ => (hc.1.block k (Array.getElem?_eq_some_iff.1 hk).1).trans hk⟩)
    (ScI w b) (fun _ _ _ => False) (ScC w b L) (ScI.own w b _ (by omega)) (fun _ _ _ _ _ hs _ _ => hs) (fun pre x => ScC.own w b L pre x _ (by omega)) (fun pre x V0 V1 h hc => ScC.come h hc) ⟨⟨_, bF, World.ownsRow_nil _ _ _ _⟩, cL, InsQ.nil _ _ _, hB0, by omega⟩
    (fun x a' W => ∃ Bx fv, (Boxed W w.heap.size 25 fv ∧ some Bx ≠ fv.ownBlock) ∧ CBox W Bx 40 (insC b x) ∧ w.heap.size + 3 ≤ Bx ∧ a' = { tmps := #[.slice (some ⟨g, o, none⟩) L cap, undef, .slice none 0 0, .int .i64 0, .int .i64 0, .pointer (some ⟨w.heap.size, 0, none⟩), .pointer (some ⟨w.heap.size + 1, 0, none⟩), .pointer (some ⟨Bx, 0, none⟩), undef, undef, .slice (some ⟨g, o, none⟩) L cap, .int .i64 (L : Int), .bool false, .slice (some ⟨g, o, none⟩) L cap, .func (.func 33) #[] #[.pointer (some ⟨w.heap.size + 1 + 1, 0, none⟩)], insX b x, undef, undef, undef, undef, undef, undef, undef, undef, undef, undef, undef, undef, undef, undef, undef, undef, undef, undef, undef, undef, undef, undef, undef, undef, undef, undef], defers := [] })
    (fun x a' _ X Y row hs hg hr => by
      have hr2 : ∀ r, row = some r → ∃ o : Obj, X.heap[r]? = some o ∧ o.isCells = false := fun r e => (hr r e).2
      obtain ⟨Bx, fv, ⟨h1, h2⟩, h3, h4, h5⟩ := hs
      exact ⟨Bx, fv, ⟨boxed_own (β := Unit) _ _ (fun _ => fv) () X Y row h1 hg hr2, h2⟩, CBox.own (β := Unit) _ _ (fun _ => insC b x) () X Y row h3 hg hr2, h4, h5⟩)
    ?assign ?body ?done ?stop
  case assign =>
    rintro l pre x W K hi hK
    have hx : insX b x = .agg #[.int .i64 (x.1 : Int), .int .i64 (b x.1 : Int), .slice (some ⟨x.2.1, 0, none⟩) (immA b x.1) (immA b x.1), .int .i64 (nxA b x.1 : Int)] := rfl
    have hi' := hi
    obtain ⟨⟨fv, h1, h2, _⟩, _, _, h5, _⟩ := hi
    have hBB : Below W.heap.size W (W.alloc (.cells #[.int .i64 (x.1 : Int), .int .i64 (b x.1 : Int), .slice (some ⟨x.2.1, 0, none⟩) (immA b x.1) (immA b x.1), .int .i64 (nxA b x.1 : Int)] 40)) := (Below.refl _ W).alloc (Nat.le_refl _) _
    gi_wp2
    exact hK _ _ ((KeepsOthers.alloc _ _).from _) (KeepC.past hBB) (own_past (ScC.own w b L pre x w.heap.size (Nat.le_refl _)) (s := ()) hi' hBB) ⟨W.heap.size, fv, ⟨h1.alloc _, fun e => by have := (own_lt h2 e).2; omega⟩, CBox.new W _ _, by have := hi'.2.2.2.2.1; omega, rfl⟩
  case body =>
    rintro l pre x a' W hl ⟨r, hr⟩ ⟨⟨fv, h1, h2, h2'⟩, h3, h4, h5, h6, h7⟩ ⟨Bx, fv', ⟨h8, h9⟩, h10, h11, rfl⟩
    obtain rfl : fv' = fv := by
      have h := h8.symm.trans h1
      simpa using h
    obtain ⟨z0, z1, z2, z3, hz⟩ := lastC_four b pre
    have hcnt := h7.count
    have e0 := h1.cell
    have i0c := h10.cell 0
    have i1c := h10.cell 1
    have i2c := h10.cell 2
    have i3c := h10.cell 3
    simp only [insC, List.getElem?_cons_zero, List.getElem?_cons_succ] at i0c i1c i2c i3c
    have H : Hid (UptoA b L (pre.length + 1) ∧ w.heap.size + 3 ≤ W.heap.size) := ⟨h7, by omega⟩
    gi_wp2_with (gi_at_builtin; refine wpListIn_append_own _ rfl _ _ 25 rfl (w.heap.size + 3) 40 i0 _ 4 48 Tryd.underlying25 hi hz0 hz1 hz2 rfl (by decide) _ _ _ rfl (h2.alloc _) ⟨W.heap.size, 0, none⟩ 1 1 (insC b x) rfl rfl (cells4_new W _ (insC b x)) (insC_one b x) (by unfold maxLen; omega) (by omega) (by have := H.out.2; simp; omega) ?_; intro v' w1 hown' hgrow _; obtain ⟨g', cap', rfl⟩ := ownsRow_succ hown'; obtain ⟨⟨hv1, hv2, hv3⟩, hM⟩ := ScM.mk h1 h2 h2' h3 h4 h5 h6 h10 h9 h11 hown' hgrow; (have hc1 := hv1.cell); (have hf1 := hv1.frozen); (rw [hz] at hv2); (have l0c := hv2.cell 0); (have l1c := hv2.cell 1); (have l2c := hv2.cell 2); (have l3c := hv2.cell 3); (have l0f := hv2.frozen 0); (have l1f := hv2.frozen 1); (have l2f := hv2.frozen 2); (have l3f := hv2.frozen 3); (have j0c := hv3.cell 0); (have j1c := hv3.cell 1); (have j2c := hv3.cell 2); (have j3c := hv3.cell 3); (simp only [insC, List.getElem?_cons_zero, List.getElem?_cons_succ] at j0c j1c j2c j3c l0c l1c l2c l3c); (clear hown' hgrow))
    obtain ⟨f1, f2, f3⟩ := hM.fin h6.1 _ _ _ _ rfl
    exact ⟨f1.from _, f2, f3⟩
  case done =>
    rintro D xs W hD ⟨hFit, hFull⟩ ⟨⟨fv, h1, h2⟩, h3, h4, h5, h6⟩ hK
    obtain ⟨A, C, ad, m, c, hz, hlast⟩ := lastC_parts hFit
    rw [hz] at h3
    have l0c := h3.cell 0
    have l1c := h3.cell 1
    have l2c := h3.cell 2
    have l3c := h3.cell 3
    simp only [List.getElem?_cons_zero, List.getElem?_cons_succ] at l0c l1c l2c l3c
    have e0 := h1.cell
    have hle := hFull.1.le_len
    have HL : Hid (xs.length ≠ 0 → A = posA b (xs.length - 1) ∧ C = b (posA b (xs.length - 1))) := hlast
    have HF : Hid (FitA b xs ∧ FullA b L xs.length) := ⟨hFit, hFull⟩
    have HI : Hid (W.ownsRow (w.heap.size + 3) 40 4 fv xs.length (insL b xs) ∧ InsQ (w.heap.size + 3) b xs W ∧ Below w.heap.size w W) := ⟨h2, h4, h5⟩
    have HKD : Hid (W.heap[D]? = some (.deferred (some []))) := hK
    clear hlast hFit hFull h2 h4 h1 h3 hz hK
    obtain ⟨k, hk⟩ : ∃ k, k = xs.length := ⟨_, rfl⟩
    rw [← hk] at HL HF HI l3c hle
    clear hS hE
    by_cases hp : posA b k < L
    · have HO : Hid (Calls Tryd.prog 21 #[.slice (some ⟨g, o, none⟩) L cap, .int .i64 (posA b k : Int)] W fun e w' => e = .returned (.tuple #[.agg #[.int .i64 0, .int .i64 0, .slice none 0 0, .int .i64 0], .int .i64 (errA b L (posA b k))]) ∧ Below W.heap.size W w') := one_no W _ L b (posA b k) (hN.past h5) (HV.out.below rfl h5) hL HF.out.2.2
      have hlt : ((posA b k : Nat) : Int) < (L : Int) := by omega
      have HS : Hid (scE b L k = errA b L (posA b k) ∧ scP b L k = posA b k ∧ errA b L (posA b k) ≠ 0) := ⟨by unfold scE; rw [if_neg h0, if_pos hp], by unfold scP; rw [if_neg h0, if_pos hp], by unfold errA; rw [if_neg (by omega)]; split <;> decide⟩
      clear hp
      generalize errA b L (posA b k) = er at HO HS
      generalize hA : posA b k = p at HO HS l3c hlt hle
      gi_wp2_with (refine ⟨trivial, ?_⟩; gi_at_call 21; refine (callsIn_wide.2 HO.out).mono ?_; rintro e w1 ⟨rfl, hB⟩; (have L3 : w1.cell? ⟨w.heap.size + 1, 3, none⟩ = some (.int .i64 (p : Int)) := (hB.cell (p := ⟨w.heap.size + 1, 3, none⟩) (World.block_lt_of_cell? W _ l3c)).trans l3c); (have HB2 : Hid (Below W.heap.size W w1) := hB); clear hB HO)
      have HB3 : Below W.heap.size W (w1.alloc (.cells #[.int .i64 0, .int .i64 0, .slice none 0 0, .int .i64 0] 40)) := HB2.out.alloc HB2.out.size _
      have L4 : (w1.alloc (.cells #[.int .i64 0, .int .i64 0, .slice none 0 0, .int .i64 0] 40)).cell? ⟨w.heap.size + 1, 3, none⟩ = some (.int .i64 (p : Int)) := (HB3.cell (p := ⟨w.heap.size + 1, 3, none⟩) (World.block_lt_of_cell? W _ l3c)).trans l3c
      have HB4 : Hid _ := HB3
      generalize w1.alloc (.cells #[.int .i64 0, .int .i64 0, .slice none 0 0, .int .i64 0] 40) = w2 at L4 HB4 ⊢
      clear HB3 HB2 L3
      gi_region
      gi_wp2
      have hK2 := (HB4.out.block D (Array.getElem?_eq_some_iff.1 HKD.out).1).trans HKD.out
      refine ⟨by simp, .inl ⟨_, _, rfl, run_takeDeferred hK2, ?_⟩⟩
      refine ⟨_, results_tmp3 rfl _ _ _, k, _, HF.out.2, ?_, ?_, fun _ => rfl, fun h => absurd h (by rw [HS.out.1]; exact HS.out.2.2)⟩
      · rw [HS.out.1, HS.out.2.1]; rfl
      · exact (HI.out.2.2.trans ((HB4.out.mono HI.out.2.2.size).trans (Below.refl _ _).drew)).trans ⟨rfl, rfl, rfl, by simp, fun j hj => World.putObj_heap_other (by omega)⟩
    · have hk0 : k ≠ 0 := by rintro rfl; exact hp (by show 0 < L; omega)
      obtain ⟨rfl, rfl⟩ := HL.out hk0
      have hpL : posA b k = L := by omega
      have hlt : ¬ ((posA b k : Nat) : Int) < (L : Int) := by omega
      have HO : Hid (Calls Tryd.prog 24 #[.agg #[.int .i64 (posA b (k - 1) : Int), .int .i64 (b (posA b (k - 1)) : Int), .slice ad m c, .int .i64 (posA b k : Int)]] W fun e w' => e = .returned (.bool (endsV (b (posA b (k - 1)) : Int))) ∧ Below W.heap.size W w') := ends_is W (hN.past h5) (posA b (k - 1) : Int) (b (posA b (k - 1)) : Int) (posA b k : Int) ad m c
      have HS : Hid (scE b L k = (if endsV (b (posA b (k - 1)) : Int) = true then 0 else 62) ∧ scP b L k = (if endsV (b (posA b (k - 1)) : Int) = true then 0 else posA b (k - 1))) := ⟨by unfold scE; rw [if_neg h0, if_neg hp], by unfold scP; rw [if_neg h0, if_neg hp]⟩
      clear HL hpL hp
      generalize b (posA b (k - 1)) = C at HO HS l1c
      generalize posA b (k - 1) = A at HO HS l0c
      generalize posA b k = p at HO l3c hlt hle
      cases hev : endsV (C : Int) with
      | true =>
        rw [hev] at HO
        rw [hev, if_pos rfl, if_pos rfl] at HS
        clear hev
        gi_wp2_with (refine ⟨trivial, ?_⟩; gi_at_call 24; refine (callsIn_wide.2 HO.out).mono ?_; rintro e w1 ⟨rfl, hB⟩; (have e1 : w1.cell? ⟨w.heap.size, 0, none⟩ = some fv := (hB.cell (p := ⟨w.heap.size, 0, none⟩) (World.block_lt_of_cell? W _ e0)).trans e0); (have HB2 : Hid (Below W.heap.size W w1) := hB); clear hB HO)
        have hK2 := (HB2.out.block D (Array.getElem?_eq_some_iff.1 HKD.out).1).trans HKD.out
        refine ⟨by simp, .inl ⟨_, _, rfl, run_takeDeferred hK2, ?_⟩⟩
        refine ⟨_, results_tmp3 rfl _ _ _, k, fv, HF.out.2, ?_, ?_, fun h => absurd HS.out.1 h, fun _ => ⟨xs, hk.symm, HF.out.1, ?_, ?_⟩⟩
        · rw [HS.out.1, HS.out.2]; rfl
        · exact (HI.out.2.2.trans (HB2.out.mono HI.out.2.2.size)).trans ⟨rfl, rfl, rfl, by simp, fun j hj => World.putObj_heap_other (by omega)⟩
        · exact ownsRow_putObj (ownsRow_past HI.out.1 HB2.out) _ hK2 rfl
        · exact InsQ.own _ _ xs _ _ (some D) (HI.out.2.1.past HB2.out) (grownBy_putObj' _ D _) (fun r e => by cases e; exact ⟨_, hK2, rfl⟩)
      | false =>
        rw [hev] at HO
        rw [hev, if_neg (by decide), if_neg (by decide)] at HS
        clear hev
        gi_wp2_with (refine ⟨trivial, ?_⟩; gi_at_call 24; refine (callsIn_wide.2 HO.out).mono ?_; rintro e w1 ⟨rfl, hB⟩; (have e1 : w1.cell? ⟨w.heap.size + 1, 0, none⟩ = some (.int .i64 (A : Int)) := (hB.cell (p := ⟨w.heap.size + 1, 0, none⟩) (World.block_lt_of_cell? W _ l0c)).trans l0c); (have HB2 : Hid (Below W.heap.size W w1) := hB); clear hB HO)
        gi_region
        gi_wp2
        have hK2 := (HB2.out.block D (Array.getElem?_eq_some_iff.1 HKD.out).1).trans HKD.out
        refine ⟨by simp, .inl ⟨_, _, rfl, run_takeDeferred hK2, ?_⟩⟩
        refine ⟨_, results_tmp3 rfl _ _ _, k, _, HF.out.2, ?_, ?_, fun _ => rfl, fun h => absurd h (by rw [HS.out.1]; decide)⟩
        · rw [HS.out.1, HS.out.2]; rfl
        · exact (HI.out.2.2.trans ((HB2.out.mono HI.out.2.2.size).trans (Below.refl _ _).drew)).trans ⟨rfl, rfl, rfl, by simp, fun j hj => World.putObj_heap_other (by omega)⟩
  case stop =>
    rintro D c pre W _ _ h _
    exact h.elim
theorem ScR.lower {n0 n1 : Nat} {b : Nat → Nat} {k : Nat} {fv : Value} {W : World} (h : ScR n0 b k fv W) (hn : n1 ≤ n0) : ScR n1 b k fv W := by
  obtain ⟨xs, h1, h2, h3, h4⟩ := h
  exact ⟨xs, h1, h2, ⟨h3.1, h3.2.imp id fun ⟨g, c, cur, e1, e2, e3⟩ => ⟨g, c, cur, e1, Nat.le_trans hn e2, e3⟩⟩, h4.1, fun x hx => ⟨Nat.le_trans hn (h4.2 x hx).1, (h4.2 x hx).2⟩⟩
theorem ScR.past {n0 : Nat} {b : Nat → Nat} {k : Nat} {fv : Value} {W W' : World} (h : ScR n0 b k fv W) (hB : Below W.heap.size W W') : ScR n0 b k fv W' := by
  obtain ⟨xs, h1, h2, h3, h4⟩ := h
  exact ⟨xs, h1, h2, ownsRow_past h3 hB, h4.past hB⟩
/-- what Scan answers, whatever the section -/
def ScanPost (w : World) (L : Nat) (b : Nat → Nat) (e : Ending) (w' : World) : Prop := ∃ k fv, FullA b L k ∧ e = .returned (.tuple #[fv, .int .i64 (scE b L k), .int .i64 (scP b L k : Int)]) ∧ Below w.heap.size w w' ∧ (scE b L k ≠ 0 → fv = .slice none 0 0) ∧ (scE b L k = 0 → ScR w.heap.size b k fv w')
theorem scan_is (w : World) (v : Value) (L : Nat) (b : Nat → Nat) (hN : Nms w) (hv : BytesOf w v L b) (hcp : ∀ ad cap, v = .slice ad L cap → L ≤ cap) (hL : L ≤ 1000000) : Calls Tryd.prog 8 #[v] w (ScanPost w L b) := by
  by_cases h0 : L = 0
  · subst h0
    refine (scan_nil w v b hv).mono fun e w' ⟨he, hB⟩ => ?_
    obtain ⟨k, hk⟩ := fullA_ex b 0
    exact ⟨k, _, hk, by rw [he]; rfl, hB, fun _ => rfl, fun h => by cases h⟩
  · refine (callsIn_wide.1 (scan_in w v L b hN hv hcp hL h0)).mono fun e w' ⟨k, fv, h1, h2, h3, h4, h5⟩ => ⟨k, fv, h1, h2, h3, h4, fun h => (h5 h).lower (by omega)⟩
end Go.Proofs.YtcjmbpchdeapiaaDoor
