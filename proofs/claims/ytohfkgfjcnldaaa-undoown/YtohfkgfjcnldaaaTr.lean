/- Package undo: Back. -/
import Derived.Test.YtohfkgfjcnldaaaTq
namespace Go.Proofs.Ytohfkgfjcnldaaa
open Go.RowKit Go.Shelf
attribute [local go_sem] Oper.semAt_some
theorem mksD_at {M : List Nat} {k f : Nat} (h : M[k]? = some f) : (mksD M)[k]? = some (.int .i64 (f : Int)) := by unfold mksD; rw [List.getElem?_map, h]; rfl
theorem Tab0.markg {W : World} {b pm : Nat} {ra : Option Addr} {rc : Nat} {ba : Option Addr} {bc : Nat} {ma : Option Addr} {mc n : Nat} {m : Int → Option Nat} {L : List (Int × Int)} {U : List Value} {M : List Nat} (h : Tab0 W b pm ra rc ba bc ma mc n m L U M) {k f : Nat} (hk : M[k]? = some f) : ∃ g, ma = some ⟨g, 0, none⟩ ∧ W.cell? ⟨g, k, none⟩ = some (.int .i64 (f : Int)) := by
  obtain ⟨g, e, c, _⟩ := row_cell h.marks (mksD_at hk)
  exact ⟨g, e, c⟩
theorem row_take {W : World} {e : TypeId} {size n cap : Nat} {ad : Option Addr} {xs : List Value} (h : W.ownsRow 0 e size (.slice ad n cap) n xs) (k : Nat) (hk : k ≤ n) : W.ownsRow 0 e size (.slice ad k cap) k (xs.take (k * size)) := by
  have hl : (xs.take (k * size)).length = k * size := by rw [List.length_take, h.1]; exact Nat.min_eq_left (Nat.mul_le_mul_right _ hk)
  cases ad with
  | none =>
    rcases h.2 with ⟨e1, rfl⟩ | ⟨g, c, cur, e1, _⟩
    · obtain rfl : k = 0 := by omega
      injection e1 with _ _ e2
      subst e2
      exact ⟨hl, Or.inl ⟨rfl, rfl⟩⟩
    · cases e1
  | some a =>
    obtain ⟨e1, _, cur, h2, h3, h4, h5, h6⟩ := owns_row_some h
    refine ⟨hl, Or.inr ⟨a.block, cap, cur, by rw [← e1], Nat.zero_le _, h2, by omega, h4, h5, ?_⟩⟩
    rw [← h6, List.take_take, Nat.min_eq_left (Nat.mul_le_mul_right _ hk)]
theorem put_cell {W : World} {r : Nat} {ob ob' : Obj} {p : Addr} {v : Value} (hr : W.heap[r]? = some ob) (hc : ob.isCells = false) (h : W.cell? p = some v) : (W.putObj r ob').cell? p = some v := by
  have hne : p.block ≠ r := by
    rintro e
    unfold World.cell? at h
    rw [e, hr] at h
    cases ob with
    | cells c t z => cases hc
    | _ => cases h
  rw [← h]
  exact World.cell?_of_block (w := W) (World.putObj_heap_other hne)
/-- between two rounds of Back -/
structure BI (v1 : World) (b pm : Nat) (ra ba : Option Addr) (bc : Nat) (ma : Option Addr) (mc : Nat) (L : List (Int × Int)) (V : List Un) (M : List Nat) (bi nn : Nat) (bv : Value) (j : Nat) (W : World) : Prop where
  ex : ∃ ra' rc' m', Tab W b pm ra' rc' ba bc ma mc m' (stB V L j) (V.map uv) M ∧ (∀ u ∈ V, UnOk W b (TS b pm ra' ba ma) u) ∧ Grown (TS b pm ra ba ma) (TS b pm ra' ba ma) v1 ∧ ¬ TS b pm ra' ba ma bi
  but : But (TS b pm ra ba ma) v1 W
  box : CBox W bi 89 [bv]
  le : j ≤ nn
theorem BI.own {v1 : World} {b pm : Nat} {ra ba : Option Addr} {bc : Nat} {ma : Option Addr} {mc : Nat} {L : List (Int × Int)} {V : List Un} {M : List Nat} {bi nn : Nat} {bv : Value} {j : Nat} {X Y : World} {row : Option Nat} (h : BI v1 b pm ra ba bc ma mc L V M bi nn bv j X) (hp : pm < v1.heap.size) (hg : X.grownBy Y row) (hr : ∀ r, row = some r → v1.heap.size ≤ r ∧ ∃ o : Obj, X.heap[r]? = some o ∧ o.isCells = false) : BI v1 b pm ra ba bc ma mc L V M bi nn bv j Y := by
  obtain ⟨⟨ra', rc', m', h1, h2, h3, h4⟩, h5, h6, h7⟩ := h
  have hr2 : ∀ r, row = some r → ∃ o : Obj, X.heap[r]? = some o ∧ o.isCells = false := fun r e => (hr r e).2
  obtain ⟨hB, hT⟩ := tab_own h1 hp hg hr
  refine ⟨⟨ra', rc', m', h1.but hB hT, fun u hu => ?_, h3, h4⟩, ⟨hB.os.trans h5.os, hB.tape.trans h5.tape, hB.output.trans h5.output, Nat.le_trans h5.size hB.size, fun k hk hn => (hB.block k (Nat.lt_of_lt_of_le hk h5.size) (fun e => by have := (hr k e).1; omega)).trans (h5.block k hk hn)⟩, h6.but hB (box_own h6 hr2), h7⟩
  have hu' := h2 u hu
  exact ⟨hu'.cx.but hB (box_own hu'.cx hr2), hu'.cy.but hB (box_own hu'.cy hr2), fun e => (hu'.cz e).but hB (box_own (hu'.cz e) hr2), hu'.nx, hu'.ny, hu'.nz⟩
theorem BI.step {v1 : World} {b pm : Nat} {ra ba : Option Addr} {bc : Nat} {ma : Option Addr} {mc : Nat} {L : List (Int × Int)} {V : List Un} {M : List Nat} {bi nn f g c1 : Nat} {a1 : Option Addr} {j : Nat} {W W' : World} {x : Nat × Value} (h5 : But (TS b pm ra ba ma) v1 W) (h6 : CBox W bi 89 [.slice a1 nn c1]) (h7 : j < nn) (hp : pm < v1.heap.size)
    {ra' : Option Addr} {rc' : Nat} {m' : Int → Option Nat} (h1 : Tab W b pm ra' rc' ba bc ma mc m' (stB V L j) (V.map uv) M) (h2 : ∀ u ∈ V, UnOk W b (TS b pm ra' ba ma) u) (h3 : Grown (TS b pm ra ba ma) (TS b pm ra' ba ma) v1) (h4 : ¬ TS b pm ra' ba ma bi) (hg : 0 < nn → ba = some ⟨g, 0, none⟩) (hv : V.length = f + nn)
    {ra2 : Option Addr} {rc2 : Nat} {m2 : Int → Option Nat} (k1 : Tab W' b pm ra2 rc2 ba bc ma mc m2 (apU (vL V (V.length - 1 - j)) (stB V L j)) (V.map uv) M) (k2 : But (TS b pm ra' ba ma) W W') (k3 : Grown (TS b pm ra' ba ma) (TS b pm ra2 ba ma) W) :
    KeepsFrom v1.heap.size W W' ∧ BwK bi g f nn (fun i => uv (vL V (f + i))) x W W' ∧ BI v1 b pm ra ba bc ma mc L V M bi nn (.slice a1 nn c1) (j + 1) W' := by
  have hne : ∀ k, TS b pm ra' ba ma k → (∃ o : Obj, W.heap[k]? = some o ∧ o.isCells = false) → k = pm := fun k hk ho => by
    obtain ⟨o, ho, hc⟩ := ho
    have hp' : pm < pm + 1 := Nat.lt_succ_self _
    by_cases e : k = pm
    · exact e
    · have cells : ∀ {e' : TypeId} {size n cap k' : Nat} {ad : Option Addr} {xs : List Value}, W.ownsRow 0 e' size (.slice ad n cap) k' xs → Own ad k → False := fun hR hO => by
        obtain ⟨a, rfl, rfl⟩ := hO
        obtain ⟨_, _, cur, h2, _⟩ := owns_row_some hR
        rw [h2] at ho
        cases ho
        cases hc
      rcases hk with rfl | hk | hk | hk | hk
      · rw [show W.heap[k]? = _ from h1.box] at ho
        cases ho
        cases hc
      · exact hk
      · exact (cells h1.rows hk).elim
      · exact (cells h1.backs hk).elim
      · exact (cells h1.marks hk).elim
  refine ⟨⟨k2.size, fun k o hk ho hc => ?_⟩, ⟨fun v hv => ?_, fun i hi _ => ?_⟩, ⟨ra2, rc2, m2, k1, fun u hu => (h2 u hu).but k2 k3, h3.then h5.size k3, ?_⟩, h5.then h3 k2, h6.but k2 h4, h7⟩
  · refine (k2.block k (Array.getElem?_eq_some_iff.1 ho).1 (fun e => ?_)).trans ho
    have := hne k e ⟨o, ho, hc⟩
    omega
  · exact (k2.cell (p := ⟨bi, 0, none⟩) h6.lt h4).trans hv
  · have hm : (V.map uv)[f + i]? = some (uv (vL V (f + i))) := by
      rw [List.getElem?_map]
      unfold vL
      rw [List.getElem?_eq_getElem (by omega)]
      rfl
    obtain ⟨g', e, c, _⟩ := row_cell k1.backs hm
    rw [hg (by omega)] at e
    injection e with e
    injection e with e
    subst e
    exact c
  · intro e
    rcases k3 bi e with e | e
    · exact h4 e
    · have := h6.lt
      omega
set_option maxHeartbeats 4000000 in
set_option maxRecDepth 100000 in
theorem back_in (w : World) (b pm : Nat) (ra : Option Addr) (rc : Nat) (ba : Option Addr) (bc : Nat) (ma : Option Addr) (mc : Nat) (m : Int → Option Nat) (L : List (Int × Int)) (V : List Un) (M : List Nat) (h : Tab w b pm ra rc ba bc ma mc m L (V.map uv) M) (hV : ∀ u ∈ V, UnOk w b (TS b pm ra ba ma) u) (ok : OkB V L) (k f : Nat) (hf : M[k]? = some f) (hfV : f ≤ V.length) (hB : L.length + V.length < 549755813888) (hM : M.length < 549755813888) :
    CallsIn Fence.wide 10 Try.prog 45 #[.pointer (some ⟨b, 0, none⟩), .int .i64 (k : Int)] w fun e w' => e = .returned (.int .i64 0) ∧ ∃ S', TabU w' b S' (stB V L (V.length - f)) (V.take f) (M.take k) ∧ But (TS b pm ra ba ma) w w' ∧ Grown (TS b pm ra ba ma) S' w := by
  have kl : k < M.length := (List.getElem?_eq_some_iff.1 hf).1
  have IM : Hid (Calls Try.prog 76 #[.pointer (some ⟨b, 0, none⟩), .int .i64 (k : Int)] w fun e w' => e = .returned (.bool true) ∧ w' = w) := by
    have := isMark_is w b pm ra rc ba bc ma mc m L (V.map uv) M h (k : Int)
    rw [decide_eq_true ⟨by omega, by omega⟩] at this
    exact this
  obtain ⟨gm, em, km⟩ := h.markg hf
  obtain ⟨a1, c1, g, hs1, hs2⟩ := slice_tail und_funs elem_funs size_fun h.backs f (by rw [List.length_map]; exact hfV)
  have c2 := h.c2
  have c3 := h.c3
  rw [em] at c3
  rw [List.length_map] at hs1 hs2 c2
  obtain ⟨uu, eu⟩ : ∃ uu, V.length = uu := ⟨_, rfl⟩
  obtain ⟨nn, en⟩ : ∃ nn, uu - f = nn := ⟨_, rfl⟩
  rw [eu] at hs1 hs2 c2
  rw [en] at hs1 hs2
  obtain ⟨mn, emn⟩ : ∃ mn, M.length = mn := ⟨_, rfl⟩
  rw [emn] at c3
  have H0 : Hid (Tab w b pm ra rc ba bc ma mc m L (V.map uv) M) := h
  have HV : Hid (∀ u ∈ V, UnOk w b (TS b pm ra ba ma) u) := hV
  have HO : Hid (OkB V L ∧ M[k]? = some f ∧ f ≤ V.length ∧ L.length + V.length < 549755813888 ∧ V.length = uu ∧ uu - f = nn ∧ M.length = mn ∧ k < mn ∧ mn < 549755813888) := ⟨ok, hf, hfV, hB, eu, en, emn, by omega, by omega⟩
  have HS2 : Hid (0 < nn → a1 = some ⟨g, f * 1, none⟩ ∧ ba = some ⟨g, 0, none⟩) := hs2
  have uX : (uu : Int) < 549755813888 := by omega
  have fX : (f : Int) ≤ (uu : Int) := by omega
  have kX : (k : Int) < (mn : Int) := by omega
  have mX : (mn : Int) < 549755813888 := by omega
  have hs1' := hs1 w
  clear h hV ok hf hfV hB hM kl hs2 eu en emn em hs1
  refine callsIn_of_wp_marks Try.func45 rfl trivial ?_ rfl
  simp only [Try.ntmps45, List.size_toArray, List.length_cons, List.length_nil, Nat.reduceAdd, Nat.reduceSub, Array.replicate_succ, Array.replicate_zero, List.push_toArray, List.append_toArray, List.nil_append, List.cons_append]
  gi_wp2_with (first | (refine ⟨trivial, ?_⟩; gi_at_call 76; refine (callsIn_wide.2 IM.out).mono ?_; rintro e w' ⟨rfl, hw⟩; (have hw2 := hw.symm); clear hw IM; subst hw2) | (refine ⟨trivial, ?_⟩; gi_at_call 66; refine (callsIn_wide.2 (backward_is _ _ _ _)).mono ?_; rintro e w' ⟨rfl, hw⟩; rw [hw]; clear hw))
  have BX : Hid (CBox (w.alloc (.cells #[.slice a1 nn c1] 89)) w.heap.size 89 [.slice a1 nn c1]) := CBox.new w _ _
  have B1 : Hid (But (fun _ => False) w (w.alloc (.cells #[.slice a1 nn c1] 89))) := (But.refl _ _).alloc _
  have S1 : Hid ((w.alloc (.cells #[.slice a1 nn c1] 89)).heap.size = w.heap.size + 1) := by show _ = _; simp
  have H1 : Hid (Tab (w.alloc (.cells #[.slice a1 nn c1] 89)) b pm ra rc ba bc ma mc m L (V.map uv) M) := H0.out.but B1.out (fun _ _ => id)
  have HV1 : Hid (∀ u ∈ V, UnOk (w.alloc (.cells #[.slice a1 nn c1] 89)) b (TS b pm ra ba ma) u) := fun u hu => (HV.out u hu).kept B1.out (fun _ e => e.elim)
  have NT : Hid (¬ TS b pm ra ba ma w.heap.size) := fun e => by have := H0.out.toTab0.lt _ e; omega
  generalize w.alloc (.cells #[.slice a1 nn c1] 89) = v1 at BX B1 S1 H1 HV1 ⊢
  obtain ⟨bi, ebi⟩ : ∃ bi, w.heap.size = bi := ⟨_, rfl⟩
  rw [ebi] at BX S1 NT ⊢
  have EBI : Hid (w.heap.size = bi) := ebi
  clear ebi km c2 c3 hs1'
  have hpm : pm < v1.heap.size := H1.out.pl.lt
  have PM1 : Hid (pm < v1.heap.size) := hpm
  have hBw : BwE bi g f a1 nn c1 (fun i => uv (vL V (f + i))) v1 := ⟨BX.out.cell 0, fun h0 => by have := (HS2.out h0).1; rw [Nat.mul_one] at this; exact this, fun i hi => by
    have hm : (V.map uv)[f + i]? = some (uv (vL V (f + i))) := by
      rw [List.getElem?_map]
      unfold vL
      rw [List.getElem?_eq_getElem (by have := HO.out; omega)]
      rfl
    obtain ⟨g', e, c, _⟩ := row_cell H1.out.backs hm
    rw [(HS2.out (by omega)).2] at e
    injection e with e
    injection e with e
    subst e
    exact c⟩
  have h0 : BI v1 b pm ra ba bc ma mc L V M bi nn (.slice a1 nn c1) 0 v1 := ⟨⟨ra, rc, m, H1.out, HV1.out, Grown.refl _ _, NT.out⟩, But.refl _ _, BX.out, Nat.zero_le _⟩
  refine wpIn_rangeFunc_x (F := Fence.wide) (α := Nat × Value) rfl (by omega) (gf := 85) (lb := #[.pointer (some ⟨bi, 0, none⟩)]) rfl trivial (enters_of Try.func85 (by kernel_rfl) rfl)
    (back_seq 9 (by omega) bi g f a1 nn c1 (fun i => uv (vL V (f + i))) (by have := HO.out; omega) v1 hBw)
    (fun _ _ _ _ h k => ⟨fun v hv => k.1 v (h.1 v hv), fun i hi he => k.2 i hi (h.2 i hi he)⟩)
    (fun _ W r ob ob' _ hr hc => ⟨fun v hv => put_cell hr hc hv, fun i _ he => put_cell hr hc he⟩)
    (Below.refl _ _) (fun _ => rfl) (fun pre x V0 V1 hc => by rw [hc.1]; exact KeepsFrom.refl _ _)
    (fun pre W => BI v1 b pm ra ba bc ma mc L V M bi nn (.slice a1 nn c1) pre.length W) (fun _ _ _ => False) (fun pre x W => BI v1 b pm ra ba bc ma mc L V M bi nn (.slice a1 nn c1) pre.length W ∧ pre.length < nn ∧ x = (nn - 1 - pre.length, uv (vL V (f + (nn - 1 - pre.length)))))
    (fun s X Y row hs hg hr => hs.own PM1.out hg hr) (fun _ _ _ _ _ hs _ _ => hs) (fun pre x _ X Y row hs hg hr => ⟨hs.1.own PM1.out hg hr, hs.2⟩)
    (fun pre x V0 V1 h hc => by obtain ⟨rfl, h1, h2⟩ := hc; exact ⟨h, h1, h2⟩) h0
    (fun x a' W => a' = { tmps := #[.pointer (some ⟨b, 0, none⟩), .int .i64 (k : Int), undef, undef, .int .i64 0, .int .i64 (f : Int), undef, x.2, .pointer (some ⟨b, 0, none⟩), .int .i64 (k : Int), .bool true, .bool false, .pointer (some ⟨b, 0, none⟩), .pointer (some ⟨b, 0, none⟩), .pointer (some ⟨b, 3, none⟩), .slice (some ⟨gm, 0, none⟩) mn mc, .int .i64 (k : Int), .pointer (some ⟨gm, k, none⟩), .int .i64 (f : Int), .pointer (some ⟨b, 0, none⟩), .pointer (some ⟨b, 0, none⟩), .pointer (some ⟨b, 2, none⟩), .slice ba uu bc, .int .i64 (f : Int), .slice a1 nn c1, .func (.func 85) #[] #[.pointer (some ⟨bi, 0, none⟩)], .int .i64 (x.1 : Int), x.2, undef, undef, undef, undef, undef, undef, undef, undef, undef, undef, undef, undef, undef, undef], defers := [] }) (fun x a' _ X Y row hs _ _ => hs) ?assign ?body ?done ?stop
  case assign =>
    rintro l pre x W K hi hK
    have H3 : Hid (x = (nn - 1 - pre.length, uv (vL V (f + (nn - 1 - pre.length))))) := hi.2.2
    have H2 : Hid (pre.length < nn) := hi.2.1
    have hi1 := hi.1
    clear hi
    gi_wp2
    exact hK _ _ (KeepsFrom.refl _ _) ⟨fun _ h => h, fun _ _ h => h⟩ ⟨hi1, H2.out, H3.out⟩ rfl
  case body =>
    rintro l pre x a' W hl ⟨r, hr⟩ ⟨⟨⟨ra', rc', m', h1, h2, h3, h4⟩, h5, h6, h7⟩, hlt, hx⟩ rfl
    obtain ⟨xi, xf⟩ := x
    injection hx with hx1 hx2
    have hv : V.length = f + nn := by have := HO.out; omega
    have e1 : f + (nn - 1 - pre.length) = V.length - 1 - pre.length := by omega
    have BN : Hid (∀ W' ra2 rc2 m2, Tab W' b pm ra2 rc2 ba bc ma mc m2 (apU (vL V (V.length - 1 - pre.length)) (stB V L pre.length)) (V.map uv) M → But (TS b pm ra' ba ma) W W' → Grown (TS b pm ra' ba ma) (TS b pm ra2 ba ma) W → ownPostG v1.heap.size (BwK bi g f nn (fun i => uv (vL V (f + i))) (xi, xf)) (fun pre W => BI v1 b pm ra ba bc ma mc L V M bi nn (.slice a1 nn c1) pre.length W) (fun _ _ _ => False) (pre ++ [(xi, xf)]) W .normal { tmps := #[], defers := [] } W') := fun W' ra2 rc2 m2 k1 k2 k3 => by
      have := BI.step (x := (xi, xf)) h5 h6 hlt PM1.out h1 h2 h3 h4 (fun h0 => (HS2.out h0).2) hv k1 k2 k3
      exact ⟨this.1, this.2.1, by show BI v1 b pm ra ba bc ma mc L V M bi nn (.slice a1 nn c1) (pre ++ [(xi, xf)]).length W'; rw [List.length_append]; exact this.2.2⟩
    rw [e1] at hx2
    have hu : UnOk W b (TS b pm ra' ba ma) (vL V (V.length - 1 - pre.length)) := h2 _ (vL_mem (by omega))
    have hok : okU (vL V (V.length - 1 - pre.length)) (stB V L pre.length) := HO.out.1 _ (by omega)
    have hln : (stB V L pre.length).length < 549755813888 := by have := stB_len V L pre.length; have := HO.out; omega
    subst hx2 hx1
    by_cases k0 : (vL V (V.length - 1 - pre.length)).kd = 0
    · have ex : uv (vL V (V.length - 1 - pre.length)) = .func (.func 72) #[] #[.pointer (some ⟨(vL V (V.length - 1 - pre.length)).x, 0, none⟩), .pointer (some ⟨(vL V (V.length - 1 - pre.length)).y, 0, none⟩)] := by unfold uv; rw [if_pos k0]
      have CU : Hid (Calls Try.prog 72 #[.pointer (some ⟨(vL V (V.length - 1 - pre.length)).x, 0, none⟩), .pointer (some ⟨(vL V (V.length - 1 - pre.length)).y, 0, none⟩)] W fun e w' => e = .returned (.tuple #[]) ∧ ∃ ra2 rc2 m2, Tab w' b pm ra2 rc2 ba bc ma mc m2 (apU (vL V (V.length - 1 - pre.length)) (stB V L pre.length)) (V.map uv) M ∧ But (TS b pm ra' ba ma) W w' ∧ Grown (TS b pm ra' ba ma) (TS b pm ra2 ba ma) W) := un_rem W b pm ra' rc' ba bc ma mc m' (stB V L pre.length) (V.map uv) M h1 (vL V (V.length - 1 - pre.length)) hu k0 hok hln
      rw [ex] at BN ⊢
      clear ex hv e1 hlt hu hok hln h1 h2 h3 h4 h5 h6 h7 hr k0
      generalize (vL V (V.length - 1 - pre.length)).x = ux at CU BN ⊢
      generalize (vL V (V.length - 1 - pre.length)).y = uy at CU BN ⊢
      (try generalize (vL V (V.length - 1 - pre.length)).z = uz at CU BN ⊢)
      generalize apU (vL V (V.length - 1 - pre.length)) (stB V L pre.length) = Ln at CU BN
      gi_wp2_with (refine ⟨trivial, ?_⟩; gi_at_call 72; refine (CallsIn.inRound l (callsIn_wide.2 CU.out)).mono ?_; rintro e W' ⟨rfl, ra2, rc2, m2, q1, q2, q3⟩)
      exact BN.out _ _ _ _ q1 q2 q3
    · by_cases k1 : (vL V (V.length - 1 - pre.length)).kd = 1
      · have ex : uv (vL V (V.length - 1 - pre.length)) = .func (.func 74) #[] #[.pointer (some ⟨(vL V (V.length - 1 - pre.length)).z, 0, none⟩), .pointer (some ⟨(vL V (V.length - 1 - pre.length)).x, 0, none⟩), .pointer (some ⟨(vL V (V.length - 1 - pre.length)).y, 0, none⟩)] := by unfold uv; rw [if_neg k0, if_pos k1]
        have CU : Hid (Calls Try.prog 74 #[.pointer (some ⟨(vL V (V.length - 1 - pre.length)).z, 0, none⟩), .pointer (some ⟨(vL V (V.length - 1 - pre.length)).x, 0, none⟩), .pointer (some ⟨(vL V (V.length - 1 - pre.length)).y, 0, none⟩)] W fun e w' => e = .returned (.tuple #[]) ∧ ∃ ra2 rc2 m2, Tab w' b pm ra2 rc2 ba bc ma mc m2 (apU (vL V (V.length - 1 - pre.length)) (stB V L pre.length)) (V.map uv) M ∧ But (TS b pm ra' ba ma) W w' ∧ Grown (TS b pm ra' ba ma) (TS b pm ra2 ba ma) W) := un_put W b pm ra' rc' ba bc ma mc m' (stB V L pre.length) (V.map uv) M h1 (vL V (V.length - 1 - pre.length)) hu k1 hok hln
        rw [ex] at BN ⊢
        clear ex hv e1 hlt hu hok hln h1 h2 h3 h4 h5 h6 h7 hr k0
        generalize (vL V (V.length - 1 - pre.length)).x = ux at CU BN ⊢
        generalize (vL V (V.length - 1 - pre.length)).y = uy at CU BN ⊢
        (try generalize (vL V (V.length - 1 - pre.length)).z = uz at CU BN ⊢)
        generalize apU (vL V (V.length - 1 - pre.length)) (stB V L pre.length) = Ln at CU BN
        gi_wp2_with (refine ⟨trivial, ?_⟩; gi_at_call 74; refine (CallsIn.inRound l (callsIn_wide.2 CU.out)).mono ?_; rintro e W' ⟨rfl, ra2, rc2, m2, q1, q2, q3⟩)
        exact BN.out _ _ _ _ q1 q2 q3
      · have ex : uv (vL V (V.length - 1 - pre.length)) = .func (.func 75) #[] #[.pointer (some ⟨(vL V (V.length - 1 - pre.length)).x, 0, none⟩), .pointer (some ⟨(vL V (V.length - 1 - pre.length)).y, 0, none⟩), .pointer (some ⟨(vL V (V.length - 1 - pre.length)).z, 0, none⟩)] := by unfold uv; rw [if_neg k0, if_neg k1]
        have CU : Hid (Calls Try.prog 75 #[.pointer (some ⟨(vL V (V.length - 1 - pre.length)).x, 0, none⟩), .pointer (some ⟨(vL V (V.length - 1 - pre.length)).y, 0, none⟩), .pointer (some ⟨(vL V (V.length - 1 - pre.length)).z, 0, none⟩)] W fun e w' => e = .returned (.tuple #[]) ∧ ∃ ra2 rc2 m2, Tab w' b pm ra2 rc2 ba bc ma mc m2 (apU (vL V (V.length - 1 - pre.length)) (stB V L pre.length)) (V.map uv) M ∧ But (TS b pm ra' ba ma) W w' ∧ Grown (TS b pm ra' ba ma) (TS b pm ra2 ba ma) W) := un_ins W b pm ra' rc' ba bc ma mc m' (stB V L pre.length) (V.map uv) M h1 (vL V (V.length - 1 - pre.length)) hu k0 k1 hok hln
        rw [ex] at BN ⊢
        clear ex hv e1 hlt hu hok hln h1 h2 h3 h4 h5 h6 h7 hr k0
        generalize (vL V (V.length - 1 - pre.length)).x = ux at CU BN ⊢
        generalize (vL V (V.length - 1 - pre.length)).y = uy at CU BN ⊢
        (try generalize (vL V (V.length - 1 - pre.length)).z = uz at CU BN ⊢)
        generalize apU (vL V (V.length - 1 - pre.length)) (stB V L pre.length) = Ln at CU BN
        gi_wp2_with (refine ⟨trivial, ?_⟩; gi_at_call 75; refine (CallsIn.inRound l (callsIn_wide.2 CU.out)).mono ?_; rintro e W' ⟨rfl, ra2, rc2, m2, q1, q2, q3⟩)
        exact BN.out _ _ _ _ q1 q2 q3
  case done =>
    rintro D xs W hD hS ⟨⟨ra', rc', m', h1, h2, h3, h4⟩, h5, h6, h7⟩ hK
    have exl : xs.length = nn := by rw [hS, bwL_len]
    rw [exl] at h1
    have MC : Hid (k ≤ mc ∧ k ≤ M.length) := by
      have hk9 := HO.out
      refine ⟨?_, by omega⟩
      rcases h1.marks.2 with ⟨e1, e2⟩ | ⟨g9, c, cur, e1, _, _, h9, _⟩
      · omega
      · injection e1 with _ _ e3
        omega
    have DR : Hid (Calls Try.prog 77 #[.pointer (some ⟨b, 0, none⟩), .int .i64 (f : Int)] W fun e w' => e = .returned (.tuple #[]) ∧ Tab0 w' b pm ra' rc' ba bc ma mc (stB V L nn).length m' (stB V L nn) ((V.map uv).take f) M ∧ But (TS b pm ra' ba ma) W w') := drop_is W b pm ra' rc' ba bc ma mc _ m' (stB V L nn) (V.map uv) M h1.toTab0 f (by rw [List.length_map]; exact HO.out.2.2.1)
    have HX : Hid (IX m' (stB V L nn) ∧ (∀ p ∈ stB V L nn, I64 p.1) ∧ (∀ u ∈ V, UnOk W b (TS b pm ra' ba ma) u) ∧ Grown (TS b pm ra ba ma) (TS b pm ra' ba ma) v1 ∧ But (TS b pm ra ba ma) v1 W ∧ Tab W b pm ra' rc' ba bc ma mc m' (stB V L nn) (V.map uv) M ∧ v1.heap.size ≤ D ∧ W.heap[D]? = some (.deferred (some []))) := ⟨h1.ix, h1.keys, h2, h3, h5, h1, hD, hK⟩
    clear h1 h2 h3 h4 h5 h6 h7 hK hD hS exl hBw h0
    gi_wp2_with (refine ⟨trivial, ?_⟩; gi_at_call 77; refine (callsIn_wide.2 DR.out).mono ?_; rintro e v3 ⟨rfl, q1, q2⟩; (have Q3 : Hid (Tab0 v3 b pm ra' rc' ba bc ma mc (stB V L nn).length m' (stB V L nn) ((V.map uv).take f) M ∧ But (TS b pm ra' ba ma) W v3) := ⟨q1, q2⟩); (have d3 : v3.cell? ⟨b, 3, none⟩ = some (.slice ma mn mc) := by have := q1.c3; rw [HO.out.2.2.2.2.2.2.1] at this; exact this); (have e3 : v3.frozen? ⟨b, 3, none⟩ = false := q1.fr 3); (have hs5 := slice_head (W := v3) und_ints elem_ints size_int ma mn mc k MC.out.1); clear q1 q2 DR)
    have hK3 : v3.heap[D]? = some (.deferred (some [])) := by
      refine (Q3.out.2.block D (Array.getElem?_eq_some_iff.1 HX.out.2.2.2.2.2.2.2).1 (fun e => ?_)).trans HX.out.2.2.2.2.2.2.2
      exact (tab_own (B := v1.heap.size) (Y := W.putObj D (.deferred none)) HX.out.2.2.2.2.2.1 PM1.out (grownBy_putObj' W D (.deferred none)) (fun r e2 => by cases e2; exact ⟨HX.out.2.2.2.2.2.2.1, _, HX.out.2.2.2.2.2.2.2, rfl⟩)).2 D e rfl
    have hR : v3.ownsRow 0 3 1 (.slice ma (M.take k).length mc) (M.take k).length (mksD (M.take k)) := by
      have el : (M.take k).length = k := List.length_take_of_le MC.out.2
      rw [el, ← mksD_take]
      have := row_take Q3.out.1.marks k MC.out.2
      rw [Nat.mul_one] at this
      exact this
    have U4 := Q3.out.1.upMarks (ma' := ma) (mc' := mc) (M' := M.take k) (But.refl _ _) hR (Or.inl rfl)
    rw [List.length_take_of_le MC.out.2] at U4
    have hD3 : D ≠ b := by
      rintro rfl
      rw [show v3.heap[D]? = _ from Q3.out.1.box] at hK3
      cases hK3
    have hK4 : (v3.setCell ⟨b, 3, none⟩ (.slice ma k mc)).heap[D]? = some (.deferred (some [])) := (Below.heap_setCell v3 _ _ D hD3).trans hK3
    have T4 : Tab (v3.setCell ⟨b, 3, none⟩ (.slice ma k mc)) b pm ra' rc' ba bc ma mc m' (stB V L nn) ((V.map uv).take f) (M.take k) := ⟨U4.1, HX.out.1, HX.out.2.1⟩
    have G4 := grownBy_putObj' (v3.setCell ⟨b, 3, none⟩ (.slice ma k mc)) D (.deferred none)
    have O4 := tab_own (B := v1.heap.size) T4 PM1.out G4 (fun r e2 => by cases e2; exact ⟨HX.out.2.2.2.2.2.2.1, _, hK4, rfl⟩)
    have GW : Grown (TS b pm ra ba ma) (TS b pm ra' ba ma) w := fun j hj => by
      rcases HX.out.2.2.2.1 j hj with e | e
      · exact Or.inl e
      · exact Or.inr (Nat.le_trans B1.out.size e)
    have QW : But (TS b pm ra ba ma) w (v3.setCell ⟨b, 3, none⟩ (.slice ma k mc)) := ((B1.out.mono (fun _ e => e.elim)).trans HX.out.2.2.2.2.1).then GW (Q3.out.2.trans U4.2.1)
    have QF : But (TS b pm ra ba ma) w ((v3.setCell ⟨b, 3, none⟩ (.slice ma k mc)).putObj D (.deferred none)) := ⟨O4.1.os.trans QW.os, O4.1.tape.trans QW.tape, O4.1.output.trans QW.output, Nat.le_trans QW.size O4.1.size, fun j hj hn => (O4.1.block j (Nat.lt_of_lt_of_le hj QW.size) (fun e2 => by have := Option.some.inj e2; have := HX.out.2.2.2.2.2.2.1; have := B1.out.size; omega)).trans (QW.block j hj hn)⟩
    have hr4 : ∀ r, some D = some r → ∃ o : Obj, (v3.setCell ⟨b, 3, none⟩ (.slice ma k mc)).heap[r]? = some o ∧ o.isCells = false := fun r e2 => by cases e2; exact ⟨_, hK4, rfl⟩
    have UF : ∀ u ∈ V.take f, UnOk ((v3.setCell ⟨b, 3, none⟩ (.slice ma k mc)).putObj D (.deferred none)) b (TS b pm ra' ba ma) u := fun u hu => by
      have hu' := (HX.out.2.2.1 u (List.mem_of_mem_take hu)).but (Q3.out.2.trans U4.2.1) (Grown.refl _ _)
      exact ⟨hu'.cx.but O4.1 (box_own hu'.cx hr4), hu'.cy.but O4.1 (box_own hu'.cy hr4), fun e => (hu'.cz e).but O4.1 (box_own (hu'.cz e) hr4), hu'.nx, hu'.ny, hu'.nz⟩
    have TF := T4.but O4.1 O4.2
    rw [← List.map_take] at TF
    refine ⟨by simp, .inl ⟨_, _, rfl, run_takeDeferred hK4, ?_⟩⟩
    refine ⟨_, results_tmp rfl _ _ _, rfl, TS b pm ra' ba ma, ⟨pm, ra', rc', ba, bc, ma, mc, m', ?_, rfl, UF⟩, QF, GW⟩
    have e9 : V.length - f = nn := by have := HO.out; omega
    rw [e9]
    exact TF
  case stop =>
    rintro D c pre W _ _ hF _
    exact hF.elim
end Go.Proofs.Ytohfkgfjcnldaaa
