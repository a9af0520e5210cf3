/- MachKeeps: the walk. -/
import Derived.Test.YtlemnjhdnciddaaGra
namespace Go.Proofs.Ytlemnjhdnciddaa
open Go.RowKit
theorem lk_all (n : Nat) : lk n 0 (n : Int) = 0 := lk_ok (by omega) (by omega)
theorem read_all {w W : World} {ob b n : Nat} {u : Nat → Nat} {oa : Option Addr} {k oc : Nat} {f : Nat → Nat} {o : OpR} (h : KS w W ob b n u oa k oc f o) : Calls Try.prog 25 #[.pointer (some ⟨b, 0, none⟩), .int .i64 0, .int .i64 (n : Int)] W fun e w' => ∃ vR, e = .returned (.tuple #[vR, .int .i64 0]) ∧ By w' vR n u ∧ Below W.heap.size W w' := by
  have hle : n ≤ 4194304 := by obtain ⟨B, x, cx, hM, _⟩ := h.ex; exact hM.le
  have h1 := h.readM 0 (n : Int) (by omega) (by omega)
  rw [lk_all, if_pos rfl, Int.toNat_natCast] at h1
  refine h1.mono ?_
  rintro e w' ⟨vR, rfl, hy, _, hB⟩
  refine ⟨vR, rfl, ?_, hB⟩
  have e9 : (fun l => u ((0 : Int).toNat + l)) = u := by funext l; congr 1; show 0 + l = l; omega
  rwa [e9] at hy
def SameB (n : Nat) (f u : Nat → Nat) : Prop := ∀ i, i < n → f i = u i
theorem text_ext {f u : Nat → Nat} {n : Nat} (e : SameB n f u) : textB f n = textB u n := by
  unfold textB
  congr 1
  exact List.map_congr_left fun i hi => by rw [e i (List.mem_range.1 hi)]
theorem grow_facts {nn n2 : Nat} {N : Int} (m : nn % 32 = 0) (hn : nn ≤ 4194304) (hN : ¬ (100000 : Int) < N) (e : grN nn N = n2) : nn ≤ n2 ∧ n2 % 32 = 0 ∧ n2 ≤ 4194304 ∧ ∀ k : Nat, nn ≤ k → k ≤ n2 → (k = n2 ↔ N ≤ (k : Int) ∧ k % 32 = 0) := by
  unfold grN upN at e
  split at e
  · subst e
    exact ⟨Nat.le_refl _, m, hn, fun k h1 h2 => ⟨fun h => by omega, fun h => by omega⟩⟩
  · refine ⟨by omega, by omega, by omega, fun k h1 h2 => ⟨fun h => by omega, fun h => by omega⟩⟩
theorem KS.ownExt {w W : World} {ob b n : Nat} {u : Nat → Nat} {oa : Option Addr} {k oc : Nat} {f f2 : Nat → Nat} {o : OpR} (h : KS w W ob b n u oa k oc f o) (e : ∀ i, i < k → f i = f2 i) : KS w W ob b n u oa k oc f2 o := ⟨h.ex, by rw [← bD_ext e]; exact h.own, h.nob, h.op, h.bel, h.lob, h.u8⟩
theorem mv_zero {n : Nat} {i j m : Int} (h : mvE n i j m = 0) : 0 ≤ i ∧ 0 ≤ j ∧ 0 ≤ m ∧ (0 < m → i + m ≤ (n : Int) ∧ j + m ≤ (n : Int)) := by
  unfold mvE at h
  split at h
  · omega
  · have := lk_zero h
    omega
theorem by_cell {W : World} {ba : Option Addr} {bn bc : Nat} {t : Nat → Nat} (h : By W (.slice ba bn bc) bn t) (h0 : 0 < bn) : ∃ gs sa, ba = some ⟨gs, sa, none⟩ ∧ ∀ j, j < bn → W.cell? ⟨gs, sa + j, none⟩ = some (.int .u8 (t j : Int)) := by
  obtain ⟨ad, cap, e, _, _, hc⟩ := h
  injection e with e1 _ _
  subst e1
  obtain ⟨gs, sa, rfl, h2⟩ := hc h0
  exact ⟨gs, sa, rfl, h2⟩
theorem by_cell2 {W : World} {gs sa bn bc : Nat} {t : Nat → Nat} (h : By W (.slice (some ⟨gs, sa, none⟩) bn bc) bn t) (h0 : 0 < bn) : ∀ j, j < bn → W.cell? ⟨gs, sa + j, none⟩ = some (.int .u8 (t j : Int)) := by
  obtain ⟨g, s, e, h2⟩ := by_cell h h0
  obtain ⟨rfl, rfl, _⟩ := Addr.mk.inj (Option.some.inj e)
  exact h2
def lenOf : Value → Nat
  | .slice _ n _ => n
  | _ => 0
set_option maxHeartbeats 16000000 in
set_option maxRecDepth 100000 in
theorem machKeeps_walk (w : World) (v0 : Value) (n : Nat) (os : Nat → OpR) (hv : OpsAt w v0 n os) (hn : n ≤ 1099511627776) : Calls Try.prog 5 #[v0] w fun e w' => e = .returned (.bool true) ∧ Below w.heap.size w w' := by
  obtain ⟨ad, cap, rfl, hops⟩ := hv
  have HO : Hid (0 < n → ∃ g a, ad = some ⟨g, a, none⟩ ∧ ∀ i, i < n → OpAt w g (a + i * 14) (os i) ∧ OpOk w (os i)) := hops
  have nI : (n : Int) ≤ 1099511627776 := by omega
  clear hops hn
  go_enter Try.func5, Try.ntmps5
  go_upto_region 5 with (go_at_call 19; refine (newMemory_is _).mono ?_; rintro e v1 ⟨rfl, hm1, hB1⟩)
  obtain ⟨b, eb⟩ : ∃ b, w.heap.size = b := ⟨_, rfl⟩
  have K0 : Hid (KR w v1 b 0 (fun _ => 0) none 0) := ⟨⟨_, none, 0, by rw [← eb]; exact hm1, fun q hq => ⟨(by rcases hq with rfl | ⟨a, e, _⟩; (omega); cases e), fun a e => (by cases e)⟩⟩, World.ownsRow_nil _ _ _ _, hB1, fun _ => (by decide : (0 : Nat) < 256), rfl⟩
  rw [eb]
  clear hm1 hB1 eb
  go_wp2
  go_loopw [4, 5] (fun s4 s5 wr => ∃ (i nn : Nat) (u : Nat → Nat) (oa : Option Addr) (oc : Nat), s4 = .slice oa nn oc ∧ s5 = .int .i64 (i : Int) ∧ i ≤ 60 ∧ KR w wr b nn u oa oc) (fun _ s5 _ => 60 - (intOf s5).toNat)
  case atStart => exact ⟨0, 0, _, none, 0, rfl, rfl, by omega, K0.out⟩
  case round =>
    obtain ⟨i, nn, u, oa, oc, rfl, rfl, hi, hK⟩ := hrel
    have A0 : Hid (KR w wr b nn u oa oc) := hK
    clear hK K0
    by_cases hin : i < n ∧ i < 60
    · have iI : (i : Int) < (n : Int) := by omega
      have i6 : (i : Int) < 60 := by omega
      have i7 : Hid (i + 1 ≤ 60) := hin.2
      obtain ⟨g, a, rfl, hOp⟩ := HO.out (by omega)
      obtain ⟨hO1, hO2⟩ := hOp i hin.1
      obtain ⟨o, eo⟩ : ∃ o, os i = o := ⟨_, rfl⟩
      rw [eo] at hO1 hO2
      clear hOp eo
      have OA : Hid (OpAt wr g (a + i * 14) o) := fun j x hx => (A0.out.bel.cell (p := ⟨g, a + i * 14 + j, none⟩) (World.block_lt_of_cell? w _ (hO1 j x hx))).trans (hO1 j x hx)
      have OK : Hid (OpOk w o) := hO2
      clear hO1 hO2 hin hi
      obtain ⟨kd, tw, N, M, P, X, Y, ba, bn, bc, t⟩ := o
      have c0 : wr.cell? ⟨g, a + i * 14, none⟩ = some (.int .i64 kd) := OA.out 0 _ rfl
      have c1 : wr.cell? ⟨g, a + i * 14 + 1, none⟩ = some (.bool tw) := OA.out 1 _ rfl
      have c2 : wr.cell? ⟨g, a + i * 14 + 2, none⟩ = some (.int .i64 N) := OA.out 2 _ rfl
      have c3 : wr.cell? ⟨g, a + i * 14 + 3, none⟩ = some (.int .i64 M) := OA.out 3 _ rfl
      have c4 : wr.cell? ⟨g, a + i * 14 + 4, none⟩ = some (.int .i64 P) := OA.out 4 _ rfl
      have c5 : wr.cell? ⟨g, a + i * 14 + 5, none⟩ = some (.int .u64 X.a) := OA.out 5 _ rfl
      have c6 : wr.cell? ⟨g, a + i * 14 + 6, none⟩ = some (.int .u64 X.b) := OA.out 6 _ rfl
      have c7 : wr.cell? ⟨g, a + i * 14 + 7, none⟩ = some (.int .u64 X.c) := OA.out 7 _ rfl
      have c8 : wr.cell? ⟨g, a + i * 14 + 8, none⟩ = some (.int .u64 X.d) := OA.out 8 _ rfl
      have c9 : wr.cell? ⟨g, a + i * 14 + 9, none⟩ = some (.int .u64 Y.a) := OA.out 9 _ rfl
      have c10 : wr.cell? ⟨g, a + i * 14 + 10, none⟩ = some (.int .u64 Y.b) := OA.out 10 _ rfl
      have c11 : wr.cell? ⟨g, a + i * 14 + 11, none⟩ = some (.int .u64 Y.c) := OA.out 11 _ rfl
      have c12 : wr.cell? ⟨g, a + i * 14 + 12, none⟩ = some (.int .u64 Y.d) := OA.out 12 _ rfl
      have c13 : wr.cell? ⟨g, a + i * 14 + 13, none⟩ = some (.slice ba bn bc) := OA.out 13 _ rfl
      go_upto_region 9 with fail
      clear c0 c1 c2 c3 c4 c5 c6 c7 c8 c9 c10 c11 c12 c13
      change Code.wp _ _ _ _ (wr.alloc (.cells (OpR.l ⟨kd, tw, N, M, P, X, Y, ba, bn, bc, t⟩).toArray 33))
      have K1 : Hid (KS w (wr.alloc (.cells (OpR.l ⟨kd, tw, N, M, P, X, Y, ba, bn, bc, t⟩).toArray 33)) wr.heap.size b nn u oa nn oc u ⟨kd, tw, N, M, P, X, Y, ba, bn, bc, t⟩) := A0.out.ks _
      have MN : Hid (nn % 32 = 0) := A0.out.m32
      have EF : Hid (SameB nn u u) := fun _ _ => rfl
      generalize wr.alloc (.cells (OpR.l ⟨kd, tw, N, M, P, X, Y, ba, bn, bc, t⟩).toArray 33) = v at K1 ⊢
      generalize wr.heap.size = ob at K1 ⊢
      clear A0 OA
      have nL : (nn : Int) ≤ (nn : Int) := Int.le_refl _
      have nX : (nn : Int) ≤ 4194304 := by obtain ⟨B, x, cx, hM, _⟩ := K1.out.ex; have := hM.le; omega
      obtain ⟨⟨hN, hM, hP⟩, hX, hY, hBy, ht, hN0, hM0, hP0⟩ := OK.out
      dsimp only at hN hM hP hX hY hBy ht hN0 hM0 hP0
      have HB : Hid (By w (.slice ba bn bc) bn t ∧ (∀ i, t i < 256) ∧ IsW (V X.a X.b X.c X.d) X.a X.b X.c X.d) := ⟨hBy, ht, hX⟩
      clear hX hY hBy ht OK
      go_upto_region 10 with (go_at_call 12; refine (KS.lenM K1.out).mono ?_; rintro e w' ⟨rfl, hw⟩; (have hw2 := hw.symm); clear hw; subst hw2)
      by_cases e3 : kd = 3
      · as_aux_lemma =>
          subst e3
          have k0 : v.cell? ⟨ob, 0, none⟩ = some (.int .i64 3) := K1.out.op 0 _ rfl
          have k2 : v.cell? ⟨ob, 2, none⟩ = some (.int .i64 N) := K1.out.op 2 _ rfl
          go_upto_region 12 with fail
          by_cases g0 : (100000 : Int) < N
          · go_wp2
            go_roundw
            case rel => exact ⟨i + 1, nn, u, oa, oc, rfl, by go_num, i7.out, K1.out.kr EF.out MN.out⟩
            case measure => simp [intOf]; omega
          obtain ⟨n2, en2⟩ : ∃ n2, grN nn N = n2 := ⟨_, rfl⟩
          obtain ⟨u2, eu2⟩ : ∃ u2, grU u nn = u2 := ⟨_, rfl⟩
          have G2 : Hid (nn ≤ n2 ∧ n2 % 32 = 0 ∧ n2 ≤ 4194304 ∧ (∀ k : Nat, nn ≤ k → k ≤ n2 → (k = n2 ↔ N ≤ (k : Int) ∧ k % 32 = 0))) := grow_facts MN.out (by omega) (by omega) en2
          have U2 : Hid (∀ k, nn ≤ k → u2 k = 0) := fun k hk => by rw [← eu2]; unfold grU; rw [if_neg (by omega)]
          have U3 : Hid (∀ i, i < nn → u i = u2 i) := fun j hj => by rw [← eu2]; unfold grU; rw [if_pos hj]
          by_cases g1 : N < 0
          · skip
            have GM : Hid (Calls Try.prog 20 #[.pointer (some ⟨b, 0, none⟩), .int .i64 N] v fun e w' => e = .returned (.int .i64 1) ∧ KS w w' ob b n2 u2 oa nn oc u ⟨3, tw, N, M, P, X, Y, ba, bn, bc, t⟩) := by
              have h := K1.out.growM N
              rw [en2, eu2, show grE N = 1 by unfold grE; rw [if_pos g1]] at h
              exact h
            have NEG : Hid (n2 = nn) := by show n2 = nn; rw [← en2]; unfold grN; rw [if_pos (Or.inl g1)]
            clear en2 eu2
            go_upto_region 14 with (go_at_call 20; refine (GM.out).mono ?_; rintro e v2 ⟨rfl, h1⟩)
            have K2 : Hid (KS w v2 ob b n2 u2 oa nn oc u ⟨3, tw, N, M, P, X, Y, ba, bn, bc, t⟩) := h1
            clear h1 K1 GM k0 k2
            have k2 : v2.cell? ⟨ob, 2, none⟩ = some (.int .i64 N) := K2.out.op 2 _ rfl
            have g2 : ¬ (0 : Int) ≤ N := by omega
            go_upto_region 16 with fail
            clear k2 g2
            replace K2 : Hid (KS w v2 ob b n2 u2 oa nn oc u2 ⟨3, tw, N, M, P, X, Y, ba, bn, bc, t⟩) := K2.out.ownExt U3.out
            go_loopw [4] (fun s4 wq => ∃ (k : Nat) (oa' : Option Addr) (oc' : Nat), s4 = .slice oa' k oc' ∧ nn ≤ k ∧ k ≤ n2 ∧ KS w wq ob b n2 u2 oa' k oc' u2 ⟨3, tw, N, M, P, X, Y, ba, bn, bc, t⟩) (fun s4 _ => n2 - lenOf s4)
            case atStart => exact ⟨nn, oa, oc, rfl, Nat.le_refl _, G2.out.1, K2.out⟩
            case round =>
              obtain ⟨k, oa', oc', rfl, hk1, hk2, hK⟩ := hrel
              have K3 : Hid (KS w wr ob b n2 u2 oa' k oc' u2 ⟨3, tw, N, M, P, X, Y, ba, bn, bc, t⟩) := hK
              clear hK K2
              have kX : (k : Int) ≤ 4194304 := by have := G2.out.2.2.1; omega
              have kiff := G2.out.2.2.2 k hk1 hk2
              have KF : Hid (k = n2 ↔ N ≤ (k : Int) ∧ k % 32 = 0) := kiff
              clear kiff
              have k2 : wr.cell? ⟨ob, 2, none⟩ = some (.int .i64 N) := K3.out.op 2 _ rfl
              by_cases c0 : k = n2
              · have c1 : ¬ (k : Int) < N := Int.not_lt.2 (KF.out.1 c0).1
                have c2 : Int.tmod (k : Int) 32 = 0 := by rw [Int.tmod_eq_emod_of_nonneg (by omega)]; have := (KF.out.1 c0).2; omega
                subst c0
                replace EF : Hid (SameB k u2 u2) := fun _ _ => rfl
                replace MN : Hid (k % 32 = 0) := G2.out.2.1
                replace nL : (nn : Int) ≤ (k : Int) := by omega
                go_upto_region 49 with fail
                clear c1 c2 KF k2
                have n2I : (k : Int) ≤ 4194304 := by obtain ⟨B, x, cx, hM, _⟩ := K3.out.ex; have := hM.le; omega
                have RD : Hid (Calls Try.prog 25 #[.pointer (some ⟨b, 0, none⟩), .int .i64 0, .int .i64 (k : Int)] wr fun e w' => ∃ vR, e = .returned (.tuple #[vR, .int .i64 0]) ∧ By w' vR k u2 ∧ Below wr.heap.size wr w') := read_all K3.out
                go_upto_region 50 with (go_at_call 25; refine (RD.out).mono ?_; rintro e vr ⟨vR, rfl, hy, hB⟩)
                have K9 : Hid (KS w vr ob b k u2 oa' k oc' u2 ⟨3, tw, N, M, P, X, Y, ba, bn, bc, t⟩) := K3.out.past hB
                have q1 := conv_by vr vR k u2 hy
                have q2 := conv_by vr _ _ _ (K9.out.by (by omega))
                rw [text_ext EF.out] at q2
                generalize textB u2 k = tx at q1 q2
                clear hy hB RD K3
                refine wp_region_lit ?_
                refine lst_val (v := .pointer (some ⟨b, 0, none⟩)) (by kernel_rfl) ?_ ?_
                · go_simp
                simp only [Act.put, List.setIfInBounds_toArray, List.set_cons_zero, List.set_cons_succ]
                refine lst_call (by kernel_rfl) (by first | (go_simp; done) | (go_simp; first | exact rfl | exact ⟨rfl, rfl⟩ | exact ⟨rfl, rfl, rfl⟩)) (KS.lenM K9.out) ?_
                rintro e w' ⟨rfl, hw⟩
                have hw2 := hw.symm
                clear hw
                subst hw2
                refine ⟨_, rfl, ?_⟩
                simp only [Act.put, List.setIfInBounds_toArray, List.set_cons_zero, List.set_cons_succ]
                refine lst_val (v := .slice oa' k oc') (by kernel_rfl) ?_ ?_
                · go_simp
                simp only [Act.put, List.setIfInBounds_toArray, List.set_cons_zero, List.set_cons_succ]
                refine lst_val (v := .int .i64 (k : Int)) (by kernel_rfl) ?_ ?_
                · go_simp
                simp only [Act.put, List.setIfInBounds_toArray, List.set_cons_zero, List.set_cons_succ]
                refine lst_val (v := .bool false) (by kernel_rfl) ?_ ?_
                · go_simp
                simp only [Act.put, List.setIfInBounds_toArray, List.set_cons_zero, List.set_cons_succ]
                refine lst_val (v := .bool false) (by kernel_rfl) ?_ ?_
                · go_simp
                simp only [Act.put, List.setIfInBounds_toArray, List.set_cons_zero, List.set_cons_succ]
                refine lst_val (v := .int .i64 (nn : Int)) (by kernel_rfl) ?_ ?_
                · go_simp
                simp only [Act.put, List.setIfInBounds_toArray, List.set_cons_zero, List.set_cons_succ]
                refine lst_val (v := .pointer (some ⟨b, 0, none⟩)) (by kernel_rfl) ?_ ?_
                · go_simp
                simp only [Act.put, List.setIfInBounds_toArray, List.set_cons_zero, List.set_cons_succ]
                refine lst_call (by kernel_rfl) (by first | (go_simp; done) | (go_simp; first | exact rfl | exact ⟨rfl, rfl⟩ | exact ⟨rfl, rfl, rfl⟩)) (KS.lenM K9.out) ?_
                rintro e w' ⟨rfl, hw⟩
                have hw2 := hw.symm
                clear hw
                subst hw2
                refine ⟨_, rfl, ?_⟩
                simp only [Act.put, List.setIfInBounds_toArray, List.set_cons_zero, List.set_cons_succ]
                refine lst_val (v := .bool false) (by kernel_rfl) ?_ ?_
                · go_simp
                simp only [Act.put, List.setIfInBounds_toArray, List.set_cons_zero, List.set_cons_succ]
                refine lst_val (v := .bool false) (by kernel_rfl) ?_ ?_
                · go_simp
                simp only [Act.put, List.setIfInBounds_toArray, List.set_cons_zero, List.set_cons_succ]
                refine lst_val (v := .bool false) (by kernel_rfl) ?_ ?_
                · go_simp
                simp only [Act.put, List.setIfInBounds_toArray, List.set_cons_zero, List.set_cons_succ]
                refine lst_val (v := .int .i64 0) (by kernel_rfl) ?_ ?_
                · go_simp
                simp only [Act.put, List.setIfInBounds_toArray, List.set_cons_zero, List.set_cons_succ]
                refine lst_val (v := .bool false) (by kernel_rfl) ?_ ?_
                · go_simp
                simp only [Act.put, List.setIfInBounds_toArray, List.set_cons_zero, List.set_cons_succ]
                refine lst_val (v := .bool false) (by kernel_rfl) ?_ ?_
                · go_simp
                simp only [Act.put, List.setIfInBounds_toArray, List.set_cons_zero, List.set_cons_succ]
                refine lst_val (v := .bool false) (by kernel_rfl) ?_ ?_
                · go_simp
                simp only [Act.put, List.setIfInBounds_toArray, List.set_cons_zero, List.set_cons_succ]
                refine lst_val (v := vR) (by kernel_rfl) ?_ ?_
                · go_simp
                simp only [Act.put, List.setIfInBounds_toArray, List.set_cons_zero, List.set_cons_succ]
                refine lst_val (v := .string tx) (by kernel_rfl) ?_ ?_
                · (go_simp; try (first | (rw [IntKind.wrap_u64]; omega) | (rw [IntKind.wrap_i64]; omega)))
                simp only [Act.put, List.setIfInBounds_toArray, List.set_cons_zero, List.set_cons_succ]
                refine lst_val (v := .slice oa' k oc') (by kernel_rfl) ?_ ?_
                · go_simp
                simp only [Act.put, List.setIfInBounds_toArray, List.set_cons_zero, List.set_cons_succ]
                refine lst_val (v := .string tx) (by kernel_rfl) ?_ ?_
                · (go_simp; try (first | (rw [IntKind.wrap_u64]; omega) | (rw [IntKind.wrap_i64]; omega)))
                simp only [Act.put, List.setIfInBounds_toArray, List.set_cons_zero, List.set_cons_succ]
                refine lst_val (v := .bool false) (by kernel_rfl) ?_ ?_
                · go_simp
                simp only [Act.put, List.setIfInBounds_toArray, List.set_cons_zero, List.set_cons_succ]
                refine lst_val (v := .bool false) (by kernel_rfl) ?_ ?_
                · go_simp
                simp only [Act.put, List.setIfInBounds_toArray, List.set_cons_zero, List.set_cons_succ]
                refine wpList_nil ?_
                clear q1 q2
                go_wp2
                go_roundw
                case rel => exact ⟨i + 1, k, u2, oa', oc', rfl, by go_num, i7.out, K9.out.kr EF.out MN.out⟩
                case measure => simp [intOf]; omega
              · exact absurd (by have := NEG.out; omega) c0
          · skip
            have GM : Hid (Calls Try.prog 20 #[.pointer (some ⟨b, 0, none⟩), .int .i64 N] v fun e w' => e = .returned (.int .i64 0) ∧ KS w w' ob b n2 u2 oa nn oc u ⟨3, tw, N, M, P, X, Y, ba, bn, bc, t⟩) := by
              have h := K1.out.growM N
              rw [en2, eu2, show grE N = 0 by unfold grE; rw [if_neg g1, if_neg (by omega)]] at h
              exact h
            clear en2 eu2
            go_upto_region 14 with (go_at_call 20; refine (GM.out).mono ?_; rintro e v2 ⟨rfl, h1⟩)
            have K2 : Hid (KS w v2 ob b n2 u2 oa nn oc u ⟨3, tw, N, M, P, X, Y, ba, bn, bc, t⟩) := h1
            clear h1 K1 GM k0 k2
            have k2 : v2.cell? ⟨ob, 2, none⟩ = some (.int .i64 N) := K2.out.op 2 _ rfl
            have g2 : (0 : Int) ≤ N := by omega
            go_upto_region 16 with fail
            clear k2 g2
            replace K2 : Hid (KS w v2 ob b n2 u2 oa nn oc u2 ⟨3, tw, N, M, P, X, Y, ba, bn, bc, t⟩) := K2.out.ownExt U3.out
            go_loopw [4] (fun s4 wq => ∃ (k : Nat) (oa' : Option Addr) (oc' : Nat), s4 = .slice oa' k oc' ∧ nn ≤ k ∧ k ≤ n2 ∧ KS w wq ob b n2 u2 oa' k oc' u2 ⟨3, tw, N, M, P, X, Y, ba, bn, bc, t⟩) (fun s4 _ => n2 - lenOf s4)
            case atStart => exact ⟨nn, oa, oc, rfl, Nat.le_refl _, G2.out.1, K2.out⟩
            case round =>
              obtain ⟨k, oa', oc', rfl, hk1, hk2, hK⟩ := hrel
              have K3 : Hid (KS w wr ob b n2 u2 oa' k oc' u2 ⟨3, tw, N, M, P, X, Y, ba, bn, bc, t⟩) := hK
              clear hK K2
              have kX : (k : Int) ≤ 4194304 := by have := G2.out.2.2.1; omega
              have kiff := G2.out.2.2.2 k hk1 hk2
              have KF : Hid (k = n2 ↔ N ≤ (k : Int) ∧ k % 32 = 0) := kiff
              clear kiff
              have k2 : wr.cell? ⟨ob, 2, none⟩ = some (.int .i64 N) := K3.out.op 2 _ rfl
              by_cases c0 : k = n2
              · have c1 : ¬ (k : Int) < N := Int.not_lt.2 (KF.out.1 c0).1
                have c2 : Int.tmod (k : Int) 32 = 0 := by rw [Int.tmod_eq_emod_of_nonneg (by omega)]; have := (KF.out.1 c0).2; omega
                subst c0
                replace EF : Hid (SameB k u2 u2) := fun _ _ => rfl
                replace MN : Hid (k % 32 = 0) := G2.out.2.1
                replace nL : (nn : Int) ≤ (k : Int) := by omega
                go_upto_region 49 with fail
                clear c1 c2 KF k2
                have n2I : (k : Int) ≤ 4194304 := by obtain ⟨B, x, cx, hM, _⟩ := K3.out.ex; have := hM.le; omega
                have RD : Hid (Calls Try.prog 25 #[.pointer (some ⟨b, 0, none⟩), .int .i64 0, .int .i64 (k : Int)] wr fun e w' => ∃ vR, e = .returned (.tuple #[vR, .int .i64 0]) ∧ By w' vR k u2 ∧ Below wr.heap.size wr w') := read_all K3.out
                go_upto_region 50 with (go_at_call 25; refine (RD.out).mono ?_; rintro e vr ⟨vR, rfl, hy, hB⟩)
                have K9 : Hid (KS w vr ob b k u2 oa' k oc' u2 ⟨3, tw, N, M, P, X, Y, ba, bn, bc, t⟩) := K3.out.past hB
                have q1 := conv_by vr vR k u2 hy
                have q2 := conv_by vr _ _ _ (K9.out.by (by omega))
                rw [text_ext EF.out] at q2
                generalize textB u2 k = tx at q1 q2
                clear hy hB RD K3
                refine wp_region_lit ?_
                refine lst_val (v := .pointer (some ⟨b, 0, none⟩)) (by kernel_rfl) ?_ ?_
                · go_simp
                simp only [Act.put, List.setIfInBounds_toArray, List.set_cons_zero, List.set_cons_succ]
                refine lst_call (by kernel_rfl) (by first | (go_simp; done) | (go_simp; first | exact rfl | exact ⟨rfl, rfl⟩ | exact ⟨rfl, rfl, rfl⟩)) (KS.lenM K9.out) ?_
                rintro e w' ⟨rfl, hw⟩
                have hw2 := hw.symm
                clear hw
                subst hw2
                refine ⟨_, rfl, ?_⟩
                simp only [Act.put, List.setIfInBounds_toArray, List.set_cons_zero, List.set_cons_succ]
                refine lst_val (v := .slice oa' k oc') (by kernel_rfl) ?_ ?_
                · go_simp
                simp only [Act.put, List.setIfInBounds_toArray, List.set_cons_zero, List.set_cons_succ]
                refine lst_val (v := .int .i64 (k : Int)) (by kernel_rfl) ?_ ?_
                · go_simp
                simp only [Act.put, List.setIfInBounds_toArray, List.set_cons_zero, List.set_cons_succ]
                refine lst_val (v := .bool false) (by kernel_rfl) ?_ ?_
                · go_simp
                simp only [Act.put, List.setIfInBounds_toArray, List.set_cons_zero, List.set_cons_succ]
                refine lst_val (v := .bool false) (by kernel_rfl) ?_ ?_
                · go_simp
                simp only [Act.put, List.setIfInBounds_toArray, List.set_cons_zero, List.set_cons_succ]
                refine lst_val (v := .int .i64 (nn : Int)) (by kernel_rfl) ?_ ?_
                · go_simp
                simp only [Act.put, List.setIfInBounds_toArray, List.set_cons_zero, List.set_cons_succ]
                refine lst_val (v := .pointer (some ⟨b, 0, none⟩)) (by kernel_rfl) ?_ ?_
                · go_simp
                simp only [Act.put, List.setIfInBounds_toArray, List.set_cons_zero, List.set_cons_succ]
                refine lst_call (by kernel_rfl) (by first | (go_simp; done) | (go_simp; first | exact rfl | exact ⟨rfl, rfl⟩ | exact ⟨rfl, rfl, rfl⟩)) (KS.lenM K9.out) ?_
                rintro e w' ⟨rfl, hw⟩
                have hw2 := hw.symm
                clear hw
                subst hw2
                refine ⟨_, rfl, ?_⟩
                simp only [Act.put, List.setIfInBounds_toArray, List.set_cons_zero, List.set_cons_succ]
                refine lst_val (v := .bool false) (by kernel_rfl) ?_ ?_
                · go_simp
                simp only [Act.put, List.setIfInBounds_toArray, List.set_cons_zero, List.set_cons_succ]
                refine lst_val (v := .bool false) (by kernel_rfl) ?_ ?_
                · go_simp
                simp only [Act.put, List.setIfInBounds_toArray, List.set_cons_zero, List.set_cons_succ]
                refine lst_val (v := .bool false) (by kernel_rfl) ?_ ?_
                · go_simp
                simp only [Act.put, List.setIfInBounds_toArray, List.set_cons_zero, List.set_cons_succ]
                refine lst_val (v := .int .i64 0) (by kernel_rfl) ?_ ?_
                · go_simp
                simp only [Act.put, List.setIfInBounds_toArray, List.set_cons_zero, List.set_cons_succ]
                refine lst_val (v := .bool false) (by kernel_rfl) ?_ ?_
                · go_simp
                simp only [Act.put, List.setIfInBounds_toArray, List.set_cons_zero, List.set_cons_succ]
                refine lst_val (v := .bool false) (by kernel_rfl) ?_ ?_
                · go_simp
                simp only [Act.put, List.setIfInBounds_toArray, List.set_cons_zero, List.set_cons_succ]
                refine lst_val (v := .bool false) (by kernel_rfl) ?_ ?_
                · go_simp
                simp only [Act.put, List.setIfInBounds_toArray, List.set_cons_zero, List.set_cons_succ]
                refine lst_val (v := vR) (by kernel_rfl) ?_ ?_
                · go_simp
                simp only [Act.put, List.setIfInBounds_toArray, List.set_cons_zero, List.set_cons_succ]
                refine lst_val (v := .string tx) (by kernel_rfl) ?_ ?_
                · (go_simp; try (first | (rw [IntKind.wrap_u64]; omega) | (rw [IntKind.wrap_i64]; omega)))
                simp only [Act.put, List.setIfInBounds_toArray, List.set_cons_zero, List.set_cons_succ]
                refine lst_val (v := .slice oa' k oc') (by kernel_rfl) ?_ ?_
                · go_simp
                simp only [Act.put, List.setIfInBounds_toArray, List.set_cons_zero, List.set_cons_succ]
                refine lst_val (v := .string tx) (by kernel_rfl) ?_ ?_
                · (go_simp; try (first | (rw [IntKind.wrap_u64]; omega) | (rw [IntKind.wrap_i64]; omega)))
                simp only [Act.put, List.setIfInBounds_toArray, List.set_cons_zero, List.set_cons_succ]
                refine lst_val (v := .bool false) (by kernel_rfl) ?_ ?_
                · go_simp
                simp only [Act.put, List.setIfInBounds_toArray, List.set_cons_zero, List.set_cons_succ]
                refine lst_val (v := .bool false) (by kernel_rfl) ?_ ?_
                · go_simp
                simp only [Act.put, List.setIfInBounds_toArray, List.set_cons_zero, List.set_cons_succ]
                refine wpList_nil ?_
                clear q1 q2
                go_wp2
                go_roundw
                case rel => exact ⟨i + 1, k, u2, oa', oc', rfl, by go_num, i7.out, K9.out.kr EF.out MN.out⟩
                case measure => simp [intOf]; omega
              · have HK : Hid (k + 1 ≤ n2) := by unfold Hid; omega
                by_cases c1 : (k : Int) < N
                · clear KF
                  go_wp2_with (at_builtin; refine append_zero K3.out (U2.out k hk1) (by omega) rfl _ _ rfl rfl rfl ?_; intro oa2 oc2 w2 hK4)
                  have K4 : Hid (KS w w2 ob b n2 u2 oa2 (k + 1) oc2 u2 ⟨3, tw, N, M, P, X, Y, ba, bn, bc, t⟩) := hK4
                  clear hK4 K3
                  go_wp2
                  go_roundw
                  case rel => exact ⟨k + 1, oa2, oc2, rfl, by omega, HK.out, K4.out⟩
                  case measure => simp [lenOf]; omega
                · have c2 : ¬ Int.tmod (k : Int) 32 = 0 := fun h => c0 (KF.out.2 ⟨Int.not_lt.1 c1, by rw [Int.tmod_eq_emod_of_nonneg (by omega)] at h; omega⟩)
                  obtain ⟨r, hr⟩ : ∃ r : Int, Int.tmod (k : Int) 32 = r := ⟨_, rfl⟩
                  have r1 : IntKind.i64.wrap r = r := by rw [← hr, Int.tmod_eq_emod_of_nonneg (by omega), IntKind.wrap_i64]; omega
                  have r0 : (r == 0) = false := by rw [← hr]; simpa using c2
                  clear KF c2
                  go_wp2_with (at_builtin; refine append_zero K3.out (U2.out k hk1) (by omega) rfl _ _ rfl rfl rfl ?_; intro oa2 oc2 w2 hK4)
                  have K4 : Hid (KS w w2 ob b n2 u2 oa2 (k + 1) oc2 u2 ⟨3, tw, N, M, P, X, Y, ba, bn, bc, t⟩) := hK4
                  clear hK4 K3
                  go_wp2
                  go_roundw
                  case rel => exact ⟨k + 1, oa2, oc2, rfl, by omega, HK.out, K4.out⟩
                  case measure => simp [lenOf]; omega
      by_cases e5 : kd = 5
      · as_aux_lemma =>
          subst e5
          have k0 : v.cell? ⟨ob, 0, none⟩ = some (.int .i64 5) := K1.out.op 0 _ rfl
          have k2 : v.cell? ⟨ob, 2, none⟩ = some (.int .i64 N) := K1.out.op 2 _ rfl
          have x0 : v.cell? ⟨ob, 5, none⟩ = some (.int .u64 X.a) := K1.out.op 5 _ rfl
          have x1 : v.cell? ⟨ob, 6, none⟩ = some (.int .u64 X.b) := K1.out.op 6 _ rfl
          have x2 : v.cell? ⟨ob, 7, none⟩ = some (.int .u64 X.c) := K1.out.op 7 _ rfl
          have x3 : v.cell? ⟨ob, 8, none⟩ = some (.int .u64 X.d) := K1.out.op 8 _ rfl
          go_upto_region 19 with fail
          go_wp2_with fail
          refine (bytesN v X).mono ?_
          rintro e v2 ⟨rfl, hB⟩
          have K2 : Hid (KS w v2 ob b nn u oa nn oc u ⟨5, tw, N, M, P, X, Y, ba, bn, bc, t⟩) := K1.out.past hB
          clear hB K1 k0 k2 x0 x1 x2 x3
          generalize eF : (fun i => (bN X i : Int)) = F
          have EFF : Hid (∀ i, F i = (bN X i : Int)) := fun i => by rw [← eF]
          clear eF
          go_upto_region 20 with (first | (refine alloc32 rfl rfl ?_; intro W2 hW2) | (refine store32 F v2.heap.size rfl _ _ rfl rfl rfl hW2.row.there ?_))
          have R3 : Hid (RowB (W2.setCells v2.heap.size 0 (rowB 32 F)) v2.heap.size 32 F) := RowB.of_range hW2.row
          have B3 : Hid (Below v2.heap.size v2 (W2.setCells v2.heap.size 0 (rowB 32 F))) := below_setCellsB _ (Nat.le_refl _) _ _ _ hW2.bel
          clear hW2
          generalize W2.setCells v2.heap.size 0 (rowB 32 F) = v3 at R3 B3 ⊢
          obtain ⟨tb, etb⟩ : ∃ tb, v2.heap.size = tb := ⟨_, rfl⟩
          rw [etb] at R3 ⊢
          have TB : Hid (v2.heap.size ≤ tb ∧ ∀ a, oa = some a → a.block ≠ tb) := ⟨by omega, fun a e => by have := K2.out.lto a e; omega⟩
          clear etb
          have K3 : Hid (KS w v3 ob b nn u oa nn oc u ⟨5, tw, N, M, P, X, Y, ba, bn, bc, t⟩) := K2.out.past B3.out
          obtain ⟨E, eE⟩ : ∃ E, lk nn N 32 = E := ⟨_, rfl⟩
          have EE : Hid (lk nn N 32 = E) := eE
          clear eE
          have ST : Hid (Calls Try.prog 22 #[.pointer (some ⟨b, 0, none⟩), .int .i64 N, .agg #[.int .u64 X.a, .int .u64 X.b, .int .u64 X.c, .int .u64 X.d]] v3 fun e w' => e = .returned (.int .i64 E) ∧ KS w w' ob b nn (if E = 0 then ins u N.toNat (bN X) 32 else u) oa nn oc u ⟨5, tw, N, M, P, X, Y, ba, bn, bc, t⟩ ∧ ∃ S, But S v3 w' ∧ ∀ q, S q → q < v2.heap.size) := by
            have h := KS.storeM K2.out B3.out N hN X HB.out.2.2
            rw [EE.out] at h
            exact h
          have k2 : v3.cell? ⟨ob, 2, none⟩ = some (.int .i64 N) := K3.out.op 2 _ rfl
          have x0 : v3.cell? ⟨ob, 5, none⟩ = some (.int .u64 X.a) := K3.out.op 5 _ rfl
          have x1 : v3.cell? ⟨ob, 6, none⟩ = some (.int .u64 X.b) := K3.out.op 6 _ rfl
          have x2 : v3.cell? ⟨ob, 7, none⟩ = some (.int .u64 X.c) := K3.out.op 7 _ rfl
          have x3 : v3.cell? ⟨ob, 8, none⟩ = some (.int .u64 X.d) := K3.out.op 8 _ rfl
          try dsimp only [Act.put]
          by_cases hE0 : E = 0
          · skip
            subst hE0
            refine wp_region_lit ?_
            refine lst_val (v := .pointer (some ⟨b, 0, none⟩)) (by kernel_rfl) ?_ ?_
            · go_simp
            simp only [Act.put, List.setIfInBounds_toArray, List.set_cons_zero, List.set_cons_succ]
            refine lst_val (v := .pointer (some ⟨ob, 2, none⟩)) (by kernel_rfl) ?_ ?_
            · go_simp
            simp only [Act.put, List.setIfInBounds_toArray, List.set_cons_zero, List.set_cons_succ]
            refine lst_val (v := .int .i64 N) (by kernel_rfl) ?_ ?_
            · exact ld_int rfl rfl k2
            simp only [Act.put, List.setIfInBounds_toArray, List.set_cons_zero, List.set_cons_succ]
            refine lst_val (v := .pointer (some ⟨ob, 5, none⟩)) (by kernel_rfl) ?_ ?_
            · go_simp
            simp only [Act.put, List.setIfInBounds_toArray, List.set_cons_zero, List.set_cons_succ]
            refine lst_val (v := .agg #[.int .u64 X.a, .int .u64 X.b, .int .u64 X.c, .int .u64 X.d]) (by kernel_rfl) ?_ ?_
            · exact ld_word rfl rfl x0 x1 x2 x3
            simp only [Act.put, List.setIfInBounds_toArray, List.set_cons_zero, List.set_cons_succ]
            refine lst_call (by kernel_rfl) (by first | (go_simp; done) | (go_simp; first | exact rfl | exact ⟨rfl, rfl⟩ | exact ⟨rfl, rfl, rfl⟩)) (ST.out) ?_
            rintro e v4 ⟨rfl, h1, hS⟩
            refine ⟨_, rfl, ?_⟩
            have H4 : Hid (KS w v4 ob b nn (if (0 : Int) = 0 then ins u N.toNat (bN X) 32 else u) oa nn oc u ⟨5, tw, N, M, P, X, Y, ba, bn, bc, t⟩) := h1
            have HS : Hid (∃ S, But S v3 v4 ∧ ∀ q, S q → q < v2.heap.size) := hS
            clear h1 hS ST k2 x0 x1 x2 x3 K3
            simp only [Act.put, List.setIfInBounds_toArray, List.set_cons_zero, List.set_cons_succ]
            refine lst_val (v := .bool true) (by kernel_rfl) ?_ ?_
            · go_simp
            simp only [Act.put, List.setIfInBounds_toArray, List.set_cons_zero, List.set_cons_succ]
            refine wpList_nil ?_
            go_upto_region 21 with fail
            obtain ⟨S, h2, h3⟩ := HS.out
            have K4 : Hid (KS w v4 ob b nn (if (0 : Int) = 0 then ins u N.toNat (bN X) 32 else u) oa nn oc u ⟨5, tw, N, M, P, X, Y, ba, bn, bc, t⟩) := H4.out
            have R4 : Hid (RowB v4 tb 32 F) := fun i hi => by
              have n1 : ¬ S tb := fun e => by have := h3 tb e; have := TB.out.1; omega
              have l1 := R3.out.lt (by omega)
              exact ⟨(h2.cell (p := ⟨tb, i, none⟩) l1 n1).trans (R3.out i hi).1, (h2.frozen (p := ⟨tb, i, none⟩) l1 n1).trans (R3.out i hi).2⟩
            clear h2 h3 K2 R3 B3 H4 HS
            rw [if_pos rfl] at K4
            have hz9 := lk_zero EE.out
            obtain ⟨q, rfl⟩ : ∃ q : Nat, N = (q : Int) := ⟨N.toNat, by omega⟩
            rw [Int.toNat_natCast] at K4
            have QL : Hid (0 < 32 → q + 32 ≤ nn) := fun _ => by omega
            have q0 : ¬ (q : Int) < 0 := by omega
            have q1 : ¬ (nn : Int) - 32 < (q : Int) := by omega
            clear hz9
            obtain ⟨u2, eu⟩ : ∃ u2, ins u q (bN X) 32 = u2 := ⟨_, rfl⟩
            rw [eu] at K4
            have EU : Hid (ins u q (bN X) 32 = u2) := eu
            clear eu
            have k2 : v4.cell? ⟨ob, 2, none⟩ = some (.int .i64 (q : Int)) := K4.out.op 2 _ rfl
            go_upto_region 23 with fail
            clear k2 q0 q1
            go_wp2
            go_loopw [10] (fun s wq => ∃ j : Nat, s = .int .i64 (j : Int) ∧ j ≤ 32 ∧ KS w wq ob b nn u2 oa nn oc (ins u q (bN X) j) ⟨5, tw, (q : Int), M, P, X, Y, ba, bn, bc, t⟩ ∧ RowB wq tb 32 F) (fun s _ => 32 - (intOf s).toNat)
            case atStart => exact ⟨0, rfl, by omega, K4.out.ownExt (fun i _ => by unfold ins; rw [if_neg (by omega)]), R4.out⟩
            case round =>
              obtain ⟨j, rfl, hj, hK, hT⟩ := hrel
              have K5 : Hid (KS w wr ob b nn u2 oa nn oc (ins u q (bN X) j) ⟨5, tw, (q : Int), M, P, X, Y, ba, bn, bc, t⟩) := hK
              have T5 : Hid (RowB wr tb 32 F) := hT
              clear hK hT K4
              by_cases cj : j < 32
              · have jI : (j : Int) < 32 := by omega
                have HJ : Hid (j + 1 ≤ 32) := cj
                have hqL := QL.out (by omega)
                obtain ⟨g5, eg5, hoc, hcl⟩ := K5.out.cells (by omega)
                obtain ⟨r, er⟩ : ∃ r : Nat, r = q + j := ⟨_, rfl⟩
                obtain ⟨o1, o2⟩ := hcl r (by omega)
                have rI : (q : Int) + (j : Int) = (r : Int) := by omega
                have rw_ : IntKind.i64.wrap (r : Int) = (r : Int) := by rw [IntKind.wrap_i64]; omega
                have rK : (r : Int) < (nn : Int) := by omega
                obtain ⟨z, ez⟩ : ∃ z : Nat, bN X j = z := ⟨_, rfl⟩
                have EZ : Hid (bN X j = z) := ez
                have sc : wr.cell? ⟨tb, j, none⟩ = some (.int .u8 (z : Int)) := by rw [← ez, ← EFF.out]; exact (T5.out j (by omega)).1
                clear ez
                have k2 : wr.cell? ⟨ob, 2, none⟩ = some (.int .i64 (q : Int)) := K5.out.op 2 _ rfl
                have N1 : Hid (KS w (wr.setCell ⟨g5, r, none⟩ (.int .u8 (z : Int))) ob b nn u2 oa nn oc (ins u q (bN X) (j + 1)) ⟨5, tw, (q : Int), M, P, X, Y, ba, bn, bc, t⟩ ∧ RowB (wr.setCell ⟨g5, r, none⟩ (.int .u8 (z : Int))) tb 32 F) := by
                  subst eg5
                  obtain ⟨s1, s2⟩ := K5.out.setO r z (by omega)
                  refine ⟨s1.ownExt (fun i _ => by show (if i = r then z else ins u q (bN X) j i) = _; rw [er, ← EZ.out]; exact ins_snoc u q (bN X) j i), ?_⟩
                  exact T5.out.set_other _ _ (TB.out.2 ⟨g5, 0, none⟩ rfl)
                subst eg5
                generalize (ins u q (bN X) j r : Nat) = old at o1
                clear hcl er hoc hqL K5 T5 EZ
                go_upto_region 26 with fail
                go_region
                all_goals go_wp2
                all_goals go_roundw
                case rel => exact ⟨j + 1, by go_num, HJ.out, by first | exact N1.out.1 | exact N1.out.1.drew, by first | exact N1.out.2 | exact N1.out.2.drew⟩
                case measure => simp [intOf]; omega
              · have jI : ¬ (j : Int) < 32 := by omega
                obtain rfl : j = 32 := by omega
                replace EF : Hid (SameB nn (ins u q (bN X) 32) u2) := fun _ _ => by rw [EU.out]
                go_upto_region 49 with fail
                have n2I : (nn : Int) ≤ 4194304 := by obtain ⟨B, x, cx, hM, _⟩ := K5.out.ex; have := hM.le; omega
                have RD : Hid (Calls Try.prog 25 #[.pointer (some ⟨b, 0, none⟩), .int .i64 0, .int .i64 (nn : Int)] wr fun e w' => ∃ vR, e = .returned (.tuple #[vR, .int .i64 0]) ∧ By w' vR nn u2 ∧ Below wr.heap.size wr w') := read_all K5.out
                go_upto_region 50 with (go_at_call 25; refine (RD.out).mono ?_; rintro e vr ⟨vR, rfl, hy, hB⟩)
                have K9 : Hid (KS w vr ob b nn u2 oa nn oc (ins u q (bN X) 32) ⟨5, tw, (q : Int), M, P, X, Y, ba, bn, bc, t⟩) := K5.out.past hB
                have q1 := conv_by vr vR nn u2 hy
                have q2 := conv_by vr _ _ _ (K9.out.by (by omega))
                rw [text_ext EF.out] at q2
                generalize textB u2 nn = tx at q1 q2
                clear hy hB RD K5
                refine wp_region_lit ?_
                refine lst_val (v := .pointer (some ⟨b, 0, none⟩)) (by kernel_rfl) ?_ ?_
                · go_simp
                simp only [Act.put, List.setIfInBounds_toArray, List.set_cons_zero, List.set_cons_succ]
                refine lst_call (by kernel_rfl) (by first | (go_simp; done) | (go_simp; first | exact rfl | exact ⟨rfl, rfl⟩ | exact ⟨rfl, rfl, rfl⟩)) (KS.lenM K9.out) ?_
                rintro e w' ⟨rfl, hw⟩
                have hw2 := hw.symm
                clear hw
                subst hw2
                refine ⟨_, rfl, ?_⟩
                simp only [Act.put, List.setIfInBounds_toArray, List.set_cons_zero, List.set_cons_succ]
                refine lst_val (v := .slice oa nn oc) (by kernel_rfl) ?_ ?_
                · go_simp
                simp only [Act.put, List.setIfInBounds_toArray, List.set_cons_zero, List.set_cons_succ]
                refine lst_val (v := .int .i64 (nn : Int)) (by kernel_rfl) ?_ ?_
                · go_simp
                simp only [Act.put, List.setIfInBounds_toArray, List.set_cons_zero, List.set_cons_succ]
                refine lst_val (v := .bool false) (by kernel_rfl) ?_ ?_
                · go_simp
                simp only [Act.put, List.setIfInBounds_toArray, List.set_cons_zero, List.set_cons_succ]
                refine lst_val (v := .bool false) (by kernel_rfl) ?_ ?_
                · go_simp
                simp only [Act.put, List.setIfInBounds_toArray, List.set_cons_zero, List.set_cons_succ]
                refine lst_val (v := .int .i64 (nn : Int)) (by kernel_rfl) ?_ ?_
                · go_simp
                simp only [Act.put, List.setIfInBounds_toArray, List.set_cons_zero, List.set_cons_succ]
                refine lst_val (v := .pointer (some ⟨b, 0, none⟩)) (by kernel_rfl) ?_ ?_
                · go_simp
                simp only [Act.put, List.setIfInBounds_toArray, List.set_cons_zero, List.set_cons_succ]
                refine lst_call (by kernel_rfl) (by first | (go_simp; done) | (go_simp; first | exact rfl | exact ⟨rfl, rfl⟩ | exact ⟨rfl, rfl, rfl⟩)) (KS.lenM K9.out) ?_
                rintro e w' ⟨rfl, hw⟩
                have hw2 := hw.symm
                clear hw
                subst hw2
                refine ⟨_, rfl, ?_⟩
                simp only [Act.put, List.setIfInBounds_toArray, List.set_cons_zero, List.set_cons_succ]
                refine lst_val (v := .bool false) (by kernel_rfl) ?_ ?_
                · go_simp
                simp only [Act.put, List.setIfInBounds_toArray, List.set_cons_zero, List.set_cons_succ]
                refine lst_val (v := .bool false) (by kernel_rfl) ?_ ?_
                · go_simp
                simp only [Act.put, List.setIfInBounds_toArray, List.set_cons_zero, List.set_cons_succ]
                refine lst_val (v := .bool false) (by kernel_rfl) ?_ ?_
                · go_simp
                simp only [Act.put, List.setIfInBounds_toArray, List.set_cons_zero, List.set_cons_succ]
                refine lst_val (v := .int .i64 0) (by kernel_rfl) ?_ ?_
                · go_simp
                simp only [Act.put, List.setIfInBounds_toArray, List.set_cons_zero, List.set_cons_succ]
                refine lst_val (v := .bool false) (by kernel_rfl) ?_ ?_
                · go_simp
                simp only [Act.put, List.setIfInBounds_toArray, List.set_cons_zero, List.set_cons_succ]
                refine lst_val (v := .bool false) (by kernel_rfl) ?_ ?_
                · go_simp
                simp only [Act.put, List.setIfInBounds_toArray, List.set_cons_zero, List.set_cons_succ]
                refine lst_val (v := .bool false) (by kernel_rfl) ?_ ?_
                · go_simp
                simp only [Act.put, List.setIfInBounds_toArray, List.set_cons_zero, List.set_cons_succ]
                refine lst_val (v := vR) (by kernel_rfl) ?_ ?_
                · go_simp
                simp only [Act.put, List.setIfInBounds_toArray, List.set_cons_zero, List.set_cons_succ]
                refine lst_val (v := .string tx) (by kernel_rfl) ?_ ?_
                · (go_simp; try (first | (rw [IntKind.wrap_u64]; omega) | (rw [IntKind.wrap_i64]; omega)))
                simp only [Act.put, List.setIfInBounds_toArray, List.set_cons_zero, List.set_cons_succ]
                refine lst_val (v := .slice oa nn oc) (by kernel_rfl) ?_ ?_
                · go_simp
                simp only [Act.put, List.setIfInBounds_toArray, List.set_cons_zero, List.set_cons_succ]
                refine lst_val (v := .string tx) (by kernel_rfl) ?_ ?_
                · (go_simp; try (first | (rw [IntKind.wrap_u64]; omega) | (rw [IntKind.wrap_i64]; omega)))
                simp only [Act.put, List.setIfInBounds_toArray, List.set_cons_zero, List.set_cons_succ]
                refine lst_val (v := .bool false) (by kernel_rfl) ?_ ?_
                · go_simp
                simp only [Act.put, List.setIfInBounds_toArray, List.set_cons_zero, List.set_cons_succ]
                refine lst_val (v := .bool false) (by kernel_rfl) ?_ ?_
                · go_simp
                simp only [Act.put, List.setIfInBounds_toArray, List.set_cons_zero, List.set_cons_succ]
                refine wpList_nil ?_
                clear q1 q2
                go_wp2
                go_roundw
                case rel => exact ⟨i + 1, nn, u2, oa, oc, rfl, by go_num, i7.out, K9.out.kr EF.out MN.out⟩
                case measure => simp [intOf]; omega
          · skip
            have HE : Hid (¬ E = 0) := hE0
            clear hE0
            refine wp_region_lit ?_
            refine lst_val (v := .pointer (some ⟨b, 0, none⟩)) (by kernel_rfl) ?_ ?_
            · go_simp
            simp only [Act.put, List.setIfInBounds_toArray, List.set_cons_zero, List.set_cons_succ]
            refine lst_val (v := .pointer (some ⟨ob, 2, none⟩)) (by kernel_rfl) ?_ ?_
            · go_simp
            simp only [Act.put, List.setIfInBounds_toArray, List.set_cons_zero, List.set_cons_succ]
            refine lst_val (v := .int .i64 N) (by kernel_rfl) ?_ ?_
            · exact ld_int rfl rfl k2
            simp only [Act.put, List.setIfInBounds_toArray, List.set_cons_zero, List.set_cons_succ]
            refine lst_val (v := .pointer (some ⟨ob, 5, none⟩)) (by kernel_rfl) ?_ ?_
            · go_simp
            simp only [Act.put, List.setIfInBounds_toArray, List.set_cons_zero, List.set_cons_succ]
            refine lst_val (v := .agg #[.int .u64 X.a, .int .u64 X.b, .int .u64 X.c, .int .u64 X.d]) (by kernel_rfl) ?_ ?_
            · exact ld_word rfl rfl x0 x1 x2 x3
            simp only [Act.put, List.setIfInBounds_toArray, List.set_cons_zero, List.set_cons_succ]
            refine lst_call (by kernel_rfl) (by first | (go_simp; done) | (go_simp; first | exact rfl | exact ⟨rfl, rfl⟩ | exact ⟨rfl, rfl, rfl⟩)) (ST.out) ?_
            rintro e v4 ⟨rfl, h1, hS⟩
            refine ⟨_, rfl, ?_⟩
            have H4 : Hid (KS w v4 ob b nn (if E = 0 then ins u N.toNat (bN X) 32 else u) oa nn oc u ⟨5, tw, N, M, P, X, Y, ba, bn, bc, t⟩) := h1
            have HS : Hid (∃ S, But S v3 v4 ∧ ∀ q, S q → q < v2.heap.size) := hS
            clear h1 hS ST k2 x0 x1 x2 x3 K3
            simp only [Act.put, List.setIfInBounds_toArray, List.set_cons_zero, List.set_cons_succ]
            refine lst_val (v := .bool false) (by kernel_rfl) ?_ ?_
            · have g9 : (E == 0) = false := by have := HE.out; simpa using this
              go_simp
            simp only [Act.put, List.setIfInBounds_toArray, List.set_cons_zero, List.set_cons_succ]
            refine wpList_nil ?_
            rw [if_neg HE.out] at H4
            have K4 : Hid (KS w v4 ob b nn u oa nn oc u ⟨5, tw, N, M, P, X, Y, ba, bn, bc, t⟩) := H4.out
            clear H4 HS K2 R3 B3
            go_upto_region 49 with fail
            have n2I : (nn : Int) ≤ 4194304 := by obtain ⟨B, x, cx, hM, _⟩ := K4.out.ex; have := hM.le; omega
            have RD : Hid (Calls Try.prog 25 #[.pointer (some ⟨b, 0, none⟩), .int .i64 0, .int .i64 (nn : Int)] v4 fun e w' => ∃ vR, e = .returned (.tuple #[vR, .int .i64 0]) ∧ By w' vR nn u ∧ Below v4.heap.size v4 w') := read_all K4.out
            go_upto_region 50 with (go_at_call 25; refine (RD.out).mono ?_; rintro e vr ⟨vR, rfl, hy, hB⟩)
            have K9 : Hid (KS w vr ob b nn u oa nn oc u ⟨5, tw, N, M, P, X, Y, ba, bn, bc, t⟩) := K4.out.past hB
            have q1 := conv_by vr vR nn u hy
            have q2 := conv_by vr _ _ _ (K9.out.by (by omega))
            rw [text_ext EF.out] at q2
            generalize textB u nn = tx at q1 q2
            clear hy hB RD K4
            refine wp_region_lit ?_
            refine lst_val (v := .pointer (some ⟨b, 0, none⟩)) (by kernel_rfl) ?_ ?_
            · go_simp
            simp only [Act.put, List.setIfInBounds_toArray, List.set_cons_zero, List.set_cons_succ]
            refine lst_call (by kernel_rfl) (by first | (go_simp; done) | (go_simp; first | exact rfl | exact ⟨rfl, rfl⟩ | exact ⟨rfl, rfl, rfl⟩)) (KS.lenM K9.out) ?_
            rintro e w' ⟨rfl, hw⟩
            have hw2 := hw.symm
            clear hw
            subst hw2
            refine ⟨_, rfl, ?_⟩
            simp only [Act.put, List.setIfInBounds_toArray, List.set_cons_zero, List.set_cons_succ]
            refine lst_val (v := .slice oa nn oc) (by kernel_rfl) ?_ ?_
            · go_simp
            simp only [Act.put, List.setIfInBounds_toArray, List.set_cons_zero, List.set_cons_succ]
            refine lst_val (v := .int .i64 (nn : Int)) (by kernel_rfl) ?_ ?_
            · go_simp
            simp only [Act.put, List.setIfInBounds_toArray, List.set_cons_zero, List.set_cons_succ]
            refine lst_val (v := .bool false) (by kernel_rfl) ?_ ?_
            · go_simp
            simp only [Act.put, List.setIfInBounds_toArray, List.set_cons_zero, List.set_cons_succ]
            refine lst_val (v := .bool false) (by kernel_rfl) ?_ ?_
            · go_simp
            simp only [Act.put, List.setIfInBounds_toArray, List.set_cons_zero, List.set_cons_succ]
            refine lst_val (v := .int .i64 (nn : Int)) (by kernel_rfl) ?_ ?_
            · go_simp
            simp only [Act.put, List.setIfInBounds_toArray, List.set_cons_zero, List.set_cons_succ]
            refine lst_val (v := .pointer (some ⟨b, 0, none⟩)) (by kernel_rfl) ?_ ?_
            · go_simp
            simp only [Act.put, List.setIfInBounds_toArray, List.set_cons_zero, List.set_cons_succ]
            refine lst_call (by kernel_rfl) (by first | (go_simp; done) | (go_simp; first | exact rfl | exact ⟨rfl, rfl⟩ | exact ⟨rfl, rfl, rfl⟩)) (KS.lenM K9.out) ?_
            rintro e w' ⟨rfl, hw⟩
            have hw2 := hw.symm
            clear hw
            subst hw2
            refine ⟨_, rfl, ?_⟩
            simp only [Act.put, List.setIfInBounds_toArray, List.set_cons_zero, List.set_cons_succ]
            refine lst_val (v := .bool false) (by kernel_rfl) ?_ ?_
            · go_simp
            simp only [Act.put, List.setIfInBounds_toArray, List.set_cons_zero, List.set_cons_succ]
            refine lst_val (v := .bool false) (by kernel_rfl) ?_ ?_
            · go_simp
            simp only [Act.put, List.setIfInBounds_toArray, List.set_cons_zero, List.set_cons_succ]
            refine lst_val (v := .bool false) (by kernel_rfl) ?_ ?_
            · go_simp
            simp only [Act.put, List.setIfInBounds_toArray, List.set_cons_zero, List.set_cons_succ]
            refine lst_val (v := .int .i64 0) (by kernel_rfl) ?_ ?_
            · go_simp
            simp only [Act.put, List.setIfInBounds_toArray, List.set_cons_zero, List.set_cons_succ]
            refine lst_val (v := .bool false) (by kernel_rfl) ?_ ?_
            · go_simp
            simp only [Act.put, List.setIfInBounds_toArray, List.set_cons_zero, List.set_cons_succ]
            refine lst_val (v := .bool false) (by kernel_rfl) ?_ ?_
            · go_simp
            simp only [Act.put, List.setIfInBounds_toArray, List.set_cons_zero, List.set_cons_succ]
            refine lst_val (v := .bool false) (by kernel_rfl) ?_ ?_
            · go_simp
            simp only [Act.put, List.setIfInBounds_toArray, List.set_cons_zero, List.set_cons_succ]
            refine lst_val (v := vR) (by kernel_rfl) ?_ ?_
            · go_simp
            simp only [Act.put, List.setIfInBounds_toArray, List.set_cons_zero, List.set_cons_succ]
            refine lst_val (v := .string tx) (by kernel_rfl) ?_ ?_
            · (go_simp; try (first | (rw [IntKind.wrap_u64]; omega) | (rw [IntKind.wrap_i64]; omega)))
            simp only [Act.put, List.setIfInBounds_toArray, List.set_cons_zero, List.set_cons_succ]
            refine lst_val (v := .slice oa nn oc) (by kernel_rfl) ?_ ?_
            · go_simp
            simp only [Act.put, List.setIfInBounds_toArray, List.set_cons_zero, List.set_cons_succ]
            refine lst_val (v := .string tx) (by kernel_rfl) ?_ ?_
            · (go_simp; try (first | (rw [IntKind.wrap_u64]; omega) | (rw [IntKind.wrap_i64]; omega)))
            simp only [Act.put, List.setIfInBounds_toArray, List.set_cons_zero, List.set_cons_succ]
            refine lst_val (v := .bool false) (by kernel_rfl) ?_ ?_
            · go_simp
            simp only [Act.put, List.setIfInBounds_toArray, List.set_cons_zero, List.set_cons_succ]
            refine lst_val (v := .bool false) (by kernel_rfl) ?_ ?_
            · go_simp
            simp only [Act.put, List.setIfInBounds_toArray, List.set_cons_zero, List.set_cons_succ]
            refine wpList_nil ?_
            clear q1 q2
            go_wp2
            go_roundw
            case rel => exact ⟨i + 1, nn, u, oa, oc, rfl, by go_num, i7.out, K9.out.kr EF.out MN.out⟩
            case measure => simp [intOf]; omega
      by_cases e6 : kd = 6
      · as_aux_lemma =>
          subst e6
          have k0 : v.cell? ⟨ob, 0, none⟩ = some (.int .i64 6) := K1.out.op 0 _ rfl
          have k2 : v.cell? ⟨ob, 2, none⟩ = some (.int .i64 N) := K1.out.op 2 _ rfl
          have k3 : v.cell? ⟨ob, 3, none⟩ = some (.int .i64 M) := K1.out.op 3 _ rfl
          go_upto_region 28 with fail
          obtain ⟨z, ez, hz⟩ : ∃ z : Nat, IntKind.u8.wrap M = (z : Int) ∧ z < 256 := ⟨(IntKind.u8.wrap M).toNat, by rw [IntKind.wrap_u8]; omega, by rw [IntKind.wrap_u8]; omega⟩
          obtain ⟨E, eE⟩ : ∃ E, lk nn N 1 = E := ⟨_, rfl⟩
          have EE : Hid (lk nn N 1 = E) := eE
          clear eE
          have ST : Hid (Calls Try.prog 23 #[.pointer (some ⟨b, 0, none⟩), .int .i64 N, .int .u8 (z : Int)] v fun e w' => e = .returned (.int .i64 E) ∧ KS w w' ob b nn (if E = 0 then ins u N.toNat (fun _ => z) 1 else u) oa nn oc u ⟨6, tw, N, M, P, X, Y, ba, bn, bc, t⟩) := by
            have h := K1.out.store8M N hN z hz
            rw [EE.out] at h
            exact h
          by_cases hE0 : E = 0
          · skip
            subst hE0
            go_upto_region 29 with (go_at_call 23; refine (ST.out).mono ?_; rintro e v2 ⟨rfl, h1⟩)
            have K2 : Hid (KS w v2 ob b nn (if (0 : Int) = 0 then ins u N.toNat (fun _ => z) 1 else u) oa nn oc u ⟨6, tw, N, M, P, X, Y, ba, bn, bc, t⟩) := h1
            clear h1 K1 ST k0 k2 k3
            rw [if_pos rfl] at K2
            have hz9 := lk_zero EE.out
            obtain ⟨q, rfl⟩ : ∃ q : Nat, N = (q : Int) := ⟨N.toNat, by omega⟩
            rw [Int.toNat_natCast] at K2
            have qK : (q : Int) < (nn : Int) := by omega
            have q0 : ¬ (q : Int) < 0 := by omega
            have q1 : ¬ (nn : Int) ≤ (q : Int) := by omega
            clear hz9
            obtain ⟨g5, eg5, hoc, hcl⟩ := K2.out.cells (by omega)
            obtain ⟨o1, o2⟩ := hcl q (by omega)
            have k2 : v2.cell? ⟨ob, 2, none⟩ = some (.int .i64 (q : Int)) := K2.out.op 2 _ rfl
            have k3 : v2.cell? ⟨ob, 3, none⟩ = some (.int .i64 M) := K2.out.op 3 _ rfl
            have K3 : Hid (KS w (v2.setCell ⟨g5, q, none⟩ (.int .u8 (z : Int))) ob b nn (ins u q (fun _ => z) 1) oa nn oc (fun j => if j = q then z else u j) ⟨6, tw, (q : Int), M, P, X, Y, ba, bn, bc, t⟩) := by subst eg5; exact (K2.out.setO q z (by omega)).1
            subst eg5
            clear hcl hoc K2
            generalize (u q : Int) = old at o1
            go_upto_region 49 with fail
            clear k2 k3 o1 o2 q0 q1
            generalize v2.setCell ⟨g5, q, none⟩ (.int .u8 (z : Int)) = v3 at K3 ⊢
            replace EF : Hid (SameB nn (fun j => if j = q then z else u j) (ins u q (fun _ => z) 1)) := fun j _ => by
              show (if j = q then z else u j) = ins u q (fun _ => z) 1 j
              unfold ins
              by_cases e : j = q
              · rw [if_pos e, if_pos (by omega)]
              · rw [if_neg e, if_neg (by omega)]
            have n2I : (nn : Int) ≤ 4194304 := by obtain ⟨B, x, cx, hM, _⟩ := K3.out.ex; have := hM.le; omega
            have RD : Hid (Calls Try.prog 25 #[.pointer (some ⟨b, 0, none⟩), .int .i64 0, .int .i64 (nn : Int)] v3 fun e w' => ∃ vR, e = .returned (.tuple #[vR, .int .i64 0]) ∧ By w' vR nn (ins u q (fun _ => z) 1) ∧ Below v3.heap.size v3 w') := read_all K3.out
            go_upto_region 50 with (go_at_call 25; refine (RD.out).mono ?_; rintro e vr ⟨vR, rfl, hy, hB⟩)
            have K9 : Hid (KS w vr ob b nn (ins u q (fun _ => z) 1) (some ⟨g5, 0, none⟩) nn oc (fun j => if j = q then z else u j) ⟨6, tw, (q : Int), M, P, X, Y, ba, bn, bc, t⟩) := K3.out.past hB
            have q1 := conv_by vr vR nn (ins u q (fun _ => z) 1) hy
            have q2 := conv_by vr _ _ _ (K9.out.by (by omega))
            rw [text_ext EF.out] at q2
            generalize textB (ins u q (fun _ => z) 1) nn = tx at q1 q2
            clear hy hB RD K3
            refine wp_region_lit ?_
            refine lst_val (v := .pointer (some ⟨b, 0, none⟩)) (by kernel_rfl) ?_ ?_
            · go_simp
            simp only [Act.put, List.setIfInBounds_toArray, List.set_cons_zero, List.set_cons_succ]
            refine lst_call (by kernel_rfl) (by first | (go_simp; done) | (go_simp; first | exact rfl | exact ⟨rfl, rfl⟩ | exact ⟨rfl, rfl, rfl⟩)) (KS.lenM K9.out) ?_
            rintro e w' ⟨rfl, hw⟩
            have hw2 := hw.symm
            clear hw
            subst hw2
            refine ⟨_, rfl, ?_⟩
            simp only [Act.put, List.setIfInBounds_toArray, List.set_cons_zero, List.set_cons_succ]
            refine lst_val (v := .slice (some ⟨g5, 0, none⟩) nn oc) (by kernel_rfl) ?_ ?_
            · go_simp
            simp only [Act.put, List.setIfInBounds_toArray, List.set_cons_zero, List.set_cons_succ]
            refine lst_val (v := .int .i64 (nn : Int)) (by kernel_rfl) ?_ ?_
            · go_simp
            simp only [Act.put, List.setIfInBounds_toArray, List.set_cons_zero, List.set_cons_succ]
            refine lst_val (v := .bool false) (by kernel_rfl) ?_ ?_
            · go_simp
            simp only [Act.put, List.setIfInBounds_toArray, List.set_cons_zero, List.set_cons_succ]
            refine lst_val (v := .bool false) (by kernel_rfl) ?_ ?_
            · go_simp
            simp only [Act.put, List.setIfInBounds_toArray, List.set_cons_zero, List.set_cons_succ]
            refine lst_val (v := .int .i64 (nn : Int)) (by kernel_rfl) ?_ ?_
            · go_simp
            simp only [Act.put, List.setIfInBounds_toArray, List.set_cons_zero, List.set_cons_succ]
            refine lst_val (v := .pointer (some ⟨b, 0, none⟩)) (by kernel_rfl) ?_ ?_
            · go_simp
            simp only [Act.put, List.setIfInBounds_toArray, List.set_cons_zero, List.set_cons_succ]
            refine lst_call (by kernel_rfl) (by first | (go_simp; done) | (go_simp; first | exact rfl | exact ⟨rfl, rfl⟩ | exact ⟨rfl, rfl, rfl⟩)) (KS.lenM K9.out) ?_
            rintro e w' ⟨rfl, hw⟩
            have hw2 := hw.symm
            clear hw
            subst hw2
            refine ⟨_, rfl, ?_⟩
            simp only [Act.put, List.setIfInBounds_toArray, List.set_cons_zero, List.set_cons_succ]
            refine lst_val (v := .bool false) (by kernel_rfl) ?_ ?_
            · go_simp
            simp only [Act.put, List.setIfInBounds_toArray, List.set_cons_zero, List.set_cons_succ]
            refine lst_val (v := .bool false) (by kernel_rfl) ?_ ?_
            · go_simp
            simp only [Act.put, List.setIfInBounds_toArray, List.set_cons_zero, List.set_cons_succ]
            refine lst_val (v := .bool false) (by kernel_rfl) ?_ ?_
            · go_simp
            simp only [Act.put, List.setIfInBounds_toArray, List.set_cons_zero, List.set_cons_succ]
            refine lst_val (v := .int .i64 0) (by kernel_rfl) ?_ ?_
            · go_simp
            simp only [Act.put, List.setIfInBounds_toArray, List.set_cons_zero, List.set_cons_succ]
            refine lst_val (v := .bool false) (by kernel_rfl) ?_ ?_
            · go_simp
            simp only [Act.put, List.setIfInBounds_toArray, List.set_cons_zero, List.set_cons_succ]
            refine lst_val (v := .bool false) (by kernel_rfl) ?_ ?_
            · go_simp
            simp only [Act.put, List.setIfInBounds_toArray, List.set_cons_zero, List.set_cons_succ]
            refine lst_val (v := .bool false) (by kernel_rfl) ?_ ?_
            · go_simp
            simp only [Act.put, List.setIfInBounds_toArray, List.set_cons_zero, List.set_cons_succ]
            refine lst_val (v := vR) (by kernel_rfl) ?_ ?_
            · go_simp
            simp only [Act.put, List.setIfInBounds_toArray, List.set_cons_zero, List.set_cons_succ]
            refine lst_val (v := .string tx) (by kernel_rfl) ?_ ?_
            · (go_simp; try (first | (rw [IntKind.wrap_u64]; omega) | (rw [IntKind.wrap_i64]; omega)))
            simp only [Act.put, List.setIfInBounds_toArray, List.set_cons_zero, List.set_cons_succ]
            refine lst_val (v := .slice (some ⟨g5, 0, none⟩) nn oc) (by kernel_rfl) ?_ ?_
            · go_simp
            simp only [Act.put, List.setIfInBounds_toArray, List.set_cons_zero, List.set_cons_succ]
            refine lst_val (v := .string tx) (by kernel_rfl) ?_ ?_
            · (go_simp; try (first | (rw [IntKind.wrap_u64]; omega) | (rw [IntKind.wrap_i64]; omega)))
            simp only [Act.put, List.setIfInBounds_toArray, List.set_cons_zero, List.set_cons_succ]
            refine lst_val (v := .bool false) (by kernel_rfl) ?_ ?_
            · go_simp
            simp only [Act.put, List.setIfInBounds_toArray, List.set_cons_zero, List.set_cons_succ]
            refine lst_val (v := .bool false) (by kernel_rfl) ?_ ?_
            · go_simp
            simp only [Act.put, List.setIfInBounds_toArray, List.set_cons_zero, List.set_cons_succ]
            refine wpList_nil ?_
            clear q1 q2
            go_wp2
            go_roundw
            case rel => exact ⟨i + 1, nn, (ins u q (fun _ => z) 1), (some ⟨g5, 0, none⟩), oc, rfl, by go_num, i7.out, K9.out.kr EF.out MN.out⟩
            case measure => simp [intOf]; omega
          · skip
            have g9 : (E == 0) = false := by simpa using hE0
            go_upto_region 49 with (go_at_call 23; refine (ST.out).mono ?_; rintro e v2 ⟨rfl, h1⟩)
            have K2 : Hid (KS w v2 ob b nn (if E = 0 then ins u N.toNat (fun _ => z) 1 else u) oa nn oc u ⟨6, tw, N, M, P, X, Y, ba, bn, bc, t⟩) := h1
            clear h1 K1 ST k0 k2 k3
            rw [if_neg hE0] at K2
            clear g9
            have n2I : (nn : Int) ≤ 4194304 := by obtain ⟨B, x, cx, hM, _⟩ := K2.out.ex; have := hM.le; omega
            have RD : Hid (Calls Try.prog 25 #[.pointer (some ⟨b, 0, none⟩), .int .i64 0, .int .i64 (nn : Int)] v2 fun e w' => ∃ vR, e = .returned (.tuple #[vR, .int .i64 0]) ∧ By w' vR nn u ∧ Below v2.heap.size v2 w') := read_all K2.out
            go_upto_region 50 with (go_at_call 25; refine (RD.out).mono ?_; rintro e vr ⟨vR, rfl, hy, hB⟩)
            have K9 : Hid (KS w vr ob b nn u oa nn oc u ⟨6, tw, N, M, P, X, Y, ba, bn, bc, t⟩) := K2.out.past hB
            have q1 := conv_by vr vR nn u hy
            have q2 := conv_by vr _ _ _ (K9.out.by (by omega))
            rw [text_ext EF.out] at q2
            generalize textB u nn = tx at q1 q2
            clear hy hB RD K2
            refine wp_region_lit ?_
            refine lst_val (v := .pointer (some ⟨b, 0, none⟩)) (by kernel_rfl) ?_ ?_
            · go_simp
            simp only [Act.put, List.setIfInBounds_toArray, List.set_cons_zero, List.set_cons_succ]
            refine lst_call (by kernel_rfl) (by first | (go_simp; done) | (go_simp; first | exact rfl | exact ⟨rfl, rfl⟩ | exact ⟨rfl, rfl, rfl⟩)) (KS.lenM K9.out) ?_
            rintro e w' ⟨rfl, hw⟩
            have hw2 := hw.symm
            clear hw
            subst hw2
            refine ⟨_, rfl, ?_⟩
            simp only [Act.put, List.setIfInBounds_toArray, List.set_cons_zero, List.set_cons_succ]
            refine lst_val (v := .slice oa nn oc) (by kernel_rfl) ?_ ?_
            · go_simp
            simp only [Act.put, List.setIfInBounds_toArray, List.set_cons_zero, List.set_cons_succ]
            refine lst_val (v := .int .i64 (nn : Int)) (by kernel_rfl) ?_ ?_
            · go_simp
            simp only [Act.put, List.setIfInBounds_toArray, List.set_cons_zero, List.set_cons_succ]
            refine lst_val (v := .bool false) (by kernel_rfl) ?_ ?_
            · go_simp
            simp only [Act.put, List.setIfInBounds_toArray, List.set_cons_zero, List.set_cons_succ]
            refine lst_val (v := .bool false) (by kernel_rfl) ?_ ?_
            · go_simp
            simp only [Act.put, List.setIfInBounds_toArray, List.set_cons_zero, List.set_cons_succ]
            refine lst_val (v := .int .i64 (nn : Int)) (by kernel_rfl) ?_ ?_
            · go_simp
            simp only [Act.put, List.setIfInBounds_toArray, List.set_cons_zero, List.set_cons_succ]
            refine lst_val (v := .pointer (some ⟨b, 0, none⟩)) (by kernel_rfl) ?_ ?_
            · go_simp
            simp only [Act.put, List.setIfInBounds_toArray, List.set_cons_zero, List.set_cons_succ]
            refine lst_call (by kernel_rfl) (by first | (go_simp; done) | (go_simp; first | exact rfl | exact ⟨rfl, rfl⟩ | exact ⟨rfl, rfl, rfl⟩)) (KS.lenM K9.out) ?_
            rintro e w' ⟨rfl, hw⟩
            have hw2 := hw.symm
            clear hw
            subst hw2
            refine ⟨_, rfl, ?_⟩
            simp only [Act.put, List.setIfInBounds_toArray, List.set_cons_zero, List.set_cons_succ]
            refine lst_val (v := .bool false) (by kernel_rfl) ?_ ?_
            · go_simp
            simp only [Act.put, List.setIfInBounds_toArray, List.set_cons_zero, List.set_cons_succ]
            refine lst_val (v := .bool false) (by kernel_rfl) ?_ ?_
            · go_simp
            simp only [Act.put, List.setIfInBounds_toArray, List.set_cons_zero, List.set_cons_succ]
            refine lst_val (v := .bool false) (by kernel_rfl) ?_ ?_
            · go_simp
            simp only [Act.put, List.setIfInBounds_toArray, List.set_cons_zero, List.set_cons_succ]
            refine lst_val (v := .int .i64 0) (by kernel_rfl) ?_ ?_
            · go_simp
            simp only [Act.put, List.setIfInBounds_toArray, List.set_cons_zero, List.set_cons_succ]
            refine lst_val (v := .bool false) (by kernel_rfl) ?_ ?_
            · go_simp
            simp only [Act.put, List.setIfInBounds_toArray, List.set_cons_zero, List.set_cons_succ]
            refine lst_val (v := .bool false) (by kernel_rfl) ?_ ?_
            · go_simp
            simp only [Act.put, List.setIfInBounds_toArray, List.set_cons_zero, List.set_cons_succ]
            refine lst_val (v := .bool false) (by kernel_rfl) ?_ ?_
            · go_simp
            simp only [Act.put, List.setIfInBounds_toArray, List.set_cons_zero, List.set_cons_succ]
            refine lst_val (v := vR) (by kernel_rfl) ?_ ?_
            · go_simp
            simp only [Act.put, List.setIfInBounds_toArray, List.set_cons_zero, List.set_cons_succ]
            refine lst_val (v := .string tx) (by kernel_rfl) ?_ ?_
            · (go_simp; try (first | (rw [IntKind.wrap_u64]; omega) | (rw [IntKind.wrap_i64]; omega)))
            simp only [Act.put, List.setIfInBounds_toArray, List.set_cons_zero, List.set_cons_succ]
            refine lst_val (v := .slice oa nn oc) (by kernel_rfl) ?_ ?_
            · go_simp
            simp only [Act.put, List.setIfInBounds_toArray, List.set_cons_zero, List.set_cons_succ]
            refine lst_val (v := .string tx) (by kernel_rfl) ?_ ?_
            · (go_simp; try (first | (rw [IntKind.wrap_u64]; omega) | (rw [IntKind.wrap_i64]; omega)))
            simp only [Act.put, List.setIfInBounds_toArray, List.set_cons_zero, List.set_cons_succ]
            refine lst_val (v := .bool false) (by kernel_rfl) ?_ ?_
            · go_simp
            simp only [Act.put, List.setIfInBounds_toArray, List.set_cons_zero, List.set_cons_succ]
            refine lst_val (v := .bool false) (by kernel_rfl) ?_ ?_
            · go_simp
            simp only [Act.put, List.setIfInBounds_toArray, List.set_cons_zero, List.set_cons_succ]
            refine wpList_nil ?_
            clear q1 q2
            go_wp2
            go_roundw
            case rel => exact ⟨i + 1, nn, u, oa, oc, rfl, by go_num, i7.out, K9.out.kr EF.out MN.out⟩
            case measure => simp [intOf]; omega
      by_cases e8 : kd = 8
      · as_aux_lemma =>
          subst e8
          have k0 : v.cell? ⟨ob, 0, none⟩ = some (.int .i64 8) := K1.out.op 0 _ rfl
          have k2 : v.cell? ⟨ob, 2, none⟩ = some (.int .i64 N) := K1.out.op 2 _ rfl
          have vb : v.cell? ⟨ob, 13, none⟩ = some (.slice ba bn bc) := K1.out.op 13 _ rfl
          go_upto_region 33 with fail
          obtain ⟨E, eE⟩ : ∃ E, lk nn N (bn : Int) = E := ⟨_, rfl⟩
          have EE : Hid (lk nn N (bn : Int) = E) := eE
          clear eE
          have bnI : (bn : Int) ≤ 1152921504606846976 := by obtain ⟨_, _, _, _, h9, _⟩ := HB.out.1; omega
          have ST : Hid (Calls Try.prog 24 #[.pointer (some ⟨b, 0, none⟩), .int .i64 N, .slice ba bn bc] v fun e w' => e = .returned (.int .i64 E) ∧ KS w w' ob b nn (if E = 0 then ins u N.toNat t bn else u) oa nn oc u ⟨8, tw, N, M, P, X, Y, ba, bn, bc, t⟩) := by
            have h := K1.out.writeM N hN _ bn t (HB.out.1.past K1.out.bel) HB.out.2.1
            rw [EE.out] at h
            exact h
          by_cases hE0 : E = 0
          · skip
            subst hE0
            go_upto_region 34 with (go_at_call 24; refine (ST.out).mono ?_; rintro e v2 ⟨rfl, h1⟩)
            have K4 : Hid (KS w v2 ob b nn (if (0 : Int) = 0 then ins u N.toNat t bn else u) oa nn oc u ⟨8, tw, N, M, P, X, Y, ba, bn, bc, t⟩) := h1
            clear h1 K1 ST k0 k2 vb
            rw [if_pos rfl] at K4
            have hz9 := lk_zero EE.out
            obtain ⟨q, rfl⟩ : ∃ q : Nat, N = (q : Int) := ⟨N.toNat, by omega⟩
            rw [Int.toNat_natCast] at K4
            have QL : Hid (0 < bn → q + bn ≤ nn) := fun _ => by omega
            have q0 : ¬ (q : Int) < 0 := by omega
            obtain ⟨u2, eu⟩ : ∃ u2, ins u q t bn = u2 := ⟨_, rfl⟩
            rw [eu] at K4
            have EU : Hid (ins u q t bn = u2) := eu
            clear eu hz9
            by_cases b0 : bn = 0
            · have b1 : ¬ (0 : Int) < (bn : Int) := by omega
              clear b0
              have k2 : v2.cell? ⟨ob, 2, none⟩ = some (.int .i64 (q : Int)) := K4.out.op 2 _ rfl
              have vb : v2.cell? ⟨ob, 13, none⟩ = some (.slice ba bn bc) := K4.out.op 13 _ rfl
              go_upto_region 36 with fail
              clear k2 vb q0
              go_wp2
              go_loopw [11] (fun s wq => ∃ j : Nat, s = .int .i64 (j : Int) ∧ j ≤ bn ∧ KS w wq ob b nn u2 oa nn oc (ins u q t j) ⟨8, tw, (q : Int), M, P, X, Y, ba, bn, bc, t⟩ ∧ Below w.heap.size w wq) (fun s _ => bn - (intOf s).toNat)
              case atStart => exact ⟨0, rfl, by omega, K4.out.ownExt (fun i _ => by unfold ins; rw [if_neg (by omega)]), K4.out.bel⟩
              case round =>
                obtain ⟨j, rfl, hj, hK, hT⟩ := hrel
                have K5 : Hid (KS w wr ob b nn u2 oa nn oc (ins u q t j) ⟨8, tw, (q : Int), M, P, X, Y, ba, bn, bc, t⟩) := hK
                have T5 : Hid (Below w.heap.size w wr) := hT
                clear hK hT K4
                by_cases cj : j < bn
                · exact absurd cj (by omega)
                · have jI : ¬ (j : Int) < (bn : Int) := by omega
                  have vb : wr.cell? ⟨ob, 13, none⟩ = some (.slice ba bn bc) := K5.out.op 13 _ rfl
                  obtain rfl : j = bn := by omega
                  replace EF : Hid (SameB nn (ins u q t j) u2) := fun _ _ => by rw [EU.out]
                  go_upto_region 49 with fail
                  have n2I : (nn : Int) ≤ 4194304 := by obtain ⟨B, x, cx, hM, _⟩ := K5.out.ex; have := hM.le; omega
                  have RD : Hid (Calls Try.prog 25 #[.pointer (some ⟨b, 0, none⟩), .int .i64 0, .int .i64 (nn : Int)] wr fun e w' => ∃ vR, e = .returned (.tuple #[vR, .int .i64 0]) ∧ By w' vR nn u2 ∧ Below wr.heap.size wr w') := read_all K5.out
                  go_upto_region 50 with (go_at_call 25; refine (RD.out).mono ?_; rintro e vr ⟨vR, rfl, hy, hB⟩)
                  have K9 : Hid (KS w vr ob b nn u2 oa nn oc (ins u q t j) ⟨8, tw, (q : Int), M, P, X, Y, ba, j, bc, t⟩) := K5.out.past hB
                  have q1 := conv_by vr vR nn u2 hy
                  have q2 := conv_by vr _ _ _ (K9.out.by (by omega))
                  rw [text_ext EF.out] at q2
                  generalize textB u2 nn = tx at q1 q2
                  clear hy hB RD K5
                  refine wp_region_lit ?_
                  refine lst_val (v := .pointer (some ⟨b, 0, none⟩)) (by kernel_rfl) ?_ ?_
                  · go_simp
                  simp only [Act.put, List.setIfInBounds_toArray, List.set_cons_zero, List.set_cons_succ]
                  refine lst_call (by kernel_rfl) (by first | (go_simp; done) | (go_simp; first | exact rfl | exact ⟨rfl, rfl⟩ | exact ⟨rfl, rfl, rfl⟩)) (KS.lenM K9.out) ?_
                  rintro e w' ⟨rfl, hw⟩
                  have hw2 := hw.symm
                  clear hw
                  subst hw2
                  refine ⟨_, rfl, ?_⟩
                  simp only [Act.put, List.setIfInBounds_toArray, List.set_cons_zero, List.set_cons_succ]
                  refine lst_val (v := .slice oa nn oc) (by kernel_rfl) ?_ ?_
                  · go_simp
                  simp only [Act.put, List.setIfInBounds_toArray, List.set_cons_zero, List.set_cons_succ]
                  refine lst_val (v := .int .i64 (nn : Int)) (by kernel_rfl) ?_ ?_
                  · go_simp
                  simp only [Act.put, List.setIfInBounds_toArray, List.set_cons_zero, List.set_cons_succ]
                  refine lst_val (v := .bool false) (by kernel_rfl) ?_ ?_
                  · go_simp
                  simp only [Act.put, List.setIfInBounds_toArray, List.set_cons_zero, List.set_cons_succ]
                  refine lst_val (v := .bool false) (by kernel_rfl) ?_ ?_
                  · go_simp
                  simp only [Act.put, List.setIfInBounds_toArray, List.set_cons_zero, List.set_cons_succ]
                  refine lst_val (v := .int .i64 (nn : Int)) (by kernel_rfl) ?_ ?_
                  · go_simp
                  simp only [Act.put, List.setIfInBounds_toArray, List.set_cons_zero, List.set_cons_succ]
                  refine lst_val (v := .pointer (some ⟨b, 0, none⟩)) (by kernel_rfl) ?_ ?_
                  · go_simp
                  simp only [Act.put, List.setIfInBounds_toArray, List.set_cons_zero, List.set_cons_succ]
                  refine lst_call (by kernel_rfl) (by first | (go_simp; done) | (go_simp; first | exact rfl | exact ⟨rfl, rfl⟩ | exact ⟨rfl, rfl, rfl⟩)) (KS.lenM K9.out) ?_
                  rintro e w' ⟨rfl, hw⟩
                  have hw2 := hw.symm
                  clear hw
                  subst hw2
                  refine ⟨_, rfl, ?_⟩
                  simp only [Act.put, List.setIfInBounds_toArray, List.set_cons_zero, List.set_cons_succ]
                  refine lst_val (v := .bool false) (by kernel_rfl) ?_ ?_
                  · go_simp
                  simp only [Act.put, List.setIfInBounds_toArray, List.set_cons_zero, List.set_cons_succ]
                  refine lst_val (v := .bool false) (by kernel_rfl) ?_ ?_
                  · go_simp
                  simp only [Act.put, List.setIfInBounds_toArray, List.set_cons_zero, List.set_cons_succ]
                  refine lst_val (v := .bool false) (by kernel_rfl) ?_ ?_
                  · go_simp
                  simp only [Act.put, List.setIfInBounds_toArray, List.set_cons_zero, List.set_cons_succ]
                  refine lst_val (v := .int .i64 0) (by kernel_rfl) ?_ ?_
                  · go_simp
                  simp only [Act.put, List.setIfInBounds_toArray, List.set_cons_zero, List.set_cons_succ]
                  refine lst_val (v := .bool false) (by kernel_rfl) ?_ ?_
                  · go_simp
                  simp only [Act.put, List.setIfInBounds_toArray, List.set_cons_zero, List.set_cons_succ]
                  refine lst_val (v := .bool false) (by kernel_rfl) ?_ ?_
                  · go_simp
                  simp only [Act.put, List.setIfInBounds_toArray, List.set_cons_zero, List.set_cons_succ]
                  refine lst_val (v := .bool false) (by kernel_rfl) ?_ ?_
                  · go_simp
                  simp only [Act.put, List.setIfInBounds_toArray, List.set_cons_zero, List.set_cons_succ]
                  refine lst_val (v := vR) (by kernel_rfl) ?_ ?_
                  · go_simp
                  simp only [Act.put, List.setIfInBounds_toArray, List.set_cons_zero, List.set_cons_succ]
                  refine lst_val (v := .string tx) (by kernel_rfl) ?_ ?_
                  · (go_simp; try (first | (rw [IntKind.wrap_u64]; omega) | (rw [IntKind.wrap_i64]; omega)))
                  simp only [Act.put, List.setIfInBounds_toArray, List.set_cons_zero, List.set_cons_succ]
                  refine lst_val (v := .slice oa nn oc) (by kernel_rfl) ?_ ?_
                  · go_simp
                  simp only [Act.put, List.setIfInBounds_toArray, List.set_cons_zero, List.set_cons_succ]
                  refine lst_val (v := .string tx) (by kernel_rfl) ?_ ?_
                  · (go_simp; try (first | (rw [IntKind.wrap_u64]; omega) | (rw [IntKind.wrap_i64]; omega)))
                  simp only [Act.put, List.setIfInBounds_toArray, List.set_cons_zero, List.set_cons_succ]
                  refine lst_val (v := .bool false) (by kernel_rfl) ?_ ?_
                  · go_simp
                  simp only [Act.put, List.setIfInBounds_toArray, List.set_cons_zero, List.set_cons_succ]
                  refine lst_val (v := .bool false) (by kernel_rfl) ?_ ?_
                  · go_simp
                  simp only [Act.put, List.setIfInBounds_toArray, List.set_cons_zero, List.set_cons_succ]
                  refine wpList_nil ?_
                  clear q1 q2
                  go_wp2
                  go_roundw
                  case rel => exact ⟨i + 1, nn, u2, oa, oc, rfl, by go_num, i7.out, K9.out.kr EF.out MN.out⟩
                  case measure => simp [intOf]; omega
            · have b1 : (0 : Int) < (bn : Int) := by omega
              have b2 : ¬ (nn : Int) < (bn : Int) := by have := QL.out (by omega); omega
              have b3 : ¬ (nn : Int) - (bn : Int) < (q : Int) := by have := QL.out (by omega); omega
              clear b0
              have k2 : v2.cell? ⟨ob, 2, none⟩ = some (.int .i64 (q : Int)) := K4.out.op 2 _ rfl
              have vb : v2.cell? ⟨ob, 13, none⟩ = some (.slice ba bn bc) := K4.out.op 13 _ rfl
              go_upto_region 36 with fail
              clear k2 vb q0 b2 b3
              go_wp2
              go_loopw [11] (fun s wq => ∃ j : Nat, s = .int .i64 (j : Int) ∧ j ≤ bn ∧ KS w wq ob b nn u2 oa nn oc (ins u q t j) ⟨8, tw, (q : Int), M, P, X, Y, ba, bn, bc, t⟩ ∧ Below w.heap.size w wq) (fun s _ => bn - (intOf s).toNat)
              case atStart => exact ⟨0, rfl, by omega, K4.out.ownExt (fun i _ => by unfold ins; rw [if_neg (by omega)]), K4.out.bel⟩
              case round =>
                obtain ⟨j, rfl, hj, hK, hT⟩ := hrel
                have K5 : Hid (KS w wr ob b nn u2 oa nn oc (ins u q t j) ⟨8, tw, (q : Int), M, P, X, Y, ba, bn, bc, t⟩) := hK
                have T5 : Hid (Below w.heap.size w wr) := hT
                clear hK hT K4
                by_cases cj : j < bn
                · have jI : (j : Int) < (bn : Int) := by omega
                  have HJ : Hid (j + 1 ≤ bn) := cj
                  have hqL := QL.out (by omega)
                  obtain ⟨g5, eg5, hoc, hcl⟩ := K5.out.cells (by omega)
                  obtain ⟨r, er⟩ : ∃ r : Nat, r = q + j := ⟨_, rfl⟩
                  obtain ⟨o1, o2⟩ := hcl r (by omega)
                  have rI : (q : Int) + (j : Int) = (r : Int) := by omega
                  have rw_ : IntKind.i64.wrap (r : Int) = (r : Int) := by rw [IntKind.wrap_i64]; omega
                  have rK : (r : Int) < (nn : Int) := by omega
                  obtain ⟨gs, sa, eba, hsc⟩ := by_cell HB.out.1 (by omega)
                  obtain ⟨z, ez⟩ : ∃ z : Nat, t j = z := ⟨_, rfl⟩
                  have EZ : Hid (t j = z) := ez
                  have sc : wr.cell? ⟨gs, sa + j, none⟩ = some (.int .u8 (z : Int)) := by rw [← ez]; exact (T5.out.cell (p := ⟨gs, sa + j, none⟩) (World.block_lt_of_cell? w _ (hsc j cj))).trans (hsc j cj)
                  have vb5 : wr.cell? ⟨ob, 13, none⟩ = some (.slice (some ⟨gs, sa, none⟩) bn bc) := by rw [← eba]; exact K5.out.op 13 _ rfl
                  clear ez eba hsc
                  have k2 : wr.cell? ⟨ob, 2, none⟩ = some (.int .i64 (q : Int)) := K5.out.op 2 _ rfl
                  have N1 : Hid (KS w (wr.setCell ⟨g5, r, none⟩ (.int .u8 (z : Int))) ob b nn u2 oa nn oc (ins u q t (j + 1)) ⟨8, tw, (q : Int), M, P, X, Y, ba, bn, bc, t⟩ ∧ Below w.heap.size w (wr.setCell ⟨g5, r, none⟩ (.int .u8 (z : Int)))) := by
                    subst eg5
                    obtain ⟨s1, s2⟩ := K5.out.setO r z (by omega)
                    refine ⟨s1.ownExt (fun i _ => by show (if i = r then z else ins u q t j i) = _; rw [er, ← EZ.out]; exact ins_snoc u q t j i), ?_⟩
                    exact s1.bel
                  subst eg5
                  generalize (ins u q t j r : Nat) = old at o1
                  clear hcl er hoc hqL K5 T5 EZ
                  go_upto_region 39 with fail
                  go_region
                  all_goals go_wp2
                  all_goals go_roundw
                  case rel => exact ⟨j + 1, by go_num, HJ.out, by first | exact N1.out.1 | exact N1.out.1.drew, by first | exact N1.out.2 | exact N1.out.2.drew⟩
                  case measure => simp [intOf]; omega
                · have jI : ¬ (j : Int) < (bn : Int) := by omega
                  have vb : wr.cell? ⟨ob, 13, none⟩ = some (.slice ba bn bc) := K5.out.op 13 _ rfl
                  obtain rfl : j = bn := by omega
                  replace EF : Hid (SameB nn (ins u q t j) u2) := fun _ _ => by rw [EU.out]
                  go_upto_region 49 with fail
                  have n2I : (nn : Int) ≤ 4194304 := by obtain ⟨B, x, cx, hM, _⟩ := K5.out.ex; have := hM.le; omega
                  have RD : Hid (Calls Try.prog 25 #[.pointer (some ⟨b, 0, none⟩), .int .i64 0, .int .i64 (nn : Int)] wr fun e w' => ∃ vR, e = .returned (.tuple #[vR, .int .i64 0]) ∧ By w' vR nn u2 ∧ Below wr.heap.size wr w') := read_all K5.out
                  go_upto_region 50 with (go_at_call 25; refine (RD.out).mono ?_; rintro e vr ⟨vR, rfl, hy, hB⟩)
                  have K9 : Hid (KS w vr ob b nn u2 oa nn oc (ins u q t j) ⟨8, tw, (q : Int), M, P, X, Y, ba, j, bc, t⟩) := K5.out.past hB
                  have q1 := conv_by vr vR nn u2 hy
                  have q2 := conv_by vr _ _ _ (K9.out.by (by omega))
                  rw [text_ext EF.out] at q2
                  generalize textB u2 nn = tx at q1 q2
                  clear hy hB RD K5
                  refine wp_region_lit ?_
                  refine lst_val (v := .pointer (some ⟨b, 0, none⟩)) (by kernel_rfl) ?_ ?_
                  · go_simp
                  simp only [Act.put, List.setIfInBounds_toArray, List.set_cons_zero, List.set_cons_succ]
                  refine lst_call (by kernel_rfl) (by first | (go_simp; done) | (go_simp; first | exact rfl | exact ⟨rfl, rfl⟩ | exact ⟨rfl, rfl, rfl⟩)) (KS.lenM K9.out) ?_
                  rintro e w' ⟨rfl, hw⟩
                  have hw2 := hw.symm
                  clear hw
                  subst hw2
                  refine ⟨_, rfl, ?_⟩
                  simp only [Act.put, List.setIfInBounds_toArray, List.set_cons_zero, List.set_cons_succ]
                  refine lst_val (v := .slice oa nn oc) (by kernel_rfl) ?_ ?_
                  · go_simp
                  simp only [Act.put, List.setIfInBounds_toArray, List.set_cons_zero, List.set_cons_succ]
                  refine lst_val (v := .int .i64 (nn : Int)) (by kernel_rfl) ?_ ?_
                  · go_simp
                  simp only [Act.put, List.setIfInBounds_toArray, List.set_cons_zero, List.set_cons_succ]
                  refine lst_val (v := .bool false) (by kernel_rfl) ?_ ?_
                  · go_simp
                  simp only [Act.put, List.setIfInBounds_toArray, List.set_cons_zero, List.set_cons_succ]
                  refine lst_val (v := .bool false) (by kernel_rfl) ?_ ?_
                  · go_simp
                  simp only [Act.put, List.setIfInBounds_toArray, List.set_cons_zero, List.set_cons_succ]
                  refine lst_val (v := .int .i64 (nn : Int)) (by kernel_rfl) ?_ ?_
                  · go_simp
                  simp only [Act.put, List.setIfInBounds_toArray, List.set_cons_zero, List.set_cons_succ]
                  refine lst_val (v := .pointer (some ⟨b, 0, none⟩)) (by kernel_rfl) ?_ ?_
                  · go_simp
                  simp only [Act.put, List.setIfInBounds_toArray, List.set_cons_zero, List.set_cons_succ]
                  refine lst_call (by kernel_rfl) (by first | (go_simp; done) | (go_simp; first | exact rfl | exact ⟨rfl, rfl⟩ | exact ⟨rfl, rfl, rfl⟩)) (KS.lenM K9.out) ?_
                  rintro e w' ⟨rfl, hw⟩
                  have hw2 := hw.symm
                  clear hw
                  subst hw2
                  refine ⟨_, rfl, ?_⟩
                  simp only [Act.put, List.setIfInBounds_toArray, List.set_cons_zero, List.set_cons_succ]
                  refine lst_val (v := .bool false) (by kernel_rfl) ?_ ?_
                  · go_simp
                  simp only [Act.put, List.setIfInBounds_toArray, List.set_cons_zero, List.set_cons_succ]
                  refine lst_val (v := .bool false) (by kernel_rfl) ?_ ?_
                  · go_simp
                  simp only [Act.put, List.setIfInBounds_toArray, List.set_cons_zero, List.set_cons_succ]
                  refine lst_val (v := .bool false) (by kernel_rfl) ?_ ?_
                  · go_simp
                  simp only [Act.put, List.setIfInBounds_toArray, List.set_cons_zero, List.set_cons_succ]
                  refine lst_val (v := .int .i64 0) (by kernel_rfl) ?_ ?_
                  · go_simp
                  simp only [Act.put, List.setIfInBounds_toArray, List.set_cons_zero, List.set_cons_succ]
                  refine lst_val (v := .bool false) (by kernel_rfl) ?_ ?_
                  · go_simp
                  simp only [Act.put, List.setIfInBounds_toArray, List.set_cons_zero, List.set_cons_succ]
                  refine lst_val (v := .bool false) (by kernel_rfl) ?_ ?_
                  · go_simp
                  simp only [Act.put, List.setIfInBounds_toArray, List.set_cons_zero, List.set_cons_succ]
                  refine lst_val (v := .bool false) (by kernel_rfl) ?_ ?_
                  · go_simp
                  simp only [Act.put, List.setIfInBounds_toArray, List.set_cons_zero, List.set_cons_succ]
                  refine lst_val (v := vR) (by kernel_rfl) ?_ ?_
                  · go_simp
                  simp only [Act.put, List.setIfInBounds_toArray, List.set_cons_zero, List.set_cons_succ]
                  refine lst_val (v := .string tx) (by kernel_rfl) ?_ ?_
                  · (go_simp; try (first | (rw [IntKind.wrap_u64]; omega) | (rw [IntKind.wrap_i64]; omega)))
                  simp only [Act.put, List.setIfInBounds_toArray, List.set_cons_zero, List.set_cons_succ]
                  refine lst_val (v := .slice oa nn oc) (by kernel_rfl) ?_ ?_
                  · go_simp
                  simp only [Act.put, List.setIfInBounds_toArray, List.set_cons_zero, List.set_cons_succ]
                  refine lst_val (v := .string tx) (by kernel_rfl) ?_ ?_
                  · (go_simp; try (first | (rw [IntKind.wrap_u64]; omega) | (rw [IntKind.wrap_i64]; omega)))
                  simp only [Act.put, List.setIfInBounds_toArray, List.set_cons_zero, List.set_cons_succ]
                  refine lst_val (v := .bool false) (by kernel_rfl) ?_ ?_
                  · go_simp
                  simp only [Act.put, List.setIfInBounds_toArray, List.set_cons_zero, List.set_cons_succ]
                  refine lst_val (v := .bool false) (by kernel_rfl) ?_ ?_
                  · go_simp
                  simp only [Act.put, List.setIfInBounds_toArray, List.set_cons_zero, List.set_cons_succ]
                  refine wpList_nil ?_
                  clear q1 q2
                  go_wp2
                  go_roundw
                  case rel => exact ⟨i + 1, nn, u2, oa, oc, rfl, by go_num, i7.out, K9.out.kr EF.out MN.out⟩
                  case measure => simp [intOf]; omega
          · skip
            have g9 : (E == 0) = false := by simpa using hE0
            go_upto_region 49 with (go_at_call 24; refine (ST.out).mono ?_; rintro e v2 ⟨rfl, h1⟩)
            have K4 : Hid (KS w v2 ob b nn (if E = 0 then ins u N.toNat t bn else u) oa nn oc u ⟨8, tw, N, M, P, X, Y, ba, bn, bc, t⟩) := h1
            clear h1 K1 ST k0 k2 vb
            rw [if_neg hE0] at K4
            clear g9
            have n2I : (nn : Int) ≤ 4194304 := by obtain ⟨B, x, cx, hM, _⟩ := K4.out.ex; have := hM.le; omega
            have RD : Hid (Calls Try.prog 25 #[.pointer (some ⟨b, 0, none⟩), .int .i64 0, .int .i64 (nn : Int)] v2 fun e w' => ∃ vR, e = .returned (.tuple #[vR, .int .i64 0]) ∧ By w' vR nn u ∧ Below v2.heap.size v2 w') := read_all K4.out
            go_upto_region 50 with (go_at_call 25; refine (RD.out).mono ?_; rintro e vr ⟨vR, rfl, hy, hB⟩)
            have K9 : Hid (KS w vr ob b nn u oa nn oc u ⟨8, tw, N, M, P, X, Y, ba, bn, bc, t⟩) := K4.out.past hB
            have q1 := conv_by vr vR nn u hy
            have q2 := conv_by vr _ _ _ (K9.out.by (by omega))
            rw [text_ext EF.out] at q2
            generalize textB u nn = tx at q1 q2
            clear hy hB RD K4
            refine wp_region_lit ?_
            refine lst_val (v := .pointer (some ⟨b, 0, none⟩)) (by kernel_rfl) ?_ ?_
            · go_simp
            simp only [Act.put, List.setIfInBounds_toArray, List.set_cons_zero, List.set_cons_succ]
            refine lst_call (by kernel_rfl) (by first | (go_simp; done) | (go_simp; first | exact rfl | exact ⟨rfl, rfl⟩ | exact ⟨rfl, rfl, rfl⟩)) (KS.lenM K9.out) ?_
            rintro e w' ⟨rfl, hw⟩
            have hw2 := hw.symm
            clear hw
            subst hw2
            refine ⟨_, rfl, ?_⟩
            simp only [Act.put, List.setIfInBounds_toArray, List.set_cons_zero, List.set_cons_succ]
            refine lst_val (v := .slice oa nn oc) (by kernel_rfl) ?_ ?_
            · go_simp
            simp only [Act.put, List.setIfInBounds_toArray, List.set_cons_zero, List.set_cons_succ]
            refine lst_val (v := .int .i64 (nn : Int)) (by kernel_rfl) ?_ ?_
            · go_simp
            simp only [Act.put, List.setIfInBounds_toArray, List.set_cons_zero, List.set_cons_succ]
            refine lst_val (v := .bool false) (by kernel_rfl) ?_ ?_
            · go_simp
            simp only [Act.put, List.setIfInBounds_toArray, List.set_cons_zero, List.set_cons_succ]
            refine lst_val (v := .bool false) (by kernel_rfl) ?_ ?_
            · go_simp
            simp only [Act.put, List.setIfInBounds_toArray, List.set_cons_zero, List.set_cons_succ]
            refine lst_val (v := .int .i64 (nn : Int)) (by kernel_rfl) ?_ ?_
            · go_simp
            simp only [Act.put, List.setIfInBounds_toArray, List.set_cons_zero, List.set_cons_succ]
            refine lst_val (v := .pointer (some ⟨b, 0, none⟩)) (by kernel_rfl) ?_ ?_
            · go_simp
            simp only [Act.put, List.setIfInBounds_toArray, List.set_cons_zero, List.set_cons_succ]
            refine lst_call (by kernel_rfl) (by first | (go_simp; done) | (go_simp; first | exact rfl | exact ⟨rfl, rfl⟩ | exact ⟨rfl, rfl, rfl⟩)) (KS.lenM K9.out) ?_
            rintro e w' ⟨rfl, hw⟩
            have hw2 := hw.symm
            clear hw
            subst hw2
            refine ⟨_, rfl, ?_⟩
            simp only [Act.put, List.setIfInBounds_toArray, List.set_cons_zero, List.set_cons_succ]
            refine lst_val (v := .bool false) (by kernel_rfl) ?_ ?_
            · go_simp
            simp only [Act.put, List.setIfInBounds_toArray, List.set_cons_zero, List.set_cons_succ]
            refine lst_val (v := .bool false) (by kernel_rfl) ?_ ?_
            · go_simp
            simp only [Act.put, List.setIfInBounds_toArray, List.set_cons_zero, List.set_cons_succ]
            refine lst_val (v := .bool false) (by kernel_rfl) ?_ ?_
            · go_simp
            simp only [Act.put, List.setIfInBounds_toArray, List.set_cons_zero, List.set_cons_succ]
            refine lst_val (v := .int .i64 0) (by kernel_rfl) ?_ ?_
            · go_simp
            simp only [Act.put, List.setIfInBounds_toArray, List.set_cons_zero, List.set_cons_succ]
            refine lst_val (v := .bool false) (by kernel_rfl) ?_ ?_
            · go_simp
            simp only [Act.put, List.setIfInBounds_toArray, List.set_cons_zero, List.set_cons_succ]
            refine lst_val (v := .bool false) (by kernel_rfl) ?_ ?_
            · go_simp
            simp only [Act.put, List.setIfInBounds_toArray, List.set_cons_zero, List.set_cons_succ]
            refine lst_val (v := .bool false) (by kernel_rfl) ?_ ?_
            · go_simp
            simp only [Act.put, List.setIfInBounds_toArray, List.set_cons_zero, List.set_cons_succ]
            refine lst_val (v := vR) (by kernel_rfl) ?_ ?_
            · go_simp
            simp only [Act.put, List.setIfInBounds_toArray, List.set_cons_zero, List.set_cons_succ]
            refine lst_val (v := .string tx) (by kernel_rfl) ?_ ?_
            · (go_simp; try (first | (rw [IntKind.wrap_u64]; omega) | (rw [IntKind.wrap_i64]; omega)))
            simp only [Act.put, List.setIfInBounds_toArray, List.set_cons_zero, List.set_cons_succ]
            refine lst_val (v := .slice oa nn oc) (by kernel_rfl) ?_ ?_
            · go_simp
            simp only [Act.put, List.setIfInBounds_toArray, List.set_cons_zero, List.set_cons_succ]
            refine lst_val (v := .string tx) (by kernel_rfl) ?_ ?_
            · (go_simp; try (first | (rw [IntKind.wrap_u64]; omega) | (rw [IntKind.wrap_i64]; omega)))
            simp only [Act.put, List.setIfInBounds_toArray, List.set_cons_zero, List.set_cons_succ]
            refine lst_val (v := .bool false) (by kernel_rfl) ?_ ?_
            · go_simp
            simp only [Act.put, List.setIfInBounds_toArray, List.set_cons_zero, List.set_cons_succ]
            refine lst_val (v := .bool false) (by kernel_rfl) ?_ ?_
            · go_simp
            simp only [Act.put, List.setIfInBounds_toArray, List.set_cons_zero, List.set_cons_succ]
            refine wpList_nil ?_
            clear q1 q2
            go_wp2
            go_roundw
            case rel => exact ⟨i + 1, nn, u, oa, oc, rfl, by go_num, i7.out, K9.out.kr EF.out MN.out⟩
            case measure => simp [intOf]; omega
      by_cases e9 : kd = 9
      · as_aux_lemma =>
          subst e9
          have k0 : v.cell? ⟨ob, 0, none⟩ = some (.int .i64 9) := K1.out.op 0 _ rfl
          have k2 : v.cell? ⟨ob, 2, none⟩ = some (.int .i64 N) := K1.out.op 2 _ rfl
          have k3 : v.cell? ⟨ob, 3, none⟩ = some (.int .i64 M) := K1.out.op 3 _ rfl
          have k4 : v.cell? ⟨ob, 4, none⟩ = some (.int .i64 P) := K1.out.op 4 _ rfl
          go_upto_region 41 with fail
          obtain ⟨E, eE⟩ : ∃ E, mvE nn N M P = E := ⟨_, rfl⟩
          have EE : Hid (mvE nn N M P = E) := eE
          clear eE
          by_cases hE0 : E = 0
          · skip
            subst hE0
            obtain ⟨z1, z2, z3, z4⟩ : 0 ≤ N ∧ 0 ≤ M ∧ 0 ≤ P ∧ (0 < P → N + P ≤ (nn : Int) ∧ M + P ≤ (nn : Int)) := mv_zero EE.out
            obtain ⟨q, rfl⟩ : ∃ q : Nat, N = (q : Int) := ⟨N.toNat, by omega⟩
            obtain ⟨pp, rfl⟩ : ∃ pp : Nat, P = (pp : Int) := ⟨P.toNat, by omega⟩
            have QL : Hid (0 < pp → q + pp ≤ nn) := fun _ => by omega
            have hE1 : lk nn M (pp : Int) = 0 := lk_ok (by omega) (by omega)
            obtain ⟨src, esrc⟩ : ∃ src : Nat → Nat, src = fun l => u (M.toNat + l) := ⟨_, rfl⟩
            have RD : Hid (Calls Try.prog 25 #[.pointer (some ⟨b, 0, none⟩), .int .i64 M, .int .i64 (pp : Int)] v fun e w' => ∃ vR, e = .returned (.tuple #[vR, .int .i64 0]) ∧ By w' vR pp src ∧ (∀ q, 0 < pp → vR.ownBlock = some q → v.heap.size ≤ q) ∧ Below v.heap.size v w') := by
              have h := K1.out.readM M (pp : Int) hM hP
              rw [hE1, if_pos rfl, Int.toNat_natCast, ← esrc] at h
              exact h
            have MV : Hid (∀ W, Below v.heap.size v W → Calls Try.prog 26 #[.pointer (some ⟨b, 0, none⟩), .int .i64 (q : Int), .int .i64 M, .int .i64 (pp : Int)] W fun e w' => e = .returned (.int .i64 0) ∧ KS w w' ob b nn (ins u q src pp) oa nn oc u ⟨9, tw, (q : Int), M, (pp : Int), X, Y, ba, bn, bc, t⟩ ∧ ∃ S, But S W w' ∧ ∀ k, S k → k < v.heap.size) := fun W kz => by
              have h := KS.moveM K1.out kz (q : Int) M (pp : Int) hN hM hP
              rw [EE.out, if_pos rfl, Int.toNat_natCast, Int.toNat_natCast, ← esrc] at h
              exact h
            clear esrc hE1
            go_upto_region 42 with (go_at_call 25; refine (RD.out).mono ?_; rintro e v2 ⟨vR, rfl, hy, hnw, hB⟩)
            obtain ⟨va, vc, rfl, y1, y2, y3⟩ := hy
            have Y2 : Hid (By v2 (.slice va pp vc) pp src ∧ (∀ q, 0 < pp → (Value.slice va pp vc).ownBlock = some q → v.heap.size ≤ q) ∧ Below v.heap.size v v2) := ⟨⟨va, vc, rfl, y1, y2, y3⟩, hnw, hB⟩
            clear y1 y2 y3 hnw hB RD k0 k2 k3 k4
            have K2 : Hid (KS w v2 ob b nn u oa nn oc u ⟨9, tw, (q : Int), M, (pp : Int), X, Y, ba, bn, bc, t⟩) := K1.out.past Y2.out.2.2
            have k2 : v2.cell? ⟨ob, 2, none⟩ = some (.int .i64 (q : Int)) := K2.out.op 2 _ rfl
            have k3 : v2.cell? ⟨ob, 3, none⟩ = some (.int .i64 M) := K2.out.op 3 _ rfl
            have k4 : v2.cell? ⟨ob, 4, none⟩ = some (.int .i64 (pp : Int)) := K2.out.op 4 _ rfl
            go_upto_region 43 with (go_at_call 26; refine (MV.out _ Y2.out.2.2).mono ?_; rintro e v3 ⟨rfl, h1, S, h2, h3⟩)
            have NB : Hid (∀ k, 0 < pp → (Value.slice va pp vc).ownBlock = some k → v.heap.size ≤ k ∧ ∀ a, oa = some a → k ≠ a.block) := fun k h0 hk => ⟨Y2.out.2.1 k h0 hk, fun a ea => by have := Y2.out.2.1 k h0 hk; have := K1.out.lto a ea; omega⟩
            have Y3 : Hid (By v3 (.slice va pp vc) pp src) := Y2.out.1.but h2 (fun k h0 hk e => by have := h3 k e; have := (NB.out k h0 hk).1; omega)
            have K4 : Hid (KS w v3 ob b nn (ins u q src pp) oa nn oc u ⟨9, tw, (q : Int), M, (pp : Int), X, Y, ba, bn, bc, t⟩) := h1
            clear h1 h2 h3 K1 K2 Y2 MV k2 k3 k4
            obtain ⟨u2, eu⟩ : ∃ u2, ins u q src pp = u2 := ⟨_, rfl⟩
            rw [eu] at K4
            have EU : Hid (ins u q src pp = u2) := eu
            clear eu
            have q0 : ¬ (q : Int) < 0 := by omega
            by_cases b0 : pp = 0
            · have b1 : ¬ (0 : Int) < (pp : Int) := by omega
              clear b0 z4
              have k2 : v3.cell? ⟨ob, 2, none⟩ = some (.int .i64 (q : Int)) := K4.out.op 2 _ rfl
              have k4 : v3.cell? ⟨ob, 4, none⟩ = some (.int .i64 (pp : Int)) := K4.out.op 4 _ rfl
              go_upto_region 45 with fail
              clear k2 k4 q0
              go_wp2
              go_loopw [14] (fun s wq => ∃ j : Nat, s = .int .i64 (j : Int) ∧ j ≤ pp ∧ KS w wq ob b nn u2 oa nn oc (ins u q src j) ⟨9, tw, (q : Int), M, (pp : Int), X, Y, ba, bn, bc, t⟩ ∧ By wq (.slice va pp vc) pp src) (fun s _ => pp - (intOf s).toNat)
              case atStart => exact ⟨0, rfl, by omega, K4.out.ownExt (fun i _ => by unfold ins; rw [if_neg (by omega)]), Y3.out⟩
              case round =>
                obtain ⟨j, rfl, hj, hK, hT⟩ := hrel
                have K5 : Hid (KS w wr ob b nn u2 oa nn oc (ins u q src j) ⟨9, tw, (q : Int), M, (pp : Int), X, Y, ba, bn, bc, t⟩) := hK
                have T5 : Hid (By wr (.slice va pp vc) pp src) := hT
                clear hK hT K4
                by_cases cj : j < pp
                · exact absurd cj (by omega)
                · have jI : ¬ (j : Int) < (pp : Int) := by omega
                  obtain rfl : j = pp := by omega
                  replace EF : Hid (SameB nn (ins u q src j) u2) := fun _ _ => by rw [EU.out]
                  go_upto_region 49 with fail
                  have n2I : (nn : Int) ≤ 4194304 := by obtain ⟨B, x, cx, hM, _⟩ := K5.out.ex; have := hM.le; omega
                  have RD : Hid (Calls Try.prog 25 #[.pointer (some ⟨b, 0, none⟩), .int .i64 0, .int .i64 (nn : Int)] wr fun e w' => ∃ vR, e = .returned (.tuple #[vR, .int .i64 0]) ∧ By w' vR nn u2 ∧ Below wr.heap.size wr w') := read_all K5.out
                  go_upto_region 50 with (go_at_call 25; refine (RD.out).mono ?_; rintro e vr ⟨vR, rfl, hy, hB⟩)
                  have K9 : Hid (KS w vr ob b nn u2 oa nn oc (ins u q src j) ⟨9, tw, (q : Int), M, (j : Int), X, Y, ba, bn, bc, t⟩) := K5.out.past hB
                  have q1 := conv_by vr vR nn u2 hy
                  have q2 := conv_by vr _ _ _ (K9.out.by (by omega))
                  rw [text_ext EF.out] at q2
                  generalize textB u2 nn = tx at q1 q2
                  clear hy hB RD K5
                  refine wp_region_lit ?_
                  refine lst_val (v := .pointer (some ⟨b, 0, none⟩)) (by kernel_rfl) ?_ ?_
                  · go_simp
                  simp only [Act.put, List.setIfInBounds_toArray, List.set_cons_zero, List.set_cons_succ]
                  refine lst_call (by kernel_rfl) (by first | (go_simp; done) | (go_simp; first | exact rfl | exact ⟨rfl, rfl⟩ | exact ⟨rfl, rfl, rfl⟩)) (KS.lenM K9.out) ?_
                  rintro e w' ⟨rfl, hw⟩
                  have hw2 := hw.symm
                  clear hw
                  subst hw2
                  refine ⟨_, rfl, ?_⟩
                  simp only [Act.put, List.setIfInBounds_toArray, List.set_cons_zero, List.set_cons_succ]
                  refine lst_val (v := .slice oa nn oc) (by kernel_rfl) ?_ ?_
                  · go_simp
                  simp only [Act.put, List.setIfInBounds_toArray, List.set_cons_zero, List.set_cons_succ]
                  refine lst_val (v := .int .i64 (nn : Int)) (by kernel_rfl) ?_ ?_
                  · go_simp
                  simp only [Act.put, List.setIfInBounds_toArray, List.set_cons_zero, List.set_cons_succ]
                  refine lst_val (v := .bool false) (by kernel_rfl) ?_ ?_
                  · go_simp
                  simp only [Act.put, List.setIfInBounds_toArray, List.set_cons_zero, List.set_cons_succ]
                  refine lst_val (v := .bool false) (by kernel_rfl) ?_ ?_
                  · go_simp
                  simp only [Act.put, List.setIfInBounds_toArray, List.set_cons_zero, List.set_cons_succ]
                  refine lst_val (v := .int .i64 (nn : Int)) (by kernel_rfl) ?_ ?_
                  · go_simp
                  simp only [Act.put, List.setIfInBounds_toArray, List.set_cons_zero, List.set_cons_succ]
                  refine lst_val (v := .pointer (some ⟨b, 0, none⟩)) (by kernel_rfl) ?_ ?_
                  · go_simp
                  simp only [Act.put, List.setIfInBounds_toArray, List.set_cons_zero, List.set_cons_succ]
                  refine lst_call (by kernel_rfl) (by first | (go_simp; done) | (go_simp; first | exact rfl | exact ⟨rfl, rfl⟩ | exact ⟨rfl, rfl, rfl⟩)) (KS.lenM K9.out) ?_
                  rintro e w' ⟨rfl, hw⟩
                  have hw2 := hw.symm
                  clear hw
                  subst hw2
                  refine ⟨_, rfl, ?_⟩
                  simp only [Act.put, List.setIfInBounds_toArray, List.set_cons_zero, List.set_cons_succ]
                  refine lst_val (v := .bool false) (by kernel_rfl) ?_ ?_
                  · go_simp
                  simp only [Act.put, List.setIfInBounds_toArray, List.set_cons_zero, List.set_cons_succ]
                  refine lst_val (v := .bool false) (by kernel_rfl) ?_ ?_
                  · go_simp
                  simp only [Act.put, List.setIfInBounds_toArray, List.set_cons_zero, List.set_cons_succ]
                  refine lst_val (v := .bool false) (by kernel_rfl) ?_ ?_
                  · go_simp
                  simp only [Act.put, List.setIfInBounds_toArray, List.set_cons_zero, List.set_cons_succ]
                  refine lst_val (v := .int .i64 0) (by kernel_rfl) ?_ ?_
                  · go_simp
                  simp only [Act.put, List.setIfInBounds_toArray, List.set_cons_zero, List.set_cons_succ]
                  refine lst_val (v := .bool false) (by kernel_rfl) ?_ ?_
                  · go_simp
                  simp only [Act.put, List.setIfInBounds_toArray, List.set_cons_zero, List.set_cons_succ]
                  refine lst_val (v := .bool false) (by kernel_rfl) ?_ ?_
                  · go_simp
                  simp only [Act.put, List.setIfInBounds_toArray, List.set_cons_zero, List.set_cons_succ]
                  refine lst_val (v := .bool false) (by kernel_rfl) ?_ ?_
                  · go_simp
                  simp only [Act.put, List.setIfInBounds_toArray, List.set_cons_zero, List.set_cons_succ]
                  refine lst_val (v := vR) (by kernel_rfl) ?_ ?_
                  · go_simp
                  simp only [Act.put, List.setIfInBounds_toArray, List.set_cons_zero, List.set_cons_succ]
                  refine lst_val (v := .string tx) (by kernel_rfl) ?_ ?_
                  · (go_simp; try (first | (rw [IntKind.wrap_u64]; omega) | (rw [IntKind.wrap_i64]; omega)))
                  simp only [Act.put, List.setIfInBounds_toArray, List.set_cons_zero, List.set_cons_succ]
                  refine lst_val (v := .slice oa nn oc) (by kernel_rfl) ?_ ?_
                  · go_simp
                  simp only [Act.put, List.setIfInBounds_toArray, List.set_cons_zero, List.set_cons_succ]
                  refine lst_val (v := .string tx) (by kernel_rfl) ?_ ?_
                  · (go_simp; try (first | (rw [IntKind.wrap_u64]; omega) | (rw [IntKind.wrap_i64]; omega)))
                  simp only [Act.put, List.setIfInBounds_toArray, List.set_cons_zero, List.set_cons_succ]
                  refine lst_val (v := .bool false) (by kernel_rfl) ?_ ?_
                  · go_simp
                  simp only [Act.put, List.setIfInBounds_toArray, List.set_cons_zero, List.set_cons_succ]
                  refine lst_val (v := .bool false) (by kernel_rfl) ?_ ?_
                  · go_simp
                  simp only [Act.put, List.setIfInBounds_toArray, List.set_cons_zero, List.set_cons_succ]
                  refine wpList_nil ?_
                  clear q1 q2
                  go_wp2
                  go_roundw
                  case rel => exact ⟨i + 1, nn, u2, oa, oc, rfl, by go_num, i7.out, K9.out.kr EF.out MN.out⟩
                  case measure => simp [intOf]; omega
            · have b1 : (0 : Int) < (pp : Int) := by omega
              have b2 : ¬ (nn : Int) < (pp : Int) := by have := QL.out (by omega); omega
              have b3 : ¬ (nn : Int) - (pp : Int) < (q : Int) := by have := QL.out (by omega); omega
              clear b0 z4
              obtain ⟨gs, sa, eva, _⟩ := by_cell Y3.out (by omega)
              subst eva
              have k2 : v3.cell? ⟨ob, 2, none⟩ = some (.int .i64 (q : Int)) := K4.out.op 2 _ rfl
              have k4 : v3.cell? ⟨ob, 4, none⟩ = some (.int .i64 (pp : Int)) := K4.out.op 4 _ rfl
              go_upto_region 45 with fail
              clear k2 k4 q0 b2 b3
              go_wp2
              go_loopw [14] (fun s wq => ∃ j : Nat, s = .int .i64 (j : Int) ∧ j ≤ pp ∧ KS w wq ob b nn u2 oa nn oc (ins u q src j) ⟨9, tw, (q : Int), M, (pp : Int), X, Y, ba, bn, bc, t⟩ ∧ By wq (.slice (some ⟨gs, sa, none⟩) pp vc) pp src) (fun s _ => pp - (intOf s).toNat)
              case atStart => exact ⟨0, rfl, by omega, K4.out.ownExt (fun i _ => by unfold ins; rw [if_neg (by omega)]), Y3.out⟩
              case round =>
                obtain ⟨j, rfl, hj, hK, hT⟩ := hrel
                have K5 : Hid (KS w wr ob b nn u2 oa nn oc (ins u q src j) ⟨9, tw, (q : Int), M, (pp : Int), X, Y, ba, bn, bc, t⟩) := hK
                have T5 : Hid (By wr (.slice (some ⟨gs, sa, none⟩) pp vc) pp src) := hT
                clear hK hT K4
                by_cases cj : j < pp
                · have jI : (j : Int) < (pp : Int) := by omega
                  have HJ : Hid (j + 1 ≤ pp) := cj
                  have hqL := QL.out (by omega)
                  obtain ⟨g5, eg5, hoc, hcl⟩ := K5.out.cells (by omega)
                  obtain ⟨r, er⟩ : ∃ r : Nat, r = q + j := ⟨_, rfl⟩
                  obtain ⟨o1, o2⟩ := hcl r (by omega)
                  have rI : (q : Int) + (j : Int) = (r : Int) := by omega
                  have rw_ : IntKind.i64.wrap (r : Int) = (r : Int) := by rw [IntKind.wrap_i64]; omega
                  have rK : (r : Int) < (nn : Int) := by omega
                  have hsc := by_cell2 T5.out (by omega)
                  obtain ⟨z, ez⟩ : ∃ z : Nat, src j = z := ⟨_, rfl⟩
                  have EZ : Hid (src j = z) := ez
                  have sc : wr.cell? ⟨gs, sa + j, none⟩ = some (.int .u8 (z : Int)) := by rw [← ez]; exact hsc j cj
                  clear ez hsc
                  have k2 : wr.cell? ⟨ob, 2, none⟩ = some (.int .i64 (q : Int)) := K5.out.op 2 _ rfl
                  have N1 : Hid (KS w (wr.setCell ⟨g5, r, none⟩ (.int .u8 (z : Int))) ob b nn u2 oa nn oc (ins u q src (j + 1)) ⟨9, tw, (q : Int), M, (pp : Int), X, Y, ba, bn, bc, t⟩ ∧ By (wr.setCell ⟨g5, r, none⟩ (.int .u8 (z : Int))) (.slice (some ⟨gs, sa, none⟩) pp vc) pp src) := by
                    subst eg5
                    obtain ⟨s1, s2⟩ := K5.out.setO r z (by omega)
                    refine ⟨s1.ownExt (fun i _ => by show (if i = r then z else ins u q src j i) = _; rw [er, ← EZ.out]; exact ins_snoc u q src j i), ?_⟩
                    exact T5.out.but s2 (fun k h0 hk e => (NB.out k h0 hk).2 _ rfl (by rw [e]))
                  subst eg5
                  generalize (ins u q src j r : Nat) = old at o1
                  clear hcl er hoc hqL K5 T5 EZ
                  go_upto_region 48 with fail
                  go_region
                  all_goals go_wp2
                  all_goals go_roundw
                  case rel => exact ⟨j + 1, by go_num, HJ.out, by first | exact N1.out.1 | exact N1.out.1.drew, by first | exact N1.out.2 | exact N1.out.2.past ((Below.refl _ _).drew)⟩
                  case measure => simp [intOf]; omega
                · have jI : ¬ (j : Int) < (pp : Int) := by omega
                  obtain rfl : j = pp := by omega
                  replace EF : Hid (SameB nn (ins u q src j) u2) := fun _ _ => by rw [EU.out]
                  go_upto_region 49 with fail
                  have n2I : (nn : Int) ≤ 4194304 := by obtain ⟨B, x, cx, hM, _⟩ := K5.out.ex; have := hM.le; omega
                  have RD : Hid (Calls Try.prog 25 #[.pointer (some ⟨b, 0, none⟩), .int .i64 0, .int .i64 (nn : Int)] wr fun e w' => ∃ vR, e = .returned (.tuple #[vR, .int .i64 0]) ∧ By w' vR nn u2 ∧ Below wr.heap.size wr w') := read_all K5.out
                  go_upto_region 50 with (go_at_call 25; refine (RD.out).mono ?_; rintro e vr ⟨vR, rfl, hy, hB⟩)
                  have K9 : Hid (KS w vr ob b nn u2 oa nn oc (ins u q src j) ⟨9, tw, (q : Int), M, (j : Int), X, Y, ba, bn, bc, t⟩) := K5.out.past hB
                  have q1 := conv_by vr vR nn u2 hy
                  have q2 := conv_by vr _ _ _ (K9.out.by (by omega))
                  rw [text_ext EF.out] at q2
                  generalize textB u2 nn = tx at q1 q2
                  clear hy hB RD K5
                  refine wp_region_lit ?_
                  refine lst_val (v := .pointer (some ⟨b, 0, none⟩)) (by kernel_rfl) ?_ ?_
                  · go_simp
                  simp only [Act.put, List.setIfInBounds_toArray, List.set_cons_zero, List.set_cons_succ]
                  refine lst_call (by kernel_rfl) (by first | (go_simp; done) | (go_simp; first | exact rfl | exact ⟨rfl, rfl⟩ | exact ⟨rfl, rfl, rfl⟩)) (KS.lenM K9.out) ?_
                  rintro e w' ⟨rfl, hw⟩
                  have hw2 := hw.symm
                  clear hw
                  subst hw2
                  refine ⟨_, rfl, ?_⟩
                  simp only [Act.put, List.setIfInBounds_toArray, List.set_cons_zero, List.set_cons_succ]
                  refine lst_val (v := .slice oa nn oc) (by kernel_rfl) ?_ ?_
                  · go_simp
                  simp only [Act.put, List.setIfInBounds_toArray, List.set_cons_zero, List.set_cons_succ]
                  refine lst_val (v := .int .i64 (nn : Int)) (by kernel_rfl) ?_ ?_
                  · go_simp
                  simp only [Act.put, List.setIfInBounds_toArray, List.set_cons_zero, List.set_cons_succ]
                  refine lst_val (v := .bool false) (by kernel_rfl) ?_ ?_
                  · go_simp
                  simp only [Act.put, List.setIfInBounds_toArray, List.set_cons_zero, List.set_cons_succ]
                  refine lst_val (v := .bool false) (by kernel_rfl) ?_ ?_
                  · go_simp
                  simp only [Act.put, List.setIfInBounds_toArray, List.set_cons_zero, List.set_cons_succ]
                  refine lst_val (v := .int .i64 (nn : Int)) (by kernel_rfl) ?_ ?_
                  · go_simp
                  simp only [Act.put, List.setIfInBounds_toArray, List.set_cons_zero, List.set_cons_succ]
                  refine lst_val (v := .pointer (some ⟨b, 0, none⟩)) (by kernel_rfl) ?_ ?_
                  · go_simp
                  simp only [Act.put, List.setIfInBounds_toArray, List.set_cons_zero, List.set_cons_succ]
                  refine lst_call (by kernel_rfl) (by first | (go_simp; done) | (go_simp; first | exact rfl | exact ⟨rfl, rfl⟩ | exact ⟨rfl, rfl, rfl⟩)) (KS.lenM K9.out) ?_
                  rintro e w' ⟨rfl, hw⟩
                  have hw2 := hw.symm
                  clear hw
                  subst hw2
                  refine ⟨_, rfl, ?_⟩
                  simp only [Act.put, List.setIfInBounds_toArray, List.set_cons_zero, List.set_cons_succ]
                  refine lst_val (v := .bool false) (by kernel_rfl) ?_ ?_
                  · go_simp
                  simp only [Act.put, List.setIfInBounds_toArray, List.set_cons_zero, List.set_cons_succ]
                  refine lst_val (v := .bool false) (by kernel_rfl) ?_ ?_
                  · go_simp
                  simp only [Act.put, List.setIfInBounds_toArray, List.set_cons_zero, List.set_cons_succ]
                  refine lst_val (v := .bool false) (by kernel_rfl) ?_ ?_
                  · go_simp
                  simp only [Act.put, List.setIfInBounds_toArray, List.set_cons_zero, List.set_cons_succ]
                  refine lst_val (v := .int .i64 0) (by kernel_rfl) ?_ ?_
                  · go_simp
                  simp only [Act.put, List.setIfInBounds_toArray, List.set_cons_zero, List.set_cons_succ]
                  refine lst_val (v := .bool false) (by kernel_rfl) ?_ ?_
                  · go_simp
                  simp only [Act.put, List.setIfInBounds_toArray, List.set_cons_zero, List.set_cons_succ]
                  refine lst_val (v := .bool false) (by kernel_rfl) ?_ ?_
                  · go_simp
                  simp only [Act.put, List.setIfInBounds_toArray, List.set_cons_zero, List.set_cons_succ]
                  refine lst_val (v := .bool false) (by kernel_rfl) ?_ ?_
                  · go_simp
                  simp only [Act.put, List.setIfInBounds_toArray, List.set_cons_zero, List.set_cons_succ]
                  refine lst_val (v := vR) (by kernel_rfl) ?_ ?_
                  · go_simp
                  simp only [Act.put, List.setIfInBounds_toArray, List.set_cons_zero, List.set_cons_succ]
                  refine lst_val (v := .string tx) (by kernel_rfl) ?_ ?_
                  · (go_simp; try (first | (rw [IntKind.wrap_u64]; omega) | (rw [IntKind.wrap_i64]; omega)))
                  simp only [Act.put, List.setIfInBounds_toArray, List.set_cons_zero, List.set_cons_succ]
                  refine lst_val (v := .slice oa nn oc) (by kernel_rfl) ?_ ?_
                  · go_simp
                  simp only [Act.put, List.setIfInBounds_toArray, List.set_cons_zero, List.set_cons_succ]
                  refine lst_val (v := .string tx) (by kernel_rfl) ?_ ?_
                  · (go_simp; try (first | (rw [IntKind.wrap_u64]; omega) | (rw [IntKind.wrap_i64]; omega)))
                  simp only [Act.put, List.setIfInBounds_toArray, List.set_cons_zero, List.set_cons_succ]
                  refine lst_val (v := .bool false) (by kernel_rfl) ?_ ?_
                  · go_simp
                  simp only [Act.put, List.setIfInBounds_toArray, List.set_cons_zero, List.set_cons_succ]
                  refine lst_val (v := .bool false) (by kernel_rfl) ?_ ?_
                  · go_simp
                  simp only [Act.put, List.setIfInBounds_toArray, List.set_cons_zero, List.set_cons_succ]
                  refine wpList_nil ?_
                  clear q1 q2
                  go_wp2
                  go_roundw
                  case rel => exact ⟨i + 1, nn, u2, oa, oc, rfl, by go_num, i7.out, K9.out.kr EF.out MN.out⟩
                  case measure => simp [intOf]; omega
          · skip
            have g9 : (E == 0) = false := by simpa using hE0
            go_upto_region 42 with (go_at_call 25; refine (KS.readM K1.out M P hM hP).mono ?_; rintro e v2 ⟨vR, rfl, _, _, hB⟩)
            have K2 : Hid (KS w v2 ob b nn u oa nn oc u ⟨9, tw, N, M, P, X, Y, ba, bn, bc, t⟩) := K1.out.past hB
            have MV : Hid (Calls Try.prog 26 #[.pointer (some ⟨b, 0, none⟩), .int .i64 N, .int .i64 M, .int .i64 P] v2 fun e w' => e = .returned (.int .i64 E) ∧ KS w w' ob b nn u oa nn oc u ⟨9, tw, N, M, P, X, Y, ba, bn, bc, t⟩ ∧ ∃ S, But S v2 w' ∧ ∀ k, S k → k < v.heap.size) := by
              have h := KS.moveM K1.out hB N M P hN hM hP
              rw [EE.out, if_neg hE0] at h
              exact h
            clear hB K1 k0 k2 k3 k4
            have k2 : v2.cell? ⟨ob, 2, none⟩ = some (.int .i64 N) := K2.out.op 2 _ rfl
            have k3 : v2.cell? ⟨ob, 3, none⟩ = some (.int .i64 M) := K2.out.op 3 _ rfl
            have k4 : v2.cell? ⟨ob, 4, none⟩ = some (.int .i64 P) := K2.out.op 4 _ rfl
            generalize lk nn M P = E1
            go_upto_region 49 with (go_at_call 26; refine (MV.out).mono ?_; rintro e v3 ⟨rfl, h1, _⟩)
            have K4 : Hid (KS w v3 ob b nn u oa nn oc u ⟨9, tw, N, M, P, X, Y, ba, bn, bc, t⟩) := h1
            clear h1 K2 MV k2 k3 k4 g9
            have n2I : (nn : Int) ≤ 4194304 := by obtain ⟨B, x, cx, hM, _⟩ := K4.out.ex; have := hM.le; omega
            have RD : Hid (Calls Try.prog 25 #[.pointer (some ⟨b, 0, none⟩), .int .i64 0, .int .i64 (nn : Int)] v3 fun e w' => ∃ vR, e = .returned (.tuple #[vR, .int .i64 0]) ∧ By w' vR nn u ∧ Below v3.heap.size v3 w') := read_all K4.out
            go_upto_region 50 with (go_at_call 25; refine (RD.out).mono ?_; rintro e vr ⟨vR, rfl, hy, hB⟩)
            have K9 : Hid (KS w vr ob b nn u oa nn oc u ⟨9, tw, N, M, P, X, Y, ba, bn, bc, t⟩) := K4.out.past hB
            have q1 := conv_by vr vR nn u hy
            have q2 := conv_by vr _ _ _ (K9.out.by (by omega))
            rw [text_ext EF.out] at q2
            generalize textB u nn = tx at q1 q2
            clear hy hB RD K4
            refine wp_region_lit ?_
            refine lst_val (v := .pointer (some ⟨b, 0, none⟩)) (by kernel_rfl) ?_ ?_
            · go_simp
            simp only [Act.put, List.setIfInBounds_toArray, List.set_cons_zero, List.set_cons_succ]
            refine lst_call (by kernel_rfl) (by first | (go_simp; done) | (go_simp; first | exact rfl | exact ⟨rfl, rfl⟩ | exact ⟨rfl, rfl, rfl⟩)) (KS.lenM K9.out) ?_
            rintro e w' ⟨rfl, hw⟩
            have hw2 := hw.symm
            clear hw
            subst hw2
            refine ⟨_, rfl, ?_⟩
            simp only [Act.put, List.setIfInBounds_toArray, List.set_cons_zero, List.set_cons_succ]
            refine lst_val (v := .slice oa nn oc) (by kernel_rfl) ?_ ?_
            · go_simp
            simp only [Act.put, List.setIfInBounds_toArray, List.set_cons_zero, List.set_cons_succ]
            refine lst_val (v := .int .i64 (nn : Int)) (by kernel_rfl) ?_ ?_
            · go_simp
            simp only [Act.put, List.setIfInBounds_toArray, List.set_cons_zero, List.set_cons_succ]
            refine lst_val (v := .bool false) (by kernel_rfl) ?_ ?_
            · go_simp
            simp only [Act.put, List.setIfInBounds_toArray, List.set_cons_zero, List.set_cons_succ]
            refine lst_val (v := .bool false) (by kernel_rfl) ?_ ?_
            · go_simp
            simp only [Act.put, List.setIfInBounds_toArray, List.set_cons_zero, List.set_cons_succ]
            refine lst_val (v := .int .i64 (nn : Int)) (by kernel_rfl) ?_ ?_
            · go_simp
            simp only [Act.put, List.setIfInBounds_toArray, List.set_cons_zero, List.set_cons_succ]
            refine lst_val (v := .pointer (some ⟨b, 0, none⟩)) (by kernel_rfl) ?_ ?_
            · go_simp
            simp only [Act.put, List.setIfInBounds_toArray, List.set_cons_zero, List.set_cons_succ]
            refine lst_call (by kernel_rfl) (by first | (go_simp; done) | (go_simp; first | exact rfl | exact ⟨rfl, rfl⟩ | exact ⟨rfl, rfl, rfl⟩)) (KS.lenM K9.out) ?_
            rintro e w' ⟨rfl, hw⟩
            have hw2 := hw.symm
            clear hw
            subst hw2
            refine ⟨_, rfl, ?_⟩
            simp only [Act.put, List.setIfInBounds_toArray, List.set_cons_zero, List.set_cons_succ]
            refine lst_val (v := .bool false) (by kernel_rfl) ?_ ?_
            · go_simp
            simp only [Act.put, List.setIfInBounds_toArray, List.set_cons_zero, List.set_cons_succ]
            refine lst_val (v := .bool false) (by kernel_rfl) ?_ ?_
            · go_simp
            simp only [Act.put, List.setIfInBounds_toArray, List.set_cons_zero, List.set_cons_succ]
            refine lst_val (v := .bool false) (by kernel_rfl) ?_ ?_
            · go_simp
            simp only [Act.put, List.setIfInBounds_toArray, List.set_cons_zero, List.set_cons_succ]
            refine lst_val (v := .int .i64 0) (by kernel_rfl) ?_ ?_
            · go_simp
            simp only [Act.put, List.setIfInBounds_toArray, List.set_cons_zero, List.set_cons_succ]
            refine lst_val (v := .bool false) (by kernel_rfl) ?_ ?_
            · go_simp
            simp only [Act.put, List.setIfInBounds_toArray, List.set_cons_zero, List.set_cons_succ]
            refine lst_val (v := .bool false) (by kernel_rfl) ?_ ?_
            · go_simp
            simp only [Act.put, List.setIfInBounds_toArray, List.set_cons_zero, List.set_cons_succ]
            refine lst_val (v := .bool false) (by kernel_rfl) ?_ ?_
            · go_simp
            simp only [Act.put, List.setIfInBounds_toArray, List.set_cons_zero, List.set_cons_succ]
            refine lst_val (v := vR) (by kernel_rfl) ?_ ?_
            · go_simp
            simp only [Act.put, List.setIfInBounds_toArray, List.set_cons_zero, List.set_cons_succ]
            refine lst_val (v := .string tx) (by kernel_rfl) ?_ ?_
            · (go_simp; try (first | (rw [IntKind.wrap_u64]; omega) | (rw [IntKind.wrap_i64]; omega)))
            simp only [Act.put, List.setIfInBounds_toArray, List.set_cons_zero, List.set_cons_succ]
            refine lst_val (v := .slice oa nn oc) (by kernel_rfl) ?_ ?_
            · go_simp
            simp only [Act.put, List.setIfInBounds_toArray, List.set_cons_zero, List.set_cons_succ]
            refine lst_val (v := .string tx) (by kernel_rfl) ?_ ?_
            · (go_simp; try (first | (rw [IntKind.wrap_u64]; omega) | (rw [IntKind.wrap_i64]; omega)))
            simp only [Act.put, List.setIfInBounds_toArray, List.set_cons_zero, List.set_cons_succ]
            refine lst_val (v := .bool false) (by kernel_rfl) ?_ ?_
            · go_simp
            simp only [Act.put, List.setIfInBounds_toArray, List.set_cons_zero, List.set_cons_succ]
            refine lst_val (v := .bool false) (by kernel_rfl) ?_ ?_
            · go_simp
            simp only [Act.put, List.setIfInBounds_toArray, List.set_cons_zero, List.set_cons_succ]
            refine wpList_nil ?_
            clear q1 q2
            go_wp2
            go_roundw
            case rel => exact ⟨i + 1, nn, u, oa, oc, rfl, by go_num, i7.out, K9.out.kr EF.out MN.out⟩
            case measure => simp [intOf]; omega
      have k0 : v.cell? ⟨ob, 0, none⟩ = some (.int .i64 kd) := K1.out.op 0 _ rfl
      have e3 : (kd == 3) = false := by simpa using e3
      have e5 : (kd == 5) = false := by simpa using e5
      have e6 : (kd == 6) = false := by simpa using e6
      have e8 : (kd == 8) = false := by simpa using e8
      have e9 : (kd == 9) = false := by simpa using e9
      go_upto_region 49 with fail
      clear k0 e3 e5 e6 e8 e9
      have n2I : (nn : Int) ≤ 4194304 := by obtain ⟨B, x, cx, hM, _⟩ := K1.out.ex; have := hM.le; omega
      have RD : Hid (Calls Try.prog 25 #[.pointer (some ⟨b, 0, none⟩), .int .i64 0, .int .i64 (nn : Int)] v fun e w' => ∃ vR, e = .returned (.tuple #[vR, .int .i64 0]) ∧ By w' vR nn u ∧ Below v.heap.size v w') := read_all K1.out
      go_upto_region 50 with (go_at_call 25; refine (RD.out).mono ?_; rintro e vr ⟨vR, rfl, hy, hB⟩)
      have K9 : Hid (KS w vr ob b nn u oa nn oc u ⟨kd, tw, N, M, P, X, Y, ba, bn, bc, t⟩) := K1.out.past hB
      have q1 := conv_by vr vR nn u hy
      have q2 := conv_by vr _ _ _ (K9.out.by (by omega))
      rw [text_ext EF.out] at q2
      generalize textB u nn = tx at q1 q2
      clear hy hB RD K1
      refine wp_region_lit ?_
      refine lst_val (v := .pointer (some ⟨b, 0, none⟩)) (by kernel_rfl) ?_ ?_
      · go_simp
      simp only [Act.put, List.setIfInBounds_toArray, List.set_cons_zero, List.set_cons_succ]
      refine lst_call (by kernel_rfl) (by first | (go_simp; done) | (go_simp; first | exact rfl | exact ⟨rfl, rfl⟩ | exact ⟨rfl, rfl, rfl⟩)) (KS.lenM K9.out) ?_
      rintro e w' ⟨rfl, hw⟩
      have hw2 := hw.symm
      clear hw
      subst hw2
      refine ⟨_, rfl, ?_⟩
      simp only [Act.put, List.setIfInBounds_toArray, List.set_cons_zero, List.set_cons_succ]
      refine lst_val (v := .slice oa nn oc) (by kernel_rfl) ?_ ?_
      · go_simp
      simp only [Act.put, List.setIfInBounds_toArray, List.set_cons_zero, List.set_cons_succ]
      refine lst_val (v := .int .i64 (nn : Int)) (by kernel_rfl) ?_ ?_
      · go_simp
      simp only [Act.put, List.setIfInBounds_toArray, List.set_cons_zero, List.set_cons_succ]
      refine lst_val (v := .bool false) (by kernel_rfl) ?_ ?_
      · go_simp
      simp only [Act.put, List.setIfInBounds_toArray, List.set_cons_zero, List.set_cons_succ]
      refine lst_val (v := .bool false) (by kernel_rfl) ?_ ?_
      · go_simp
      simp only [Act.put, List.setIfInBounds_toArray, List.set_cons_zero, List.set_cons_succ]
      refine lst_val (v := .int .i64 (nn : Int)) (by kernel_rfl) ?_ ?_
      · go_simp
      simp only [Act.put, List.setIfInBounds_toArray, List.set_cons_zero, List.set_cons_succ]
      refine lst_val (v := .pointer (some ⟨b, 0, none⟩)) (by kernel_rfl) ?_ ?_
      · go_simp
      simp only [Act.put, List.setIfInBounds_toArray, List.set_cons_zero, List.set_cons_succ]
      refine lst_call (by kernel_rfl) (by first | (go_simp; done) | (go_simp; first | exact rfl | exact ⟨rfl, rfl⟩ | exact ⟨rfl, rfl, rfl⟩)) (KS.lenM K9.out) ?_
      rintro e w' ⟨rfl, hw⟩
      have hw2 := hw.symm
      clear hw
      subst hw2
      refine ⟨_, rfl, ?_⟩
      simp only [Act.put, List.setIfInBounds_toArray, List.set_cons_zero, List.set_cons_succ]
      refine lst_val (v := .bool false) (by kernel_rfl) ?_ ?_
      · go_simp
      simp only [Act.put, List.setIfInBounds_toArray, List.set_cons_zero, List.set_cons_succ]
      refine lst_val (v := .bool false) (by kernel_rfl) ?_ ?_
      · go_simp
      simp only [Act.put, List.setIfInBounds_toArray, List.set_cons_zero, List.set_cons_succ]
      refine lst_val (v := .bool false) (by kernel_rfl) ?_ ?_
      · go_simp
      simp only [Act.put, List.setIfInBounds_toArray, List.set_cons_zero, List.set_cons_succ]
      refine lst_val (v := .int .i64 0) (by kernel_rfl) ?_ ?_
      · go_simp
      simp only [Act.put, List.setIfInBounds_toArray, List.set_cons_zero, List.set_cons_succ]
      refine lst_val (v := .bool false) (by kernel_rfl) ?_ ?_
      · go_simp
      simp only [Act.put, List.setIfInBounds_toArray, List.set_cons_zero, List.set_cons_succ]
      refine lst_val (v := .bool false) (by kernel_rfl) ?_ ?_
      · go_simp
      simp only [Act.put, List.setIfInBounds_toArray, List.set_cons_zero, List.set_cons_succ]
      refine lst_val (v := .bool false) (by kernel_rfl) ?_ ?_
      · go_simp
      simp only [Act.put, List.setIfInBounds_toArray, List.set_cons_zero, List.set_cons_succ]
      refine lst_val (v := vR) (by kernel_rfl) ?_ ?_
      · go_simp
      simp only [Act.put, List.setIfInBounds_toArray, List.set_cons_zero, List.set_cons_succ]
      refine lst_val (v := .string tx) (by kernel_rfl) ?_ ?_
      · (go_simp; try (first | (rw [IntKind.wrap_u64]; omega) | (rw [IntKind.wrap_i64]; omega)))
      simp only [Act.put, List.setIfInBounds_toArray, List.set_cons_zero, List.set_cons_succ]
      refine lst_val (v := .slice oa nn oc) (by kernel_rfl) ?_ ?_
      · go_simp
      simp only [Act.put, List.setIfInBounds_toArray, List.set_cons_zero, List.set_cons_succ]
      refine lst_val (v := .string tx) (by kernel_rfl) ?_ ?_
      · (go_simp; try (first | (rw [IntKind.wrap_u64]; omega) | (rw [IntKind.wrap_i64]; omega)))
      simp only [Act.put, List.setIfInBounds_toArray, List.set_cons_zero, List.set_cons_succ]
      refine lst_val (v := .bool false) (by kernel_rfl) ?_ ?_
      · go_simp
      simp only [Act.put, List.setIfInBounds_toArray, List.set_cons_zero, List.set_cons_succ]
      refine lst_val (v := .bool false) (by kernel_rfl) ?_ ?_
      · go_simp
      simp only [Act.put, List.setIfInBounds_toArray, List.set_cons_zero, List.set_cons_succ]
      refine wpList_nil ?_
      clear q1 q2
      go_wp2
      go_roundw
      case rel => exact ⟨i + 1, nn, u, oa, oc, rfl, by go_num, i7.out, K9.out.kr EF.out MN.out⟩
      case measure => simp [intOf]; omega
    · by_cases c1 : (i : Int) < (n : Int)
      · have c2 : ¬ (i : Int) < 60 := by omega
        clear hin
        go_wp2_with (go_at_call 14; refine (wrote_is _).mono ?_; rintro e v9 ⟨rfl, hB9⟩)
        go_ret
        exact ⟨rfl, A0.out.bel.trans (hB9.mono A0.out.bel.size)⟩
      · clear hin
        go_wp2_with (go_at_call 14; refine (wrote_is _).mono ?_; rintro e v9 ⟨rfl, hB9⟩)
        go_ret
        exact ⟨rfl, A0.out.bel.trans (hB9.mono A0.out.bel.size)⟩
end Go.Proofs.Ytlemnjhdnciddaa
