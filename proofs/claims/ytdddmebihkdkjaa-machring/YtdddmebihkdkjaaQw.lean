/- MachRing: a long list. -/
import Derived.Test.YtdddmebihkdkjaaQu
namespace Go.Proofs.Ytdddmebihkdkjaa
open Go.RowKit
set_option maxHeartbeats 8000000 in
set_option maxRecDepth 100000 in
theorem ringB (w : World) (v : Value) (n0 : Nat) (x : Ring) (hv : WL w v n0 x) (hn0 : n0 ≤ 4398046511104) (hgt : 2500 < n0) (z N M : Int) (X : W4) : Calls Try.prog 8 #[v, .int .i64 z, .int .i64 N, .int .i64 M, X.v] w fun e w' => e = .returned (.bool true) ∧ Below w.heap.size w w' := by
  obtain ⟨ad, cap, rfl, hv⟩ := hv
  have HV : Hid (0 < n0 → ∃ g a, ad = some ⟨g, a, none⟩ ∧ ∀ i, i < n0 → Rd w g (a + i * 4) (x i)) := hv
  have nI : (n0 : Int) ≤ 4398046511104 := by omega
  obtain ⟨be, ebe⟩ : ∃ be : Nat, bits .and .i64 z 2047 = (be : Int) := ⟨(z % 2048).toNat, by rw [i64_and2047]; omega⟩
  have hbe : be < 2048 := by rw [i64_and2047] at ebe; omega
  have beI : (be : Int) < 2048 := by omega
  clear hv
  unfold W4.v
  go_enter Try.func8, Try.ntmps8
  go_upto_region 1 with fail
  have X0 : Hid (Wd (w.alloc (.cells #[.int .u64 X.a, .int .u64 X.b, .int .u64 X.c, .int .u64 X.d] 30)) w.heap.size 0 X ∧ Below w.heap.size w (w.alloc (.cells #[.int .u64 X.a, .int .u64 X.b, .int .u64 X.c, .int .u64 X.d] 30)) ∧ w.heap.size < (w.alloc (.cells #[.int .u64 X.a, .int .u64 X.b, .int .u64 X.c, .int .u64 X.d] 30)).heap.size) := ⟨Wd.new w _ X, (Below.refl _ _).alloc (Nat.le_refl _) _, by simp⟩
  generalize w.alloc (.cells #[.int .u64 X.a, .int .u64 X.b, .int .u64 X.c, .int .u64 X.d] 30) = v1 at X0 ⊢
  generalize hbx : w.heap.size = bx at X0 ⊢
  have HBX : Hid (w.heap.size = bx) := hbx
  clear hbx
  go_upto_region 5 with (go_at_call 25; refine (newStack_is _).mono ?_; rintro e v2 ⟨rfl, hN⟩; (have S0 : Hid (Stk v2 v1.heap.size 0 4096 ring0 0 ∧ Wd v2 bx 0 X ∧ (bx < v1.heap.size ∧ v1.heap.size < v2.heap.size) ∧ Below bx w v2) := ⟨hN.st, X0.out.1.past hN.bel, ⟨X0.out.2.2, hN.st.lt⟩, X0.out.2.1.trans (hN.bel.mono (Nat.le_of_lt X0.out.2.2))⟩); clear hN)
  generalize v1.heap.size = b at S0 ⊢
  clear X0
  go_wp2
  go_loopw [12] (fun si wr => ∃ k : Nat, k ≤ be ∧ si = .int .i64 (k : Int) ∧ Stk wr b 0 4096 ring0 (-(k : Int)) ∧ Wd wr bx 0 X ∧ (bx < b ∧ b < wr.heap.size) ∧ Below bx w wr) (fun si _ => be - (intOf si).toNat)
  case atStart => exact ⟨0, by omega, rfl, S0.out⟩
  case round =>
    obtain ⟨k, hk, rfl, hS⟩ := hrel
    have S1 : Hid (Stk wr b 0 4096 ring0 (-(k : Int)) ∧ Wd wr bx 0 X ∧ (bx < b ∧ b < wr.heap.size) ∧ Below bx w wr) := hS
    clear hS S0
    by_cases hkb : k < be
    · have kI : (k : Int) < (be : Int) := by omega
      have TK : Hid (Calls Try.prog 38 #[.pointer (some ⟨b, 0, none⟩)] wr fun e w' => e = .returned w0.v ∧ Stk w' b 0 4096 ring0 (-((k + 1 : Nat) : Int)) ∧ Only b wr w') := by
        have h := take_is wr b ring0 (-(k : Int)) S1.out.1
        rw [show wrap64 (-(k : Int) - 1) = -((k + 1 : Nat) : Int) by rw [wrap64]; omega] at h
        exact h
      have hq := fun W => eqw_self 0 0 0 0 W
      go_wp2_with (go_at_call 38; refine (TK.out).mono ?_; rintro e v3 ⟨rfl, h1, h2⟩; (have S2 : Hid (Stk v3 b 0 4096 ring0 (-((k + 1 : Nat) : Int)) ∧ Wd v3 bx 0 X ∧ (bx < b ∧ b < v3.heap.size) ∧ Below bx w v3) := ⟨h1, S1.out.2.1.only h2 (by (have := S1.out.2.2.1; omega)), ⟨S1.out.2.2.1.1, h1.lt⟩, S1.out.2.2.2.trans (h2.below (Nat.le_of_lt S1.out.2.2.1.1) (by (have := S1.out.2.2.1; omega)))⟩); clear h1 h2 TK S1; unfold W4.v w0)
      go_roundw
      case rel => exact ⟨k + 1, by omega, by simp, S2.out⟩
      case measure => simp [intOf]; omega
    · obtain rfl : k = be := by omega
      obtain ⟨zl, ezl⟩ : ∃ zl, zl = zeroL := ⟨_, rfl⟩
      have R0 : Hid (RG w (wr.alloc (.cells zl.toArray 71)) b wr.heap.size bx ring0 ring0 (-(k : Int)) X) := by
        rw [ezl]
        have s1 := S1.out
        refine ⟨s1.1.alloc _, zeroL_in wr _, s1.2.1.alloc _, ⟨by omega, by omega, by omega⟩, ⟨by rw [HBX.out]; omega, by rw [HBX.out]; omega⟩, ?_⟩
        rw [HBX.out]; exact s1.2.2.2.alloc (by omega) _
      have ZL : Hid (∀ w, (zeroValue 71).run Try.prog w = .ok (.agg zl.toArray) w) := fun w => by rw [ezl]; exact zero1024 w
      clear S1 ezl
      have beI2 : (k : Int) < 2048 := by omega
      go_upto_region 11 with (refine alloc_zero 71 zl ZL.out rfl rfl ?_)
      generalize wr.alloc (.cells zl.toArray 71) = v4 at R0 ⊢
      generalize wr.heap.size = ow at R0 ⊢
      go_wp2
      go_loopw [14, 15] (fun s14 si wr => ∃ (j : Nat) (f : Ring), j ≤ n0 ∧ j ≤ 2500 ∧ si = .int .i64 (j : Int) ∧ s14 = .int .i64 ((j : Int) - (k : Int)) ∧ RG w wr b ow bx f f ((j : Int) - (k : Int)) X) (fun _ si _ => 2500 - (intOf si).toNat)
      case atStart => exact ⟨0, ring0, by omega, by omega, rfl, by simp, by have h := R0.out; rw [show -(k : Int) = ((0 : Nat) : Int) - (k : Int) by omega] at h; exact h⟩
      case round =>
        obtain ⟨j, f, hj, hj2, rfl, rfl, hR⟩ := hrel
        obtain ⟨at_, eat⟩ : ∃ at_ : Int, (j : Int) - (k : Int) = at_ := ⟨_, rfl⟩
        rw [eat] at hR ⊢
        have EAT : Hid ((j : Int) - (k : Int) = at_) := eat
        have R1 : Hid (RG w wr b ow bx f f at_ X) := hR
        have a0 : -2048 ≤ at_ := by omega
        have a1 : at_ ≤ 2500 := by omega
        clear hR R0 eat
        by_cases hjn : j < n0 ∧ j < 2500
        · obtain ⟨hjn, hjt⟩ := hjn
          have jI : (j : Int) < (n0 : Int) := by omega
          have jtI : (j : Int) < 2500 := by omega
          obtain ⟨g, a, rfl, hRd⟩ := HV.out (by omega)
          obtain ⟨y, ey⟩ : ∃ y, x j = y := ⟨_, rfl⟩
          have RD : Hid (∀ W, Below w.heap.size w W → Rd W g (a + j * 4) y) := fun W hW => by rw [← ey]; exact (hRd j hjn).below hW (hRd j hjn).lt
          have PT : Hid (Calls Try.prog 37 #[.pointer (some ⟨b, 0, none⟩), y.v] wr fun e w' => e = .returned (.tuple #[]) ∧ Stk w' b 0 4096 (rput f (pl at_) y) (at_ + 1) ∧ Only b wr w') := by
            have h := put_is wr b f at_ R1.out.st y
            rw [wrap_up (by omega) (by omega)] at h
            exact h
          have hp := pl_lt at_
          have tm : Int.tmod (at_ + 4096) 1024 = (pl at_ : Int) := by rw [tm_pl _ (by omega), pl_add]
          generalize pl at_ = p at *
          have pI : (p : Int) < 1024 := by omega
          obtain ⟨r0, r1, r2, r3⟩ := RD.out wr R1.out.bel
          clear ey hRd
          go_upto_region 16 with (go_at_call 37; refine (PT.out).mono ?_; rintro e v5 ⟨rfl, h1, h2⟩; (have R2 : Hid (RG w v5 b ow bx (rput f p y) f (at_ + 1) X) := R1.out.call h1 h2); clear h1 h2 PT R1)
          clear r0 r1 r2 r3
          obtain ⟨r0, r1, r2, r3⟩ := RD.out v5 R2.out.bel
          obtain ⟨c0, c1, c2, c3, g0, g1, g2, g3⟩ := R2.out.oa p hp
          go_upto_region 17 with fail
          change Code.wp _ _ _ _ (put4 v5 ow (p * 4) y)
          have R3 : Hid (RG w (put4 v5 ow (p * 4) y) b ow bx (rput f p y) (rput f p y) (at_ + 1) X) := R2.out.put p hp y
          clear R2 r0 r1 r2 r3 c0 c1 c2 c3 g0 g1 g2 g3
          generalize put4 v5 ow (p * 4) y = v6 at R3 ⊢
          go_wp2
          go_roundw
          case rel => exact ⟨j + 1, rput f p y, by omega, by omega, by simp, by have := EAT.out; simp; omega, by have h := R3.out; rw [show at_ + 1 = ((j + 1 : Nat) : Int) - (k : Int) by have := EAT.out; omega] at h; exact h⟩
          case measure => simp [intOf]; omega
        · have jI : (j : Int) < (n0 : Int) := by omega
          have jtI : ¬ ((j : Int) < 2500) := by omega
          have LN : Hid (∀ W f', Stk W b 0 4096 f' at_ → Calls Try.prog 27 #[.pointer (some ⟨b, 0, none⟩)] W fun e w' => e = .returned (.int .i64 at_) ∧ w' = W) := fun W f' hW => len_is W b f' at_ hW
          go_upto_region 20 with (go_at_call 27; refine (LN.out _ _ R1.out.st).mono ?_; rintro e w' ⟨rfl, hw⟩; (have hw2 := hw.symm); clear hw; subst hw2)
          go_wp2
          go_loopw [16] (fun si wr => ∃ q : Nat, q ≤ 1024 ∧ si = .int .i64 (q : Int) ∧ RG w wr b ow bx f f at_ X) (fun si _ => 1024 - (intOf si).toNat)
          case atStart => exact ⟨0, by omega, rfl, R1.out⟩
          case round =>
            obtain ⟨q, hq, rfl, hR⟩ := hrel
            have R2 : Hid (RG w wr b ow bx f f at_ X) := hR
            clear hR R1
            by_cases hq24 : q < 1024
            · have qI : (q : Int) < 1024 := by omega
              obtain ⟨y, ey⟩ : ∃ y, f (pl (at_ - (q : Int))) = y := ⟨_, rfl⟩
              have PK : Hid (∀ W, Stk W b 0 4096 f at_ → Calls Try.prog 39 #[.pointer (some ⟨b, 0, none⟩), .int .i64 (q : Int)] W fun e w' => e = .returned y.v ∧ Below W.heap.size W w') := fun W hW => by rw [← ey]; exact peek_is W b f at_ (q : Int) hW
              have PA : Hid (∀ W, Stk W b 0 4096 f at_ → Calls Try.prog 39 #[.pointer (some ⟨b, 0, none⟩), .int .i64 ((q : Int) + 1024)] W fun e w' => e = .returned y.v ∧ Below W.heap.size W w') := fun W hW => by rw [← ey, show pl (at_ - (q : Int)) = pl (at_ - ((q : Int) + 1024)) by unfold pl; omega]; exact peek_is W b f at_ _ hW
              have PB : Hid (∀ W, Stk W b 0 4096 f at_ → Calls Try.prog 39 #[.pointer (some ⟨b, 0, none⟩), .int .i64 ((q : Int) - 1024)] W fun e w' => e = .returned y.v ∧ Below W.heap.size W w') := fun W hW => by rw [← ey, show pl (at_ - (q : Int)) = pl (at_ - ((q : Int) - 1024)) by unfold pl; omega]; exact peek_is W b f at_ _ hW
              have hp := pl_lt (at_ - (q : Int))
              have tm : Int.tmod (at_ + 4096 - (q : Int)) 1024 = (pl (at_ - (q : Int)) : Int) := by rw [tm_pl _ (by omega), show at_ + 4096 - (q : Int) = (at_ - (q : Int)) + 4096 by omega, pl_add]
              generalize pl (at_ - (q : Int)) = p at *
              have pI : (p : Int) < 1024 := by omega
              have wp : IntKind.i64.wrap (p : Int) = (p : Int) := by rw [IntKind.wrap_i64]; omega
              have w1 : IntKind.i64.wrap (at_ + 4096) = at_ + 4096 := by rw [IntKind.wrap_i64]; omega
              have w2 : IntKind.i64.wrap (at_ + 4096 - (q : Int)) = at_ + 4096 - (q : Int) := by rw [IntKind.wrap_i64]; omega
              have w3 : IntKind.i64.wrap ((q : Int) + 1024) = (q : Int) + 1024 := by rw [IntKind.wrap_i64]; omega
              have w4 : IntKind.i64.wrap ((q : Int) - 1024) = (q : Int) - 1024 := by rw [IntKind.wrap_i64]; omega
              have EY : Hid (f p = y) := ey
              clear ey
              go_upto_region 23 with fail
              have R3 : Hid (RG w wr.drew b ow bx f f at_ X) := R2.out.past ((Below.refl _ _).drew)
              clear R2
              refine wp_region_held_drew (S := fun V' => Wd V' ow (p * 4) y) (by kernel_rfl) (EY.out ▸ R3.out.oa p hp) (fun hHeld => ?_)
              generalize wr.drew = z0 at hHeld R3 ⊢
              refine wpAnyH_take (i := 0) (v := .pointer (some ⟨b, 0, none⟩)) ov0 (by kernel_rfl) (by kernel_rfl) (by kernel_rfl) (fun _ _ _ h => h) (Or.inl ⟨by rfl, fun V' hS => ?_⟩) hHeld ?_
              · go_simp
              simp only [Act.put, List.setIfInBounds_toArray, List.set_cons_zero, List.set_cons_succ]
              refine wpAnyH_take (i := 1) (v := .int .i64 (q : Int)) ov1 (by kernel_rfl) (by kernel_rfl) (by kernel_rfl) (fun _ _ _ h => h) (Or.inl ⟨by rfl, fun V' hS => ?_⟩) hHeld ?_
              · go_simp
              simp only [Act.put, List.setIfInBounds_toArray, List.set_cons_zero, List.set_cons_succ]
              refine wpAnyH_take (i := 3) (v := .int .i64 at_) ov3 (by kernel_rfl) (by kernel_rfl) (by kernel_rfl) (fun _ _ _ h => h) (Or.inl ⟨by rfl, fun V' hS => ?_⟩) hHeld ?_
              · go_simp
              simp only [Act.put, List.setIfInBounds_toArray, List.set_cons_zero, List.set_cons_succ]
              refine wpAnyH_take (i := 4) (v := .int .i64 (at_ + 4096)) ov4 (by kernel_rfl) (by kernel_rfl) (by kernel_rfl) (fun _ _ _ h => h) (Or.inl ⟨by rfl, fun V' hS => ?_⟩) hHeld ?_
              · go_simp
              simp only [Act.put, List.setIfInBounds_toArray, List.set_cons_zero, List.set_cons_succ]
              refine wpAnyH_take (i := 5) (v := .int .i64 (q : Int)) ov5 (by kernel_rfl) (by kernel_rfl) (by kernel_rfl) (fun _ _ _ h => h) (Or.inl ⟨by rfl, fun V' hS => ?_⟩) hHeld ?_
              · go_simp
              simp only [Act.put, List.setIfInBounds_toArray, List.set_cons_zero, List.set_cons_succ]
              refine wpAnyH_take (i := 6) (v := .int .i64 (at_ + 4096 - (q : Int))) ov6 (by kernel_rfl) (by kernel_rfl) (by kernel_rfl) (fun _ _ _ h => h) (Or.inl ⟨by rfl, fun V' hS => ?_⟩) hHeld ?_
              · go_simp
              simp only [Act.put, List.setIfInBounds_toArray, List.set_cons_zero, List.set_cons_succ]
              refine wpAnyH_take (i := 7) (v := .int .i64 (p : Int)) ov7 (by kernel_rfl) (by kernel_rfl) (by kernel_rfl) (fun _ _ _ h => h) (Or.inl ⟨by rfl, fun V' hS => ?_⟩) hHeld ?_
              · go_simp
              simp only [Act.put, List.setIfInBounds_toArray, List.set_cons_zero, List.set_cons_succ]
              refine wpAnyH_take (i := 8) (v := .pointer (some ⟨ow, p * 4, none⟩)) ov8 (by kernel_rfl) (by kernel_rfl) (by kernel_rfl) (fun _ _ _ h => h) (Or.inl ⟨by rfl, fun V' hS => ?_⟩) hHeld ?_
              · go_simp
              simp only [Act.put, List.setIfInBounds_toArray, List.set_cons_zero, List.set_cons_succ]
              refine wpAnyH_take (i := 9) (v := .agg #[.int .u64 y.a, .int .u64 y.b, .int .u64 y.c, .int .u64 y.d]) ov9 (by kernel_rfl) (by kernel_rfl) (by kernel_rfl) (fun _ _ _ h => h) (Or.inl ⟨by rfl, fun V' hS => ?_⟩) hHeld ?_
              · obtain ⟨c0, c1, c2, c3, _⟩ := hS
                go_simp
              simp only [Act.put, List.setIfInBounds_toArray, List.set_cons_zero, List.set_cons_succ]
              refine wpAnyH_ready (rs := [2]) (by kernel_rfl) (by simp) ?_
              refine AllReadyH.cons ov2 (fun K hK => ?_) AllReadyH.nil
              rw [if_pos (by rfl)]
              go_simp
              refine (PK.out z0 R3.out.st).mono ?_
              rintro e u0_ ⟨rfl, h1⟩
              unfold W4.v
              have Q0 : Hid (RG w u0_ b ow bx f f at_ X) := R3.out.past h1
              clear h1
              (try go_wp2_with fail)
              refine hK.out _ _ (EY.out ▸ Q0.out.oa p hp) (fun _ => ?_)
              clear hK K
              (try simp only [Act.put, List.setIfInBounds_toArray, List.set_cons_zero, List.set_cons_succ])
              refine wpAnyH_take (i := 10) (v := .bool false) ov10 (by kernel_rfl) (by kernel_rfl) (by kernel_rfl) (fun _ _ _ h => h) (Or.inl ⟨by rfl, fun V' hS => ?_⟩) (EY.out ▸ Q0.out.oa p hp) ?_
              · have hq := eqw_self y.a y.b y.c y.d V'
                go_simp
              simp only [Act.put, List.setIfInBounds_toArray, List.set_cons_zero, List.set_cons_succ]
              refine wpAnyH_take (i := 11) (v := .bool false) ov11 (by kernel_rfl) (by kernel_rfl) (by kernel_rfl) (fun _ _ _ h => h) (Or.inl ⟨by rfl, fun V' hS => ?_⟩) (EY.out ▸ Q0.out.oa p hp) ?_
              · go_simp
              simp only [Act.put, List.setIfInBounds_toArray, List.set_cons_zero, List.set_cons_succ]
              refine wpAnyH_take (i := 12) (v := .pointer (some ⟨b, 0, none⟩)) ov12 (by kernel_rfl) (by kernel_rfl) (by kernel_rfl) (fun _ _ _ h => h) (Or.inl ⟨by rfl, fun V' hS => ?_⟩) (EY.out ▸ Q0.out.oa p hp) ?_
              · go_simp
              simp only [Act.put, List.setIfInBounds_toArray, List.set_cons_zero, List.set_cons_succ]
              refine wpAnyH_take (i := 13) (v := .int .i64 (q : Int)) ov13 (by kernel_rfl) (by kernel_rfl) (by kernel_rfl) (fun _ _ _ h => h) (Or.inl ⟨by rfl, fun V' hS => ?_⟩) (EY.out ▸ Q0.out.oa p hp) ?_
              · go_simp
              simp only [Act.put, List.setIfInBounds_toArray, List.set_cons_zero, List.set_cons_succ]
              refine wpAnyH_take (i := 14) (v := .int .i64 ((q : Int) + 1024)) ov14 (by kernel_rfl) (by kernel_rfl) (by kernel_rfl) (fun _ _ _ h => h) (Or.inl ⟨by rfl, fun V' hS => ?_⟩) (EY.out ▸ Q0.out.oa p hp) ?_
              · go_simp
              simp only [Act.put, List.setIfInBounds_toArray, List.set_cons_zero, List.set_cons_succ]
              refine wpAnyH_take (i := 16) (v := .pointer (some ⟨b, 0, none⟩)) ov16 (by kernel_rfl) (by kernel_rfl) (by kernel_rfl) (fun _ _ _ h => h) (Or.inl ⟨by rfl, fun V' hS => ?_⟩) (EY.out ▸ Q0.out.oa p hp) ?_
              · go_simp
              simp only [Act.put, List.setIfInBounds_toArray, List.set_cons_zero, List.set_cons_succ]
              refine wpAnyH_take (i := 17) (v := .int .i64 (q : Int)) ov17 (by kernel_rfl) (by kernel_rfl) (by kernel_rfl) (fun _ _ _ h => h) (Or.inl ⟨by rfl, fun V' hS => ?_⟩) (EY.out ▸ Q0.out.oa p hp) ?_
              · go_simp
              simp only [Act.put, List.setIfInBounds_toArray, List.set_cons_zero, List.set_cons_succ]
              refine wpAnyH_ready (rs := [15]) (by kernel_rfl) (by simp) ?_
              refine AllReadyH.cons ov15 (fun K hK => ?_) AllReadyH.nil
              rw [if_pos (by rfl)]
              go_simp
              refine (PA.out u0_ Q0.out.st).mono ?_
              rintro e u1_ ⟨rfl, h1⟩
              unfold W4.v
              have Q1 : Hid (RG w u1_ b ow bx f f at_ X) := Q0.out.past h1
              clear h1
              (try go_wp2_with fail)
              refine hK.out _ _ (EY.out ▸ Q1.out.oa p hp) (fun _ => ?_)
              clear hK K
              (try simp only [Act.put, List.setIfInBounds_toArray, List.set_cons_zero, List.set_cons_succ])
              refine wpAnyH_ready (rs := [18]) (by kernel_rfl) (by simp) ?_
              refine AllReadyH.cons ov18 (fun K hK => ?_) AllReadyH.nil
              rw [if_pos (by rfl)]
              go_simp
              refine (PK.out u1_ Q1.out.st).mono ?_
              rintro e u2_ ⟨rfl, h1⟩
              unfold W4.v
              have Q2 : Hid (RG w u2_ b ow bx f f at_ X) := Q1.out.past h1
              clear h1
              (try go_wp2_with fail)
              refine hK.out _ _ (EY.out ▸ Q2.out.oa p hp) (fun _ => ?_)
              clear hK K
              (try simp only [Act.put, List.setIfInBounds_toArray, List.set_cons_zero, List.set_cons_succ])
              refine wpAnyH_take (i := 19) (v := .bool false) ov19 (by kernel_rfl) (by kernel_rfl) (by kernel_rfl) (fun _ _ _ h => h) (Or.inl ⟨by rfl, fun V' hS => ?_⟩) (EY.out ▸ Q2.out.oa p hp) ?_
              · have hq := eqw_self y.a y.b y.c y.d V'
                go_simp
              simp only [Act.put, List.setIfInBounds_toArray, List.set_cons_zero, List.set_cons_succ]
              refine wpAnyH_take (i := 20) (v := .bool false) ov20 (by kernel_rfl) (by kernel_rfl) (by kernel_rfl) (fun _ _ _ h => h) (Or.inl ⟨by rfl, fun V' hS => ?_⟩) (EY.out ▸ Q2.out.oa p hp) ?_
              · go_simp
              simp only [Act.put, List.setIfInBounds_toArray, List.set_cons_zero, List.set_cons_succ]
              refine wpAnyH_take (i := 21) (v := .bool false) ov21 (by kernel_rfl) (by kernel_rfl) (by kernel_rfl) (fun _ _ _ h => h) (Or.inl ⟨by rfl, fun V' hS => ?_⟩) (EY.out ▸ Q2.out.oa p hp) ?_
              · go_simp
              simp only [Act.put, List.setIfInBounds_toArray, List.set_cons_zero, List.set_cons_succ]
              refine wpAnyH_take (i := 22) (v := .pointer (some ⟨b, 0, none⟩)) ov22 (by kernel_rfl) (by kernel_rfl) (by kernel_rfl) (fun _ _ _ h => h) (Or.inl ⟨by rfl, fun V' hS => ?_⟩) (EY.out ▸ Q2.out.oa p hp) ?_
              · go_simp
              simp only [Act.put, List.setIfInBounds_toArray, List.set_cons_zero, List.set_cons_succ]
              refine wpAnyH_take (i := 23) (v := .int .i64 (q : Int)) ov23 (by kernel_rfl) (by kernel_rfl) (by kernel_rfl) (fun _ _ _ h => h) (Or.inl ⟨by rfl, fun V' hS => ?_⟩) (EY.out ▸ Q2.out.oa p hp) ?_
              · go_simp
              simp only [Act.put, List.setIfInBounds_toArray, List.set_cons_zero, List.set_cons_succ]
              refine wpAnyH_take (i := 24) (v := .int .i64 ((q : Int) - 1024)) ov24 (by kernel_rfl) (by kernel_rfl) (by kernel_rfl) (fun _ _ _ h => h) (Or.inl ⟨by rfl, fun V' hS => ?_⟩) (EY.out ▸ Q2.out.oa p hp) ?_
              · go_simp
              simp only [Act.put, List.setIfInBounds_toArray, List.set_cons_zero, List.set_cons_succ]
              refine wpAnyH_take (i := 26) (v := .pointer (some ⟨b, 0, none⟩)) ov26 (by kernel_rfl) (by kernel_rfl) (by kernel_rfl) (fun _ _ _ h => h) (Or.inl ⟨by rfl, fun V' hS => ?_⟩) (EY.out ▸ Q2.out.oa p hp) ?_
              · go_simp
              simp only [Act.put, List.setIfInBounds_toArray, List.set_cons_zero, List.set_cons_succ]
              refine wpAnyH_take (i := 27) (v := .int .i64 (q : Int)) ov27 (by kernel_rfl) (by kernel_rfl) (by kernel_rfl) (fun _ _ _ h => h) (Or.inl ⟨by rfl, fun V' hS => ?_⟩) (EY.out ▸ Q2.out.oa p hp) ?_
              · go_simp
              simp only [Act.put, List.setIfInBounds_toArray, List.set_cons_zero, List.set_cons_succ]
              refine wpAnyH_ready (rs := [25]) (by kernel_rfl) (by simp) ?_
              refine AllReadyH.cons ov25 (fun K hK => ?_) AllReadyH.nil
              rw [if_pos (by rfl)]
              go_simp
              refine (PB.out u2_ Q2.out.st).mono ?_
              rintro e u3_ ⟨rfl, h1⟩
              unfold W4.v
              have Q3 : Hid (RG w u3_ b ow bx f f at_ X) := Q2.out.past h1
              clear h1
              (try go_wp2_with fail)
              refine hK.out _ _ (EY.out ▸ Q3.out.oa p hp) (fun _ => ?_)
              clear hK K
              (try simp only [Act.put, List.setIfInBounds_toArray, List.set_cons_zero, List.set_cons_succ])
              refine wpAnyH_ready (rs := [28]) (by kernel_rfl) (by simp) ?_
              refine AllReadyH.cons ov28 (fun K hK => ?_) AllReadyH.nil
              rw [if_pos (by rfl)]
              go_simp
              refine (PK.out u3_ Q3.out.st).mono ?_
              rintro e u4_ ⟨rfl, h1⟩
              unfold W4.v
              have Q4 : Hid (RG w u4_ b ow bx f f at_ X) := Q3.out.past h1
              clear h1
              (try go_wp2_with fail)
              refine hK.out _ _ (EY.out ▸ Q4.out.oa p hp) (fun _ => ?_)
              clear hK K
              (try simp only [Act.put, List.setIfInBounds_toArray, List.set_cons_zero, List.set_cons_succ])
              refine wpAnyH_take (i := 29) (v := .bool false) ov29 (by kernel_rfl) (by kernel_rfl) (by kernel_rfl) (fun _ _ _ h => h) (Or.inl ⟨by rfl, fun V' hS => ?_⟩) (EY.out ▸ Q4.out.oa p hp) ?_
              · have hq := eqw_self y.a y.b y.c y.d V'
                go_simp
              simp only [Act.put, List.setIfInBounds_toArray, List.set_cons_zero, List.set_cons_succ]
              refine wpAnyH_take (i := 30) (v := .bool false) ov30 (by kernel_rfl) (by kernel_rfl) (by kernel_rfl) (fun _ _ _ h => h) (Or.inl ⟨by rfl, fun V' hS => ?_⟩) (EY.out ▸ Q4.out.oa p hp) ?_
              · go_simp
              simp only [Act.put, List.setIfInBounds_toArray, List.set_cons_zero, List.set_cons_succ]
              refine wpAnyH_done (by kernel_rfl) ?_ _
              go_wp2
              go_roundw
              case rel => exact ⟨q + 1, by omega, by simp, Q4.out⟩
              case measure => simp [intOf]; omega
            · obtain rfl : q = 1024 := by omega
              have hm := cnt_le at_
              have emc := cnt_eq at_
              have WS : Hid (Calls Try.prog 30 #[.pointer (some ⟨b, 0, none⟩)] wr fun e w' => e = .returned (.slice (some ⟨wr.heap.size, 0, none⟩) (cnt at_) (cnt at_)) ∧ WordsIn w' wr.heap.size 0 (cnt at_) (told f at_) ∧ Below wr.heap.size wr w') := words_is wr b f at_ R2.out.st
              have TT : Hid (∀ t : Nat, t < cnt at_ → told f at_ (cnt at_ - 1 - t) = f (pl (at_ - ((t : Int) + 1)))) := fun t ht => by
                unfold told; congr 2; omega
              have EM : Hid ((cnt at_ : Int) = min (max at_ 0) 1024) := emc
              clear emc
              generalize cnt at_ = m at *
              have mI : (m : Int) ≤ 1024 := by omega
              go_upto_region 26 with (go_at_call 30; refine (WS.out).mono ?_; rintro e v7 ⟨rfl, h1, h2⟩; (have R3 : Hid (RG w v7 b ow bx f f at_ X) := R2.out.past h2); (have WI : Hid (WordsIn v7 wr.heap.size 0 m (told f at_)) := h1); clear h1 h2 WS R2)
              generalize wr.heap.size = gw at WI ⊢
              go_cut [18] (fun s18 wx => s18 = .int .i64 (m : Int) ∧ wx = v7)
              case first =>
                by_cases h0 : at_ < 0
                · have ev : (m : Int) = 0 := by have := EM.out; omega
                  have h1 : ¬ (0 ≤ at_) := by omega
                  have EV : Hid ((m : Int) = 0) := ev
                  clear ev
                  go_wp2
                  go_meet
                  case rel => exact ⟨by rw [EV.out], rfl⟩
                · by_cases h1 : 1024 < at_
                  · have EV : Hid ((m : Int) = 1024) := by have := EM.out; unfold Hid; omega
                    have h2 : 0 ≤ at_ := by omega
                    go_wp2
                    go_meet
                    case rel => exact ⟨by rw [EV.out], rfl⟩
                  · have EV : Hid ((m : Int) = at_) := by have := EM.out; unfold Hid; omega
                    have h2 : 0 ≤ at_ := by omega
                    go_wp2
                    go_meet
                    case rel => exact ⟨by rw [EV.out], rfl⟩
              case rest =>
                obtain ⟨rfl, rfl⟩ := hcut
                go_wp2
                go_loopw [19] (fun si wr => ∃ t : Nat, t ≤ m ∧ si = .int .i64 (t : Int) ∧ RG w wr b ow bx f f at_ X ∧ WordsIn wr gw 0 m (told f at_)) (fun si _ => m - (intOf si).toNat)
                case atStart => exact ⟨0, by omega, rfl, R3.out, WI.out⟩
                case round =>
                  obtain ⟨t, ht, rfl, hR, hW⟩ := hrel
                  have R4 : Hid (RG w wr b ow bx f f at_ X) := hR
                  have WJ : Hid (WordsIn wr gw 0 m (told f at_)) := hW
                  clear hR hW R3 WI
                  by_cases htm : t < m
                  · have tI : (t : Int) < (m : Int) := by omega
                    obtain ⟨u, eu⟩ : ∃ u : Nat, u = m - 1 - t := ⟨_, rfl⟩
                    have hu : u < m := by omega
                    have uI : (u : Int) < (m : Int) := by omega
                    have w1 : IntKind.i64.wrap ((m : Int) - 1) = (m : Int) - 1 := by rw [IntKind.wrap_i64]; omega
                    have w2 : (m : Int) - 1 - (t : Int) = (u : Int) := by omega
                    have w3 : IntKind.i64.wrap (u : Int) = (u : Int) := by rw [IntKind.wrap_i64]; omega
                    have w4 : IntKind.i64.wrap ((t : Int) + 1) = (t : Int) + 1 := by rw [IntKind.wrap_i64]; omega
                    obtain ⟨y, ey⟩ : ∃ y, f (pl (at_ - ((t : Int) + 1))) = y := ⟨_, rfl⟩
                    have PK : Hid (∀ W, Stk W b 0 4096 f at_ → Calls Try.prog 39 #[.pointer (some ⟨b, 0, none⟩), .int .i64 ((t : Int) + 1)] W fun e w' => e = .returned y.v ∧ Below W.heap.size W w') := fun W hW => by rw [← ey]; exact peek_is W b f at_ _ hW
                    have RX : Hid (∀ W, WordsIn W gw 0 m (told f at_) → Rd W gw (u * 4) y) := fun W hW => by
                      have h := (hW u hu).rd
                      rw [Nat.zero_add, eu, TT.out t htm, ey, ← eu] at h; exact h
                    clear ey eu
                    go_upto_region 32 with fail
                    have R5 : Hid (RG w wr.drew b ow bx f f at_ X) := R4.out.past ((Below.refl _ _).drew)
                    have WK : Hid (WordsIn wr.drew gw 0 m (told f at_)) := WJ.out.past ((Below.refl _ _).drew)
                    clear R4 WJ
                    refine wp_region_held_drew (S := fun V' => Rd V' gw (u * 4) y) (by kernel_rfl) (RX.out _ WK.out) (fun hHeld => ?_)
                    generalize wr.drew = z0 at hHeld R5 WK ⊢
                    refine wpAnyH_take (i := 0) (v := .slice (some ⟨gw, 0, none⟩) m m) ov0 (by kernel_rfl) (by kernel_rfl) (by kernel_rfl) (fun _ _ _ h => h) (Or.inl ⟨by rfl, fun V' hS => ?_⟩) hHeld ?_
                    · go_simp
                    simp only [Act.put, List.setIfInBounds_toArray, List.set_cons_zero, List.set_cons_succ]
                    refine wpAnyH_take (i := 1) (v := .int .i64 (m : Int)) ov1 (by kernel_rfl) (by kernel_rfl) (by kernel_rfl) (fun _ _ _ h => h) (Or.inl ⟨by rfl, fun V' hS => ?_⟩) hHeld ?_
                    · go_simp
                    simp only [Act.put, List.setIfInBounds_toArray, List.set_cons_zero, List.set_cons_succ]
                    refine wpAnyH_take (i := 2) (v := .int .i64 ((m : Int) - 1)) ov2 (by kernel_rfl) (by kernel_rfl) (by kernel_rfl) (fun _ _ _ h => h) (Or.inl ⟨by rfl, fun V' hS => ?_⟩) hHeld ?_
                    · go_simp
                    simp only [Act.put, List.setIfInBounds_toArray, List.set_cons_zero, List.set_cons_succ]
                    refine wpAnyH_take (i := 3) (v := .int .i64 (t : Int)) ov3 (by kernel_rfl) (by kernel_rfl) (by kernel_rfl) (fun _ _ _ h => h) (Or.inl ⟨by rfl, fun V' hS => ?_⟩) hHeld ?_
                    · go_simp
                    simp only [Act.put, List.setIfInBounds_toArray, List.set_cons_zero, List.set_cons_succ]
                    refine wpAnyH_take (i := 4) (v := .int .i64 (u : Int)) ov4 (by kernel_rfl) (by kernel_rfl) (by kernel_rfl) (fun _ _ _ h => h) (Or.inl ⟨by rfl, fun V' hS => ?_⟩) hHeld ?_
                    · go_simp
                    simp only [Act.put, List.setIfInBounds_toArray, List.set_cons_zero, List.set_cons_succ]
                    refine wpAnyH_take (i := 5) (v := .pointer (some ⟨gw, u * 4, none⟩)) ov5 (by kernel_rfl) (by kernel_rfl) (by kernel_rfl) (fun _ _ _ h => h) (Or.inl ⟨by rfl, fun V' hS => ?_⟩) hHeld ?_
                    · go_simp
                    simp only [Act.put, List.setIfInBounds_toArray, List.set_cons_zero, List.set_cons_succ]
                    refine wpAnyH_take (i := 6) (v := .agg #[.int .u64 y.a, .int .u64 y.b, .int .u64 y.c, .int .u64 y.d]) ov6 (by kernel_rfl) (by kernel_rfl) (by kernel_rfl) (fun _ _ _ h => h) (Or.inl ⟨by rfl, fun V' hS => ?_⟩) hHeld ?_
                    · obtain ⟨c0, c1, c2, c3⟩ := hS
                      go_simp
                    simp only [Act.put, List.setIfInBounds_toArray, List.set_cons_zero, List.set_cons_succ]
                    refine wpAnyH_take (i := 7) (v := .pointer (some ⟨b, 0, none⟩)) ov7 (by kernel_rfl) (by kernel_rfl) (by kernel_rfl) (fun _ _ _ h => h) (Or.inl ⟨by rfl, fun V' hS => ?_⟩) hHeld ?_
                    · go_simp
                    simp only [Act.put, List.setIfInBounds_toArray, List.set_cons_zero, List.set_cons_succ]
                    refine wpAnyH_take (i := 8) (v := .int .i64 (t : Int)) ov8 (by kernel_rfl) (by kernel_rfl) (by kernel_rfl) (fun _ _ _ h => h) (Or.inl ⟨by rfl, fun V' hS => ?_⟩) hHeld ?_
                    · go_simp
                    simp only [Act.put, List.setIfInBounds_toArray, List.set_cons_zero, List.set_cons_succ]
                    refine wpAnyH_take (i := 9) (v := .int .i64 ((t : Int) + 1)) ov9 (by kernel_rfl) (by kernel_rfl) (by kernel_rfl) (fun _ _ _ h => h) (Or.inl ⟨by rfl, fun V' hS => ?_⟩) hHeld ?_
                    · go_simp
                    simp only [Act.put, List.setIfInBounds_toArray, List.set_cons_zero, List.set_cons_succ]
                    refine wpAnyH_ready (rs := [10]) (by kernel_rfl) (by simp) ?_
                    refine AllReadyH.cons ov10 (fun K hK => ?_) AllReadyH.nil
                    rw [if_pos (by rfl)]
                    go_simp
                    refine (PK.out z0 R5.out.st).mono ?_
                    rintro e v8 ⟨rfl, h1⟩
                    unfold W4.v
                    have R6 : Hid (RG w v8 b ow bx f f at_ X) := R5.out.past h1
                    have WM : Hid (WordsIn v8 gw 0 m (told f at_)) := WK.out.past h1
                    clear h1
                    (try go_wp2_with fail)
                    refine hK.out _ _ (RX.out _ WM.out) (fun _ => ?_)
                    clear hK K
                    (try simp only [Act.put, List.setIfInBounds_toArray, List.set_cons_zero, List.set_cons_succ])
                    refine wpAnyH_take (i := 11) (v := .bool false) ov11 (by kernel_rfl) (by kernel_rfl) (by kernel_rfl) (fun _ _ _ h => h) (Or.inl ⟨by rfl, fun V' hS => ?_⟩) (RX.out _ WM.out) ?_
                    · have hq := eqw_self y.a y.b y.c y.d V'
                      go_simp
                    simp only [Act.put, List.setIfInBounds_toArray, List.set_cons_zero, List.set_cons_succ]
                    refine wpAnyH_done (by kernel_rfl) ?_ _
                    go_wp2
                    go_roundw
                    case rel => exact ⟨t + 1, by omega, by simp, R6.out, WM.out⟩
                    case measure => simp [intOf]; omega
                  · obtain rfl : t = m := by omega
                    clear WJ TT EM
                    obtain ⟨ya, eya⟩ : ∃ ya, f (pl (at_ - N)) = ya := ⟨_, rfl⟩
                    obtain ⟨yb, eyb⟩ : ∃ yb, f (pl (at_ - M)) = yb := ⟨_, rfl⟩
                    obtain ⟨f1, ef1⟩ : ∃ f1, f1 = turnF f at_ N M := ⟨_, rfl⟩
                    obtain ⟨f2, ef2⟩ : ∃ f2, f2 = rput f (pl at_) ya := ⟨_, rfl⟩
                    obtain ⟨f3, ef3⟩ : ∃ f3, f3 = rput f2 (pl at_) X := ⟨_, rfl⟩
                    obtain ⟨yc, eyc⟩ : ∃ yc, f (pl (at_ - 1)) = yc := ⟨_, rfl⟩
                    have wu : wrap64 (at_ + 1) = at_ + 1 := wrap_up (by omega) (by omega)
                    have wv : wrap64 (at_ + 1 - 1) = at_ := by rw [wrap64]; omega
                    have PN : Hid (∀ W, Stk W b 0 4096 f at_ → Calls Try.prog 39 #[.pointer (some ⟨b, 0, none⟩), .int .i64 N] W fun e w' => e = .returned ya.v ∧ Below W.heap.size W w') := fun W hW => by rw [← eya]; exact peek_is W b f at_ N hW
                    have PM : Hid (∀ W, Stk W b 0 4096 f at_ → Calls Try.prog 39 #[.pointer (some ⟨b, 0, none⟩), .int .i64 M] W fun e w' => e = .returned yb.v ∧ Below W.heap.size W w') := fun W hW => by rw [← eyb]; exact peek_is W b f at_ M hW
                    have T1 : Hid (∀ W, Stk W b 0 4096 f at_ → Calls Try.prog 34 #[.pointer (some ⟨b, 0, none⟩), .int .i64 N, .int .i64 M] W fun e w' => e = .returned (.tuple #[]) ∧ Stk w' b 0 4096 f1 at_ ∧ Only b W w') := fun W hW => by rw [ef1]; exact turn_is W b f at_ N M hW
                    have Q1 : Hid (∀ W, Stk W b 0 4096 f1 at_ → Calls Try.prog 39 #[.pointer (some ⟨b, 0, none⟩), .int .i64 N] W fun e w' => e = .returned yb.v ∧ Below W.heap.size W w') := fun W hW => by
                      have h := peek_is W b f1 at_ N hW
                      rw [ef1, turn_l, eyb] at h; exact h
                    have Q2 : Hid (∀ W, Stk W b 0 4096 f1 at_ → Calls Try.prog 39 #[.pointer (some ⟨b, 0, none⟩), .int .i64 M] W fun e w' => e = .returned ya.v ∧ Below W.heap.size W w') := fun W hW => by
                      have h := peek_is W b f1 at_ M hW
                      rw [ef1, turn_r, eya] at h; exact h
                    have T2 : Hid (∀ W, Stk W b 0 4096 f1 at_ → Calls Try.prog 34 #[.pointer (some ⟨b, 0, none⟩), .int .i64 M, .int .i64 N] W fun e w' => e = .returned (.tuple #[]) ∧ Stk w' b 0 4096 f at_ ∧ Only b W w') := fun W hW => by
                      have h := turn_is W b f1 at_ M N hW
                      have h2 : turnF f1 at_ M N = f := by rw [ef1]; exact turn_back f at_ N M
                      unfold turnF at h2
                      rw [h2] at h; exact h
                    have AG : Hid (∀ W, Stk W b 0 4096 f at_ → Calls Try.prog 40 #[.pointer (some ⟨b, 0, none⟩), .int .i64 N] W fun e w' => e = .returned (.tuple #[]) ∧ Stk w' b 0 4096 f2 (at_ + 1) ∧ Only b W w') := fun W hW => by
                      have h := again_is W b f at_ N hW
                      rw [eya, wu, ← ef2] at h; exact h
                    have TK : Hid (∀ W, Stk W b 0 4096 f2 (at_ + 1) → Calls Try.prog 38 #[.pointer (some ⟨b, 0, none⟩)] W fun e w' => e = .returned ya.v ∧ Stk w' b 0 4096 f2 at_ ∧ Only b W w') := fun W hW => by
                      have h := take_is W b f2 (at_ + 1) hW
                      rw [wv, show f2 (pl (at_ + 1 - 1)) = ya by rw [ef2, show at_ + 1 - 1 = at_ by omega]; unfold rput; rw [if_pos rfl]] at h; exact h
                    have PX : Hid (∀ W, Stk W b 0 4096 f2 at_ → Calls Try.prog 37 #[.pointer (some ⟨b, 0, none⟩), X.v] W fun e w' => e = .returned (.tuple #[]) ∧ Stk w' b 0 4096 f3 (at_ + 1) ∧ Only b W w') := fun W hW => by
                      have h := put_is W b f2 at_ hW X
                      rw [wu, ← ef3] at h; exact h
                    have TX : Hid (∀ W, Stk W b 0 4096 f3 (at_ + 1) → Calls Try.prog 38 #[.pointer (some ⟨b, 0, none⟩)] W fun e w' => e = .returned X.v ∧ Stk w' b 0 4096 f3 at_ ∧ Only b W w') := fun W hW => by
                      have h := take_is W b f3 (at_ + 1) hW
                      rw [wv, show f3 (pl (at_ + 1 - 1)) = X by rw [ef3, show at_ + 1 - 1 = at_ by omega]; unfold rput; rw [if_pos rfl]] at h; exact h
                    have P1 : Hid (∀ W, Stk W b 0 4096 f3 at_ → Calls Try.prog 39 #[.pointer (some ⟨b, 0, none⟩), .int .i64 1] W fun e w' => e = .returned yc.v ∧ Below W.heap.size W w') := fun W hW => by
                      have h := peek_is W b f3 at_ 1 hW
                      rw [show f3 (pl (at_ - 1)) = yc by rw [ef3, ef2]; unfold rput; rw [if_neg (pl_ne at_), if_neg (pl_ne at_)]; exact eyc] at h; exact h
                    have hp := pl_lt (at_ - 1)
                    have tm : Int.tmod (at_ + 4095) 1024 = (pl (at_ - 1) : Int) := by rw [tm_pl _ (by omega), show at_ + 4095 = (at_ - 1) + 4096 by omega, pl_add]
                    generalize pl (at_ - 1) = p at *
                    have EC : Hid (f p = yc) := eyc
                    obtain ⟨pu, epu⟩ : ∃ pu, pu = oPush f3 at_ X := ⟨_, rfl⟩
                    have PS : Hid (∀ W, Stk W b 0 4096 f3 at_ → Calls Try.prog 26 #[.pointer (some ⟨b, 0, none⟩), X.v] W fun e w' => e = .returned (.int .i64 pu.e) ∧ Stk w' b 0 4096 pu.f pu.n ∧ Only b W w') := fun W hW => by rw [epu]; exact push_is W b f3 at_ hW X
                    have PE : Hid (1024 ≤ at_ ∧ pu.e = 91 ∨ at_ < 1024 ∧ pu.e = 0) := by
                      rw [epu]; unfold Hid oPush
                      by_cases h : 1024 ≤ at_
                      · rw [if_pos h]; exact Or.inl ⟨h, rfl⟩
                      · rw [if_neg h]; exact Or.inr ⟨by omega, rfl⟩
                    clear eya eyb ef1 ef2 ef3 eyc epu wu wv
                    go_upto_region 35 with (go_at_call 39; refine (PN.out _ R4.out.st).mono ?_; rintro e v8 ⟨rfl, h1⟩; (have R5 : Hid (RG w v8 b ow bx f f at_ X) := R4.out.past h1); clear h1 PN R4; unfold W4.v)
                    have BA : Hid (Wd (v8.alloc (.cells #[.int .u64 ya.a, .int .u64 ya.b, .int .u64 ya.c, .int .u64 ya.d] 30)) v8.heap.size 0 ya ∧ v8.heap.size ≠ b) := ⟨Wd.new v8 _ ya, by have := R5.out.st.lt; omega⟩
                    replace R5 : Hid (RG w (v8.alloc (.cells #[.int .u64 ya.a, .int .u64 ya.b, .int .u64 ya.c, .int .u64 ya.d] 30)) b ow bx f f at_ X) := R5.out.past ((Below.refl _ _).alloc (Nat.le_refl _) _)
                    generalize v8.alloc (.cells #[.int .u64 ya.a, .int .u64 ya.b, .int .u64 ya.c, .int .u64 ya.d] 30) = v9 at BA R5 ⊢
                    generalize v8.heap.size = ba at BA ⊢
                    go_upto_region 36 with (go_at_call 39; refine (PM.out _ R5.out.st).mono ?_; rintro e v10 ⟨rfl, h1⟩; (have R6 : Hid (RG w v10 b ow bx f f at_ X) := R5.out.past h1); (have BB : Hid (Wd v10 ba 0 ya ∧ ba ≠ b) := ⟨BA.out.1.past h1, BA.out.2⟩); clear h1 PM R5 BA; unfold W4.v)
                    have BC_ : Hid ((Wd (v10.alloc (.cells #[.int .u64 yb.a, .int .u64 yb.b, .int .u64 yb.c, .int .u64 yb.d] 30)) ba 0 ya ∧ ba ≠ b) ∧ Wd (v10.alloc (.cells #[.int .u64 yb.a, .int .u64 yb.b, .int .u64 yb.c, .int .u64 yb.d] 30)) v10.heap.size 0 yb ∧ v10.heap.size ≠ b) := ⟨⟨BB.out.1.alloc _, BB.out.2⟩, Wd.new v10 _ yb, by have := R6.out.st.lt; omega⟩
                    replace R6 : Hid (RG w (v10.alloc (.cells #[.int .u64 yb.a, .int .u64 yb.b, .int .u64 yb.c, .int .u64 yb.d] 30)) b ow bx f f at_ X) := R6.out.past ((Below.refl _ _).alloc (Nat.le_refl _) _)
                    generalize v10.alloc (.cells #[.int .u64 yb.a, .int .u64 yb.b, .int .u64 yb.c, .int .u64 yb.d] 30) = v11 at BC_ R6 ⊢
                    generalize v10.heap.size = bb at BC_ ⊢
                    clear BB
                    go_upto_region 37 with (go_at_call 34; refine (T1.out _ R6.out.st).mono ?_; rintro e v12 ⟨rfl, h1, h2⟩; (have R7 : Hid (RG w v12 b ow bx f1 f at_ X) := R6.out.call h1 h2); (have BD : Hid ((Wd v12 ba 0 ya ∧ ba ≠ b) ∧ Wd v12 bb 0 yb ∧ bb ≠ b) := ⟨⟨BC_.out.1.1.only h2 BC_.out.1.2, BC_.out.1.2⟩, BC_.out.2.1.only h2 BC_.out.2.2, BC_.out.2.2⟩); clear h1 h2 T1 R6 BC_)
                    have R8 : Hid (RG w v12.drew b ow bx f1 f at_ X) := R7.out.past ((Below.refl _ _).drew)
                    have BE : Hid ((Wd v12.drew ba 0 ya ∧ ba ≠ b) ∧ Wd v12.drew bb 0 yb ∧ bb ≠ b) := ⟨⟨BD.out.1.1.drew, BD.out.1.2⟩, BD.out.2.1.drew, BD.out.2.2⟩
                    clear R7 BD
                    refine wp_region_held_drew (S := fun V' => (Wd V' ba 0 ya ∧ ba ≠ b) ∧ Wd V' bb 0 yb ∧ bb ≠ b) (by kernel_rfl) BE.out (fun hHeld => ?_)
                    generalize v12.drew = z0 at hHeld R8 BE ⊢
                    refine wpAnyH_take (i := 0) (v := .pointer (some ⟨b, 0, none⟩)) ov0 (by kernel_rfl) (by kernel_rfl) (by kernel_rfl) (fun _ _ _ h => h) (Or.inl ⟨by rfl, fun V' hS => ?_⟩) hHeld ?_
                    · go_simp
                    simp only [Act.put, List.setIfInBounds_toArray, List.set_cons_zero, List.set_cons_succ]
                    refine wpAnyH_take (i := 1) (v := .int .i64 N) ov1 (by kernel_rfl) (by kernel_rfl) (by kernel_rfl) (fun _ _ _ h => h) (Or.inl ⟨by rfl, fun V' hS => ?_⟩) hHeld ?_
                    · go_simp
                    simp only [Act.put, List.setIfInBounds_toArray, List.set_cons_zero, List.set_cons_succ]
                    refine wpAnyH_take (i := 3) (v := .agg #[.int .u64 yb.a, .int .u64 yb.b, .int .u64 yb.c, .int .u64 yb.d]) ov3 (by kernel_rfl) (by kernel_rfl) (by kernel_rfl) (fun _ _ _ h => h) (Or.inl ⟨by rfl, fun V' hS => ?_⟩) hHeld ?_
                    · obtain ⟨c0, c1, c2, c3, _⟩ := hS.2.1
                      go_simp
                    simp only [Act.put, List.setIfInBounds_toArray, List.set_cons_zero, List.set_cons_succ]
                    refine wpAnyH_ready (rs := [2]) (by kernel_rfl) (by simp) ?_
                    refine AllReadyH.cons ov2 (fun K hK => ?_) AllReadyH.nil
                    rw [if_pos (by rfl)]
                    go_simp
                    refine (Q1.out z0 R8.out.st).mono ?_
                    rintro e v13 ⟨rfl, h1⟩
                    unfold W4.v
                    have R9 : Hid (RG w v13 b ow bx f1 f at_ X) := R8.out.past h1
                    have BF : Hid ((Wd v13 ba 0 ya ∧ ba ≠ b) ∧ Wd v13 bb 0 yb ∧ bb ≠ b) := ⟨⟨BE.out.1.1.past h1, BE.out.1.2⟩, BE.out.2.1.past h1, BE.out.2.2⟩
                    clear h1
                    (try go_wp2_with fail)
                    refine hK.out _ _ BF.out (fun _ => ?_)
                    clear hK K
                    (try simp only [Act.put, List.setIfInBounds_toArray, List.set_cons_zero, List.set_cons_succ])
                    refine wpAnyH_take (i := 4) (v := .bool false) ov4 (by kernel_rfl) (by kernel_rfl) (by kernel_rfl) (fun _ _ _ h => h) (Or.inl ⟨by rfl, fun V' hS => ?_⟩) BF.out ?_
                    · have hq := eqw_self yb.a yb.b yb.c yb.d V'
                      go_simp
                    simp only [Act.put, List.setIfInBounds_toArray, List.set_cons_zero, List.set_cons_succ]
                    refine wpAnyH_take (i := 5) (v := .bool false) ov5 (by kernel_rfl) (by kernel_rfl) (by kernel_rfl) (fun _ _ _ h => h) (Or.inl ⟨by rfl, fun V' hS => ?_⟩) BF.out ?_
                    · go_simp
                    simp only [Act.put, List.setIfInBounds_toArray, List.set_cons_zero, List.set_cons_succ]
                    refine wpAnyH_take (i := 6) (v := .pointer (some ⟨b, 0, none⟩)) ov6 (by kernel_rfl) (by kernel_rfl) (by kernel_rfl) (fun _ _ _ h => h) (Or.inl ⟨by rfl, fun V' hS => ?_⟩) BF.out ?_
                    · go_simp
                    simp only [Act.put, List.setIfInBounds_toArray, List.set_cons_zero, List.set_cons_succ]
                    refine wpAnyH_take (i := 7) (v := .int .i64 M) ov7 (by kernel_rfl) (by kernel_rfl) (by kernel_rfl) (fun _ _ _ h => h) (Or.inl ⟨by rfl, fun V' hS => ?_⟩) BF.out ?_
                    · go_simp
                    simp only [Act.put, List.setIfInBounds_toArray, List.set_cons_zero, List.set_cons_succ]
                    refine wpAnyH_take (i := 9) (v := .agg #[.int .u64 ya.a, .int .u64 ya.b, .int .u64 ya.c, .int .u64 ya.d]) ov9 (by kernel_rfl) (by kernel_rfl) (by kernel_rfl) (fun _ _ _ h => h) (Or.inl ⟨by rfl, fun V' hS => ?_⟩) BF.out ?_
                    · obtain ⟨c0, c1, c2, c3, _⟩ := hS.1.1
                      go_simp
                    simp only [Act.put, List.setIfInBounds_toArray, List.set_cons_zero, List.set_cons_succ]
                    refine wpAnyH_ready (rs := [8]) (by kernel_rfl) (by simp) ?_
                    refine AllReadyH.cons ov8 (fun K hK => ?_) AllReadyH.nil
                    rw [if_pos (by rfl)]
                    go_simp
                    refine (Q2.out v13 R9.out.st).mono ?_
                    rintro e v14 ⟨rfl, h1⟩
                    unfold W4.v
                    have R10 : Hid (RG w v14 b ow bx f1 f at_ X) := R9.out.past h1
                    have BG : Hid ((Wd v14 ba 0 ya ∧ ba ≠ b) ∧ Wd v14 bb 0 yb ∧ bb ≠ b) := ⟨⟨BF.out.1.1.past h1, BF.out.1.2⟩, BF.out.2.1.past h1, BF.out.2.2⟩
                    clear h1
                    (try go_wp2_with fail)
                    refine hK.out _ _ BG.out (fun _ => ?_)
                    clear hK K
                    (try simp only [Act.put, List.setIfInBounds_toArray, List.set_cons_zero, List.set_cons_succ])
                    refine wpAnyH_take (i := 10) (v := .bool false) ov10 (by kernel_rfl) (by kernel_rfl) (by kernel_rfl) (fun _ _ _ h => h) (Or.inl ⟨by rfl, fun V' hS => ?_⟩) BG.out ?_
                    · have hq := eqw_self ya.a ya.b ya.c ya.d V'
                      go_simp
                    simp only [Act.put, List.setIfInBounds_toArray, List.set_cons_zero, List.set_cons_succ]
                    refine wpAnyH_take (i := 11) (v := .bool false) ov11 (by kernel_rfl) (by kernel_rfl) (by kernel_rfl) (fun _ _ _ h => h) (Or.inl ⟨by rfl, fun V' hS => ?_⟩) BG.out ?_
                    · go_simp
                    simp only [Act.put, List.setIfInBounds_toArray, List.set_cons_zero, List.set_cons_succ]
                    refine wpAnyH_take (i := 12) (v := .bool false) ov12 (by kernel_rfl) (by kernel_rfl) (by kernel_rfl) (fun _ _ _ h => h) (Or.inl ⟨by rfl, fun V' hS => ?_⟩) BG.out ?_
                    · go_simp
                    simp only [Act.put, List.setIfInBounds_toArray, List.set_cons_zero, List.set_cons_succ]
                    refine wpAnyH_take (i := 13) (v := .pointer (some ⟨b, 0, none⟩)) ov13 (by kernel_rfl) (by kernel_rfl) (by kernel_rfl) (fun _ _ _ h => h) (Or.inl ⟨by rfl, fun V' hS => ?_⟩) BG.out ?_
                    · go_simp
                    simp only [Act.put, List.setIfInBounds_toArray, List.set_cons_zero, List.set_cons_succ]
                    refine wpAnyH_take (i := 15) (v := .int .i64 at_) ov15 (by kernel_rfl) (by kernel_rfl) (by kernel_rfl) (fun _ _ _ h => h) (Or.inl ⟨by rfl, fun V' hS => ?_⟩) BG.out ?_
                    · go_simp
                    simp only [Act.put, List.setIfInBounds_toArray, List.set_cons_zero, List.set_cons_succ]
                    refine wpAnyH_ready (rs := [14]) (by kernel_rfl) (by simp) ?_
                    refine AllReadyH.cons ov14 (fun K hK => ?_) AllReadyH.nil
                    rw [if_pos (by rfl)]
                    go_simp
                    refine (LN.out v14 _ R10.out.st).mono ?_
                    rintro e w' ⟨rfl, hw⟩
                    have hw2 := hw.symm
                    clear hw
                    subst hw2
                    (try go_wp2_with fail)
                    refine hK.out _ _ BG.out (fun _ => ?_)
                    clear hK K
                    (try simp only [Act.put, List.setIfInBounds_toArray, List.set_cons_zero, List.set_cons_succ])
                    refine wpAnyH_take (i := 16) (v := .bool false) ov16 (by kernel_rfl) (by kernel_rfl) (by kernel_rfl) (fun _ _ _ h => h) (Or.inl ⟨by rfl, fun V' hS => ?_⟩) BG.out ?_
                    · go_simp
                    simp only [Act.put, List.setIfInBounds_toArray, List.set_cons_zero, List.set_cons_succ]
                    refine wpAnyH_take (i := 17) (v := .bool false) ov17 (by kernel_rfl) (by kernel_rfl) (by kernel_rfl) (fun _ _ _ h => h) (Or.inl ⟨by rfl, fun V' hS => ?_⟩) BG.out ?_
                    · go_simp
                    simp only [Act.put, List.setIfInBounds_toArray, List.set_cons_zero, List.set_cons_succ]
                    refine wpAnyH_done (by kernel_rfl) ?_ _
                    clear hHeld BE BF R8 R9 Q1 Q2
                    go_upto_region 41 with (first | (go_at_call 34; refine (T2.out _ R10.out.st).mono ?_; rintro e v15 ⟨rfl, h1, h2⟩; (have R11 : Hid (RG w v15 b ow bx f f at_ X) := R10.out.call h1 h2); (have BH : Hid ((Wd v15 ba 0 ya ∧ ba ≠ b) ∧ Wd v15 bb 0 yb ∧ bb ≠ b) := ⟨⟨BG.out.1.1.only h2 BG.out.1.2, BG.out.1.2⟩, BG.out.2.1.only h2 BG.out.2.2, BG.out.2.2⟩); clear h1 h2 T2 R10 BG) | (go_at_call 40; refine (AG.out _ R11.out.st).mono ?_; rintro e v16 ⟨rfl, h1, h2⟩; (have R12 : Hid (RG w v16 b ow bx f2 f (at_ + 1) X) := R11.out.call h1 h2); (have BI : Hid ((Wd v16 ba 0 ya ∧ ba ≠ b) ∧ Wd v16 bb 0 yb ∧ bb ≠ b) := ⟨⟨BH.out.1.1.only h2 BH.out.1.2, BH.out.1.2⟩, BH.out.2.1.only h2 BH.out.2.2, BH.out.2.2⟩); clear h1 h2 AG R11 BH))
                    have R13 : Hid (RG w v16.drew b ow bx f2 f (at_ + 1) X) := R12.out.past ((Below.refl _ _).drew)
                    have BJ : Hid ((Wd v16.drew ba 0 ya ∧ ba ≠ b) ∧ Wd v16.drew bb 0 yb ∧ bb ≠ b) := ⟨⟨BI.out.1.1.drew, BI.out.1.2⟩, BI.out.2.1.drew, BI.out.2.2⟩
                    clear R12 BI
                    refine wp_region_held_drew (S := fun V' => (Wd V' ba 0 ya ∧ ba ≠ b) ∧ Wd V' bb 0 yb ∧ bb ≠ b) (by kernel_rfl) BJ.out (fun hHeld => ?_)
                    generalize v16.drew = z0 at hHeld R13 BJ ⊢
                    refine wpAnyH_take (i := 0) (v := .pointer (some ⟨b, 0, none⟩)) ov0 (by kernel_rfl) (by kernel_rfl) (by kernel_rfl) (fun _ _ _ h => h) (Or.inl ⟨by rfl, fun V' hS => ?_⟩) hHeld ?_
                    · go_simp
                    simp only [Act.put, List.setIfInBounds_toArray, List.set_cons_zero, List.set_cons_succ]
                    refine wpAnyH_take (i := 2) (v := .agg #[.int .u64 ya.a, .int .u64 ya.b, .int .u64 ya.c, .int .u64 ya.d]) ov2 (by kernel_rfl) (by kernel_rfl) (by kernel_rfl) (fun _ _ _ h => h) (Or.inl ⟨by rfl, fun V' hS => ?_⟩) hHeld ?_
                    · obtain ⟨c0, c1, c2, c3, _⟩ := hS.1.1
                      go_simp
                    simp only [Act.put, List.setIfInBounds_toArray, List.set_cons_zero, List.set_cons_succ]
                    refine wpAnyH_ready (rs := [1]) (by kernel_rfl) (by simp) ?_
                    refine AllReadyH.cons ov1 (fun K hK => ?_) AllReadyH.nil
                    rw [if_pos (by rfl)]
                    go_simp
                    refine (TK.out z0 R13.out.st).mono ?_
                    rintro e v17 ⟨rfl, h1, h2⟩
                    unfold W4.v
                    have R14 : Hid (RG w v17 b ow bx f2 f at_ X) := R13.out.call h1 h2
                    have BK : Hid ((Wd v17 ba 0 ya ∧ ba ≠ b) ∧ Wd v17 bb 0 yb ∧ bb ≠ b) := ⟨⟨BJ.out.1.1.only h2 BJ.out.1.2, BJ.out.1.2⟩, BJ.out.2.1.only h2 BJ.out.2.2, BJ.out.2.2⟩
                    clear h1 h2
                    (try go_wp2_with fail)
                    refine hK.out _ _ BK.out (fun _ => ?_)
                    clear hK K
                    (try simp only [Act.put, List.setIfInBounds_toArray, List.set_cons_zero, List.set_cons_succ])
                    refine wpAnyH_take (i := 3) (v := .bool false) ov3 (by kernel_rfl) (by kernel_rfl) (by kernel_rfl) (fun _ _ _ h => h) (Or.inl ⟨by rfl, fun V' hS => ?_⟩) BK.out ?_
                    · have hq := eqw_self ya.a ya.b ya.c ya.d V'
                      go_simp
                    simp only [Act.put, List.setIfInBounds_toArray, List.set_cons_zero, List.set_cons_succ]
                    refine wpAnyH_take (i := 4) (v := .bool false) ov4 (by kernel_rfl) (by kernel_rfl) (by kernel_rfl) (fun _ _ _ h => h) (Or.inl ⟨by rfl, fun V' hS => ?_⟩) BK.out ?_
                    · go_simp
                    simp only [Act.put, List.setIfInBounds_toArray, List.set_cons_zero, List.set_cons_succ]
                    refine wpAnyH_take (i := 5) (v := .pointer (some ⟨b, 0, none⟩)) ov5 (by kernel_rfl) (by kernel_rfl) (by kernel_rfl) (fun _ _ _ h => h) (Or.inl ⟨by rfl, fun V' hS => ?_⟩) BK.out ?_
                    · go_simp
                    simp only [Act.put, List.setIfInBounds_toArray, List.set_cons_zero, List.set_cons_succ]
                    refine wpAnyH_take (i := 7) (v := .int .i64 at_) ov7 (by kernel_rfl) (by kernel_rfl) (by kernel_rfl) (fun _ _ _ h => h) (Or.inl ⟨by rfl, fun V' hS => ?_⟩) BK.out ?_
                    · go_simp
                    simp only [Act.put, List.setIfInBounds_toArray, List.set_cons_zero, List.set_cons_succ]
                    refine wpAnyH_ready (rs := [6]) (by kernel_rfl) (by simp) ?_
                    refine AllReadyH.cons ov6 (fun K hK => ?_) AllReadyH.nil
                    rw [if_pos (by rfl)]
                    go_simp
                    refine (LN.out v17 _ R14.out.st).mono ?_
                    rintro e w' ⟨rfl, hw⟩
                    have hw2 := hw.symm
                    clear hw
                    subst hw2
                    (try go_wp2_with fail)
                    refine hK.out _ _ BK.out (fun _ => ?_)
                    clear hK K
                    (try simp only [Act.put, List.setIfInBounds_toArray, List.set_cons_zero, List.set_cons_succ])
                    refine wpAnyH_take (i := 8) (v := .bool false) ov8 (by kernel_rfl) (by kernel_rfl) (by kernel_rfl) (fun _ _ _ h => h) (Or.inl ⟨by rfl, fun V' hS => ?_⟩) BK.out ?_
                    · go_simp
                    simp only [Act.put, List.setIfInBounds_toArray, List.set_cons_zero, List.set_cons_succ]
                    refine wpAnyH_take (i := 9) (v := .bool false) ov9 (by kernel_rfl) (by kernel_rfl) (by kernel_rfl) (fun _ _ _ h => h) (Or.inl ⟨by rfl, fun V' hS => ?_⟩) BK.out ?_
                    · go_simp
                    simp only [Act.put, List.setIfInBounds_toArray, List.set_cons_zero, List.set_cons_succ]
                    refine wpAnyH_done (by kernel_rfl) ?_ _
                    clear hHeld BJ BK R13 TK
                    obtain ⟨d0, d1, d2, d3, _⟩ := R14.out.xb
                    go_upto_region 44 with (go_at_call 37; refine (PX.out _ R14.out.st).mono ?_; rintro e v18 ⟨rfl, h1, h2⟩; (have R15 : Hid (RG w v18 b ow bx f3 f (at_ + 1) X) := R14.out.call h1 h2); clear h1 h2 PX R14 d0 d1 d2 d3)
                    have R16 : Hid (RG w v18.drew b ow bx f3 f (at_ + 1) X) := R15.out.past ((Below.refl _ _).drew)
                    have OB : Hid (∀ W f' n', RG w W b ow bx f' f n' X → Wd W bx 0 X ∧ Wd W ow (p * 4) yc) := fun W f' n' r => ⟨r.xb, by rw [← EC.out]; exact r.oa p hp⟩
                    clear R15
                    have pI : (p : Int) < 1024 := by omega
                    have wp : IntKind.i64.wrap (p : Int) = (p : Int) := by rw [IntKind.wrap_i64]; omega
                    have w1 : IntKind.i64.wrap (at_ + 4095) = at_ + 4095 := by rw [IntKind.wrap_i64]; omega
                    refine wp_region_held_drew (S := fun V' => Wd V' bx 0 X ∧ Wd V' ow (p * 4) yc) (by kernel_rfl) (OB.out _ _ _ R16.out) (fun hHeld => ?_)
                    generalize v18.drew = z0 at hHeld R16 ⊢
                    refine wpAnyH_take (i := 0) (v := .pointer (some ⟨b, 0, none⟩)) ov0 (by kernel_rfl) (by kernel_rfl) (by kernel_rfl) (fun _ _ _ h => h) (Or.inl ⟨by rfl, fun V' hS => ?_⟩) hHeld ?_
                    · go_simp
                    simp only [Act.put, List.setIfInBounds_toArray, List.set_cons_zero, List.set_cons_succ]
                    refine wpAnyH_take (i := 2) (v := .agg #[.int .u64 X.a, .int .u64 X.b, .int .u64 X.c, .int .u64 X.d]) ov2 (by kernel_rfl) (by kernel_rfl) (by kernel_rfl) (fun _ _ _ h => h) (Or.inl ⟨by rfl, fun V' hS => ?_⟩) hHeld ?_
                    · obtain ⟨c0, c1, c2, c3, _⟩ := hS.1
                      go_simp
                    simp only [Act.put, List.setIfInBounds_toArray, List.set_cons_zero, List.set_cons_succ]
                    refine wpAnyH_ready (rs := [1]) (by kernel_rfl) (by simp) ?_
                    refine AllReadyH.cons ov1 (fun K hK => ?_) AllReadyH.nil
                    rw [if_pos (by rfl)]
                    go_simp
                    refine (TX.out z0 R16.out.st).mono ?_
                    rintro e v19 ⟨rfl, h1, h2⟩
                    unfold W4.v
                    have R17 : Hid (RG w v19 b ow bx f3 f at_ X) := R16.out.call h1 h2
                    clear h1 h2
                    (try go_wp2_with fail)
                    refine hK.out _ _ (OB.out _ _ _ R17.out) (fun _ => ?_)
                    clear hK K
                    (try simp only [Act.put, List.setIfInBounds_toArray, List.set_cons_zero, List.set_cons_succ])
                    refine wpAnyH_take (i := 3) (v := .bool false) ov3 (by kernel_rfl) (by kernel_rfl) (by kernel_rfl) (fun _ _ _ h => h) (Or.inl ⟨by rfl, fun V' hS => ?_⟩) (OB.out _ _ _ R17.out) ?_
                    · have hq := eqw_self X.a X.b X.c X.d V'
                      go_simp
                    simp only [Act.put, List.setIfInBounds_toArray, List.set_cons_zero, List.set_cons_succ]
                    refine wpAnyH_take (i := 4) (v := .bool false) ov4 (by kernel_rfl) (by kernel_rfl) (by kernel_rfl) (fun _ _ _ h => h) (Or.inl ⟨by rfl, fun V' hS => ?_⟩) (OB.out _ _ _ R17.out) ?_
                    · go_simp
                    simp only [Act.put, List.setIfInBounds_toArray, List.set_cons_zero, List.set_cons_succ]
                    refine wpAnyH_take (i := 5) (v := .pointer (some ⟨b, 0, none⟩)) ov5 (by kernel_rfl) (by kernel_rfl) (by kernel_rfl) (fun _ _ _ h => h) (Or.inl ⟨by rfl, fun V' hS => ?_⟩) (OB.out _ _ _ R17.out) ?_
                    · go_simp
                    simp only [Act.put, List.setIfInBounds_toArray, List.set_cons_zero, List.set_cons_succ]
                    refine wpAnyH_take (i := 7) (v := .int .i64 at_) ov7 (by kernel_rfl) (by kernel_rfl) (by kernel_rfl) (fun _ _ _ h => h) (Or.inl ⟨by rfl, fun V' hS => ?_⟩) (OB.out _ _ _ R17.out) ?_
                    · go_simp
                    simp only [Act.put, List.setIfInBounds_toArray, List.set_cons_zero, List.set_cons_succ]
                    refine wpAnyH_ready (rs := [6]) (by kernel_rfl) (by simp) ?_
                    refine AllReadyH.cons ov6 (fun K hK => ?_) AllReadyH.nil
                    rw [if_pos (by rfl)]
                    go_simp
                    refine (LN.out v19 _ R17.out.st).mono ?_
                    rintro e w' ⟨rfl, hw⟩
                    have hw2 := hw.symm
                    clear hw
                    subst hw2
                    (try go_wp2_with fail)
                    refine hK.out _ _ (OB.out _ _ _ R17.out) (fun _ => ?_)
                    clear hK K
                    (try simp only [Act.put, List.setIfInBounds_toArray, List.set_cons_zero, List.set_cons_succ])
                    refine wpAnyH_take (i := 8) (v := .bool false) ov8 (by kernel_rfl) (by kernel_rfl) (by kernel_rfl) (fun _ _ _ h => h) (Or.inl ⟨by rfl, fun V' hS => ?_⟩) (OB.out _ _ _ R17.out) ?_
                    · go_simp
                    simp only [Act.put, List.setIfInBounds_toArray, List.set_cons_zero, List.set_cons_succ]
                    refine wpAnyH_take (i := 9) (v := .bool false) ov9 (by kernel_rfl) (by kernel_rfl) (by kernel_rfl) (fun _ _ _ h => h) (Or.inl ⟨by rfl, fun V' hS => ?_⟩) (OB.out _ _ _ R17.out) ?_
                    · go_simp
                    simp only [Act.put, List.setIfInBounds_toArray, List.set_cons_zero, List.set_cons_succ]
                    refine wpAnyH_take (i := 10) (v := .bool false) ov10 (by kernel_rfl) (by kernel_rfl) (by kernel_rfl) (fun _ _ _ h => h) (Or.inl ⟨by rfl, fun V' hS => ?_⟩) (OB.out _ _ _ R17.out) ?_
                    · go_simp
                    simp only [Act.put, List.setIfInBounds_toArray, List.set_cons_zero, List.set_cons_succ]
                    refine wpAnyH_take (i := 11) (v := .pointer (some ⟨b, 0, none⟩)) ov11 (by kernel_rfl) (by kernel_rfl) (by kernel_rfl) (fun _ _ _ h => h) (Or.inl ⟨by rfl, fun V' hS => ?_⟩) (OB.out _ _ _ R17.out) ?_
                    · go_simp
                    simp only [Act.put, List.setIfInBounds_toArray, List.set_cons_zero, List.set_cons_succ]
                    refine wpAnyH_take (i := 13) (v := .int .i64 at_) ov13 (by kernel_rfl) (by kernel_rfl) (by kernel_rfl) (fun _ _ _ h => h) (Or.inl ⟨by rfl, fun V' hS => ?_⟩) (OB.out _ _ _ R17.out) ?_
                    · go_simp
                    simp only [Act.put, List.setIfInBounds_toArray, List.set_cons_zero, List.set_cons_succ]
                    refine wpAnyH_take (i := 14) (v := .int .i64 (at_ + 4095)) ov14 (by kernel_rfl) (by kernel_rfl) (by kernel_rfl) (fun _ _ _ h => h) (Or.inl ⟨by rfl, fun V' hS => ?_⟩) (OB.out _ _ _ R17.out) ?_
                    · go_simp
                    simp only [Act.put, List.setIfInBounds_toArray, List.set_cons_zero, List.set_cons_succ]
                    refine wpAnyH_take (i := 15) (v := .int .i64 (p : Int)) ov15 (by kernel_rfl) (by kernel_rfl) (by kernel_rfl) (fun _ _ _ h => h) (Or.inl ⟨by rfl, fun V' hS => ?_⟩) (OB.out _ _ _ R17.out) ?_
                    · go_simp
                    simp only [Act.put, List.setIfInBounds_toArray, List.set_cons_zero, List.set_cons_succ]
                    refine wpAnyH_take (i := 16) (v := .pointer (some ⟨ow, p * 4, none⟩)) ov16 (by kernel_rfl) (by kernel_rfl) (by kernel_rfl) (fun _ _ _ h => h) (Or.inl ⟨by rfl, fun V' hS => ?_⟩) (OB.out _ _ _ R17.out) ?_
                    · go_simp
                    simp only [Act.put, List.setIfInBounds_toArray, List.set_cons_zero, List.set_cons_succ]
                    refine wpAnyH_take (i := 17) (v := .agg #[.int .u64 yc.a, .int .u64 yc.b, .int .u64 yc.c, .int .u64 yc.d]) ov17 (by kernel_rfl) (by kernel_rfl) (by kernel_rfl) (fun _ _ _ h => h) (Or.inl ⟨by rfl, fun V' hS => ?_⟩) (OB.out _ _ _ R17.out) ?_
                    · obtain ⟨c0, c1, c2, c3, _⟩ := hS.2
                      go_simp
                    simp only [Act.put, List.setIfInBounds_toArray, List.set_cons_zero, List.set_cons_succ]
                    refine wpAnyH_ready (rs := [12]) (by kernel_rfl) (by simp) ?_
                    refine AllReadyH.cons ov12 (fun K hK => ?_) AllReadyH.nil
                    rw [if_pos (by rfl)]
                    go_simp
                    refine (P1.out v19 R17.out.st).mono ?_
                    rintro e v20 ⟨rfl, h1⟩
                    unfold W4.v
                    have R18 : Hid (RG w v20 b ow bx f3 f at_ X) := R17.out.past h1
                    clear h1
                    (try go_wp2_with fail)
                    refine hK.out _ _ (OB.out _ _ _ R18.out) (fun _ => ?_)
                    clear hK K
                    (try simp only [Act.put, List.setIfInBounds_toArray, List.set_cons_zero, List.set_cons_succ])
                    refine wpAnyH_take (i := 18) (v := .bool false) ov18 (by kernel_rfl) (by kernel_rfl) (by kernel_rfl) (fun _ _ _ h => h) (Or.inl ⟨by rfl, fun V' hS => ?_⟩) (OB.out _ _ _ R18.out) ?_
                    · have hq := eqw_self yc.a yc.b yc.c yc.d V'
                      go_simp
                    simp only [Act.put, List.setIfInBounds_toArray, List.set_cons_zero, List.set_cons_succ]
                    refine wpAnyH_take (i := 19) (v := .bool false) ov19 (by kernel_rfl) (by kernel_rfl) (by kernel_rfl) (fun _ _ _ h => h) (Or.inl ⟨by rfl, fun V' hS => ?_⟩) (OB.out _ _ _ R18.out) ?_
                    · go_simp
                    simp only [Act.put, List.setIfInBounds_toArray, List.set_cons_zero, List.set_cons_succ]
                    refine wpAnyH_done (by kernel_rfl) ?_ _
                    clear hHeld R16 R17 TX P1 LN
                    obtain ⟨d0, d1, d2, d3, _⟩ := R18.out.xb
                    go_upto_region 47 with (go_at_call 26; refine (PS.out _ R18.out.st).mono ?_; rintro e v21 ⟨rfl, h1, h2⟩; (have R19 : Hid (Below w.heap.size w v21) := (R18.out.call h1 h2).bel); clear h1 h2 PS R18 d0 d1 d2 d3)
                    have AW_ : Hid (Calls Try.prog 12 #[] v21 fun e w' => e = .returned (.bool true) ∧ Below v21.heap.size v21 w') := awake_is v21
                    rcases PE.out with ⟨hA, hE⟩ | ⟨hA, hE⟩
                    · have hA2 : ¬ (at_ < 1024) := by omega
                      go_wp2_with (go_at_call 12; refine (AW_.out).mono ?_; rintro e v22 ⟨rfl, h1⟩; (have HE : Hid (Below w.heap.size w v22) := R19.out.trans (h1.mono R19.out.size)); clear h1 AW_)
                      go_ret
                      exact ⟨rfl, HE.out⟩
                    · have hA2 : ¬ (1024 ≤ at_) := by omega
                      go_wp2_with (go_at_call 12; refine (AW_.out).mono ?_; rintro e v22 ⟨rfl, h1⟩; (have HE : Hid (Below w.heap.size w v22) := R19.out.trans (h1.mono R19.out.size)); clear h1 AW_)
                      go_ret
                      exact ⟨rfl, HE.out⟩
theorem machRing_walk (w : World) (v : Value) (n0 : Nat) (x : Ring) (hv : WL w v n0 x) (hn0 : n0 ≤ 4398046511104) (z N M : Int) (X : W4) : Calls Try.prog 8 #[v, .int .i64 z, .int .i64 N, .int .i64 M, X.v] w fun e w' => e = .returned (.bool true) ∧ Below w.heap.size w w' := by
  by_cases h : n0 ≤ 2500
  · exact ringA w v n0 x hv hn0 h z N M X
  · exact ringB w v n0 x hv hn0 (by omega) z N M X
end Go.Proofs.Ytdddmebihkdkjaa
