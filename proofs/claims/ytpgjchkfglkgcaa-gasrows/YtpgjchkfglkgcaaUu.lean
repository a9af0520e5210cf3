/- GasRows: the walk. -/
import Derived.Test.YtpgjchkfglkgcaaUj
import Derived.Test.YtpgjchkfglkgcaaUg
namespace Go.Proofs.Ytpgjchkfglkgcaa
open Go.RowKit
theorem only_put (b : Nat) (W : World) (x : W4) : Only b W (put4 W b 0 x) := ((((Only.refl b W).set _ _).set _ _).set _ _).set _ _
structure Gr (w W : World) (bo bw : Nat) (o x : W4) : Prop where
  w0 : Wd W bo 0 o
  w1 : Wd W bw 0 x
  ap : bo ≠ bw
  ge : w.heap.size ≤ bw
  bel : Below w.heap.size w W
theorem Gr.past {w W W' : World} {bo bw : Nat} {o x : W4} (h : Gr w W bo bw o x) (k : Below W.heap.size W W') : Gr w W' bo bw o x := ⟨h.w0.past k, h.w1.past k, h.ap, h.ge, h.bel.trans (k.mono h.bel.size)⟩
theorem Gr.drew {w W : World} {bo bw : Nat} {o x : W4} (h : Gr w W bo bw o x) : Gr w W.drew bo bw o x := h.past ((Below.refl _ _).drew)
theorem Gr.put {w W : World} {bo bw : Nat} {o x : W4} (h : Gr w W bo bw o x) (y : W4) : Gr w (put4 W bw 0 y) bo bw o y := ⟨h.w0.only (only_put bw W y) h.ap, h.w1.put y, h.ap, h.ge, h.bel.trans ((only_put bw W y).below h.ge h.bel.size)⟩
/-- the words of the list, in any later world -/
def WIn (w : World) (ad : Option Addr) (n : Nat) (x : Ring) : Prop := 0 < n → ∃ g a, ad = some ⟨g, a, none⟩ ∧ ∀ i, i < n → ∀ W, Below w.heap.size w W → Rd W g (a + i * 4) (x i)
theorem WL.in {w : World} {v : Value} {n : Nat} {x : Ring} (h : WL w v n x) : ∃ ad cap, v = .slice ad n cap ∧ WIn w ad n x := by
  obtain ⟨ad, cap, rfl, h1⟩ := h
  refine ⟨ad, cap, rfl, fun hn => ?_⟩
  obtain ⟨g, a, e, h2⟩ := h1 hn
  exact ⟨g, a, e, fun i hi W k => (h2 i hi).past k⟩
def mxc (zo : Bool) : Int := if zo then 19900 else 2800
/-- what was paid (p) and given back (r), when x stands where o stood at first -/
def Paid (o x : W4) (k : Nat) (p r : Int) : Prop := p - r = stn (o.e x) (o.e wz) (x.e wz) ∧ 0 ≤ p ∧ p ≤ 19900 * (k : Int) ∧ 0 ≤ r ∧ (o.e x = false → mxc (o.e wz) ≤ p)
theorem stn_le (e z l : Bool) : (e = true → stn e z l = 0) ∧ stn e z l ≤ mxc z ∧ -2000 ≤ stn e z l := by cases e <;> cases z <;> cases l <;> simp [stn, mxc]
theorem paid_zero (o : W4) : Paid o o 0 0 0 := by
  refine ⟨?_, by omega, by omega, by omega, fun h => ?_⟩
  · rw [W4.e_self]; simp [stn]
  · rw [W4.e_self] at h; cases h
theorem mxc_range (z : Bool) : 0 ≤ mxc z ∧ mxc z ≤ 19900 := by cases z <;> simp [mxc]
theorem rc_range (a b c : Bool) : 0 ≤ rc a b c ∧ rc a b c ≤ 19900 := by cases a <;> cases b <;> cases c <;> simp [rc]
theorem paid_step {o x y : W4} {k : Nat} {p r : Int} (h : Paid o x k p r) (c d : Int) (hc : c = rc (o.e x) (x.e y) (o.e wz)) (hd : d = rc (o.e x) (x.e y) (o.e wz) + stn (o.e x) (o.e wz) (x.e wz) - stn (o.e y) (o.e wz) (y.e wz)) : Paid o y (k + 1) (p + c) (r + d) ∧ 0 ≤ c ∧ c ≤ 19900 := by
  obtain ⟨h1, h2, h3, h4, h5⟩ := h
  have hr := rc_range (o.e x) (x.e y) (o.e wz)
  have key : o.e y = false → mxc (o.e wz) ≤ p + c := fun hy => by
    rcases W4.e_dec o x _ rfl with ⟨a1, a2⟩ | ⟨a1, a2⟩
    · subst a2
      have : c = mxc (o.e wz) := by rw [hc, a1, hy]; simp [rc, mxc]
      omega
    · have := h5 a1; omega
  have s := stn_le (o.e y) (o.e wz) (y.e wz)
  have pc : 0 ≤ p + c := by omega
  refine ⟨⟨by omega, pc, by omega, ?_, key⟩, by omega, by omega⟩
  rcases Bool.eq_false_or_eq_true (o.e y) with a | a
  · have := s.1 a; omega
  · have := key a; omega
def wfive : W4 := ⟨5, 0, 0, 0⟩
set_option maxHeartbeats 8000000 in
set_option maxRecDepth 100000 in
theorem gasRows_core (w : World) (o : W4) (ad : Option Addr) (cap n : Nat) (x : Ring) (HU : Hid (WIn w ad n x)) (hn : n ≤ 4398046511104) (ST : Hid (∀ W y z, Calls Try.prog 26 #[o.v, y.v, z.v] W fun e w' => e = .returned (.tuple #[.int .u64 (rc (o.e y) (y.e z) (o.e wz)), .int .i64 (rc (o.e y) (y.e z) (o.e wz) + stn (o.e y) (o.e wz) (y.e wz) - stn (o.e z) (o.e wz) (z.e wz))]) ∧ Below W.heap.size W w')) (LL : Hid (∀ W, Calls Try.prog 26 #[wfive.v, wfive.v, wz.v] W fun e w' => e = .returned (.tuple #[.int .u64 2800, .int .i64 4800]) ∧ Below W.heap.size W w')) : Calls Try.prog 10 #[o.v, .slice ad n cap] w fun e w' => e = .returned (.bool true) ∧ Below w.heap.size w w' := by
  have nI : (n : Int) ≤ 4398046511104 := by omega
  have B1 : Hid (Below w.heap.size w (w.alloc (.cells #[.int .u64 o.a, .int .u64 o.b, .int .u64 o.c, .int .u64 o.d] 27))) := (Below.refl _ _).alloc (Nat.le_refl _) _
  have B2 : Hid (Gr w ((w.alloc (.cells #[.int .u64 o.a, .int .u64 o.b, .int .u64 o.c, .int .u64 o.d] 27)).alloc (.cells #[.int .u64 o.a, .int .u64 o.b, .int .u64 o.c, .int .u64 o.d] 27)) w.heap.size (w.heap.size + 1) o o) := by have h := Bw2.new w o o; exact ⟨h.w0, h.w1, by omega, by omega, h.bel⟩
  clear hn
  unfold W4.v
  go_enter Try.func10, Try.ntmps10
  by_cases hbig : (1048576 : Int) < (n : Int)
  · go_wp2
    go_ret
    exact ⟨rfl, B1.out⟩
  have hnI : (n : Int) ≤ 1048576 := by omega
  clear hbig
  go_upto_region 4 with fail
  generalize (w.alloc (.cells #[.int .u64 o.a, .int .u64 o.b, .int .u64 o.c, .int .u64 o.d] 27)).alloc (.cells #[.int .u64 o.a, .int .u64 o.b, .int .u64 o.c, .int .u64 o.d] 27) = v at B2 ⊢
  generalize hbw : w.heap.size + 1 = bw at B2 ⊢
  clear hbw B1
  generalize hbo : w.heap.size = bo at B2 ⊢
  have B3 : Hid (Gr w v bo bw o o) := by rw [← hbo] at B2; exact hbo ▸ B2
  clear hbo B2
  go_wp2
  go_loopw [6, 7, 8] (fun s6 s7 s8 wr => ∃ (k : Nat) (p r : Int) (y : W4), s6 = .int .i64 p ∧ s7 = .int .i64 r ∧ s8 = .int .i64 (k : Int) ∧ k ≤ n ∧ Paid o y k p r ∧ Gr w wr bo bw o y) (fun _ _ s8 _ => n - (intOf s8).toNat)
  case atStart => exact ⟨0, 0, 0, o, rfl, rfl, rfl, by omega, paid_zero o, B3.out⟩
  case round =>
    obtain ⟨k, p, r, y, rfl, rfl, rfl, hk, hP, hG⟩ := hrel
    have GG : Hid (Gr w wr bo bw o y) := hG
    have PP : Hid (Paid o y k p r) := hP
    clear hG hP B3
    have kI : (k : Int) ≤ (n : Int) := by omega
    by_cases e : k = n
    · subst e
      have HB : Hid (Below w.heap.size w wr) := GG.out.bel
      clear GG PP
      go_upto_region 26 with fail
      refine wp_region_lit ?_
      refine lst_val (v := .agg #[.int .u64 5, .int .u64 0, .int .u64 0, .int .u64 0]) (by rfl) ?_ ?_
      · go_simp
      simp only [Act.put, List.setIfInBounds_toArray, List.set_cons_zero, List.set_cons_succ]
      refine lst_val (v := .agg #[.int .u64 5, .int .u64 0, .int .u64 0, .int .u64 0]) (by rfl) ?_ ?_
      · go_simp
      simp only [Act.put, List.setIfInBounds_toArray, List.set_cons_zero, List.set_cons_succ]
      refine lst_val (v := .agg #[.int .u64 0, .int .u64 0, .int .u64 0, .int .u64 0]) (by rfl) ?_ ?_
      · go_simp
      simp only [Act.put, List.setIfInBounds_toArray, List.set_cons_zero, List.set_cons_succ]
      refine lst_call (by rfl) (by first | (go_simp; done) | (go_simp; first | exact rfl | exact ⟨rfl, rfl⟩ | exact ⟨rfl, rfl, rfl⟩)) (LL.out _) ?_
      rintro e v1 ⟨rfl, hB⟩
      refine ⟨_, rfl, ?_⟩
      replace HB : Hid (Below w.heap.size w v1) := HB.out.trans (hB.mono HB.out.size)
      clear hB
      simp only [Act.put, List.setIfInBounds_toArray, List.set_cons_zero, List.set_cons_succ]
      refine lst_val (v := .tuple #[.int .u64 2800, .int .i64 4800]) (by rfl) ?_ ?_
      · go_simp
      simp only [Act.put, List.setIfInBounds_toArray, List.set_cons_zero, List.set_cons_succ]
      refine lst_val (v := .int .u64 2800) (by rfl) ?_ ?_
      · go_simp
      simp only [Act.put, List.setIfInBounds_toArray, List.set_cons_zero, List.set_cons_succ]
      refine lst_val (v := .int .i64 4800) (by rfl) ?_ ?_
      · go_simp
      simp only [Act.put, List.setIfInBounds_toArray, List.set_cons_zero, List.set_cons_succ]
      refine lst_val (v := .int .u64 2800) (by rfl) ?_ ?_
      · go_simp
      simp only [Act.put, List.setIfInBounds_toArray, List.set_cons_zero, List.set_cons_succ]
      refine lst_val (v := .int .i64 4800) (by rfl) ?_ ?_
      · go_simp
      simp only [Act.put, List.setIfInBounds_toArray, List.set_cons_zero, List.set_cons_succ]
      refine wpList_nil ?_
      go_upto_region 27 with fail
      refine wp_region_lit ?_
      refine lst_val (v := .int .u64 2800) (by rfl) ?_ ?_
      · go_simp
      simp only [Act.put, List.setIfInBounds_toArray, List.set_cons_zero, List.set_cons_succ]
      refine lst_val (v := .bool true) (by rfl) ?_ ?_
      · go_simp
      simp only [Act.put, List.setIfInBounds_toArray, List.set_cons_zero, List.set_cons_succ]
      refine lst_val (v := .bool true) (by rfl) ?_ ?_
      · go_simp
      simp only [Act.put, List.setIfInBounds_toArray, List.set_cons_zero, List.set_cons_succ]
      refine lst_val (v := .int .i64 4800) (by rfl) ?_ ?_
      · go_simp
      simp only [Act.put, List.setIfInBounds_toArray, List.set_cons_zero, List.set_cons_succ]
      refine lst_val (v := .bool true) (by rfl) ?_ ?_
      · go_simp
      simp only [Act.put, List.setIfInBounds_toArray, List.set_cons_zero, List.set_cons_succ]
      refine lst_val (v := .bool true) (by rfl) ?_ ?_
      · go_simp
      simp only [Act.put, List.setIfInBounds_toArray, List.set_cons_zero, List.set_cons_succ]
      refine lst_val (v := .bool true) (by rfl) ?_ ?_
      · go_simp
      simp only [Act.put, List.setIfInBounds_toArray, List.set_cons_zero, List.set_cons_succ]
      refine wpList_nil ?_
      go_wp2
      go_ret
      exact ⟨rfl, HB.out⟩
    · have kn : (k : Int) < (n : Int) := by omega
      obtain ⟨g, a, rfl, hc⟩ := HU.out (by omega)
      have HR : Hid (∀ W, Below w.heap.size w W → Rd W g (a + k * 4) (x k)) := hc k (by omega)
      generalize x k = z at HR
      clear hc
      obtain ⟨c, ec⟩ : ∃ c, c = rc (o.e y) (y.e z) (o.e wz) := ⟨_, rfl⟩
      obtain ⟨d, ed⟩ : ∃ d, d = rc (o.e y) (y.e z) (o.e wz) + stn (o.e y) (o.e wz) (y.e wz) - stn (o.e z) (o.e wz) (z.e wz) := ⟨_, rfl⟩
      have S1 : Hid (∀ W, Calls Try.prog 26 #[o.v, y.v, z.v] W fun e w' => e = .returned (.tuple #[.int .u64 c, .int .i64 d]) ∧ Below W.heap.size W w') := fun W => by rw [ec, ed]; exact ST.out W y z
      obtain ⟨hQ, c0, c1⟩ := paid_step PP.out c d ec ed
      have QQ : Hid (Paid o z (k + 1) (p + c) (r + d)) := hQ
      have pb : 0 ≤ p ∧ p ≤ 20867710976 ∧ -2000 ≤ p - r ∧ p - r ≤ 19900 := by have h := PP.out; have := stn_range (o.e y) (o.e wz) (y.e wz); have := h.1; have := h.2.1; have := h.2.2.1; omega
      have qb : -2000 ≤ (p + c) - (r + d) ∧ (p + c) - (r + d) ≤ 19900 ∧ 0 ≤ r + d := by have h := hQ; have := stn_range (o.e z) (o.e wz) (z.e wz); have := h.1; have := h.2.2.2.1; omega
      clear ec ed hQ PP ST
      obtain ⟨P2, eP⟩ : ∃ P2, P2 = p + c := ⟨_, rfl⟩
      obtain ⟨R2, eR⟩ : ∃ R2, R2 = r + d := ⟨_, rfl⟩
      rw [← eP, ← eR] at QQ qb
      have hP2 : p + c = P2 := eP.symm
      have hR2 : r + d = R2 := eR.symm
      clear eP eR
      have w1 : IntKind.i64.wrap P2 = P2 := by rw [IntKind.wrap_i64]; omega
      have w2 : IntKind.i64.wrap R2 = R2 := by rw [IntKind.wrap_i64]; omega
      have w3 : IntKind.i64.wrap c = c := by rw [IntKind.wrap_i64]; omega
      have R0 : ¬ R2 < 0 := by omega
      have C0 : ¬ 19900 < c := by omega
      have HW : Hid (P2 - R2 = stn (o.e z) (o.e wz) (z.e wz)) := QQ.out.1
      clear pb qb
      go_upto_region 9 with fail
      refine wp_region_held_drew (S := fun V' => Gr w V' bo bw o y ∧ Rd V' g (a + k * 4) z) (by kernel_rfl) ⟨GG.out.drew, HR.out _ GG.out.drew.bel⟩ (fun hHeld => ?_)
      generalize wr.drew = z0 at hHeld ⊢
      refine wpAnyH_take (i := 0) (v := .agg #[.int .u64 o.a, .int .u64 o.b, .int .u64 o.c, .int .u64 o.d]) ov0 (by kernel_rfl) (by kernel_rfl) (by kernel_rfl) (fun _ _ _ h => h) (Or.inl ⟨by rfl, fun V' hS => ?_⟩) hHeld ?_
      · obtain ⟨c0, c1, c2, c3, _⟩ := hS.1.w0
        go_simp
      simp only [Act.put, List.setIfInBounds_toArray, List.set_cons_zero, List.set_cons_succ]
      refine wpAnyH_take (i := 1) (v := .agg #[.int .u64 y.a, .int .u64 y.b, .int .u64 y.c, .int .u64 y.d]) ov1 (by kernel_rfl) (by kernel_rfl) (by kernel_rfl) (fun _ _ _ h => h) (Or.inl ⟨by rfl, fun V' hS => ?_⟩) hHeld ?_
      · obtain ⟨c0, c1, c2, c3, _⟩ := hS.1.w1
        go_simp
      simp only [Act.put, List.setIfInBounds_toArray, List.set_cons_zero, List.set_cons_succ]
      refine wpAnyH_take (i := 2) (v := .slice (some ⟨g, a, none⟩) n cap) ov2 (by kernel_rfl) (by kernel_rfl) (by kernel_rfl) (fun _ _ _ h => h) (Or.inl ⟨by rfl, fun V' hS => ?_⟩) hHeld ?_
      · go_simp
      simp only [Act.put, List.setIfInBounds_toArray, List.set_cons_zero, List.set_cons_succ]
      refine wpAnyH_take (i := 3) (v := .int .i64 (k : Int)) ov3 (by kernel_rfl) (by kernel_rfl) (by kernel_rfl) (fun _ _ _ h => h) (Or.inl ⟨by rfl, fun V' hS => ?_⟩) hHeld ?_
      · go_simp
      simp only [Act.put, List.setIfInBounds_toArray, List.set_cons_zero, List.set_cons_succ]
      refine wpAnyH_take (i := 4) (v := .pointer (some ⟨g, a + k * 4, none⟩)) ov4 (by kernel_rfl) (by kernel_rfl) (by kernel_rfl) (fun _ _ _ h => h) (Or.inl ⟨by rfl, fun V' hS => ?_⟩) hHeld ?_
      · go_simp
      simp only [Act.put, List.setIfInBounds_toArray, List.set_cons_zero, List.set_cons_succ]
      refine wpAnyH_take (i := 5) (v := .agg #[.int .u64 z.a, .int .u64 z.b, .int .u64 z.c, .int .u64 z.d]) ov5 (by kernel_rfl) (by kernel_rfl) (by kernel_rfl) (fun _ _ _ h => h) (Or.inl ⟨by rfl, fun V' hS => ?_⟩) hHeld ?_
      · obtain ⟨c0, c1, c2, c3⟩ := hS.2
        go_simp
      simp only [Act.put, List.setIfInBounds_toArray, List.set_cons_zero, List.set_cons_succ]
      refine wpAnyH_ready (rs := [6]) (by kernel_rfl) (by simp) ?_
      refine AllReadyH.cons ov6 (fun K hK => ?_) AllReadyH.nil
      rw [if_pos (by rfl)]
      go_simp
      refine (S1.out _).mono ?_
      rintro e z1 ⟨rfl, hB1⟩
      have hH1 : Gr w z1 bo bw o y ∧ Rd z1 g (a + k * 4) z := ⟨hHeld.1.past hB1, HR.out _ (hHeld.1.past hB1).bel⟩
      (try go_wp2_with fail)
      refine hK.out _ _ hH1 (fun _ => ?_)
      clear hK K
      (try simp only [Act.put, List.setIfInBounds_toArray, List.set_cons_zero, List.set_cons_succ])
      refine wpAnyH_take (i := 7) (v := .tuple #[.int .u64 c, .int .i64 d]) ov7 (by kernel_rfl) (by kernel_rfl) (by kernel_rfl) (fun _ _ _ h => h) (Or.inl ⟨by rfl, fun V' hS => ?_⟩) hH1 ?_
      · go_simp
      simp only [Act.put, List.setIfInBounds_toArray, List.set_cons_zero, List.set_cons_succ]
      refine wpAnyH_take (i := 8) (v := .int .u64 c) ov8 (by kernel_rfl) (by kernel_rfl) (by kernel_rfl) (fun _ _ _ h => h) (Or.inl ⟨by rfl, fun V' hS => ?_⟩) hH1 ?_
      · go_simp
      simp only [Act.put, List.setIfInBounds_toArray, List.set_cons_zero, List.set_cons_succ]
      refine wpAnyH_take (i := 9) (v := .int .i64 d) ov9 (by kernel_rfl) (by kernel_rfl) (by kernel_rfl) (fun _ _ _ h => h) (Or.inl ⟨by rfl, fun V' hS => ?_⟩) hH1 ?_
      · go_simp
      simp only [Act.put, List.setIfInBounds_toArray, List.set_cons_zero, List.set_cons_succ]
      refine wpAnyH_take (i := 10) (v := .int .u64 c) ov10 (by kernel_rfl) (by kernel_rfl) (by kernel_rfl) (fun _ _ _ h => h) (Or.inl ⟨by rfl, fun V' hS => ?_⟩) hH1 ?_
      · go_simp
      simp only [Act.put, List.setIfInBounds_toArray, List.set_cons_zero, List.set_cons_succ]
      refine wpAnyH_take (i := 11) (v := .int .i64 d) ov11 (by kernel_rfl) (by kernel_rfl) (by kernel_rfl) (fun _ _ _ h => h) (Or.inl ⟨by rfl, fun V' hS => ?_⟩) hH1 ?_
      · go_simp
      simp only [Act.put, List.setIfInBounds_toArray, List.set_cons_zero, List.set_cons_succ]
      refine wpAnyH_done (by kernel_rfl) ?_ _
      have GH : Hid (Gr w z1 bo bw o y) := hH1.1
      obtain ⟨i0, i1, i2, i3⟩ := hH1.2
      obtain ⟨j0, j1, j2, j3, g0, g1, g2, g3⟩ := GH.out.w1
      clear S1 GG hHeld hB1
      go_upto_region 15 with fail
      have GP : Hid (Gr w (put4 z1 bw 0 z) bo bw o z) := GH.out.put z
      clear i0 i1 i2 i3 j0 j1 j2 j3 g0 g1 g2 g3
      have e9 : put4 z1 bw 0 z = (((z1.setCell ⟨bw, 0, none⟩ (.int .u64 z.a)).setCell ⟨bw, 1, none⟩ (.int .u64 z.b)).setCell ⟨bw, 2, none⟩ (.int .u64 z.c)).setCell ⟨bw, 3, none⟩ (.int .u64 z.d) := rfl
      rw [← e9]
      clear e9
      generalize put4 z1 bw 0 z = v2 at GP ⊢
      clear hP2 hR2 w3 C0 HU LL
      obtain ⟨j0, j1, j2, j3, _⟩ := GP.out.w1
      obtain ⟨i0, i1, i2, i3, _⟩ := GP.out.w0
      have E1 : ∀ W, Sem.run Try.prog (Op.equalIn 10000 27 (.agg #[.int .u64 z.a, .int .u64 z.b, .int .u64 z.c, .int .u64 z.d]) (.agg #[.int .u64 o.a, .int .u64 o.b, .int .u64 o.c, .int .u64 o.d])) W = .ok (z.e o) W := fun W => eq_run z o W
      have E2 : ∀ W, Sem.run Try.prog (Op.equalIn 10000 27 (.agg #[.int .u64 o.a, .int .u64 o.b, .int .u64 o.c, .int .u64 o.d]) (.agg #[.int .u64 0, .int .u64 0, .int .u64 0, .int .u64 0])) W = .ok (o.e wz) W := fun W => eq_run o wz W
      have E3 : ∀ W, Sem.run Try.prog (Op.equalIn 10000 27 (.agg #[.int .u64 z.a, .int .u64 z.b, .int .u64 z.c, .int .u64 z.d]) (.agg #[.int .u64 0, .int .u64 0, .int .u64 0, .int .u64 0])) W = .ok (z.e wz) W := fun W => eq_run z wz W
      rw [W4.e_symm z o] at E1
      have HF : Hid (Paid o z (k + 1) P2 R2 ∧ Gr w v2 bo bw o z) := ⟨QQ.out, GP.out⟩
      clear QQ GP GH
      generalize o.e z = b1 at *
      generalize o.e wz = b2 at *
      generalize z.e wz = b3 at *
      cases b1
      · cases b2
        · cases b3
          · have hv : P2 - R2 = 2800 := HW.out
            clear HW
            go_wp2
            go_roundw
            case rel => exact ⟨k + 1, P2, R2, z, rfl, rfl, by first | rfl | go_num, by omega, HF.out.1, HF.out.2⟩
            case measure => simp [intOf]; omega
          · have hv : P2 - R2 = -2000 := HW.out
            clear HW
            go_wp2
            go_roundw
            case rel => exact ⟨k + 1, P2, R2, z, rfl, rfl, by first | rfl | go_num, by omega, HF.out.1, HF.out.2⟩
            case measure => simp [intOf]; omega
        · have hv : P2 - R2 = 19900 := HW.out
          clear HW
          go_wp2
          go_roundw
          case rel => exact ⟨k + 1, P2, R2, z, rfl, rfl, by first | rfl | go_num, by omega, HF.out.1, HF.out.2⟩
          case measure => simp [intOf]; omega
      · have hv : P2 - R2 = 0 := HW.out
        clear HW
        go_wp2
        go_roundw
        case rel => exact ⟨k + 1, P2, R2, z, rfl, rfl, by first | rfl | go_num, by omega, HF.out.1, HF.out.2⟩
        case measure => simp [intOf]; omega
theorem gasRows_walk (w : World) (a0 a1 a2 a3 : Int) (vl : Value) (n : Nat) (x : Ring) {s : Int} (_ : IsW s a0 a1 a2 a3) (hx : WL w vl n x) (hn : n ≤ 4398046511104) : Calls Try.prog 10 #[.agg #[.int .u64 a0, .int .u64 a1, .int .u64 a2, .int .u64 a3], vl] w fun e w' => e = .returned (.bool true) ∧ Below w.heap.size w w' := by
  obtain ⟨ad, cap, rfl, hu⟩ := hx.in
  refine gasRows_core w ⟨a0, a1, a2, a3⟩ ad cap n x hu hn (fun W y z => ?_) (fun W => store_is W wfive wfive wz)
  have h := store_is W ⟨a0, a1, a2, a3⟩ y z
  rw [← (store_same ⟨a0, a1, a2, a3⟩ y z).2, ← (store_same ⟨a0, a1, a2, a3⟩ y z).1] at h
  exact h
end Go.Proofs.Ytpgjchkfglkgcaa
