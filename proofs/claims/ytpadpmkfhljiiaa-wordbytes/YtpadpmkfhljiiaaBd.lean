/- WordBytes: the walk. -/
import Derived.Test.YtpadpmkfhljiiaaBe
import Derived.Test.YtpadpmkfhljiiaaWd
import Derived.Deep.DeepCutAuto
import Derived.Deep.RegionHeld3
namespace Go.Proofs.Ytpadpmkfhljiiaa
open Go.RowKit
/-- between the steps of the law -/
structure Bs (w : World) (x0 x1 x2 x3 : Int) (bB bY : Nat) (y0 y1 y2 y3 : Int) (W : World) : Prop where
  bel : Below w.heap.size w W
  xx : Box W w.heap.size x0 x1 x2 x3
  yy : Box W bY y0 y1 y2 y3
  row : RowB W bB 32 (bb x0 x1 x2 x3)
  ne : w.heap.size < bB ∧ bB < bY
theorem Bs.past {w W W' : World} {x0 x1 x2 x3 y0 y1 y2 y3 : Int} {bB bY : Nat} (h : Bs w x0 x1 x2 x3 bB bY y0 y1 y2 y3 W) (k : Below W.heap.size W W') : Bs w x0 x1 x2 x3 bB bY y0 y1 y2 y3 W' :=
  ⟨h.bel.trans (k.mono h.bel.size), h.xx.below k h.xx.lt, h.yy.below k h.yy.lt, h.row.below k (h.row.lt (by omega)), h.ne⟩
theorem Bs.drew {w W : World} {x0 x1 x2 x3 y0 y1 y2 y3 : Int} {bB bY : Nat} (h : Bs w x0 x1 x2 x3 bB bY y0 y1 y2 y3 W) : Bs w x0 x1 x2 x3 bB bY y0 y1 y2 y3 W.drew := ⟨h.bel.drew, h.xx, h.yy, h.row, h.ne⟩
theorem RowB.puts {W : World} {b c n : Nat} {v : Nat → Int} (h : RowB W b n v) (hc : c ≠ b) (s0 s1 s2 s3 : Int) : RowB (put4 W c s0 s1 s2 s3) b n v := (((h.set_other _ _ hc).set_other _ _ hc).set_other _ _ hc).set_other _ _ hc
theorem Bs.other {w W : World} {x0 x1 x2 x3 y0 y1 y2 y3 : Int} {bB bY b : Nat} (h : Bs w x0 x1 x2 x3 bB bY y0 y1 y2 y3 W) (hb : bY < b) (s0 s1 s2 s3 : Int) : Bs w x0 x1 x2 x3 bB bY y0 y1 y2 y3 (put4 W b s0 s1 s2 s3) :=
  ⟨below_put h.bel (by have := h.ne; omega) _ _ _ _, h.xx.put_other (by have := h.ne; omega) _ _ _ _, h.yy.put_other (by omega) _ _ _ _, h.row.puts (by have := h.ne; omega) _ _ _ _, h.ne⟩
theorem Bs.putY {w W : World} {x0 x1 x2 x3 y0 y1 y2 y3 : Int} {bB bY : Nat} (h : Bs w x0 x1 x2 x3 bB bY y0 y1 y2 y3 W) (s0 s1 s2 s3 : Int) : Bs w x0 x1 x2 x3 bB bY s0 s1 s2 s3 (put4 W bY s0 s1 s2 s3) :=
  ⟨below_put h.bel (by have := h.ne; omega) _ _ _ _, h.xx.put_other (by have := h.ne; omega) _ _ _ _, h.yy.put _ _ _ _, h.row.puts (by have := h.ne; omega) _ _ _ _, h.ne⟩
theorem eq8_run (a b : Int) (W : World) : Sem.run Try.prog (Op.equalIn 10000 5 (.int .u8 a) (.int .u8 b)) W = .ok (decide (a = b)) W := by
  rw [show (10000 : Nat) = 9999 + 1 from rfl, Op.equalIn]
  simp [run_underlying Try.underlying5]
  rfl
set_option maxHeartbeats 8000000 in
set_option maxRecDepth 100000 in
theorem bytes_walk (x0 x1 x2 x3 : Int) (w : World) (hx : IsW (V x0 x1 x2 x3) x0 x1 x2 x3) :
    Calls Try.prog 13 #[.agg #[.int .u64 x0, .int .u64 x1, .int .u64 x2, .int .u64 x3]] w fun e w' => e = .returned (.bool true) ∧ Below w.heap.size w w' := by
  have HXW : Hid (IsW (V x0 x1 x2 x3) x0 x1 x2 x3) := hx
  obtain ⟨X, hX⟩ : ∃ X : Nat, V x0 x1 x2 x3 = (X : Int) := ⟨(V x0 x1 x2 x3).toNat, by have := hx.range; omega⟩
  have HXX : Hid (V x0 x1 x2 x3 = (X : Int)) := hX
  have XM : Hid ((X : Int) < MM) := by have := hx.range; unfold Hid; omega
  have BW : Hid (∀ i, i < 32 → bb x0 x1 x2 x3 i = ((X / 256 ^ (31 - i) % 256 : Nat) : Int)) := fun i hi => bw_dig hx.1.1 hx.1.2.1 hx.1.2.2.1 hx.1.2.2.2 X hX (31 - i) (by omega)
  have I0 : Hid (∀ W, W = w.alloc (.cells #[.int .u64 x0, .int .u64 x1, .int .u64 x2, .int .u64 x3] 24) → Below w.heap.size w W ∧ Box W w.heap.size x0 x1 x2 x3) := fun W e => by
    subst e
    exact ⟨(Below.refl _ _).alloc (Nat.le_refl _) _, Box.new w 24 x0 x1 x2 x3⟩
  clear hx hX
  go_enter Try.func13, Try.ntmps13
  go_wp2_with fail
  obtain ⟨W0, e0⟩ : ∃ W0, W0 = w.alloc (.cells #[.int .u64 x0, .int .u64 x1, .int .u64 x2, .int .u64 x3] 24) := ⟨_, rfl⟩
  obtain ⟨b0, b1⟩ := I0.out W0 e0
  have A0 : Hid (Below w.heap.size w W0) := b0
  have A1 : Hid (Box W0 w.heap.size x0 x1 x2 x3) := b1
  rw [← e0]
  clear e0 b0 b1 I0
  refine (bytes_is x0 x1 x2 x3 _).mono ?_
  rintro e v1 ⟨rfl, hB⟩
  have C0 : Hid (Below w.heap.size w v1) := Below.trans A0.out (hB.mono A0.out.size)
  have C1 : Hid (Box v1 w.heap.size x0 x1 x2 x3) := Box.below A1.out hB (Box.lt A1.out)
  clear hB A0 A1
  obtain ⟨f, ef⟩ : ∃ f, f = bb x0 x1 x2 x3 := ⟨_, rfl⟩
  rw [← ef]
  have EF : Hid (f = bb x0 x1 x2 x3) := ef
  clear ef
  obtain ⟨cs, hcs⟩ : ∃ cs, cs = (rowB 32 f).toArray := ⟨_, rfl⟩
  rw [← hcs]
  have HC : Hid (cs = (rowB 32 f).toArray) := hcs
  clear hcs
  go_upto_region 2 with (rw [HC.out]; refine store32_new f rfl _ _ rfl rfl rfl C0.out ?_; intro v2 hr hw hv; (have E0 : Hid (Below w.heap.size w v2) := hw); (have E1 : Hid (Box v2 w.heap.size x0 x1 x2 x3) := Box.below C1.out hv (Box.lt C1.out)); (have E2 : Hid (RowB v2 v1.heap.size 32 (bb x0 x1 x2 x3)) := (by have h := hr; rw [EF.out] at h; exact h)); (have z1 : w.heap.size < v1.heap.size := Box.lt C1.out); (have z2 : v1.heap.size < v2.heap.size := RowB.lt hr (by omega)); clear hr hw hv)
  have ZZ : Hid (w.heap.size < v1.heap.size ∧ v1.heap.size < v2.heap.size) := ⟨z1, z2⟩
  clear C0 C1 EF HC z1 z2
  generalize v1.heap.size = bB at E2 ZZ ⊢
  go_upto_region 3 with fail
  have S0 : Hid (Bs w x0 x1 x2 x3 bB v2.heap.size 0 0 0 0 (v2.alloc (.cells #[.int .u64 0, .int .u64 0, .int .u64 0, .int .u64 0] 24))) := ⟨Below.alloc E0.out E0.out.size _, Box.alloc E1.out _, Box.new v2 24 0 0 0 0, RowB.alloc E2.out _, ZZ.out⟩
  generalize v2.alloc (.cells #[.int .u64 0, .int .u64 0, .int .u64 0, .int .u64 0] 24) = v3 at S0 ⊢
  clear E0 E1 E2 ZZ
  generalize v2.heap.size = bY at S0 ⊢
  go_wp2
  go_loopw [5, 6] (fun sn si wr => ∃ (n k : Nat) (y0 y1 y2 y3 : Int), k ≤ 32 ∧ n ≤ k ∧ sn = .int .i64 n ∧ si = .int .i64 k ∧ X / 256 ^ (32 - n) = 0 ∧ (n < k → X / 256 ^ (31 - n) ≠ 0) ∧ IsW ((X / 256 ^ (32 - k) : Nat) : Int) y0 y1 y2 y3 ∧ Bs w x0 x1 x2 x3 bB bY y0 y1 y2 y3 wr) (fun _ si _ => 32 - (intOf si).toNat)
  case atStart =>
    have hX0 : X / 256 ^ 32 = 0 := Nat.div_eq_of_lt (by have := XM.out; unfold MM at this; omega)
    refine ⟨0, 0, 0, 0, 0, 0, by omega, by omega, rfl, rfl, hX0, fun h => absurd h (by omega), ?_, S0.out⟩
    rw [show 32 - 0 = 32 by rfl, hX0]; exact isW_0
  case round =>
    obtain ⟨n, k, y0, y1, y2, y3, hk, hnk, rfl, rfl, hn0, hn1, hy, hS⟩ := hrel
    clear S0
    have SS : Hid (Bs w x0 x1 x2 x3 bB bY y0 y1 y2 y3 wr) := hS
    have HY : Hid (IsW ((X / 256 ^ (32 - k) : Nat) : Int) y0 y1 y2 y3) := hy
    have HN : Hid (X / 256 ^ (32 - n) = 0 ∧ (n < k → X / 256 ^ (31 - n) ≠ 0)) := ⟨hn0, hn1⟩
    clear hS hy hn0 hn1
    by_cases hk5 : k < 32
    · have kI : (k : Int) < 32 := by omega
      have kw : IntKind.u64.wrap (k : Int) = (k : Int) := by rw [IntKind.wrap_u64]; omega
      have BT0 : Hid (∀ W : World, Calls Try.prog 52 #[.agg #[.int .u64 (k : Int), .int .u64 0, .int .u64 0, .int .u64 0], .agg #[.int .u64 x0, .int .u64 x1, .int .u64 x2, .int .u64 x3]] W fun e w' => e = .returned (.agg #[.int .u64 (bb x0 x1 x2 x3 k), .int .u64 0, .int .u64 0, .int .u64 0]) ∧ Below W.heap.size W w') := fun W => byte_is k hk5 x0 x1 x2 x3 W
      have cr := bb_range x0 x1 x2 x3 k
      obtain ⟨c, ec⟩ : ∃ c, c = bb x0 x1 x2 x3 k := ⟨_, rfl⟩
      rw [← ec] at BT0 cr
      have BT : Hid (∀ W : World, Calls Try.prog 52 #[.agg #[.int .u64 (k : Int), .int .u64 0, .int .u64 0, .int .u64 0], .agg #[.int .u64 x0, .int .u64 x1, .int .u64 x2, .int .u64 x3]] W fun e w' => e = .returned (.agg #[.int .u64 c, .int .u64 0, .int .u64 0, .int .u64 0]) ∧ Below W.heap.size W w') := BT0
      have EC : Hid (c = bb x0 x1 x2 x3 k) := ec
      have CR : Hid (0 ≤ c ∧ c < 256) := cr
      have wc9 : IntKind.u64.wrap c = c := by rw [IntKind.wrap_u64]; omega
      clear BT0 ec cr
      go_upto_region 7 with fail
      go_cut [7] (fun s7 wx => ∃ b7 : Nat, s7 = .pointer (some ⟨b7, 0, none⟩) ∧ bY < b7 ∧ Box wx b7 c 0 0 0 ∧ Bs w x0 x1 x2 x3 bB bY y0 y1 y2 y3 wx)
      case first =>
        refine wp_region_held_drew (S := fun w' => Bs w x0 x1 x2 x3 bB bY y0 y1 y2 y3 w') (by kernel_rfl) SS.out.drew (fun hHeld => ?_)
        refine wpAnyH_take (i := 0) (v := .int .i64 (k : Int)) op0 (by kernel_rfl) (by kernel_rfl) (by kernel_rfl) (fun _ _ _ h => h) (Or.inl ⟨by rfl, fun W _ => ?_⟩) hHeld ?_
        · go_simp
        simp only [Act.put, List.setIfInBounds_toArray, List.set_cons_zero, List.set_cons_succ]
        refine wpAnyH_take (i := 1) (v := .int .u64 (k : Int)) op1 (by kernel_rfl) (by kernel_rfl) (by kernel_rfl) (fun _ _ _ h => h) (Or.inl ⟨by rfl, fun W _ => ?_⟩) hHeld ?_
        · go_simp
        simp only [Act.put, List.setIfInBounds_toArray, List.set_cons_zero, List.set_cons_succ]
        refine wpAnyH_take (i := 3) (v := .agg #[.int .u64 x0, .int .u64 x1, .int .u64 x2, .int .u64 x3]) op3 (by kernel_rfl) (by kernel_rfl) (by kernel_rfl) (fun _ _ _ h => h) (Or.inl ⟨by rfl, fun W hS => ?_⟩) hHeld ?_
        · obtain ⟨c0, c1, c2, c3, _⟩ := Box.facts hS.xx
          go_simp
        simp only [Act.put, List.setIfInBounds_toArray, List.set_cons_zero, List.set_cons_succ]
        refine wpAnyH_ready (rs := [2, 5]) (by kernel_rfl) (by simp) ?_
        refine AllReadyH.cons op2 (fun K hK => ?_) (AllReadyH.cons op5 (fun K hK => ?_) AllReadyH.nil)
        · rw [if_pos (by rfl)]
          go_simp
          refine (fromUint_any _ _).mono ?_
          rintro e v1 ⟨rfl, hB⟩
          have h1 : Bs w x0 x1 x2 x3 bB bY y0 y1 y2 y3 v1 := hHeld.past hB
          clear hB hHeld
          (try go_wp2_with fail)
          refine hK.out _ _ h1 (fun _ => ?_)
          clear hK K
          refine wpAnyH_ready (rs := [4, 5]) (by kernel_rfl) (by simp) ?_
          refine AllReadyH.cons op4 (fun K hK => ?_) (AllReadyH.cons op5 (fun K hK => ?_) AllReadyH.nil)
          · rw [if_pos (by rfl)]
            go_simp
            refine (BT.out _).mono ?_
            rintro e v2 ⟨rfl, hB⟩
            have h2 : Bs w x0 x1 x2 x3 bB bY y0 y1 y2 y3 v2 := h1.past hB
            clear hB h1
            (try go_wp2_with fail)
            refine hK.out _ _ h2 (fun _ => ?_)
            clear hK K
            refine wpAnyH_ready (rs := [5]) (by kernel_rfl) (by simp) ?_
            refine AllReadyH.cons op5 (fun K hK => ?_) AllReadyH.nil
            rw [if_pos (by rfl)]
            go_simp
            have h3 : Bs w x0 x1 x2 x3 bB bY y0 y1 y2 y3 (v2.alloc (.cells #[.int .u64 0, .int .u64 0, .int .u64 0, .int .u64 0] 24)) := h2.past ((Below.refl _ _).alloc (Nat.le_refl _) _)
            refine hK.out _ _ h3 (fun _ => ?_)
            clear hK K
            refine wpAnyH_ready (rs := [6]) (by kernel_rfl) (by simp) ?_
            refine AllReadyH.cons op6 (fun K hK => ?_) AllReadyH.nil
            rw [if_pos (by rfl)]
            go_simp
            have h4 : Bs w x0 x1 x2 x3 bB bY y0 y1 y2 y3 (v2.alloc (.cells #[.int .u64 c, .int .u64 0, .int .u64 0, .int .u64 0] 24)) := h2.past ((Below.refl _ _).alloc (Nat.le_refl _) _)
            refine hK.out _ _ h4 (fun _ => ?_)
            clear hK K
            refine wpAnyH_done (by kernel_rfl) ?_ _
            go_wp2
            go_meet
            case rel => exact ⟨v2.heap.size, rfl, h2.yy.lt, Box.new v2 24 c 0 0 0, h4⟩
          · rw [if_pos (by rfl)]
            go_simp
            have h3 : Bs w x0 x1 x2 x3 bB bY y0 y1 y2 y3 (v1.alloc (.cells #[.int .u64 0, .int .u64 0, .int .u64 0, .int .u64 0] 24)) := h1.past ((Below.refl _ _).alloc (Nat.le_refl _) _)
            have zB : Box (v1.alloc (.cells #[.int .u64 0, .int .u64 0, .int .u64 0, .int .u64 0] 24)) v1.heap.size 0 0 0 0 := Box.new v1 24 0 0 0 0
            have zz : bY < v1.heap.size := h1.yy.lt
            refine hK.out _ _ h3 (fun _ => ?_)
            clear hK K
            refine wpAnyH_ready (rs := [4]) (by kernel_rfl) (by simp) ?_
            refine AllReadyH.cons op4 (fun K hK => ?_) AllReadyH.nil
            rw [if_pos (by rfl)]
            go_simp
            refine (BT.out _).mono ?_
            rintro e v2 ⟨rfl, hB⟩
            have h2 : Bs w x0 x1 x2 x3 bB bY y0 y1 y2 y3 v2 := h3.past hB
            have zB1 : Box v2 v1.heap.size 0 0 0 0 := zB.below hB zB.lt
            clear hB h1 h3 zB
            (try go_wp2_with fail)
            refine hK.out _ _ h2 (fun _ => ?_)
            clear hK K
            obtain ⟨p0, p1, p2, p3, f0, f1, f2, f3⟩ := Box.facts zB1
            refine wpAnyH_ready (rs := [6]) (by kernel_rfl) (by simp) ?_
            refine AllReadyH.cons op6 (fun K hK => ?_) AllReadyH.nil
            rw [if_pos (by rfl)]
            go_simp
            have h4 : Bs w x0 x1 x2 x3 bB bY y0 y1 y2 y3 ((((v2.setCell ⟨v1.heap.size, 0, none⟩ (.int .u64 c)).setCell ⟨v1.heap.size, 1, none⟩ (.int .u64 0)).setCell ⟨v1.heap.size, 2, none⟩ (.int .u64 0)).setCell ⟨v1.heap.size, 3, none⟩ (.int .u64 0)) := h2.other zz c 0 0 0
            refine hK.out _ _ h4 (fun _ => ?_)
            clear hK K
            refine wpAnyH_done (by kernel_rfl) ?_ _
            go_wp2
            go_meet
            case rel => exact ⟨v1.heap.size, rfl, zz, zB1.put c 0 0 0, h4⟩
        · rw [if_pos (by rfl)]
          go_simp
          have h3 : Bs w x0 x1 x2 x3 bB bY y0 y1 y2 y3 (wr.drew.alloc (.cells #[.int .u64 0, .int .u64 0, .int .u64 0, .int .u64 0] 24)) := hHeld.past ((Below.refl _ _).alloc (Nat.le_refl _) _)
          have zB : Box (wr.drew.alloc (.cells #[.int .u64 0, .int .u64 0, .int .u64 0, .int .u64 0] 24)) wr.heap.size 0 0 0 0 := Box.new wr.drew 24 0 0 0 0
          have zz : bY < wr.heap.size := SS.out.yy.lt
          refine hK.out _ _ h3 (fun _ => ?_)
          clear hK K
          refine wpAnyH_ready (rs := [2]) (by kernel_rfl) (by simp) ?_
          refine AllReadyH.cons op2 (fun K hK => ?_) AllReadyH.nil
          rw [if_pos (by rfl)]
          go_simp
          refine (fromUint_any _ _).mono ?_
          rintro e v1 ⟨rfl, hB⟩
          have h1 : Bs w x0 x1 x2 x3 bB bY y0 y1 y2 y3 v1 := h3.past hB
          have zB0 : Box v1 wr.heap.size 0 0 0 0 := zB.below hB zB.lt
          clear hB hHeld h3 zB
          (try go_wp2_with fail)
          refine hK.out _ _ h1 (fun _ => ?_)
          clear hK K
          refine wpAnyH_ready (rs := [4]) (by kernel_rfl) (by simp) ?_
          refine AllReadyH.cons op4 (fun K hK => ?_) AllReadyH.nil
          rw [if_pos (by rfl)]
          go_simp
          refine (BT.out _).mono ?_
          rintro e v2 ⟨rfl, hB⟩
          have h2 : Bs w x0 x1 x2 x3 bB bY y0 y1 y2 y3 v2 := h1.past hB
          have zB1 : Box v2 wr.heap.size 0 0 0 0 := zB0.below hB zB0.lt
          clear hB h1 zB0
          (try go_wp2_with fail)
          refine hK.out _ _ h2 (fun _ => ?_)
          clear hK K
          obtain ⟨p0, p1, p2, p3, f0, f1, f2, f3⟩ := Box.facts zB1
          refine wpAnyH_ready (rs := [6]) (by kernel_rfl) (by simp) ?_
          refine AllReadyH.cons op6 (fun K hK => ?_) AllReadyH.nil
          rw [if_pos (by rfl)]
          go_simp
          have h4 : Bs w x0 x1 x2 x3 bB bY y0 y1 y2 y3 ((((v2.setCell ⟨wr.heap.size, 0, none⟩ (.int .u64 c)).setCell ⟨wr.heap.size, 1, none⟩ (.int .u64 0)).setCell ⟨wr.heap.size, 2, none⟩ (.int .u64 0)).setCell ⟨wr.heap.size, 3, none⟩ (.int .u64 0)) := h2.other zz c 0 0 0
          refine hK.out _ _ h4 (fun _ => ?_)
          clear hK K
          refine wpAnyH_done (by kernel_rfl) ?_ _
          go_wp2
          go_meet
          case rel => exact ⟨wr.heap.size, rfl, zz, zB1.put c 0 0 0, h4⟩
      case rest =>
        obtain ⟨b7, rfl, hb7, hbc, hS⟩ := hcut
        have C7 : Hid (Box wc b7 c 0 0 0) := hbc
        have SC : Hid (Bs w x0 x1 x2 x3 bB bY y0 y1 y2 y3 wc) := hS
        clear hbc hS SS BT
        have eqs := eqw_same
        go_upto_region 8 with fail
        refine wp_region_held_drew (S := fun w' => Bs w x0 x1 x2 x3 bB bY y0 y1 y2 y3 w' ∧ Box w' b7 c 0 0 0) (by kernel_rfl) ⟨SC.out.drew, C7.out⟩ (fun hHeld => ?_)
        refine wpAnyH_take (i := 0) (v := .agg #[.int .u64 c, .int .u64 0, .int .u64 0, .int .u64 0]) op0 (by kernel_rfl) (by kernel_rfl) (by kernel_rfl) (fun _ _ _ h => h) (Or.inl ⟨by rfl, fun W hS => ?_⟩) hHeld ?_
        · obtain ⟨c0, c1, c2, c3, _⟩ := Box.facts hS.2
          go_simp
        simp only [Act.put, List.setIfInBounds_toArray, List.set_cons_zero, List.set_cons_succ]
        refine wpAnyH_take (i := 1) (v := .int .i64 (k : Int)) op1 (by kernel_rfl) (by kernel_rfl) (by kernel_rfl) (fun _ _ _ h => h) (Or.inl ⟨by rfl, fun W _ => ?_⟩) hHeld ?_
        · go_simp
        simp only [Act.put, List.setIfInBounds_toArray, List.set_cons_zero, List.set_cons_succ]
        refine wpAnyH_take (i := 2) (v := .pointer (some ⟨bB, k, none⟩)) op2 (by kernel_rfl) (by kernel_rfl) (by kernel_rfl) (fun _ _ _ h => h) (Or.inl ⟨by rfl, fun W _ => ?_⟩) hHeld ?_
        · go_simp
        simp only [Act.put, List.setIfInBounds_toArray, List.set_cons_zero, List.set_cons_succ]
        refine wpAnyH_take (i := 3) (v := .int .u8 c) op3 (by kernel_rfl) (by kernel_rfl) (by kernel_rfl) (fun _ _ _ h => h) (Or.inl ⟨by rfl, fun W hS => ?_⟩) hHeld ?_
        · have cc := (hS.1.row k hk5).1
          rw [← EC.out] at cc
          go_simp
        simp only [Act.put, List.setIfInBounds_toArray, List.set_cons_zero, List.set_cons_succ]
        refine wpAnyH_take (i := 4) (v := .int .u64 c) op4 (by kernel_rfl) (by kernel_rfl) (by kernel_rfl) (fun _ _ _ h => h) (Or.inl ⟨by rfl, fun W _ => ?_⟩) hHeld ?_
        · go_simp
        simp only [Act.put, List.setIfInBounds_toArray, List.set_cons_zero, List.set_cons_succ]
        refine wpAnyH_ready (rs := [5]) (by kernel_rfl) (by simp) ?_
        refine AllReadyH.cons op5 (fun K hK => ?_) AllReadyH.nil
        rw [if_pos (by rfl)]
        go_simp
        refine (fromUint_any _ _).mono ?_
        rintro e v1 ⟨rfl, hB⟩
        have h1 : Bs w x0 x1 x2 x3 bB bY y0 y1 y2 y3 v1 ∧ Box v1 b7 c 0 0 0 := ⟨hHeld.1.past hB, hHeld.2.below hB hHeld.2.lt⟩
        clear hB hHeld
        (try go_wp2_with fail)
        refine hK.out _ _ h1 (fun _ => ?_)
        clear hK K
        refine wpAnyH_take (i := 6) (v := .bool false) op6 (by kernel_rfl) (by kernel_rfl) (by kernel_rfl) (fun _ _ _ h => h) (Or.inl ⟨by rfl, fun W _ => ?_⟩) h1 ?_
        · go_simp
        simp only [Act.put, List.setIfInBounds_toArray, List.set_cons_zero, List.set_cons_succ]
        refine wpAnyH_done (by kernel_rfl) ?_ _
        have S1 : Hid (Bs w x0 x1 x2 x3 bB bY y0 y1 y2 y3 v1) := h1.1
        have C1 : Hid (Box v1 b7 c 0 0 0) := h1.2
        clear h1 C7 SC
        obtain ⟨m0, m1, m2, m3, hm⟩ := isW_ex (((X / 256 ^ (32 - k) : Nat) : Int) * 256)
        obtain ⟨t0, t1, t2, t3, ht⟩ := isW_ex (((X / 256 ^ (32 - k) : Nat) : Int) * 256 + c)
        have HT : Hid (IsW (((X / 256 ^ (32 - k) : Nat) : Int) * 256 + c) t0 t1 t2 t3) := ht
        have MU : Hid (∀ W : World, Calls Try.prog 35 #[.agg #[.int .u64 y0, .int .u64 y1, .int .u64 y2, .int .u64 y3], .agg #[.int .u64 256, .int .u64 0, .int .u64 0, .int .u64 0]] W fun e w' => e = .returned (.agg #[.int .u64 m0, .int .u64 m1, .int .u64 m2, .int .u64 m3]) ∧ Below W.heap.size W w') := fun W => mul_is _ _ _ _ _ _ _ _ _ _ _ _ _ _ W HY.out (isW_lit 256 (by omega) (by omega)) hm
        have AD : Hid (∀ W : World, Calls Try.prog 33 #[.agg #[.int .u64 m0, .int .u64 m1, .int .u64 m2, .int .u64 m3], .agg #[.int .u64 c, .int .u64 0, .int .u64 0, .int .u64 0]] W fun e w' => e = .returned (.agg #[.int .u64 t0, .int .u64 t1, .int .u64 t2, .int .u64 t3]) ∧ Below W.heap.size W w') := fun W => add_is _ _ _ _ _ _ _ _ _ _ _ _ _ _ W hm (isW_lit c CR.out.1 (by have := CR.out; omega)) ht
        clear hm ht
        go_upto_region 10 with fail
        refine wp_region_held_drew (S := fun w' => Box w' b7 c 0 0 0) (by kernel_rfl) C1.out (fun hHeld => ?_)
        have h0 : Bs w x0 x1 x2 x3 bB bY y0 y1 y2 y3 v1.drew := S1.out.drew
        refine wpAnyH_take (i := 1) (v := .agg #[.int .u64 256, .int .u64 0, .int .u64 0, .int .u64 0]) op1 (by kernel_rfl) (by kernel_rfl) (by kernel_rfl) (fun _ _ _ h => h) (Or.inl ⟨by rfl, fun W _ => ?_⟩) hHeld ?_
        · go_simp
        simp only [Act.put, List.setIfInBounds_toArray, List.set_cons_zero, List.set_cons_succ]
        refine wpAnyH_take (i := 3) (v := .agg #[.int .u64 c, .int .u64 0, .int .u64 0, .int .u64 0]) op3 (by kernel_rfl) (by kernel_rfl) (by kernel_rfl) (fun _ _ _ h => h) (Or.inl ⟨by rfl, fun W hS => ?_⟩) hHeld ?_
        · obtain ⟨c0, c1, c2, c3, _⟩ := Box.facts hS
          go_simp
        simp only [Act.put, List.setIfInBounds_toArray, List.set_cons_zero, List.set_cons_succ]
        refine wpAnyH_ready (rs := [0]) (by kernel_rfl) (by simp) ?_
        refine AllReadyH.cons op0 (fun K hK => ?_) AllReadyH.nil
        obtain ⟨p0, p1, p2, p3, _⟩ := Box.facts h0.yy
        rw [if_pos (by rfl)]
        go_simp
        refine hK.out _ _ hHeld (fun _ => ?_)
        clear hK K
        refine wpAnyH_ready (rs := [2]) (by kernel_rfl) (by simp) ?_
        refine AllReadyH.cons op2 (fun K hK => ?_) AllReadyH.nil
        rw [if_pos (by rfl)]
        go_simp
        refine (MU.out _).mono ?_
        rintro e v2 ⟨rfl, hB⟩
        have h1 : Bs w x0 x1 x2 x3 bB bY y0 y1 y2 y3 v2 := h0.past hB
        have hH1 : Box v2 b7 c 0 0 0 := hHeld.below hB hHeld.lt
        clear hB hHeld h0 p0 p1 p2 p3
        (try go_wp2_with fail)
        refine hK.out _ _ hH1 (fun _ => ?_)
        clear hK K
        refine wpAnyH_ready (rs := [4]) (by kernel_rfl) (by simp) ?_
        refine AllReadyH.cons op4 (fun K hK => ?_) AllReadyH.nil
        rw [if_pos (by rfl)]
        go_simp
        refine (AD.out _).mono ?_
        rintro e v3 ⟨rfl, hB⟩
        have h2 : Bs w x0 x1 x2 x3 bB bY y0 y1 y2 y3 v3 := h1.past hB
        have hH2 : Box v3 b7 c 0 0 0 := hH1.below hB hH1.lt
        clear hB hH1 h1
        (try go_wp2_with fail)
        refine hK.out _ _ hH2 (fun _ => ?_)
        clear hK K
        obtain ⟨p0, p1, p2, p3, f0, f1, f2, f3⟩ := Box.facts h2.yy
        refine wpAnyH_ready (rs := [5]) (by kernel_rfl) (by simp) ?_
        refine AllReadyH.cons op5 (fun K hK => ?_) AllReadyH.nil
        rw [if_pos (by rfl)]
        go_simp
        have h3 : Box ((((v3.setCell ⟨bY, 0, none⟩ (.int .u64 t0)).setCell ⟨bY, 1, none⟩ (.int .u64 t1)).setCell ⟨bY, 2, none⟩ (.int .u64 t2)).setCell ⟨bY, 3, none⟩ (.int .u64 t3)) b7 c 0 0 0 := hH2.put_other (by omega) t0 t1 t2 t3
        have h4 : Bs w x0 x1 x2 x3 bB bY t0 t1 t2 t3 ((((v3.setCell ⟨bY, 0, none⟩ (.int .u64 t0)).setCell ⟨bY, 1, none⟩ (.int .u64 t1)).setCell ⟨bY, 2, none⟩ (.int .u64 t2)).setCell ⟨bY, 3, none⟩ (.int .u64 t3)) := h2.putY t0 t1 t2 t3
        refine hK.out _ _ h3 (fun _ => ?_)
        clear hK K
        refine wpAnyH_done (by kernel_rfl) ?_ _
        have S5 : Hid (Bs w x0 x1 x2 x3 bB bY t0 t1 t2 t3 ((((v3.setCell ⟨bY, 0, none⟩ (.int .u64 t0)).setCell ⟨bY, 1, none⟩ (.int .u64 t1)).setCell ⟨bY, 2, none⟩ (.int .u64 t2)).setCell ⟨bY, 3, none⟩ (.int .u64 t3))) := h4
        clear h2 h3 h4 hH2 p0 p1 p2 p3 f0 f1 f2 f3 S1 C1 MU AD
        generalize ((((v3.setCell ⟨bY, 0, none⟩ (.int .u64 t0)).setCell ⟨bY, 1, none⟩ (.int .u64 t1)).setCell ⟨bY, 2, none⟩ (.int .u64 t2)).setCell ⟨bY, 3, none⟩ (.int .u64 t3)) = v5 at S5 ⊢
        go_upto_region 11 with fail
        have cc := (S5.out.row k hk5).1
        rw [← EC.out] at cc
        have HW : Hid (X / 256 ^ (32 - (k + 1)) = X / 256 ^ (32 - k) * 256 + X / 256 ^ (31 - k) % 256) := by
          have h := half_byte X (31 - k)
          rw [show 31 - k + 1 = 32 - k by omega] at h
          rw [show 32 - (k + 1) = 31 - k by omega]; exact h
        have HC : Hid (c = ((X / 256 ^ (31 - k) % 256 : Nat) : Int)) := by rw [EC.out]; exact BW.out k hk5
        have HT2 : Hid (IsW ((X / 256 ^ (32 - (k + 1)) : Nat) : Int) t0 t1 t2 t3) := by
          have h := HT.out
          rw [HC.out] at h
          rw [HW.out]; unfold Hid; push_cast at h ⊢; exact h
        have kk : (k : Int) + 1 ≤ 32 := by omega
        by_cases hnk5 : n = k
        · subst hnk5
          by_cases hc0 : c = 0
          · have H1 : Hid (X / 256 ^ (32 - (n + 1)) = 0) := by
              have h1 := HC.out
              have h2 := HW.out
              have h3 := HN.out.1
              rw [h3] at h2
              unfold Hid; omega
            subst hc0
            clear eqs
            go_wp2
            go_roundw
            case rel => exact ⟨n + 1, n + 1, t0, t1, t2, t3, by omega, by omega, by go_num, by go_num, H1.out, fun h => absurd h (by omega), HT2.out, S5.out⟩
            case measure => simp [intOf]; omega
          · have H1 : Hid (X / 256 ^ (31 - n) ≠ 0) := by
              have h1 := HC.out
              intro h2
              rw [h2] at h1
              exact hc0 (by simpa using h1)
            have dc : decide (c = 0) = false := decide_eq_false hc0
            clear eqs hc0
            have c1 : (c == 0) = false := dc
            clear dc wc9
            go_wp2
            go_roundw
            case rel => exact ⟨n, n + 1, t0, t1, t2, t3, by omega, by omega, by go_num, by go_num, HN.out.1, fun _ => H1.out, HT2.out, S5.out⟩
            case measure => simp [intOf]; omega
        · have nk : ¬ ((n : Int) = (k : Int)) := by omega
          clear eqs
          go_wp2
          go_roundw
          case rel => exact ⟨n, k + 1, t0, t1, t2, t3, by omega, by omega, by go_num, by go_num, HN.out.1, fun _ => HN.out.2 (by omega), HT2.out, S5.out⟩
          case measure => simp [intOf]; omega
    · obtain rfl : k = 32 := by omega
      have hy := HY.out
      rw [show 32 - 32 = 0 by rfl, Nat.pow_zero, Nat.div_one] at hy
      obtain ⟨rfl, rfl, rfl, rfl⟩ := HXW.out.eq hy (by rw [HXX.out])
      have n32 : (n : Int) ≤ 32 := by omega
      clear hy HY
      obtain ⟨d, hd⟩ : ∃ d, n + d = 32 := ⟨32 - n, by omega⟩
      have sl1 := slice_arr bB n d hd
      have sl2 := slice_all bB
      have dI : (32 : Int) - (n : Int) = (d : Int) := by omega
      have u9 := HXW.out.1
      have KL : Hid (∀ q, q < 4 → keep x0 x1 x2 x3 d q = 0) := by
        have h := keep_lead u9.1 u9.2.1 u9.2.2.1 u9.2.2.2 n (by omega) (fun j hj hj2 => by rw [bw_dig u9.1 u9.2.1 u9.2.2.1 u9.2.2.2 X HXX.out j hj2, lead_zero HN.out.1 j hj]; rfl)
        rw [show 32 - n = d by omega] at h; exact h
      have K32 : Hid (∀ q, q < 4 → keep x0 x1 x2 x3 32 q = 0) := keep_lead u9.1 u9.2.1 u9.2.2.1 u9.2.2.2 0 (by omega) (fun j hj hj2 => absurd hj2 (by omega))
      have UX : Hid (∀ q, U64 (limb x0 x1 x2 x3 q)) := limb_u64 u9.1 u9.2.1 u9.2.2.1 u9.2.2.2
      have F1 : Hid (∀ W : World, RowB W bB 32 (bb x0 x1 x2 x3) → Calls Try.prog 54 #[.slice (some ⟨bB, if d = 0 then 0 else n, none⟩) d d] W fun e w' => e = .returned (.tuple #[.agg #[.int .u64 x0, .int .u64 x1, .int .u64 x2, .int .u64 x3], .int .i64 0]) ∧ Below W.heap.size W w') := fun W hr => fromBytes_is x0 x1 x2 x3 bB _ d d W (by omega) UX.out KL.out fun i hi => by
        rw [if_neg (by omega), (hr (n + i) (by omega)).1]; unfold bb; congr 2; congr 1; omega
      have F2 : Hid (∀ W : World, RowB W bB 32 (bb x0 x1 x2 x3) → Calls Try.prog 54 #[.slice (some ⟨bB, 0, none⟩) 32 32] W fun e w' => e = .returned (.tuple #[.agg #[.int .u64 x0, .int .u64 x1, .int .u64 x2, .int .u64 x3], .int .i64 0]) ∧ Below W.heap.size W w') := fun W hr => fromBytes_is x0 x1 x2 x3 bB 0 32 32 W (by omega) UX.out K32.out fun i hi => by
        rw [Nat.zero_add, (hr i hi).1]; rfl
      have SZ : Hid (∀ W : World, Calls Try.prog 56 #[.agg #[.int .u64 x0, .int .u64 x1, .int .u64 x2, .int .u64 x3]] W fun e w' => e = .returned (.int .i64 (d : Int)) ∧ Below W.heap.size W w') := fun W => by
        refine (size_is x0 x1 x2 x3 W HXW.out).mono ?_
        rintro e w' ⟨B, rfl, _, hB2, hB⟩
        rw [HXX.out] at hB2
        have := size_num (by omega) HN.out.1 HN.out.2 hB2
        exact ⟨by rw [this, show 32 - n = d by omega], hB⟩
      generalize (if d = 0 then 0 else n) = od at sl1 F1
      generalize (rowB 32 f).toArray = cs9
      clear u9 KL K32 UX
      go_upto_region 13 with fail
      go_wp2_with fail
      refine (F1.out _ SS.out.row).mono ?_
      rintro e q1 ⟨rfl, hB⟩
      have S1 : Hid (Bs w x0 x1 x2 x3 bB bY x0 x1 x2 x3 q1) := SS.out.past hB
      clear hB SS F1
      go_upto_region 14 with fail
      have S2 : Hid (Bs w x0 x1 x2 x3 bB bY x0 x1 x2 x3 (q1.alloc (.cells #[.int .u64 x0, .int .u64 x1, .int .u64 x2, .int .u64 x3] 24))) := S1.out.past ((Below.refl _ _).alloc (Nat.le_refl _) _)
      have B2 : Hid (Box (q1.alloc (.cells #[.int .u64 x0, .int .u64 x1, .int .u64 x2, .int .u64 x3] 24)) q1.heap.size x0 x1 x2 x3) := Box.new q1 24 x0 x1 x2 x3
      generalize q1.alloc (.cells #[.int .u64 x0, .int .u64 x1, .int .u64 x2, .int .u64 x3] 24) = q2 at S2 B2 ⊢
      generalize q1.heap.size = bZ at B2 ⊢
      clear S1
      go_wp2_with fail
      refine (F2.out _ S2.out.row).mono ?_
      rintro e q3 ⟨rfl, hB⟩
      have S3 : Hid (Bs w x0 x1 x2 x3 bB bY x0 x1 x2 x3 q3) := S2.out.past hB
      have B3 : Hid (Box q3 bZ x0 x1 x2 x3) := B2.out.below hB B2.out.lt
      clear hB S2 B2 F2
      go_upto_region 15 with fail
      have S4 : Hid (Bs w x0 x1 x2 x3 bB bY x0 x1 x2 x3 (q3.alloc (.cells #[.int .u64 x0, .int .u64 x1, .int .u64 x2, .int .u64 x3] 24))) := S3.out.past ((Below.refl _ _).alloc (Nat.le_refl _) _)
      have B4 : Hid (Box (q3.alloc (.cells #[.int .u64 x0, .int .u64 x1, .int .u64 x2, .int .u64 x3] 24)) bZ x0 x1 x2 x3) := B3.out.alloc _
      have D4 : Hid (Box (q3.alloc (.cells #[.int .u64 x0, .int .u64 x1, .int .u64 x2, .int .u64 x3] 24)) q3.heap.size x0 x1 x2 x3) := Box.new q3 24 x0 x1 x2 x3
      generalize q3.alloc (.cells #[.int .u64 x0, .int .u64 x1, .int .u64 x2, .int .u64 x3] 24) = q4 at S4 B4 D4 ⊢
      generalize q3.heap.size = bW at D4 ⊢
      clear S3 B3
      have eqs := eqw_same
      obtain ⟨a0, a1, a2, a3, _⟩ := Box.facts S4.out.xx
      obtain ⟨g0, g1, g2, g3, _⟩ := Box.facts S4.out.yy
      obtain ⟨h0, h1, h2, h3, _⟩ := Box.facts B4.out
      obtain ⟨k0, k1, k2, k3, _⟩ := Box.facts D4.out
      go_wp2_with (first
        | (go_at_call 55; refine (num_is _).mono ?_; rintro e q5 ⟨rfl, rfl⟩)
        | (go_at_call 56; refine (SZ.out _).mono ?_; rintro e q6 ⟨rfl, hB⟩; (have S6 : Hid (Bs w x0 x1 x2 x3 bB bY x0 x1 x2 x3 q6) := Bs.past S4.out hB); clear hB)
        | (go_at_call 19; refine (awake_any _).mono ?_; rintro e q7 ⟨rfl, hB⟩; (have S7 : Hid (Bs w x0 x1 x2 x3 bB bY x0 x1 x2 x3 q7) := Bs.past S6.out hB); clear hB))
      go_ret
      exact ⟨rfl, S7.out.bel⟩
end Go.Proofs.Ytpadpmkfhljiiaa
