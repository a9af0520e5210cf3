/- MachStacks: the walk. -/
import Derived.Test.YtdddmebihkdkjaaQn
import Derived.Test.YtdddmebihkdkjaaQz
namespace Go.Proofs.Ytdddmebihkdkjaa
open Go.RowKit
/-- two pairs, and the boxes that lead to them -/
structure MS (w W : World) (bp bq b1 c1 b2 c2 : Nat) (f1 : Ring) (n1 : Int) (f2 : Ring) (n2 : Int) : Prop where
  t1 : Two W b1 c1 f1 n1
  t2 : Two W b2 c2 f2 n2
  p0 : W.cell? ⟨bp, 0, none⟩ = some (.pointer (some ⟨b1, 0, none⟩))
  p1 : W.cell? ⟨bp, 1, none⟩ = some (.pointer (some ⟨c1, 0, none⟩))
  q0 : W.cell? ⟨bq, 0, none⟩ = some (.pointer (some ⟨b2, 0, none⟩))
  q1 : W.cell? ⟨bq, 1, none⟩ = some (.pointer (some ⟨c2, 0, none⟩))
  ap : ¬ BC b1 c1 b2 ∧ ¬ BC b1 c1 c2 ∧ ¬ BC b2 c2 b1 ∧ ¬ BC b2 c2 c1 ∧ ¬ BC b1 c1 bp ∧ ¬ BC b1 c1 bq ∧ ¬ BC b2 c2 bp ∧ ¬ BC b2 c2 bq
  ge : (w.heap.size ≤ b1 ∧ w.heap.size ≤ c1) ∧ w.heap.size ≤ b2 ∧ w.heap.size ≤ c2
  bel : Below w.heap.size w W
theorem MS.one {w W W' : World} {bp bq b1 c1 b2 c2 : Nat} {f1 f2 f' : Ring} {n1 n2 n' : Int} (h : MS w W bp bq b1 c1 b2 c2 f1 n1 f2 n2) (k : But (BC b1 c1) W W') (t : Two W' b1 c1 f' n') : MS w W' bp bq b1 c1 b2 c2 f' n' f2 n2 := by
  obtain ⟨a1, a2, _, _, a5, a6, _, _⟩ := h.ap
  exact ⟨t, h.t2.but k a1 a2, (k.cell (p := ⟨bp, 0, none⟩) (World.block_lt_of_cell? W _ h.p0) a5).trans h.p0, (k.cell (p := ⟨bp, 1, none⟩) (World.block_lt_of_cell? W _ h.p1) a5).trans h.p1, (k.cell (p := ⟨bq, 0, none⟩) (World.block_lt_of_cell? W _ h.q0) a6).trans h.q0, (k.cell (p := ⟨bq, 1, none⟩) (World.block_lt_of_cell? W _ h.q1) a6).trans h.q1, h.ap, h.ge, h.bel.trans (k.below (fun i hi => by rcases hi with rfl | rfl; exact h.ge.1.1; exact h.ge.1.2) h.bel.size)⟩
theorem MS.two {w W W' : World} {bp bq b1 c1 b2 c2 : Nat} {f1 f2 f' : Ring} {n1 n2 n' : Int} (h : MS w W bp bq b1 c1 b2 c2 f1 n1 f2 n2) (k : But (BC b2 c2) W W') (t : Two W' b2 c2 f' n') : MS w W' bp bq b1 c1 b2 c2 f1 n1 f' n' := by
  obtain ⟨_, _, a3, a4, _, _, a7, a8⟩ := h.ap
  exact ⟨h.t1.but k a3 a4, t, (k.cell (p := ⟨bp, 0, none⟩) (World.block_lt_of_cell? W _ h.p0) a7).trans h.p0, (k.cell (p := ⟨bp, 1, none⟩) (World.block_lt_of_cell? W _ h.p1) a7).trans h.p1, (k.cell (p := ⟨bq, 0, none⟩) (World.block_lt_of_cell? W _ h.q0) a8).trans h.q0, (k.cell (p := ⟨bq, 1, none⟩) (World.block_lt_of_cell? W _ h.q1) a8).trans h.q1, h.ap, h.ge, h.bel.trans (k.below (fun i hi => by rcases hi with rfl | rfl; exact h.ge.2.1; exact h.ge.2.2) h.bel.size)⟩
theorem MS.past {w W W' : World} {bp bq b1 c1 b2 c2 : Nat} {f1 f2 : Ring} {n1 n2 : Int} (h : MS w W bp bq b1 c1 b2 c2 f1 n1 f2 n2) (k : Below W.heap.size W W') : MS w W' bp bq b1 c1 b2 c2 f1 n1 f2 n2 := h.one (below_but k) (h.t1.past k)
theorem OpAt.below {W W' : World} {B g a : Nat} {o : OpR} (h : OpAt W g a o) (k : Below B W W') (hg : g < B) : OpAt W' g a o := fun j v hv => (k.cell (p := ⟨g, a + j, none⟩) hg).trans (h j v hv)
theorem OpAt.lt {W : World} {g a : Nat} {o : OpR} (h : OpAt W g a o) : g < W.heap.size := World.block_lt_of_cell? W _ (h 0 _ rfl)
theorem OpAt.but {S : Nat → Prop} {W W' : World} {g a : Nat} {o : OpR} (h : OpAt W g a o) (k : But S W W') (hg : ¬ S g) : OpAt W' g a o := fun j v hv => (k.cell (p := ⟨g, a + j, none⟩) h.lt hg).trans (h j v hv)
/-- the box of a side -/
def SdB (W : World) (bs b c : Nat) : Prop := W.cell? ⟨bs, 0, none⟩ = some (.pointer (some ⟨b, 0, none⟩)) ∧ W.cell? ⟨bs, 1, none⟩ = some (.pointer (some ⟨c, 0, none⟩))
theorem SdB.new (w : World) (b c : Nat) : SdB (w.alloc (sideO b c)) w.heap.size b c := by constructor <;> (unfold sideO; rw [World.cell?_alloc_at _ _ _ _ rfl]; rfl)
theorem SdB.but {S : Nat → Prop} {W W' : World} {bs b c : Nat} (h : SdB W bs b c) (k : But S W W') (hs : ¬ S bs) : SdB W' bs b c := ⟨(k.cell (p := ⟨bs, 0, none⟩) (World.block_lt_of_cell? W _ h.1) hs).trans h.1, (k.cell (p := ⟨bs, 1, none⟩) (World.block_lt_of_cell? W _ h.2) hs).trans h.2⟩
def opR (o : OpR) : Value := opV o.kd o.tw o.N o.M o.P o.X o.Y o.B
set_option maxHeartbeats 4000000 in
set_option maxRecDepth 100000 in
theorem machStacks_walk (w : World) (v : Value) (n : Nat) (o : Nat → OpR) (hv : OpsAt w v n o) (hn : n ≤ 1099511627776) : Calls Try.prog 3 #[v] w fun e w' => e = .returned (.bool true) ∧ Below w.heap.size w w' := by
  obtain ⟨ad, cap, rfl, hv⟩ := hv
  have HV : Hid _ := hv
  have nI : (n : Int) ≤ 1099511627776 := by omega
  clear hv
  go_enter Try.func3, Try.ntmps3
  go_upto_region 2 with (go_at_call 9; refine (pair_is _).mono ?_; rintro e v1 ⟨_, rfl, b1, c1, rfl, hT, hb, hc, hB⟩; (have T1 : Hid (Two v1 b1 c1 ring0 0 ∧ w.heap.size ≤ b1 ∧ w.heap.size ≤ c1 ∧ Below w.heap.size w v1) := ⟨hT, hb, hc, hB⟩); clear hT hb hc hB; unfold sideV)
  change Code.wp _ _ _ _ (v1.alloc (sideO b1 c1))
  have T2 : Hid (Two (v1.alloc (sideO b1 c1)) b1 c1 ring0 0 ∧ SdB (v1.alloc (sideO b1 c1)) v1.heap.size b1 c1 ∧ (w.heap.size ≤ b1 ∧ w.heap.size ≤ c1) ∧ ¬ BC b1 c1 v1.heap.size ∧ Below w.heap.size w (v1.alloc (sideO b1 c1)) ∧ v1.heap.size < (v1.alloc (sideO b1 c1)).heap.size) := by
    have l1 := T1.out.1.s.lt
    have l2 := T1.out.1.r.lt
    exact ⟨T1.out.1.past ((Below.refl _ _).alloc (Nat.le_refl _) _), SdB.new _ _ _, ⟨T1.out.2.1, T1.out.2.2.1⟩, (fun e => by rcases e with e | e <;> omega), T1.out.2.2.2.alloc T1.out.2.2.2.size _, by simp⟩
  clear T1
  generalize v1.alloc (sideO b1 c1) = v2 at T2 ⊢
  generalize v1.heap.size = bp at T2 ⊢
  go_upto_region 3 with (go_at_call 9; refine (pair_is _).mono ?_; rintro e v3 ⟨_, rfl, b2, c2, rfl, hT, hb, hc, hB⟩; (have T3 : Hid (Two v3 b2 c2 ring0 0 ∧ v2.heap.size ≤ b2 ∧ v2.heap.size ≤ c2 ∧ Below v2.heap.size v2 v3) := ⟨hT, hb, hc, hB⟩); clear hT hb hc hB; unfold sideV)
  change Code.wp _ _ _ _ (v3.alloc (sideO b2 c2))
  have M0 : Hid (MS w (v3.alloc (sideO b2 c2)) bp v3.heap.size b1 c1 b2 c2 ring0 0 ring0 0) := by
    obtain ⟨h1, h2, h3, h4, h5, h6⟩ := T2.out
    obtain ⟨g1, g2, g3, g4⟩ := T3.out
    have l1 := h1.s.lt
    have l2 := h1.r.lt
    have l3 := g1.s.lt
    have l4 := g1.r.lt
    have ls := g4.size
    have ba : Below v3.heap.size v3 (v3.alloc (sideO b2 c2)) := (Below.refl _ _).alloc (Nat.le_refl _) _
    have bb : Below v2.heap.size v2 (v3.alloc (sideO b2 c2)) := g4.trans (ba.mono ls)
    have h7 := SdB.but (S := fun _ => False) h2 (below_but bb) id
    have h8 := SdB.new v3 b2 c2
    refine ⟨h1.past bb, g1.past ba, h7.1, h7.2, h8.1, h8.2, ?_, ⟨h3, ?_, ?_⟩, h5.trans (bb.mono h5.size)⟩
    · unfold BC
      refine ⟨?_, ?_, ?_, ?_, h4, ?_, ?_, ?_⟩ <;> omega
    · have := h5.size; omega
    · have := h5.size; omega
  clear T2 T3
  generalize v3.alloc (sideO b2 c2) = v4 at M0 ⊢
  generalize v3.heap.size = bq at M0 ⊢
  have p0 := M0.out.p0
  have q0 := M0.out.q0
  go_upto_region 5 with fail
  clear p0 q0
  go_wp2
  go_loopw [5] (fun si wr => ∃ (k : Nat) (f1 : Ring) (n1 : Int) (f2 : Ring) (n2 : Int), k ≤ n ∧ si = .int .i64 (k : Int) ∧ MS w wr bp bq b1 c1 b2 c2 f1 n1 f2 n2 ∧ (-2100 * (k : Int) ≤ n1 ∧ n1 ≤ 2100 * (k : Int)) ∧ -2100 * (k : Int) ≤ n2 ∧ n2 ≤ 2100 * (k : Int)) (fun si _ => n - (intOf si).toNat)
  case atStart => exact ⟨0, ring0, 0, ring0, 0, by omega, rfl, M0.out, ⟨by simp, by simp⟩, by simp, by simp⟩
  case round =>
    obtain ⟨k, f1, n1, f2, n2, hk, rfl, hM, hb1, hb2⟩ := hrel
    have M1 : Hid (MS w wr bp bq b1 c1 b2 c2 f1 n1 f2 n2) := hM
    have HB1 : Hid (-2100 * (k : Int) ≤ n1 ∧ n1 ≤ 2100 * (k : Int)) := hb1
    have HB2 : Hid (-2100 * (k : Int) ≤ n2 ∧ n2 ≤ 2100 * (k : Int)) := hb2
    clear hM hb1 hb2 M0
    have p0 := M1.out.p0
    have p1 := M1.out.p1
    have q0 := M1.out.q0
    have q1 := M1.out.q1
    by_cases hkn : k < n
    · have kI : (k : Int) < (n : Int) := by omega
      obtain ⟨g, a, rfl, hO⟩ := HV.out (by omega)
      have hO2 := hO k hkn
      have hgl : g < w.heap.size := hO2.lt
      have hO1 : OpAt wr g (a + k * 14) (o k) := hO2.below M1.out.bel hgl
      have HO : Hid (∀ W, Below w.heap.size w W → OpAt W g (a + k * 14) (o k)) := fun W hW => hO2.below hW hgl
      generalize o k = op at *
      have tw1 : wr.cell? ⟨g, a + k * 14 + 1, none⟩ = some (.bool op.tw) := hO1 1 _ rfl
      have hgw : g < wr.heap.size := hO1.lt
      have hbp : bp < wr.heap.size := World.block_lt_of_cell? wr _ p0
      have hbq : bq < wr.heap.size := World.block_lt_of_cell? wr _ q0
      clear hO hO1 hO2
      have hbd : (-4611686018427387904 ≤ n1 ∧ n1 ≤ 4611686018427387904) ∧ -4611686018427387904 ≤ n2 ∧ n2 ≤ 4611686018427387904 := by
        have := HB1.out; have := HB2.out; omega
      have NB : Hid ((-4611686018427387904 ≤ n1 ∧ n1 ≤ 4611686018427387904) ∧ -4611686018427387904 ≤ n2 ∧ n2 ≤ 4611686018427387904) := hbd
      clear hbd
      by_cases htw : op.tw = true
      · rw [htw] at tw1
        go_upto_region 11 with fail
        change Code.wp _ _ _ _ (wr.alloc (sideO b2 c2))
        have M2 : Hid (MS w (wr.alloc (sideO b2 c2)).drew bp bq b1 c1 b2 c2 f1 n1 f2 n2) := (M1.out.past ((Below.refl _ _).alloc (Nat.le_refl _) _)).past ((Below.refl _ _).drew)
        have SB : Hid (SdB (wr.alloc (sideO b2 c2)).drew wr.heap.size b2 c2 ∧ ¬ BC b2 c2 wr.heap.size) := ⟨(SdB.new wr b2 c2).but (below_but (S := fun _ => False) ((Below.refl _ _).drew)) id, fun e => by
          have l1 := M1.out.t2.s.lt
          have l2 := M1.out.t2.r.lt
          rcases e with e | e <;> omega⟩
        clear M1 p0 p1 q0 q1 tw1 hgw hbp hbq
        generalize wr.heap.size = bs at SB ⊢
        have ST : Hid (∀ W, Two W b2 c2 f2 n2 → Calls Try.prog 10 #[sideV b2 c2, opR op] W fun e w' => e = .returned (.bool true) ∧ Stepped W w' b2 c2 op.kd n2 op.N) := fun W hW => stacked_any W b2 c2 f2 n2 hW NB.out.2.2 NB.out.2.1 op.kd op.tw op.N op.M op.P op.X op.Y op.B
        refine wp_region_held_drew (S := fun V' => SdB V' bs b2 c2 ∧ OpAt V' g (a + k * 14) op) (by kernel_rfl) ⟨SB.out.1, HO.out _ M2.out.bel⟩ (fun hHeld => ?_)
        generalize (wr.alloc (sideO b2 c2)).drew = z0 at hHeld M2 SB ⊢
        refine wpAnyH_take (i := 0) (v := sideV b2 c2) ov0 (by kernel_rfl) (by kernel_rfl) (by kernel_rfl) (fun _ _ _ h => h) (Or.inl ⟨by rfl, fun V' hS => ?_⟩) hHeld ?_
        · have e0 := hS.1.1
          have e1 := hS.1.2
          unfold sideV
          go_simp
        simp only [Act.put, List.setIfInBounds_toArray, List.set_cons_zero, List.set_cons_succ]
        refine wpAnyH_take (i := 1) (v := .slice (some ⟨g, a, none⟩) n cap) ov1 (by kernel_rfl) (by kernel_rfl) (by kernel_rfl) (fun _ _ _ h => h) (Or.inl ⟨by rfl, fun V' hS => ?_⟩) hHeld ?_
        · go_simp
        simp only [Act.put, List.setIfInBounds_toArray, List.set_cons_zero, List.set_cons_succ]
        refine wpAnyH_take (i := 2) (v := .int .i64 (k : Int)) ov2 (by kernel_rfl) (by kernel_rfl) (by kernel_rfl) (fun _ _ _ h => h) (Or.inl ⟨by rfl, fun V' hS => ?_⟩) hHeld ?_
        · go_simp
        simp only [Act.put, List.setIfInBounds_toArray, List.set_cons_zero, List.set_cons_succ]
        refine wpAnyH_take (i := 3) (v := .pointer (some ⟨g, a + k * 14, none⟩)) ov3 (by kernel_rfl) (by kernel_rfl) (by kernel_rfl) (fun _ _ _ h => h) (Or.inl ⟨by rfl, fun V' hS => ?_⟩) hHeld ?_
        · go_simp
        simp only [Act.put, List.setIfInBounds_toArray, List.set_cons_zero, List.set_cons_succ]
        refine wpAnyH_take (i := 4) (v := opR op) ov4 (by kernel_rfl) (by kernel_rfl) (by kernel_rfl) (fun _ _ _ h => h) (Or.inl ⟨by rfl, fun V' hS => ?_⟩) hHeld ?_
        · have e0 : V'.cell? ⟨g, a + k * 14, none⟩ = some (.int .i64 op.kd) := hS.2 0 _ rfl
          have e1 : V'.cell? ⟨g, a + k * 14 + 1, none⟩ = some (.bool op.tw) := hS.2 1 _ rfl
          have e2 : V'.cell? ⟨g, a + k * 14 + 2, none⟩ = some (.int .i64 op.N) := hS.2 2 _ rfl
          have e3 : V'.cell? ⟨g, a + k * 14 + 3, none⟩ = some (.int .i64 op.M) := hS.2 3 _ rfl
          have e4 : V'.cell? ⟨g, a + k * 14 + 4, none⟩ = some (.int .i64 op.P) := hS.2 4 _ rfl
          have e5 : V'.cell? ⟨g, a + k * 14 + 5, none⟩ = some (.int .u64 op.X.a) := hS.2 5 _ rfl
          have e6 : V'.cell? ⟨g, a + k * 14 + 6, none⟩ = some (.int .u64 op.X.b) := hS.2 6 _ rfl
          have e7 : V'.cell? ⟨g, a + k * 14 + 7, none⟩ = some (.int .u64 op.X.c) := hS.2 7 _ rfl
          have e8 : V'.cell? ⟨g, a + k * 14 + 8, none⟩ = some (.int .u64 op.X.d) := hS.2 8 _ rfl
          have e9 : V'.cell? ⟨g, a + k * 14 + 9, none⟩ = some (.int .u64 op.Y.a) := hS.2 9 _ rfl
          have e10 : V'.cell? ⟨g, a + k * 14 + 10, none⟩ = some (.int .u64 op.Y.b) := hS.2 10 _ rfl
          have e11 : V'.cell? ⟨g, a + k * 14 + 11, none⟩ = some (.int .u64 op.Y.c) := hS.2 11 _ rfl
          have e12 : V'.cell? ⟨g, a + k * 14 + 12, none⟩ = some (.int .u64 op.Y.d) := hS.2 12 _ rfl
          have e13 : V'.cell? ⟨g, a + k * 14 + 13, none⟩ = some (op.B) := hS.2 13 _ rfl
          unfold opR opV
          go_simp
        simp only [Act.put, List.setIfInBounds_toArray, List.set_cons_zero, List.set_cons_succ]
        refine wpAnyH_ready (rs := [5]) (by kernel_rfl) (by simp) ?_
        refine AllReadyH.cons ov5 (fun K hK => ?_) AllReadyH.nil
        rw [if_pos (by rfl)]
        go_simp
        refine (ST.out z0 M2.out.t2).mono ?_
        rintro e v5 ⟨rfl, ⟨f', n', h1, h2, h3, h4⟩, h5⟩
        have M3 : Hid (MS w v5 bp bq b1 c1 b2 c2 f1 n1 f' n') := M2.out.two h5 h1
        have SB2 : Hid (SdB v5 bs b2 c2) := SB.out.1.but h5 SB.out.2
        have HN : Hid (n2 - 2100 ≤ n' ∧ n' ≤ n2 + 2100) := ⟨h3, h4⟩
        clear h1 h2 h3 h4 h5
        (try go_wp2_with fail)
        refine hK.out _ _ ⟨SB2.out, HO.out _ M3.out.bel⟩ (fun _ => ?_)
        clear hK K
        (try simp only [Act.put, List.setIfInBounds_toArray, List.set_cons_zero, List.set_cons_succ])
        refine wpAnyH_take (i := 6) (v := .bool false) ov6 (by kernel_rfl) (by kernel_rfl) (by kernel_rfl) (fun _ _ _ h => h) (Or.inl ⟨by rfl, fun V' hS => ?_⟩) ⟨SB2.out, HO.out _ M3.out.bel⟩ ?_
        · go_simp
        simp only [Act.put, List.setIfInBounds_toArray, List.set_cons_zero, List.set_cons_succ]
        refine wpAnyH_done (by kernel_rfl) ?_ _
        go_wp2
        go_roundw
        case rel => exact ⟨k + 1, f1, n1, f', n', by omega, by simp, M3.out, by have := HB1.out; have := HN.out; omega, by have := HB2.out; have := HN.out; omega⟩
        case measure => simp [intOf]; omega
      · replace htw : op.tw = false := by simpa using htw
        rw [htw] at tw1
        go_upto_region 11 with fail
        change Code.wp _ _ _ _ (wr.alloc (sideO b1 c1))
        have M2 : Hid (MS w (wr.alloc (sideO b1 c1)).drew bp bq b1 c1 b2 c2 f1 n1 f2 n2) := (M1.out.past ((Below.refl _ _).alloc (Nat.le_refl _) _)).past ((Below.refl _ _).drew)
        have SB : Hid (SdB (wr.alloc (sideO b1 c1)).drew wr.heap.size b1 c1 ∧ ¬ BC b1 c1 wr.heap.size) := ⟨(SdB.new wr b1 c1).but (below_but (S := fun _ => False) ((Below.refl _ _).drew)) id, fun e => by
          have l1 := M1.out.t1.s.lt
          have l2 := M1.out.t1.r.lt
          rcases e with e | e <;> omega⟩
        clear M1 p0 p1 q0 q1 tw1 hgw hbp hbq
        generalize wr.heap.size = bs at SB ⊢
        have ST : Hid (∀ W, Two W b1 c1 f1 n1 → Calls Try.prog 10 #[sideV b1 c1, opR op] W fun e w' => e = .returned (.bool true) ∧ Stepped W w' b1 c1 op.kd n1 op.N) := fun W hW => stacked_any W b1 c1 f1 n1 hW NB.out.1.2 NB.out.1.1 op.kd op.tw op.N op.M op.P op.X op.Y op.B
        refine wp_region_held_drew (S := fun V' => SdB V' bs b1 c1 ∧ OpAt V' g (a + k * 14) op) (by kernel_rfl) ⟨SB.out.1, HO.out _ M2.out.bel⟩ (fun hHeld => ?_)
        generalize (wr.alloc (sideO b1 c1)).drew = z0 at hHeld M2 SB ⊢
        refine wpAnyH_take (i := 0) (v := sideV b1 c1) ov0 (by kernel_rfl) (by kernel_rfl) (by kernel_rfl) (fun _ _ _ h => h) (Or.inl ⟨by rfl, fun V' hS => ?_⟩) hHeld ?_
        · have e0 := hS.1.1
          have e1 := hS.1.2
          unfold sideV
          go_simp
        simp only [Act.put, List.setIfInBounds_toArray, List.set_cons_zero, List.set_cons_succ]
        refine wpAnyH_take (i := 1) (v := .slice (some ⟨g, a, none⟩) n cap) ov1 (by kernel_rfl) (by kernel_rfl) (by kernel_rfl) (fun _ _ _ h => h) (Or.inl ⟨by rfl, fun V' hS => ?_⟩) hHeld ?_
        · go_simp
        simp only [Act.put, List.setIfInBounds_toArray, List.set_cons_zero, List.set_cons_succ]
        refine wpAnyH_take (i := 2) (v := .int .i64 (k : Int)) ov2 (by kernel_rfl) (by kernel_rfl) (by kernel_rfl) (fun _ _ _ h => h) (Or.inl ⟨by rfl, fun V' hS => ?_⟩) hHeld ?_
        · go_simp
        simp only [Act.put, List.setIfInBounds_toArray, List.set_cons_zero, List.set_cons_succ]
        refine wpAnyH_take (i := 3) (v := .pointer (some ⟨g, a + k * 14, none⟩)) ov3 (by kernel_rfl) (by kernel_rfl) (by kernel_rfl) (fun _ _ _ h => h) (Or.inl ⟨by rfl, fun V' hS => ?_⟩) hHeld ?_
        · go_simp
        simp only [Act.put, List.setIfInBounds_toArray, List.set_cons_zero, List.set_cons_succ]
        refine wpAnyH_take (i := 4) (v := opR op) ov4 (by kernel_rfl) (by kernel_rfl) (by kernel_rfl) (fun _ _ _ h => h) (Or.inl ⟨by rfl, fun V' hS => ?_⟩) hHeld ?_
        · have e0 : V'.cell? ⟨g, a + k * 14, none⟩ = some (.int .i64 op.kd) := hS.2 0 _ rfl
          have e1 : V'.cell? ⟨g, a + k * 14 + 1, none⟩ = some (.bool op.tw) := hS.2 1 _ rfl
          have e2 : V'.cell? ⟨g, a + k * 14 + 2, none⟩ = some (.int .i64 op.N) := hS.2 2 _ rfl
          have e3 : V'.cell? ⟨g, a + k * 14 + 3, none⟩ = some (.int .i64 op.M) := hS.2 3 _ rfl
          have e4 : V'.cell? ⟨g, a + k * 14 + 4, none⟩ = some (.int .i64 op.P) := hS.2 4 _ rfl
          have e5 : V'.cell? ⟨g, a + k * 14 + 5, none⟩ = some (.int .u64 op.X.a) := hS.2 5 _ rfl
          have e6 : V'.cell? ⟨g, a + k * 14 + 6, none⟩ = some (.int .u64 op.X.b) := hS.2 6 _ rfl
          have e7 : V'.cell? ⟨g, a + k * 14 + 7, none⟩ = some (.int .u64 op.X.c) := hS.2 7 _ rfl
          have e8 : V'.cell? ⟨g, a + k * 14 + 8, none⟩ = some (.int .u64 op.X.d) := hS.2 8 _ rfl
          have e9 : V'.cell? ⟨g, a + k * 14 + 9, none⟩ = some (.int .u64 op.Y.a) := hS.2 9 _ rfl
          have e10 : V'.cell? ⟨g, a + k * 14 + 10, none⟩ = some (.int .u64 op.Y.b) := hS.2 10 _ rfl
          have e11 : V'.cell? ⟨g, a + k * 14 + 11, none⟩ = some (.int .u64 op.Y.c) := hS.2 11 _ rfl
          have e12 : V'.cell? ⟨g, a + k * 14 + 12, none⟩ = some (.int .u64 op.Y.d) := hS.2 12 _ rfl
          have e13 : V'.cell? ⟨g, a + k * 14 + 13, none⟩ = some (op.B) := hS.2 13 _ rfl
          unfold opR opV
          go_simp
        simp only [Act.put, List.setIfInBounds_toArray, List.set_cons_zero, List.set_cons_succ]
        refine wpAnyH_ready (rs := [5]) (by kernel_rfl) (by simp) ?_
        refine AllReadyH.cons ov5 (fun K hK => ?_) AllReadyH.nil
        rw [if_pos (by rfl)]
        go_simp
        refine (ST.out z0 M2.out.t1).mono ?_
        rintro e v5 ⟨rfl, ⟨f', n', h1, h2, h3, h4⟩, h5⟩
        have M3 : Hid (MS w v5 bp bq b1 c1 b2 c2 f' n' f2 n2) := M2.out.one h5 h1
        have SB2 : Hid (SdB v5 bs b1 c1) := SB.out.1.but h5 SB.out.2
        have HN : Hid (n1 - 2100 ≤ n' ∧ n' ≤ n1 + 2100) := ⟨h3, h4⟩
        clear h1 h2 h3 h4 h5
        (try go_wp2_with fail)
        refine hK.out _ _ ⟨SB2.out, HO.out _ M3.out.bel⟩ (fun _ => ?_)
        clear hK K
        (try simp only [Act.put, List.setIfInBounds_toArray, List.set_cons_zero, List.set_cons_succ])
        refine wpAnyH_take (i := 6) (v := .bool false) ov6 (by kernel_rfl) (by kernel_rfl) (by kernel_rfl) (fun _ _ _ h => h) (Or.inl ⟨by rfl, fun V' hS => ?_⟩) ⟨SB2.out, HO.out _ M3.out.bel⟩ ?_
        · go_simp
        simp only [Act.put, List.setIfInBounds_toArray, List.set_cons_zero, List.set_cons_succ]
        refine wpAnyH_done (by kernel_rfl) ?_ _
        go_wp2
        go_roundw
        case rel => exact ⟨k + 1, f', n', f2, n2, by omega, by simp, M3.out, by have := HB1.out; have := HN.out; omega, by have := HB2.out; have := HN.out; omega⟩
        case measure => simp [intOf]; omega
    · obtain rfl : k = n := by omega
      have hbd : (-4611686018427387904 ≤ n1 ∧ n1 ≤ 4611686018427387904) ∧ -4611686018427387904 ≤ n2 ∧ n2 ≤ 4611686018427387904 := by
        have := HB1.out; have := HB2.out; omega
      have C1 : Hid (Calls Try.prog 11 #[sideV b1 c1, opV 12 false 0 0 0 w0 w0 (.slice none 0 0)] wr fun e w' => e = .returned (.bool true) ∧ Two w' b1 c1 f1 n1 ∧ But (BC b1 c1) wr w') := looked12 wr b1 c1 f1 n1 M1.out.t1 hbd.1.2 hbd.1.1 _ _ _ _ _ _ _
      have C2 : Hid (∀ W, Two W b2 c2 f2 n2 → Calls Try.prog 11 #[sideV b2 c2, opV 12 false 0 0 0 w0 w0 (.slice none 0 0)] W fun e w' => e = .returned (.bool true) ∧ Two w' b2 c2 f2 n2 ∧ But (BC b2 c2) W w') := fun W hW => looked12 W b2 c2 f2 n2 hW hbd.2.2 hbd.2.1 _ _ _ _ _ _ _
      clear hbd
      go_wp2_with (first | (go_at_call 11; refine (C1.out).mono ?_; rintro e v5 ⟨rfl, h1, h2⟩; (have M2 : Hid (MS w v5 bp bq b1 c1 b2 c2 f1 n1 f2 n2) := M1.out.one h2 h1); clear h1 h2 C1 p0 p1 q0 q1; (have q0 := M2.out.q0); (have q1 := M2.out.q1)) | (go_at_call 11; refine (C2.out _ M2.out.t2).mono ?_; rintro e v6 ⟨rfl, h1, h2⟩; (have M3 : Hid (MS w v6 bp bq b1 c1 b2 c2 f1 n1 f2 n2) := M2.out.two h2 h1); clear h1 h2 C2 q0 q1) | (go_at_call 12; refine (awake_is _).mono ?_; rintro e v7 ⟨rfl, h1⟩; (have M4 : Hid (Below w.heap.size w v7) := M3.out.bel.trans (h1.mono M3.out.bel.size)); clear h1))
      go_ret
      exact ⟨rfl, M4.out⟩
end Go.Proofs.Ytdddmebihkdkjaa
