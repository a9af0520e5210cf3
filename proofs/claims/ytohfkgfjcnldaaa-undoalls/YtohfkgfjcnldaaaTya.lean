/- UndoPlays. -/
import Derived.Test.YtohfkgfjcnldaaaTzn
import Derived.Test.YtohfkgfjcnldaaaTfo
namespace Go.Proofs.Ytohfkgfjcnldaaa
open Go.RowKit Go.Shelf
/-- two sides and their boxes -/
structure LP (w W : World) (pb qb b1 c1 b2 c2 N : Nat) : Prop where
  ex : ∃ ow A1 H1 A2 H2, SD W ow 1 b1 c1 N A1 H1 ∧ SD W ow 2 b2 c2 N A2 H2 ∧ ow pb = 0 ∧ ow qb = 0 ∧ ∀ x, x < w.heap.size → ow x = 0
  pB : CBox W pb 27 [.pointer (some ⟨b1, 0, none⟩), .pointer (some ⟨c1, 0, none⟩)]
  qB : CBox W qb 27 [.pointer (some ⟨b2, 0, none⟩), .pointer (some ⟨c2, 0, none⟩)]
  bel : Below w.heap.size w W
theorem LP.past {w W W' : World} {pb qb b1 c1 b2 c2 N : Nat} (h : LP w W pb qb b1 c1 b2 c2 N) (hB : Below W.heap.size W W') : LP w W' pb qb b1 c1 b2 c2 N := by
  obtain ⟨⟨ow, A1, H1, A2, H2, h1, h2, h3, h4, h5⟩, h6, h7, h8⟩ := h
  exact ⟨⟨grow ow W.heap.size 0, A1, H1, A2, H2, h1.past hB, h2.past hB, (grow_lt h6.lt).trans h3, (grow_lt h7.lt).trans h4, fun x hx => (grow_lt (Nat.lt_of_lt_of_le hx h8.size)).trans (h5 x hx)⟩, h6.but (below_but (S := fun _ => False) hB) id, h7.but (below_but (S := fun _ => False) hB) id, h8.trans (hB.mono h8.size)⟩
theorem LP.one {w W : World} {pb qb b1 c1 b2 c2 N : Nat} (h : LP w W pb qb b1 c1 b2 c2 N) (hN : N + 2 < 274877906944) (kd : Int) (two : Bool) (k v : Int) (hk : I64 k) : Calls Try.prog 15 #[.agg #[.pointer (some ⟨b1, 0, none⟩), .pointer (some ⟨c1, 0, none⟩)], .agg #[.int .i64 kd, .bool two, .int .i64 k, .int .i64 v]] W fun e w' => e = .returned (.bool true) ∧ LP w w' pb qb b1 c1 b2 c2 (N + 2) := by
  obtain ⟨⟨ow, A1, H1, A2, H2, h1, h2, h3, h4, h5⟩, h6, h7, h8⟩ := h
  refine (step_is W ow 1 b1 c1 N A1 H1 h1 (by omega) hN kd two k v hk).mono ?_
  rintro e w' ⟨rfl, o9, q1, q2⟩
  have n0 : ¬ Ps 1 0 := by unfold Ps; omega
  obtain ⟨s1, s2⟩ := q2.box h6 (by rw [h3]; exact n0)
  obtain ⟨s3, s4⟩ := q2.box h7 (by rw [h4]; exact n0)
  obtain ⟨l1, l2⟩ := q2.low h5 n0 h8.size
  exact ⟨rfl, ⟨⟨o9, _, _, A2, H2, q1, (h2.mo q2 (by unfold Ps; omega) (by unfold Ps; omega)).mono (by omega), s2.trans h3, s4.trans h4, l2⟩, s1, s3, h8.trans l1⟩⟩
theorem LP.two {w W : World} {pb qb b1 c1 b2 c2 N : Nat} (h : LP w W pb qb b1 c1 b2 c2 N) (hN : N + 2 < 274877906944) (kd : Int) (two : Bool) (k v : Int) (hk : I64 k) : Calls Try.prog 15 #[.agg #[.pointer (some ⟨b2, 0, none⟩), .pointer (some ⟨c2, 0, none⟩)], .agg #[.int .i64 kd, .bool two, .int .i64 k, .int .i64 v]] W fun e w' => e = .returned (.bool true) ∧ LP w w' pb qb b1 c1 b2 c2 (N + 2) := by
  obtain ⟨⟨ow, A1, H1, A2, H2, h1, h2, h3, h4, h5⟩, h6, h7, h8⟩ := h
  refine (step_is W ow 2 b2 c2 N A2 H2 h2 (by omega) hN kd two k v hk).mono ?_
  rintro e w' ⟨rfl, o9, q1, q2⟩
  have n0 : ¬ Ps 2 0 := by unfold Ps; omega
  obtain ⟨s1, s2⟩ := q2.box h6 (by rw [h3]; exact n0)
  obtain ⟨s3, s4⟩ := q2.box h7 (by rw [h4]; exact n0)
  obtain ⟨l1, l2⟩ := q2.low h5 n0 h8.size
  exact ⟨rfl, ⟨⟨o9, A1, H1, _, _, (h1.mo q2 (by unfold Ps; omega) (by unfold Ps; omega)).mono (by omega), q1, s2.trans h3, s4.trans h4, l2⟩, s1, s3, h8.trans l1⟩⟩
theorem LP.mk2 {w w1 W : World} {o1 o2 : Nat → Nat} {pb b1 c1 b2 c2 : Nat} (h1 : SD w1 o1 1 b1 c1 0 [] []) (hp : CBox w1 pb 27 [.pointer (some ⟨b1, 0, none⟩), .pointer (some ⟨c1, 0, none⟩)]) (h0 : o1 pb = 0) (hx : ∀ x, x < w.heap.size → o1 x = 0) (hb : Below w.heap.size w w1) (h2 : SD W o2 2 b2 c2 0 [] []) (hB : Below w1.heap.size w1 W) (he : ∀ x, x < w1.heap.size → o2 x = o1 x) :
    LP w (W.alloc (.cells #[.pointer (some ⟨b2, 0, none⟩), .pointer (some ⟨c2, 0, none⟩)] 27)) pb W.heap.size b1 c1 b2 c2 0 := by
  have m : Mo (fun _ => False) o1 o2 w1 W := ⟨below_but hB, he⟩
  have hB2 : Below W.heap.size W (W.alloc (.cells #[.pointer (some ⟨b2, 0, none⟩), .pointer (some ⟨c2, 0, none⟩)] 27)) := (Below.refl _ _).alloc (Nat.le_refl _) _
  have l1 := hB.size
  have l0 := hb.size
  have lp := hp.lt
  refine ⟨⟨grow o2 W.heap.size 0, [], [], [], [], (h1.mo m id id).past hB2, h2.past hB2, ?_, grow_ge (Nat.le_refl _), fun x hx' => ?_⟩, (m.box hp id).1.but (below_but (S := fun _ => False) hB2) id, CBox.new W _ [_, _], (hb.trans (hB.mono l0)).alloc (by omega) _⟩
  · rw [grow_lt (by omega), he _ lp]; exact h0
  · rw [grow_lt (by omega), he _ (by omega)]; exact hx x hx'
set_option maxHeartbeats 4000000 in
set_option maxRecDepth 100000 in
theorem undoPlays_walk (w : World) (v : Value) (n : Nat) (x : Nat → OpR) (hv : OpsAt w v n x) (hn : n ≤ 4398046511104) : Calls Try.prog 3 #[v] w fun e w' => e = .returned (.bool true) ∧ Below w.heap.size w w' := by
  obtain ⟨ad, cap, rfl, hx⟩ := hv
  have HX : Hid (0 < n → ∃ g a, ad = some ⟨g, a, none⟩ ∧ ∀ i, i < n → OpAt w g (a + i * 4) (x i) ∧ OpOk (x i)) := hx
  clear hx
  have nX : (n : Int) ≤ 4398046511104 := by omega
  by_cases hbig : (1048576 : Int) < (n : Int)
  · go_enter Try.func3, Try.ntmps3
    go_wp2
    go_ret
    exact ⟨rfl, Below.refl _ _⟩
  go_enter Try.func3, Try.ntmps3
  go_upto_region 5 with (go_at_call 13; refine (awake_is _).mono ?_; rintro e v0 ⟨rfl, hB⟩; (have B0 : Hid (Below w.heap.size w v0) := hB); clear hB)
  go_upto_region 6 with (go_at_call 14; refine (made_is v0 (fun _ => 0) 1 0 (by omega)).mono ?_; rintro e v1 ⟨b1, c1, o1, rfl, h1, hB, hE⟩; (have T1 : Hid (SD v1 o1 1 b1 c1 0 [] [] ∧ Below v0.heap.size v0 v1 ∧ ∀ x, x < v0.heap.size → o1 x = 0) := ⟨h1, hB, hE⟩); clear h1 hB hE)
  have T2 : Hid (SD (v1.alloc (.cells #[.pointer (some ⟨b1, 0, none⟩), .pointer (some ⟨c1, 0, none⟩)] 27)) (grow o1 v1.heap.size 0) 1 b1 c1 0 [] [] ∧ CBox (v1.alloc (.cells #[.pointer (some ⟨b1, 0, none⟩), .pointer (some ⟨c1, 0, none⟩)] 27)) v1.heap.size 27 [.pointer (some ⟨b1, 0, none⟩), .pointer (some ⟨c1, 0, none⟩)] ∧ (grow o1 v1.heap.size 0) v1.heap.size = 0 ∧ (∀ x, x < w.heap.size → grow o1 v1.heap.size 0 x = 0) ∧ Below w.heap.size w (v1.alloc (.cells #[.pointer (some ⟨b1, 0, none⟩), .pointer (some ⟨c1, 0, none⟩)] 27))) := by
    have hz := T1.out.2.1.size
    have hz0 := B0.out.size
    exact ⟨T1.out.1.past ((Below.refl _ _).alloc (Nat.le_refl _) _), CBox.new v1 _ [_, _], grow_ge (Nat.le_refl _), fun x hx => by rw [grow_lt (by omega)]; exact T1.out.2.2 x (by omega), (B0.out.trans (T1.out.2.1.mono hz0)).alloc (by omega) _⟩
  clear T1 B0
  change Code.wp _ _ _ _ (v1.alloc (.cells #[.pointer (some ⟨b1, 0, none⟩), .pointer (some ⟨c1, 0, none⟩)] 27))
  generalize v1.alloc (.cells #[.pointer (some ⟨b1, 0, none⟩), .pointer (some ⟨c1, 0, none⟩)] 27) = v2 at T2 ⊢
  generalize grow o1 v1.heap.size 0 = o2 at T2
  generalize v1.heap.size = pb at T2 ⊢
  go_upto_region 7 with (go_at_call 14; refine (made_is v2 o2 2 0 (by omega)).mono ?_; rintro e v3 ⟨b2, c2, o3, rfl, h1, hB, hE⟩; (have T3 : Hid (SD v3 o3 2 b2 c2 0 [] [] ∧ Below v2.heap.size v2 v3 ∧ ∀ x, x < v2.heap.size → o3 x = o2 x) := ⟨h1, hB, hE⟩); clear h1 hB hE)
  have T4 : Hid (LP w (v3.alloc (.cells #[.pointer (some ⟨b2, 0, none⟩), .pointer (some ⟨c2, 0, none⟩)] 27)) pb v3.heap.size b1 c1 b2 c2 0) := LP.mk2 T2.out.1 T2.out.2.1 T2.out.2.2.1 T2.out.2.2.2.1 T2.out.2.2.2.2 T3.out.1 T3.out.2.1 T3.out.2.2
  clear T2 T3
  change Code.wp _ _ _ _ (v3.alloc (.cells #[.pointer (some ⟨b2, 0, none⟩), .pointer (some ⟨c2, 0, none⟩)] 27))
  generalize v3.alloc (.cells #[.pointer (some ⟨b2, 0, none⟩), .pointer (some ⟨c2, 0, none⟩)] 27) = v4 at T4 ⊢
  generalize v3.heap.size = qb at T4 ⊢
  have p0 : v4.cell? ⟨pb, 0, none⟩ = some (.pointer (some ⟨b1, 0, none⟩)) := T4.out.pB.cell 0
  have q0 : v4.cell? ⟨qb, 0, none⟩ = some (.pointer (some ⟨b2, 0, none⟩)) := T4.out.qB.cell 0
  go_wp2
  clear p0 q0
  go_loopw [5] (fun si wr => ∃ (i : Nat), i ≤ n ∧ si = .int .i64 (i : Int) ∧ LP w wr pb qb b1 c1 b2 c2 (2 * i)) (fun si _ => n - (intOf si).toNat)
  case atStart => exact ⟨0, by omega, rfl, T4.out⟩
  case round =>
    obtain ⟨i, hi, rfl, hA⟩ := hrel
    have A0 : Hid (LP w wr pb qb b1 c1 b2 c2 (2 * i)) := hA
    clear hA T4
    by_cases hin : i < n
    · have iI : (i : Int) < (n : Int) := by omega
      obtain ⟨g, a, rfl, hat⟩ := HX.out (by omega)
      obtain ⟨⟨d0, d1, d2, d3⟩, ok⟩ := hat i hin
      have bl := A0.out.bel
      have lt0 : g < w.heap.size := World.block_lt_of_cell? w _ d0
      replace d0 := (bl.cell (p := ⟨g, _, none⟩) lt0).trans d0
      replace d1 := (bl.cell (p := ⟨g, _, none⟩) lt0).trans d1
      replace d2 := (bl.cell (p := ⟨g, _, none⟩) lt0).trans d2
      replace d3 := (bl.cell (p := ⟨g, _, none⟩) lt0).trans d3
      have OK : Hid (I64 (x i).k) := ok
      clear ok hat bl lt0
      generalize (x i) = op at d0 d1 d2 d3 OK
      obtain ⟨kd, tw, k, v⟩ := op
      change wr.cell? ⟨g, a + i * 4, none⟩ = some (.int .i64 kd) at d0
      change wr.cell? ⟨g, a + i * 4 + 1, none⟩ = some (.bool tw) at d1
      change wr.cell? ⟨g, a + i * 4 + 2, none⟩ = some (.int .i64 k) at d2
      change wr.cell? ⟨g, a + i * 4 + 3, none⟩ = some (.int .i64 v) at d3
      change Hid (I64 k) at OK
      go_upto_region 13 with fail
      have A1 : Hid (LP w (wr.alloc (.cells #[.int .i64 kd, .bool tw, .int .i64 k, .int .i64 v] 30)) pb qb b1 c1 b2 c2 (2 * i)) := A0.out.past ((Below.refl _ _).alloc (Nat.le_refl _) _)
      have O1 : Hid (CBox (wr.alloc (.cells #[.int .i64 kd, .bool tw, .int .i64 k, .int .i64 v] 30)) wr.heap.size 30 [.int .i64 kd, .bool tw, .int .i64 k, .int .i64 v]) := CBox.new wr _ [_, _, _, _]
      clear A0 d0 d1 d2 d3
      change Code.wp _ _ _ _ (wr.alloc (.cells #[.int .i64 kd, .bool tw, .int .i64 k, .int .i64 v] 30))
      generalize wr.alloc (.cells #[.int .i64 kd, .bool tw, .int .i64 k, .int .i64 v] 30) = w1 at A1 O1 ⊢
      generalize wr.heap.size = ob at O1 ⊢
      have p0 : w1.cell? ⟨pb, 0, none⟩ = some (.pointer (some ⟨b1, 0, none⟩)) := A1.out.pB.cell 0
      have p1 : w1.cell? ⟨pb, 1, none⟩ = some (.pointer (some ⟨c1, 0, none⟩)) := A1.out.pB.cell 1
      go_upto_region 14 with fail
      clear p0 p1
      have B2 : Hid (Below w1.heap.size w1 (w1.alloc (.cells #[.pointer (some ⟨b1, 0, none⟩), .pointer (some ⟨c1, 0, none⟩)] 27))) := (Below.refl _ _).alloc (Nat.le_refl _) _
      have S2 : Hid (CBox (w1.alloc (.cells #[.pointer (some ⟨b1, 0, none⟩), .pointer (some ⟨c1, 0, none⟩)] 27)) w1.heap.size 27 [.pointer (some ⟨b1, 0, none⟩), .pointer (some ⟨c1, 0, none⟩)]) := CBox.new w1 _ [_, _]
      change Code.wp _ _ _ _ (w1.alloc (.cells #[.pointer (some ⟨b1, 0, none⟩), .pointer (some ⟨c1, 0, none⟩)] 27))
      generalize w1.alloc (.cells #[.pointer (some ⟨b1, 0, none⟩), .pointer (some ⟨c1, 0, none⟩)] 27) = w2 at B2 S2 ⊢
      have G2 : Hid (w1.heap.size ≤ w1.heap.size) := Nat.le_refl _
      obtain ⟨sb, esb⟩ : ∃ sb, sb = w1.heap.size := ⟨_, rfl⟩
      rw [← esb] at S2 ⊢
      have ES : Hid (sb = w1.heap.size) := esb
      clear esb G2
      have e1 : w2.cell? ⟨ob, 1, none⟩ = some (.bool tw) := (O1.out.but (below_but (S := fun _ => False) B2.out) id).cell 1
      have FIN : Hid (∀ W b c, Below w1.heap.size w1 W → CBox W sb 27 [.pointer (some ⟨b, 0, none⟩), .pointer (some ⟨c, 0, none⟩)] → LP w W pb qb b1 c1 b2 c2 (2 * i) ∧ (W.cell? ⟨sb, 0, none⟩ = some (.pointer (some ⟨b, 0, none⟩)) ∧ W.cell? ⟨sb, 1, none⟩ = some (.pointer (some ⟨c, 0, none⟩))) ∧ W.cell? ⟨ob, 0, none⟩ = some (.int .i64 kd) ∧ W.cell? ⟨ob, 1, none⟩ = some (.bool tw) ∧ W.cell? ⟨ob, 2, none⟩ = some (.int .i64 k) ∧ W.cell? ⟨ob, 3, none⟩ = some (.int .i64 v)) := fun W b c hB hS => by
        have hO := O1.out.but (below_but (S := fun _ => False) hB) id
        exact ⟨A1.out.past hB, ⟨hS.cell 0, hS.cell 1⟩, hO.cell 0, hO.cell 1, hO.cell 2, hO.cell 3⟩
      cases tw with
      | true =>
        have q0 : w2.cell? ⟨qb, 0, none⟩ = some (.pointer (some ⟨b2, 0, none⟩)) := (A1.out.past B2.out).qB.cell 0
        have q1 : w2.cell? ⟨qb, 1, none⟩ = some (.pointer (some ⟨c2, 0, none⟩)) := (A1.out.past B2.out).qB.cell 1
        have s0 : w2.cell? ⟨sb, 0, none⟩ = some (.pointer (some ⟨b1, 0, none⟩)) := S2.out.cell 0
        have s1 : w2.cell? ⟨sb, 1, none⟩ = some (.pointer (some ⟨c1, 0, none⟩)) := S2.out.cell 1
        have f0 : w2.frozen? ⟨sb, 0, none⟩ = false := S2.out.frozen 0
        have f1 : w2.frozen? ⟨sb, 1, none⟩ = false := S2.out.frozen 1
        go_upto_region 16 with fail
        clear q0 q1 s0 s1 f0 f1 e1
        have B3 : Hid (Below w1.heap.size w1 ((w2.setCell ⟨sb, 0, none⟩ (.pointer (some ⟨b2, 0, none⟩))).setCell ⟨sb, 1, none⟩ (.pointer (some ⟨c2, 0, none⟩)))) := (B2.out.setCell (show w1.heap.size ≤ (⟨sb, 0, none⟩ : Addr).block by rw [← ES.out]; exact Nat.le_refl _) _).setCell (show w1.heap.size ≤ (⟨sb, 1, none⟩ : Addr).block by rw [← ES.out]; exact Nat.le_refl _) _
        have S3 : Hid (CBox ((w2.setCell ⟨sb, 0, none⟩ (.pointer (some ⟨b2, 0, none⟩))).setCell ⟨sb, 1, none⟩ (.pointer (some ⟨c2, 0, none⟩))) sb 27 [.pointer (some ⟨b2, 0, none⟩), .pointer (some ⟨c2, 0, none⟩)]) := (S2.out.set 0 _).set 1 _
        generalize (w2.setCell ⟨sb, 0, none⟩ (.pointer (some ⟨b2, 0, none⟩))).setCell ⟨sb, 1, none⟩ (.pointer (some ⟨c2, 0, none⟩)) = w3 at B3 S3 ⊢
        obtain ⟨l3, ⟨s0, s1⟩, e0, e1, e2, e3⟩ := FIN.out w3 b2 c2 B3.out S3.out
        have L3 : Hid (LP w w3 pb qb b1 c1 b2 c2 (2 * i)) := l3
        clear l3 FIN A1 O1 B2 S2 B3 S3 ES
        go_wp2_with (go_at_call 15; refine (L3.out.two (by omega) kd true k v OK.out).mono ?_; rintro e w4 ⟨rfl, h4⟩; (have L4 : Hid (LP w w4 pb qb b1 c1 b2 c2 (2 * i + 2)) := h4); clear h4)
        go_roundw
        case rel => exact ⟨i + 1, by omega, by go_num, L4.out⟩
        case measure => simp [intOf]; omega
      | false =>
        go_upto_region 16 with fail
        clear e1
        obtain ⟨l3, ⟨s0, s1⟩, e0, e1, e2, e3⟩ := FIN.out w2 b1 c1 B2.out S2.out
        have L3 : Hid (LP w w2 pb qb b1 c1 b2 c2 (2 * i)) := l3
        clear l3 FIN A1 O1 B2 S2 ES
        go_wp2_with (go_at_call 15; refine (L3.out.one (by omega) kd false k v OK.out).mono ?_; rintro e w4 ⟨rfl, h4⟩; (have L4 : Hid (LP w w4 pb qb b1 c1 b2 c2 (2 * i + 2)) := h4); clear h4)
        go_roundw
        case rel => exact ⟨i + 1, by omega, by go_num, L4.out⟩
        case measure => simp [intOf]; omega
    · have iI : ¬ (i : Int) < (n : Int) := by omega
      go_upto_region 18 with fail
      have LX : Hid (∀ N W, LP w W pb qb b1 c1 b2 c2 N → (W.cell? ⟨pb, 0, none⟩ = some (.pointer (some ⟨b1, 0, none⟩)) ∧ W.cell? ⟨pb, 1, none⟩ = some (.pointer (some ⟨c1, 0, none⟩))) ∧ W.cell? ⟨qb, 0, none⟩ = some (.pointer (some ⟨b2, 0, none⟩)) ∧ W.cell? ⟨qb, 1, none⟩ = some (.pointer (some ⟨c2, 0, none⟩))) := fun N W h => ⟨⟨h.pB.cell 0, h.pB.cell 1⟩, h.qB.cell 0, h.qB.cell 1⟩
      obtain ⟨⟨x0, x1⟩, x2, x3⟩ := LX.out _ _ A0.out
      go_wp2_with (first
        | (go_at_call 15; refine (A0.out.one (by omega) 7 false 0 0 (by unfold I64; omega)).mono ?_; rintro e W1 ⟨rfl, h1⟩; (have A1 : Hid (LP w W1 pb qb b1 c1 b2 c2 (2 * i + 2)) := h1); clear h1 A0; obtain ⟨⟨y0, y1⟩, y2, y3⟩ := LX.out _ _ A1.out)
        | (go_at_call 15; refine (A1.out.two (by omega) 7 false 0 0 (by unfold I64; omega)).mono ?_; rintro e W2 ⟨rfl, h1⟩; (have A2 : Hid (LP w W2 pb qb b1 c1 b2 c2 (2 * i + 2 + 2)) := h1); clear h1 A1; obtain ⟨⟨z0, z1⟩, z2, z3⟩ := LX.out _ _ A2.out)
        | (go_at_call 15; refine (A2.out.one (by omega) 8 false 0 0 (by unfold I64; omega)).mono ?_; rintro e W3 ⟨rfl, h1⟩; (have A3 : Hid (LP w W3 pb qb b1 c1 b2 c2 (2 * i + 2 + 2 + 2)) := h1); clear h1 A2; obtain ⟨⟨t0, t1⟩, t2, t3⟩ := LX.out _ _ A3.out)
        | (go_at_call 15; refine (A3.out.two (by omega) 8 false 0 0 (by unfold I64; omega)).mono ?_; rintro e W4 ⟨rfl, h1⟩; (have A4 : Hid (LP w W4 pb qb b1 c1 b2 c2 (2 * i + 2 + 2 + 2 + 2)) := h1); clear h1 A3))
      go_ret
      exact ⟨rfl, A4.out.bel⟩
end Go.Proofs.Ytohfkgfjcnldaaa
