/- UndoAlls. -/
import Derived.Test.YtohfkgfjcnldaaaTya
import Derived.Test.YtohfkgfjcnldaaaTyt
namespace Go.Proofs.Ytohfkgfjcnldaaa
open Go.RowKit Go.Shelf
section
variable {w W : World} {pb qb b1 c1 b2 c2 N : Nat}
theorem LP.mono {N' : Nat} (h : LP w W pb qb b1 c1 b2 c2 N) (hN : N ≤ N') : LP w W pb qb b1 c1 b2 c2 N' := by
  obtain ⟨⟨ow, A1, H1, A2, H2, h1, h2, h3⟩, h6, h7, h8⟩ := h
  exact ⟨⟨ow, A1, H1, A2, H2, h1.mono hN, h2.mono hN, h3⟩, h6, h7, h8⟩
theorem LP.mv1 (h : LP w W pb qb b1 c1 b2 c2 N) (hN : N + 2 < 274877906944) (kd : Int) (two : Bool) (k v : Int) (hk : I64 k) : Calls Try.prog 17 #[.agg #[.pointer (some ⟨b1, 0, none⟩), .pointer (some ⟨c1, 0, none⟩)], .agg #[.int .i64 kd, .bool two, .int .i64 k, .int .i64 v]] W fun e w' => e = .returned (.bool true) ∧ LP w w' pb qb b1 c1 b2 c2 (N + 2) := by
  obtain ⟨⟨ow, A1, H1, A2, H2, h1, h2, h3, h4, h5⟩, h6, h7, h8⟩ := h
  refine (moved_is W ow 1 b1 c1 N A1 H1 h1 (by omega) hN kd two k v hk).mono ?_
  rintro e w' ⟨rfl, o9, q1, q2⟩
  have n0 : ¬ Ps 1 0 := by unfold Ps; omega
  obtain ⟨s1, s2⟩ := q2.box h6 (by rw [h3]; exact n0)
  obtain ⟨s3, s4⟩ := q2.box h7 (by rw [h4]; exact n0)
  obtain ⟨l1, l2⟩ := q2.low h5 n0 h8.size
  exact ⟨rfl, ⟨⟨o9, _, _, A2, H2, q1, (h2.mo q2 (by unfold Ps; omega) (by unfold Ps; omega)).mono (by omega), s2.trans h3, s4.trans h4, l2⟩, s1, s3, h8.trans l1⟩⟩
theorem LP.mv2 (h : LP w W pb qb b1 c1 b2 c2 N) (hN : N + 2 < 274877906944) (kd : Int) (two : Bool) (k v : Int) (hk : I64 k) : Calls Try.prog 17 #[.agg #[.pointer (some ⟨b2, 0, none⟩), .pointer (some ⟨c2, 0, none⟩)], .agg #[.int .i64 kd, .bool two, .int .i64 k, .int .i64 v]] W fun e w' => e = .returned (.bool true) ∧ LP w w' pb qb b1 c1 b2 c2 (N + 2) := by
  obtain ⟨⟨ow, A1, H1, A2, H2, h1, h2, h3, h4, h5⟩, h6, h7, h8⟩ := h
  refine (moved_is W ow 2 b2 c2 N A2 H2 h2 (by omega) hN kd two k v hk).mono ?_
  rintro e w' ⟨rfl, o9, q1, q2⟩
  have n0 : ¬ Ps 2 0 := by unfold Ps; omega
  obtain ⟨s1, s2⟩ := q2.box h6 (by rw [h3]; exact n0)
  obtain ⟨s3, s4⟩ := q2.box h7 (by rw [h4]; exact n0)
  obtain ⟨l1, l2⟩ := q2.low h5 n0 h8.size
  exact ⟨rfl, ⟨⟨o9, A1, H1, _, _, (h1.mo q2 (by unfold Ps; omega) (by unfold Ps; omega)).mono (by omega), q1, s2.trans h3, s4.trans h4, l2⟩, s1, s3, h8.trans l1⟩⟩
theorem LP.td1 (h : LP w W pb qb b1 c1 b2 c2 N) (hN : N + 2 < 274877906944) (k : Int) : Calls Try.prog 16 #[.agg #[.pointer (some ⟨b1, 0, none⟩), .pointer (some ⟨c1, 0, none⟩)], .int .i64 k] W fun e w' => e = .returned (.bool true) ∧ Below W.heap.size W w' := by
  obtain ⟨ow, A1, H1, A2, H2, h1, _⟩ := h.ex
  exact told_is W ow 1 b1 c1 N A1 H1 h1 hN k
theorem LP.td2 (h : LP w W pb qb b1 c1 b2 c2 N) (hN : N + 2 < 274877906944) (k : Int) : Calls Try.prog 16 #[.agg #[.pointer (some ⟨b2, 0, none⟩), .pointer (some ⟨c2, 0, none⟩)], .int .i64 k] W fun e w' => e = .returned (.bool true) ∧ Below W.heap.size W w' := by
  obtain ⟨ow, A1, H1, A2, H2, _, h1, _⟩ := h.ex
  exact told_is W ow 2 b2 c2 N A2 H2 h1 hN k
end
/-- a third side and its box -/
structure ON (w W : World) (xb b c N : Nat) : Prop where
  ex : ∃ ow A H, SD W ow 3 b c N A H ∧ ow xb = 0 ∧ ∀ x, x < w.heap.size → ow x = 0
  bx : CBox W xb 27 [.pointer (some ⟨b, 0, none⟩), .pointer (some ⟨c, 0, none⟩)]
  bel : Below w.heap.size w W
section
variable {w W : World} {xb b c N : Nat}
theorem ON.past {W' : World} (h : ON w W xb b c N) (hB : Below W.heap.size W W') : ON w W' xb b c N := by
  obtain ⟨⟨ow, A, H, h1, h2, h3⟩, h4, h5⟩ := h
  exact ⟨⟨grow ow W.heap.size 0, A, H, h1.past hB, (grow_lt h4.lt).trans h2, fun x hx => (grow_lt (Nat.lt_of_lt_of_le hx h5.size)).trans (h3 x hx)⟩, h4.but (below_but (S := fun _ => False) hB) id, h5.trans (hB.mono h5.size)⟩
theorem ON.mv (h : ON w W xb b c N) (hN : N + 2 < 274877906944) (kd : Int) (two : Bool) (k v : Int) (hk : I64 k) : Calls Try.prog 17 #[.agg #[.pointer (some ⟨b, 0, none⟩), .pointer (some ⟨c, 0, none⟩)], .agg #[.int .i64 kd, .bool two, .int .i64 k, .int .i64 v]] W fun e w' => e = .returned (.bool true) ∧ ON w w' xb b c (N + 2) := by
  obtain ⟨⟨ow, A, H, h1, h2, h3⟩, h4, h5⟩ := h
  refine (moved_is W ow 3 b c N A H h1 (by omega) hN kd two k v hk).mono ?_
  rintro e w' ⟨rfl, o9, q1, q2⟩
  have n0 : ¬ Ps 3 0 := by unfold Ps; omega
  obtain ⟨s1, s2⟩ := q2.box h4 (by rw [h2]; exact n0)
  obtain ⟨l1, l2⟩ := q2.low h3 n0 h5.size
  exact ⟨rfl, ⟨⟨o9, _, _, q1, s2.trans h2, l2⟩, s1, h5.trans l1⟩⟩
theorem ON.td (h : ON w W xb b c N) (hN : N + 2 < 274877906944) (k : Int) : Calls Try.prog 16 #[.agg #[.pointer (some ⟨b, 0, none⟩), .pointer (some ⟨c, 0, none⟩)], .int .i64 k] W fun e w' => e = .returned (.bool true) ∧ ON w w' xb b c N := by
  obtain ⟨ow, A, H, h1, _⟩ := h.ex
  refine (told_is W ow 3 b c N A H h1 hN k).mono ?_
  rintro e w' ⟨rfl, hB⟩
  exact ⟨rfl, h.past hB⟩
end
set_option maxHeartbeats 8000000 in
set_option maxRecDepth 100000 in
theorem undoAlls_walk (w : World) (v : Value) (n : Nat) (x : Nat → OpR) (hv : OpsAt w v n x) (hn : n ≤ 4398046511104) : Calls Try.prog 4 #[v] w fun e w' => e = .returned (.bool true) ∧ Below w.heap.size w w' := by
  obtain ⟨ad, cap, rfl, hx⟩ := hv
  have X1 : Hid (0 < n → ∃ g a, ad = some ⟨g, a, none⟩ ∧ ∀ i, i < n → OpAt w g (a + i * 4) (x i) ∧ OpOk (x i)) := hx
  clear hx
  by_cases hbig : (1048576 : Int) < (n : Int)
  · go_enter Try.func4, Try.ntmps4
    go_wp2
    go_ret
    exact ⟨rfl, Below.refl _ _⟩
  go_enter Try.func4, Try.ntmps4
  go_upto_region 4 with (go_at_call 14; refine (made_is w (fun _ => 0) 1 0 (by omega)).mono ?_; rintro e v1 ⟨b1, c1, o1, rfl, h1, hB, hE⟩; (have T1 : Hid (SD v1 o1 1 b1 c1 0 [] [] ∧ Below w.heap.size w v1 ∧ ∀ x, x < w.heap.size → o1 x = 0) := ⟨h1, hB, hE⟩); clear h1 hB hE)
  have T2 : Hid (SD (v1.alloc (.cells #[.pointer (some ⟨b1, 0, none⟩), .pointer (some ⟨c1, 0, none⟩)] 27)) (grow o1 v1.heap.size 0) 1 b1 c1 0 [] [] ∧ CBox (v1.alloc (.cells #[.pointer (some ⟨b1, 0, none⟩), .pointer (some ⟨c1, 0, none⟩)] 27)) v1.heap.size 27 [.pointer (some ⟨b1, 0, none⟩), .pointer (some ⟨c1, 0, none⟩)] ∧ (grow o1 v1.heap.size 0) v1.heap.size = 0 ∧ (∀ x, x < w.heap.size → grow o1 v1.heap.size 0 x = 0) ∧ Below w.heap.size w (v1.alloc (.cells #[.pointer (some ⟨b1, 0, none⟩), .pointer (some ⟨c1, 0, none⟩)] 27))) := by
    have hz := T1.out.2.1.size
    exact ⟨T1.out.1.past ((Below.refl _ _).alloc (Nat.le_refl _) _), CBox.new v1 _ [_, _], grow_ge (Nat.le_refl _), fun x hx => by rw [grow_lt (by omega)]; exact T1.out.2.2 x (by omega), T1.out.2.1.alloc (by omega) _⟩
  clear T1
  change Code.wp _ _ _ _ (v1.alloc (.cells #[.pointer (some ⟨b1, 0, none⟩), .pointer (some ⟨c1, 0, none⟩)] 27))
  generalize v1.alloc (.cells #[.pointer (some ⟨b1, 0, none⟩), .pointer (some ⟨c1, 0, none⟩)] 27) = v2 at T2 ⊢
  generalize grow o1 v1.heap.size 0 = o2 at T2
  generalize v1.heap.size = pb at T2 ⊢
  go_upto_region 5 with (go_at_call 14; refine (made_is v2 o2 2 0 (by omega)).mono ?_; rintro e v3 ⟨b2, c2, o3, rfl, h1, hB, hE⟩; (have T3 : Hid (SD v3 o3 2 b2 c2 0 [] [] ∧ Below v2.heap.size v2 v3 ∧ ∀ x, x < v2.heap.size → o3 x = o2 x) := ⟨h1, hB, hE⟩); clear h1 hB hE)
  have T4 : Hid (LP w (v3.alloc (.cells #[.pointer (some ⟨b2, 0, none⟩), .pointer (some ⟨c2, 0, none⟩)] 27)) pb v3.heap.size b1 c1 b2 c2 0) := LP.mk2 T2.out.1 T2.out.2.1 T2.out.2.2.1 T2.out.2.2.2.1 T2.out.2.2.2.2 T3.out.1 T3.out.2.1 T3.out.2.2
  clear T2 T3
  change Code.wp _ _ _ _ (v3.alloc (.cells #[.pointer (some ⟨b2, 0, none⟩), .pointer (some ⟨c2, 0, none⟩)] 27))
  generalize v3.alloc (.cells #[.pointer (some ⟨b2, 0, none⟩), .pointer (some ⟨c2, 0, none⟩)] 27) = v4 at T4 ⊢
  generalize v3.heap.size = qb at T4 ⊢
  have p0 : v4.cell? ⟨pb, 0, none⟩ = some (.pointer (some ⟨b1, 0, none⟩)) := T4.out.pB.cell 0
  have q0 : v4.cell? ⟨qb, 0, none⟩ = some (.pointer (some ⟨b2, 0, none⟩)) := T4.out.qB.cell 0
  go_wp2
  clear p0 q0
  have BN : Hid (n ≤ 1048576) := by show _ ≤ _; omega
  go_loopw [5] (fun si wr => ∃ (i : Nat), i ≤ n ∧ si = .int .i64 (i : Int) ∧ LP w wr pb qb b1 c1 b2 c2 (2 * i)) (fun si _ => n - (intOf si).toNat)
  case atStart => exact ⟨0, by omega, rfl, T4.out⟩
  case round =>
    obtain ⟨i, hi, rfl, hA⟩ := hrel
    have A0 : Hid (LP w wr pb qb b1 c1 b2 c2 (2 * i)) := hA
    clear hA T4
    by_cases hin : i < n
    · have iI : (i : Int) < (n : Int) := by omega
      obtain ⟨g, a, rfl, ok0, dc⟩ := ops_at X1.out hin
      generalize (x i) = op at ok0 dc
      obtain ⟨kd, tw, k, v⟩ := op
      have OK : Hid (I64 k) := ok0
      obtain ⟨d0, d1, d2, d3⟩ := dc wr A0.out.bel
      clear ok0 dc
      change wr.cell? ⟨g, a + i * 4, none⟩ = some (.int .i64 kd) at d0
      change wr.cell? ⟨g, a + i * 4 + 1, none⟩ = some (.bool tw) at d1
      change wr.cell? ⟨g, a + i * 4 + 2, none⟩ = some (.int .i64 k) at d2
      change wr.cell? ⟨g, a + i * 4 + 3, none⟩ = some (.int .i64 v) at d3
      go_upto_region 11 with fail
      have A1 : Hid (LP w (wr.alloc (.cells #[.int .i64 kd, .bool tw, .int .i64 k, .int .i64 v] 30)) pb qb b1 c1 b2 c2 (2 * i)) := A0.out.past ((Below.refl _ _).alloc (Nat.le_refl _) _)
      have O1 : Hid (CBox (wr.alloc (.cells #[.int .i64 kd, .bool tw, .int .i64 k, .int .i64 v] 30)) wr.heap.size 30 [.int .i64 kd, .bool tw, .int .i64 k, .int .i64 v]) := CBox.new wr _ [_, _, _, _]
      clear A0 d0 d1 d2 d3
      change Code.wp _ _ _ _ (wr.alloc (.cells #[.int .i64 kd, .bool tw, .int .i64 k, .int .i64 v] 30))
      generalize wr.alloc (.cells #[.int .i64 kd, .bool tw, .int .i64 k, .int .i64 v] 30) = w1 at A1 O1 ⊢
      generalize wr.heap.size = ob at O1 ⊢
      have p0 : w1.cell? ⟨pb, 0, none⟩ = some (.pointer (some ⟨b1, 0, none⟩)) := A1.out.pB.cell 0
      have p1 : w1.cell? ⟨pb, 1, none⟩ = some (.pointer (some ⟨c1, 0, none⟩)) := A1.out.pB.cell 1
      go_upto_region 12 with fail
      clear p0 p1
      have B2 : Hid (Below w1.heap.size w1 (w1.alloc (.cells #[.pointer (some ⟨b1, 0, none⟩), .pointer (some ⟨c1, 0, none⟩)] 27))) := (Below.refl _ _).alloc (Nat.le_refl _) _
      have S2 : Hid (CBox (w1.alloc (.cells #[.pointer (some ⟨b1, 0, none⟩), .pointer (some ⟨c1, 0, none⟩)] 27)) w1.heap.size 27 [.pointer (some ⟨b1, 0, none⟩), .pointer (some ⟨c1, 0, none⟩)]) := CBox.new w1 _ [_, _]
      change Code.wp _ _ _ _ (w1.alloc (.cells #[.pointer (some ⟨b1, 0, none⟩), .pointer (some ⟨c1, 0, none⟩)] 27))
      generalize w1.alloc (.cells #[.pointer (some ⟨b1, 0, none⟩), .pointer (some ⟨c1, 0, none⟩)] 27) = w2 at B2 S2 ⊢
      obtain ⟨sb, esb⟩ : ∃ sb, sb = w1.heap.size := ⟨_, rfl⟩
      rw [← esb] at S2 ⊢
      have ES : Hid (sb = w1.heap.size) := esb
      clear esb
      have e1 : w2.cell? ⟨ob, 1, none⟩ = some (.bool tw) := (O1.out.but (below_but (S := fun _ => False) B2.out) id).cell 1
      have FIN : Hid (∀ W b c, Below w1.heap.size w1 W → CBox W sb 27 [.pointer (some ⟨b, 0, none⟩), .pointer (some ⟨c, 0, none⟩)] → LP w W pb qb b1 c1 b2 c2 (2 * i) ∧ (W.cell? ⟨sb, 0, none⟩ = some (.pointer (some ⟨b, 0, none⟩)) ∧ W.cell? ⟨sb, 1, none⟩ = some (.pointer (some ⟨c, 0, none⟩))) ∧ W.cell? ⟨ob, 0, none⟩ = some (.int .i64 kd) ∧ W.cell? ⟨ob, 1, none⟩ = some (.bool tw) ∧ W.cell? ⟨ob, 2, none⟩ = some (.int .i64 k) ∧ W.cell? ⟨ob, 3, none⟩ = some (.int .i64 v)) := fun W b c hB hS => by
        have hO := O1.out.but (below_but (S := fun _ => False) hB) id
        exact ⟨A1.out.past hB, ⟨hS.cell 0, hS.cell 1⟩, hO.cell 0, hO.cell 1, hO.cell 2, hO.cell 3⟩
      cases tw with
      | true =>
        have q0 : w2.cell? ⟨qb, 0, none⟩ = some (.pointer (some ⟨b2, 0, none⟩)) := (A1.out.past B2.out).qB.cell 0
        have q1 : w2.cell? ⟨qb, 1, none⟩ = some (.pointer (some ⟨c2, 0, none⟩)) := (A1.out.past B2.out).qB.cell 1
        have s0 : w2.cell? ⟨sb, 0, none⟩ = some (.pointer (some ⟨b1, 0, none⟩)) := S2.out.cell 0
        have s1 : w2.cell? ⟨sb, 1, none⟩ = some (.pointer (some ⟨c1, 0, none⟩)) := S2.out.cell 1
        have f0 : w2.frozen? ⟨sb, 0, none⟩ = false := S2.out.frozen 0
        have f1 : w2.frozen? ⟨sb, 1, none⟩ = false := S2.out.frozen 1
        go_upto_region 14 with fail
        clear q0 q1 s0 s1 f0 f1 e1
        have B3 : Hid (Below w1.heap.size w1 ((w2.setCell ⟨sb, 0, none⟩ (.pointer (some ⟨b2, 0, none⟩))).setCell ⟨sb, 1, none⟩ (.pointer (some ⟨c2, 0, none⟩)))) := (B2.out.setCell (show w1.heap.size ≤ (⟨sb, 0, none⟩ : Addr).block by rw [← ES.out]; exact Nat.le_refl _) _).setCell (show w1.heap.size ≤ (⟨sb, 1, none⟩ : Addr).block by rw [← ES.out]; exact Nat.le_refl _) _
        have S3 : Hid (CBox ((w2.setCell ⟨sb, 0, none⟩ (.pointer (some ⟨b2, 0, none⟩))).setCell ⟨sb, 1, none⟩ (.pointer (some ⟨c2, 0, none⟩))) sb 27 [.pointer (some ⟨b2, 0, none⟩), .pointer (some ⟨c2, 0, none⟩)]) := (S2.out.set 0 _).set 1 _
        generalize (w2.setCell ⟨sb, 0, none⟩ (.pointer (some ⟨b2, 0, none⟩))).setCell ⟨sb, 1, none⟩ (.pointer (some ⟨c2, 0, none⟩)) = w3 at B3 S3 ⊢
        obtain ⟨l3, ⟨s0, s1⟩, e0, e1, e2, e3⟩ := FIN.out w3 b2 c2 B3.out S3.out
        have L3 : Hid (LP w w3 pb qb b1 c1 b2 c2 (2 * i)) := l3
        clear l3 FIN A1 O1 B2 S2 B3 S3 ES
        by_cases h9 : kd = 9
        · subst h9
          go_wp2_with (go_at_call 16; refine (L3.out.td2 (by have := BN.out; omega) v).mono ?_; rintro e w4 ⟨rfl, h4⟩; (have L4 : Hid (LP w w4 pb qb b1 c1 b2 c2 (2 * i)) := L3.out.past h4); clear h4)
          go_roundw
          case rel => exact ⟨i + 1, by omega, by go_num, L4.out.mono (by omega)⟩
          case measure => simp [intOf]; omega
        by_cases h5 : kd ≤ 5
        · go_upto_region 19 with (go_at_call 17; refine (L3.out.mv2 (by have := BN.out; omega) kd true k v OK.out).mono ?_; rintro e w4 ⟨rfl, h4⟩; (have L4 : Hid (LP w w4 pb qb b1 c1 b2 c2 (2 * i + 2)) := h4); clear h4)
          clear h9 h5
          go_wp2
          go_roundw
          case rel => exact ⟨i + 1, by omega, by go_num, L4.out⟩
          case measure => simp [intOf]; omega
        go_upto_region 19 with fail
        clear h9 h5
        go_wp2
        go_roundw
        case rel => exact ⟨i + 1, by omega, by go_num, L3.out.mono (by omega)⟩
        case measure => simp [intOf]; omega
      | false =>
        go_upto_region 14 with fail
        clear e1
        obtain ⟨l3, ⟨s0, s1⟩, e0, e1, e2, e3⟩ := FIN.out w2 b1 c1 B2.out S2.out
        have L3 : Hid (LP w w2 pb qb b1 c1 b2 c2 (2 * i)) := l3
        clear l3 FIN A1 O1 B2 S2 ES
        generalize w2 = w3 at L3 s0 s1 e0 e1 e2 e3 ⊢
        by_cases h9 : kd = 9
        · subst h9
          go_wp2_with (go_at_call 16; refine (L3.out.td1 (by have := BN.out; omega) v).mono ?_; rintro e w4 ⟨rfl, h4⟩; (have L4 : Hid (LP w w4 pb qb b1 c1 b2 c2 (2 * i)) := L3.out.past h4); clear h4)
          go_roundw
          case rel => exact ⟨i + 1, by omega, by go_num, L4.out.mono (by omega)⟩
          case measure => simp [intOf]; omega
        by_cases h5 : kd ≤ 5
        · go_upto_region 19 with (go_at_call 17; refine (L3.out.mv1 (by have := BN.out; omega) kd false k v OK.out).mono ?_; rintro e w4 ⟨rfl, h4⟩; (have L4 : Hid (LP w w4 pb qb b1 c1 b2 c2 (2 * i + 2)) := h4); clear h4)
          clear h9 h5
          go_wp2
          go_roundw
          case rel => exact ⟨i + 1, by omega, by go_num, L4.out⟩
          case measure => simp [intOf]; omega
        go_upto_region 19 with fail
        clear h9 h5
        go_wp2
        go_roundw
        case rel => exact ⟨i + 1, by omega, by go_num, L3.out.mono (by omega)⟩
        case measure => simp [intOf]; omega
    · have iI : ¬ (i : Int) < (n : Int) := by omega
      have BI : Hid (2 * i ≤ 2097152) := by have := BN.out; show _ ≤ _; omega
      generalize hNN : 2 * i = NN at A0 BI
      go_upto_region 21 with fail
      clear hNN iI hi hin
      go_upto_region 22 with (go_at_call 14; refine (made_is wr (fun _ => 0) 3 0 (by omega)).mono ?_; rintro e v6 ⟨b3, c3, o6, rfl, h1, hB, hE⟩; (have T6 : Hid (SD v6 o6 3 b3 c3 0 [] [] ∧ Below wr.heap.size wr v6 ∧ ∀ x, x < wr.heap.size → o6 x = 0) := ⟨h1, hB, hE⟩); clear h1 hB hE)
      have BA : Hid (Below v6.heap.size v6 (v6.alloc (.cells #[.pointer (some ⟨b3, 0, none⟩), .pointer (some ⟨c3, 0, none⟩)] 27))) := (Below.refl _ _).alloc (Nat.le_refl _) _
      have A7 : Hid (LP w (v6.alloc (.cells #[.pointer (some ⟨b3, 0, none⟩), .pointer (some ⟨c3, 0, none⟩)] 27)) pb qb b1 c1 b2 c2 NN) := (A0.out.past T6.out.2.1).past BA.out
      have N7 : Hid (ON w (v6.alloc (.cells #[.pointer (some ⟨b3, 0, none⟩), .pointer (some ⟨c3, 0, none⟩)] 27)) v6.heap.size b3 c3 0) := by
        have hz := T6.out.2.1.size
        have hw := A0.out.bel.size
        exact ⟨⟨grow o6 v6.heap.size 0, [], [], T6.out.1.past BA.out, grow_ge (Nat.le_refl _), fun x hx => by rw [grow_lt (by omega)]; exact T6.out.2.2 x (by omega)⟩, CBox.new v6 _ [_, _], A7.out.bel⟩
      clear A0 T6 BA
      change Code.wp _ _ _ _ (v6.alloc (.cells #[.pointer (some ⟨b3, 0, none⟩), .pointer (some ⟨c3, 0, none⟩)] 27))
      generalize v6.alloc (.cells #[.pointer (some ⟨b3, 0, none⟩), .pointer (some ⟨c3, 0, none⟩)] 27) = v7 at A7 N7 ⊢
      generalize v6.heap.size = xb at N7 ⊢
      have LX : Hid (∀ N W, LP w W pb qb b1 c1 b2 c2 N → (W.cell? ⟨pb, 0, none⟩ = some (.pointer (some ⟨b1, 0, none⟩)) ∧ W.cell? ⟨pb, 1, none⟩ = some (.pointer (some ⟨c1, 0, none⟩))) ∧ W.cell? ⟨qb, 0, none⟩ = some (.pointer (some ⟨b2, 0, none⟩)) ∧ W.cell? ⟨qb, 1, none⟩ = some (.pointer (some ⟨c2, 0, none⟩))) := fun N W h => ⟨⟨h.pB.cell 0, h.pB.cell 1⟩, h.qB.cell 0, h.qB.cell 1⟩
      have NXC : Hid (∀ N W, ON w W xb b3 c3 N → W.cell? ⟨xb, 0, none⟩ = some (.pointer (some ⟨b3, 0, none⟩)) ∧ W.cell? ⟨xb, 1, none⟩ = some (.pointer (some ⟨c3, 0, none⟩))) := fun N W h => ⟨h.bx.cell 0, h.bx.cell 1⟩
      obtain ⟨⟨x0, x1⟩, x2, x3⟩ := LX.out _ _ A7.out
      obtain ⟨y0, y1⟩ := NXC.out _ _ N7.out
      refine wp_region_lit ?_
      refine lst_val (v := .pointer (some ⟨xb, 0, none⟩)) (by kernel_rfl) ?_ ?_
      · go_simp
      simp only [Act.put, List.setIfInBounds_toArray, List.set_cons_zero, List.set_cons_succ]
      refine lst_val (v := .pointer (some ⟨b3, 0, none⟩)) (by kernel_rfl) ?_ ?_
      · go_simp
      simp only [Act.put, List.setIfInBounds_toArray, List.set_cons_zero, List.set_cons_succ]
      refine lst_val (v := .bool true) (by kernel_rfl) ?_ ?_
      · go_simp
      simp only [Act.put, List.setIfInBounds_toArray, List.set_cons_zero, List.set_cons_succ]
      refine lst_val (v := .bool true) (by kernel_rfl) ?_ ?_
      · go_simp
      simp only [Act.put, List.setIfInBounds_toArray, List.set_cons_zero, List.set_cons_succ]
      refine lst_val (v := .agg #[.pointer (some ⟨b1, 0, none⟩), .pointer (some ⟨c1, 0, none⟩)]) (by kernel_rfl) ?_ ?_
      · go_simp
      simp only [Act.put, List.setIfInBounds_toArray, List.set_cons_zero, List.set_cons_succ]
      refine lst_call (by kernel_rfl) (by first | (go_simp; done) | (go_simp; first | exact rfl | exact ⟨rfl, rfl⟩ | exact ⟨rfl, rfl, rfl⟩)) (A7.out.td1 (by have := BI.out; omega) 0) ?_
      rintro e v8 ⟨rfl, h8⟩
      refine ⟨_, rfl, ?_⟩
      have A8 : Hid (LP w v8 pb qb b1 c1 b2 c2 NN) := A7.out.past h8
      have N8 : Hid (ON w v8 xb b3 c3 (0)) := N7.out.past h8
      clear h8 A7 N7 x0 x1 x2 x3 y0 y1
      obtain ⟨⟨x0, x1⟩, x2, x3⟩ := LX.out _ _ A8.out
      simp only [Act.put, List.setIfInBounds_toArray, List.set_cons_zero, List.set_cons_succ]
      refine lst_val (v := .bool true) (by kernel_rfl) ?_ ?_
      · go_simp
      simp only [Act.put, List.setIfInBounds_toArray, List.set_cons_zero, List.set_cons_succ]
      refine lst_val (v := .bool true) (by kernel_rfl) ?_ ?_
      · go_simp
      simp only [Act.put, List.setIfInBounds_toArray, List.set_cons_zero, List.set_cons_succ]
      refine lst_val (v := .agg #[.pointer (some ⟨b2, 0, none⟩), .pointer (some ⟨c2, 0, none⟩)]) (by kernel_rfl) ?_ ?_
      · go_simp
      simp only [Act.put, List.setIfInBounds_toArray, List.set_cons_zero, List.set_cons_succ]
      refine lst_call (by kernel_rfl) (by first | (go_simp; done) | (go_simp; first | exact rfl | exact ⟨rfl, rfl⟩ | exact ⟨rfl, rfl, rfl⟩)) (A8.out.td2 (by have := BI.out; omega) 0) ?_
      rintro e v9 ⟨rfl, h8⟩
      refine ⟨_, rfl, ?_⟩
      have N9 : Hid (ON w v9 xb b3 c3 (0)) := N8.out.past h8
      clear h8 A8 N8 x0 x1 x2 x3
      obtain ⟨y0, y1⟩ := NXC.out _ _ N9.out
      simp only [Act.put, List.setIfInBounds_toArray, List.set_cons_zero, List.set_cons_succ]
      refine lst_val (v := .bool true) (by kernel_rfl) ?_ ?_
      · go_simp
      simp only [Act.put, List.setIfInBounds_toArray, List.set_cons_zero, List.set_cons_succ]
      refine lst_val (v := .bool true) (by kernel_rfl) ?_ ?_
      · go_simp
      simp only [Act.put, List.setIfInBounds_toArray, List.set_cons_zero, List.set_cons_succ]
      refine lst_val (v := .agg #[.pointer (some ⟨b3, 0, none⟩), .pointer (some ⟨c3, 0, none⟩)]) (by kernel_rfl) ?_ ?_
      · go_simp
      simp only [Act.put, List.setIfInBounds_toArray, List.set_cons_zero, List.set_cons_succ]
      refine lst_val (v := .agg #[.int .i64 1, .bool false, .int .i64 3, .int .i64 4]) (by kernel_rfl) ?_ ?_
      · go_simp
      simp only [Act.put, List.setIfInBounds_toArray, List.set_cons_zero, List.set_cons_succ]
      refine lst_call (by kernel_rfl) (by first | (go_simp; done) | (go_simp; first | exact rfl | exact ⟨rfl, rfl⟩ | exact ⟨rfl, rfl, rfl⟩)) (N9.out.mv (by omega) 1 false 3 4 (by unfold I64; omega)) ?_
      rintro e v10 ⟨rfl, h8⟩
      refine ⟨_, rfl, ?_⟩
      have N10 : Hid (ON w v10 xb b3 c3 (0 + 2)) := h8
      clear h8 N9 y0 y1
      obtain ⟨y0, y1⟩ := NXC.out _ _ N10.out
      simp only [Act.put, List.setIfInBounds_toArray, List.set_cons_zero, List.set_cons_succ]
      refine lst_val (v := .bool true) (by kernel_rfl) ?_ ?_
      · go_simp
      simp only [Act.put, List.setIfInBounds_toArray, List.set_cons_zero, List.set_cons_succ]
      refine lst_val (v := .bool true) (by kernel_rfl) ?_ ?_
      · go_simp
      simp only [Act.put, List.setIfInBounds_toArray, List.set_cons_zero, List.set_cons_succ]
      refine lst_val (v := .agg #[.pointer (some ⟨b3, 0, none⟩), .pointer (some ⟨c3, 0, none⟩)]) (by kernel_rfl) ?_ ?_
      · go_simp
      simp only [Act.put, List.setIfInBounds_toArray, List.set_cons_zero, List.set_cons_succ]
      refine lst_call (by kernel_rfl) (by first | (go_simp; done) | (go_simp; first | exact rfl | exact ⟨rfl, rfl⟩ | exact ⟨rfl, rfl, rfl⟩)) (N10.out.td (by omega) 0) ?_
      rintro e v11 ⟨rfl, h8⟩
      refine ⟨_, rfl, ?_⟩
      have N11 : Hid (ON w v11 xb b3 c3 (0 + 2)) := h8
      clear h8 N10 y0 y1
      simp only [Act.put, List.setIfInBounds_toArray, List.set_cons_zero, List.set_cons_succ]
      refine lst_val (v := .bool true) (by kernel_rfl) ?_ ?_
      · go_simp
      simp only [Act.put, List.setIfInBounds_toArray, List.set_cons_zero, List.set_cons_succ]
      refine lst_val (v := .bool true) (by kernel_rfl) ?_ ?_
      · go_simp
      simp only [Act.put, List.setIfInBounds_toArray, List.set_cons_zero, List.set_cons_succ]
      refine wpList_nil ?_
      go_wp2
      go_ret
      exact ⟨rfl, N11.out.bel⟩
end Go.Proofs.Ytohfkgfjcnldaaa
