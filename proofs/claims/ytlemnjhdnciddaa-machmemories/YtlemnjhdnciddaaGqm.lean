/- MachMemories: the walk. -/
import Derived.Test.YtlemnjhdnciddaaGqz
namespace Go.Proofs.Ytlemnjhdnciddaa
open Go.RowKit
/-- the two pairs and the law's boxes -/
structure TwoP (w W : World) (pb qb b1 c1 b2 c2 : Nat) : Prop where
  ex : ∃ S1 S2 n1 n2 u1 u2, PQ W b1 c1 S1 n1 u1 n1 u1 ∧ PQ W b2 c2 S2 n2 u2 n2 u2 ∧ (∀ k, S1 k → ¬ S2 k) ∧ (∀ k, S1 k ∨ S2 k → w.heap.size ≤ k) ∧ (¬ S1 pb ∧ ¬ S1 qb ∧ ¬ S2 pb ∧ ¬ S2 qb)
  p0 : W.cell? ⟨pb, 0, none⟩ = some (.pointer (some ⟨b1, 0, none⟩))
  p1 : W.cell? ⟨pb, 1, none⟩ = some (.pointer (some ⟨c1, 0, none⟩))
  q0 : W.cell? ⟨qb, 0, none⟩ = some (.pointer (some ⟨b2, 0, none⟩))
  q1 : W.cell? ⟨qb, 1, none⟩ = some (.pointer (some ⟨c2, 0, none⟩))
  bel : Below w.heap.size w W
/-- which pair -/
def pick2 (k : Bool) (x y : Nat) : Nat := if k then y else x
/-- a step of one of the two pairs -/
theorem TwoP.step {w W : World} {pb qb b1 c1 b2 c2 : Nat} (h : TwoP w W pb qb b1 c1 b2 c2) (k : Bool) : ∃ S n u, PQ W (pick2 k b1 b2) (pick2 k c1 c2) S n u n u ∧ (∀ j, S j → w.heap.size ≤ j) ∧ ∀ W' n', PgAfter W W' (pick2 k b1 b2) (pick2 k c1 c2) S n' → TwoP w W' pb qb b1 c1 b2 c2 ∧ But S W W' := by
  obtain ⟨S1, S2, n1, n2, u1, u2, h1, h2, h3, h4, h5, h6, h7, h8⟩ := h.ex
  have lp : pb < W.heap.size := World.block_lt_of_cell? W _ h.p0
  have lq : qb < W.heap.size := World.block_lt_of_cell? W _ h.q0
  cases k
  · refine ⟨S1, n1, u1, h1, fun j hj => h4 j (Or.inl hj), fun W' n' ⟨S', u', k1, k2, k3⟩ => ⟨⟨⟨S', S2, n', n2, u', u2, k1, h2.but k2 (fun j a b => h3 j b a), fun j a b => ?_, fun j a => ?_, fun e => ?_, fun e => ?_, h7, h8⟩, (k2.cell (p := ⟨pb, 0, none⟩) lp h5).trans h.p0, (k2.cell (p := ⟨pb, 1, none⟩) lp h5).trans h.p1, (k2.cell (p := ⟨qb, 0, none⟩) lq h6).trans h.q0, (k2.cell (p := ⟨qb, 1, none⟩) lq h6).trans h.q1, h.bel.trans (k2.below (fun j hj => h4 j (Or.inl hj)) h.bel.size)⟩, k2⟩⟩
    · rcases k3 j a with e | e
      · exact h3 j e b
      · have := h2.lt j b; omega
    · rcases a with a | a
      · rcases k3 j a with e | e
        · exact h4 j (Or.inl e)
        · exact Nat.le_trans h.bel.size e
      · exact h4 j (Or.inr a)
    · rcases k3 _ e with e | e
      · exact h5 e
      · omega
    · rcases k3 _ e with e | e
      · exact h6 e
      · omega
  · refine ⟨S2, n2, u2, h2, fun j hj => h4 j (Or.inr hj), fun W' n' ⟨S', u', k1, k2, k3⟩ => ⟨⟨⟨S1, S', n1, n', u1, u', h1.but k2 (fun j a b => h3 j a b), k1, fun j a b => ?_, fun j a => ?_, h5, h6, fun e => ?_, fun e => ?_⟩, (k2.cell (p := ⟨pb, 0, none⟩) lp h7).trans h.p0, (k2.cell (p := ⟨pb, 1, none⟩) lp h7).trans h.p1, (k2.cell (p := ⟨qb, 0, none⟩) lq h8).trans h.q0, (k2.cell (p := ⟨qb, 1, none⟩) lq h8).trans h.q1, h.bel.trans (k2.below (fun j hj => h4 j (Or.inr hj)) h.bel.size)⟩, k2⟩⟩
    · rcases k3 j b with e | e
      · exact h3 j a e
      · have := h1.lt j a; omega
    · rcases a with a | a
      · exact h4 j (Or.inl a)
      · rcases k3 j a with e | e
        · exact h4 j (Or.inr e)
        · exact Nat.le_trans h.bel.size e
    · rcases k3 _ e with e | e
      · exact h7 e
      · omega
    · rcases k3 _ e with e | e
      · exact h8 e
      · omega
theorem TwoP.past {w W W' : World} {pb qb b1 c1 b2 c2 : Nat} (h : TwoP w W pb qb b1 c1 b2 c2) (k : Below W.heap.size W W') : TwoP w W' pb qb b1 c1 b2 c2 := by
  obtain ⟨S, n, u, h1, h2, h3⟩ := h.step false
  exact (h3 W' n ⟨S, u, h1.past k, below_but k, fun _ hj => Or.inl hj⟩).1
theorem TwoP.drew {w W : World} {pb qb b1 c1 b2 c2 : Nat} (h : TwoP w W pb qb b1 c1 b2 c2) : TwoP w W.drew pb qb b1 c1 b2 c2 := h.past ((Below.refl _ _).drew)
/-- paged at one of the two pairs; Z: a world ahead of it in which the pairs lay as they do now -/
theorem TwoP.paged {w Z W : World} {pb qb b1 c1 b2 c2 : Nat} (hz : TwoP w Z pb qb b1 c1 b2 c2) (kz : Below Z.heap.size Z W) (k : Bool) (kd : Int) (tw : Bool) (N M P : Int) (X Y : W4) (vB : Value) (mB : Nat) (t : Nat → Nat) (hb : By w vB mB t) (ht : ∀ i, t i < 256) (hN : N ≤ 9223372036854775807) (hM : M ≤ 9223372036854775807) (hP : P ≤ 9223372036854775807) (hX : IsW (V X.a X.b X.c X.d) X.a X.b X.c X.d) (hY : IsW (V Y.a Y.b Y.c Y.d) Y.a Y.b Y.c Y.d) : Calls Try.prog 11 #[pageV (pick2 k b1 b2) (pick2 k c1 c2), opV kd tw N M P X Y vB] W fun e w' => e = .returned (.bool true) ∧ TwoP w w' pb qb b1 c1 b2 c2 ∧ ∃ S, But S W w' ∧ ∀ j, S j → j < Z.heap.size ∧ w.heap.size ≤ j := by
  obtain ⟨S, n, u, h1, h2, h3⟩ := hz.step k
  have h := hz.past kz
  have lent : Lent W S vB mB t := by
    obtain ⟨ad, cap, rfl, q1, q2, q3⟩ := hb
    refine ⟨⟨ad, cap, rfl, q1, q2, fun h0 => ?_⟩, ht, fun q h0 hq => ?_⟩
    · obtain ⟨g, a, rfl, hc⟩ := q3 h0
      exact ⟨g, a, rfl, fun i hi => (h.bel.cell (p := ⟨g, a + i, none⟩) (World.block_lt_of_cell? w _ (hc i hi))).trans (hc i hi)⟩
    · obtain ⟨g, a, rfl, hc⟩ := q3 h0
      obtain rfl : g = q := Option.some.inj hq
      have hl : g < w.heap.size := World.block_lt_of_cell? w _ (hc 0 h0)
      exact ⟨fun e => by have := h2 g e; omega, Nat.lt_of_lt_of_le hl h.bel.size⟩
  refine (paged_is W _ _ S n u (h1.past kz) tw N M P X Y vB mB t lent hN hM hP hX hY kd).mono ?_
  rintro e w' ⟨rfl, S', u', k1, k2, k3⟩
  refine ⟨rfl, (h3 w' _ ⟨S', u', k1, (below_but kz).trans k2, fun q hq => ?_⟩).1, S, k2, fun j hj => ⟨h1.lt j hj, h2 j hj⟩⟩
  rcases k3 q hq with e | e
  · exact Or.inl e
  · exact Or.inr (Nat.le_trans kz.size e)
theorem keep11 {S : Nat → Prop} {z v : World} {sb b c g a L B0 : Nat} {o : OpR} (hB : But S z v) (hS : ∀ j, S j → j < L ∧ B0 ≤ j) (hsb : L ≤ sb) (hg : g < B0) (h : (z.cell? ⟨sb, 0, none⟩ = some (.pointer (some ⟨b, 0, none⟩)) ∧ z.cell? ⟨sb, 1, none⟩ = some (.pointer (some ⟨c, 0, none⟩))) ∧ OpAt z g a o) : (v.cell? ⟨sb, 0, none⟩ = some (.pointer (some ⟨b, 0, none⟩)) ∧ v.cell? ⟨sb, 1, none⟩ = some (.pointer (some ⟨c, 0, none⟩))) ∧ OpAt v g a o :=
  have n1 : ¬ S sb := fun e => by have := hS sb e; omega
  have n2 : ¬ S g := fun e => by have := hS g e; omega
  ⟨⟨(hB.cell (p := ⟨sb, 0, none⟩) (World.block_lt_of_cell? z _ h.1.1) n1).trans h.1.1, (hB.cell (p := ⟨sb, 1, none⟩) (World.block_lt_of_cell? z _ h.1.2) n1).trans h.1.2⟩, fun j x hx => (hB.cell (p := ⟨g, a + j, none⟩) (World.block_lt_of_cell? z _ (h.2 j x hx)) n2).trans (h.2 j x hx)⟩
theorem TwoP.lens {w W : World} {pb qb b1 c1 b2 c2 : Nat} (h : TwoP w W pb qb b1 c1 b2 c2) : ∃ n1 n2 : Nat, n1 ≤ 4194304 ∧ n2 ≤ 4194304 ∧ ∀ W', Below W.heap.size W W' → (Calls Try.prog 12 #[.pointer (some ⟨b1, 0, none⟩)] W' fun e w' => e = .returned (.int .i64 (n1 : Int)) ∧ w' = W') ∧ (Calls Try.prog 13 #[.pointer (some ⟨c1, 0, none⟩)] W' fun e w' => e = .returned (.int .i64 (n1 : Int)) ∧ w' = W') ∧ (Calls Try.prog 12 #[.pointer (some ⟨b2, 0, none⟩)] W' fun e w' => e = .returned (.int .i64 (n2 : Int)) ∧ w' = W') ∧ (Calls Try.prog 13 #[.pointer (some ⟨c2, 0, none⟩)] W' fun e w' => e = .returned (.int .i64 (n2 : Int)) ∧ w' = W') := by
  obtain ⟨S1, S2, n1, n2, u1, u2, h1, h2, _⟩ := h.ex
  refine ⟨n1, n2, ?_, ?_, fun W' k => ?_⟩
  · obtain ⟨B, x, c, m, _⟩ := h1.callM; exact m.le
  · obtain ⟨B, x, c, m, _⟩ := h2.callM; exact m.le
  · obtain ⟨B1, x1, d1, m1, _⟩ := (h1.past k).callM
    obtain ⟨B2, x2, d2, m2, _⟩ := (h1.past k).callR
    obtain ⟨B3, x3, d3, m3, _⟩ := (h2.past k).callM
    obtain ⟨B4, x4, d4, m4, _⟩ := (h2.past k).callR
    exact ⟨len_is _ _ _ _ _ _ _ m1, lenR_is _ _ _ _ _ _ _ m2, len_is _ _ _ _ _ _ _ m3, lenR_is _ _ _ _ _ _ _ m4⟩
set_option maxHeartbeats 8000000 in
set_option maxRecDepth 100000 in
theorem machMemories_walk (w : World) (v0 : Value) (n : Nat) (os : Nat → OpR) (hv : OpsAt w v0 n os) (hn : n ≤ 1099511627776) : Calls Try.prog 3 #[v0] w fun e w' => e = .returned (.bool true) ∧ Below w.heap.size w w' := by
  obtain ⟨ad, cap, rfl, hops⟩ := hv
  have HO : Hid (0 < n → ∃ g a, ad = some ⟨g, a, none⟩ ∧ ∀ i, i < n → OpAt w g (a + i * 14) (os i) ∧ OpOk w (os i)) := hops
  have nI : (n : Int) ≤ 1099511627776 := by omega
  clear hops hn
  go_enter Try.func3, Try.ntmps3
  go_upto_region 2 with (go_at_call 10; refine (blank_is _).mono ?_; rintro e v1 ⟨_, rfl, b1, c1, S1, rfl, hT, hs, hB⟩; (have T1 : Hid (PQ v1 b1 c1 S1 0 (fun _ => 0) 0 (fun _ => 0) ∧ (∀ k, S1 k → w.heap.size ≤ k) ∧ Below w.heap.size w v1) := ⟨hT, hs, hB⟩); clear hT hs hB; unfold pageV)
  have T2 : Hid (PQ (v1.alloc (pageO b1 c1)) b1 c1 S1 0 (fun _ => 0) 0 (fun _ => 0) ∧ (v1.alloc (pageO b1 c1)).cell? ⟨v1.heap.size, 0, none⟩ = some (.pointer (some ⟨b1, 0, none⟩)) ∧ (v1.alloc (pageO b1 c1)).cell? ⟨v1.heap.size, 1, none⟩ = some (.pointer (some ⟨c1, 0, none⟩)) ∧ ¬ S1 v1.heap.size ∧ (∀ k, S1 k → w.heap.size ≤ k) ∧ Below w.heap.size w (v1.alloc (pageO b1 c1))) := by
    refine ⟨T1.out.1.past ((Below.refl _ _).alloc (Nat.le_refl _) _), ?_, ?_, fun e => ?_, T1.out.2.1, T1.out.2.2.alloc T1.out.2.2.size _⟩
    · unfold pageO; rw [World.cell?_alloc_at _ _ _ _ rfl]; rfl
    · unfold pageO; rw [World.cell?_alloc_at _ _ _ _ rfl]; rfl
    · have := T1.out.1.lt _ e; omega
  clear T1
  change Code.wp _ _ _ _ (v1.alloc (pageO b1 c1))
  generalize v1.alloc (pageO b1 c1) = v2 at T2 ⊢
  generalize v1.heap.size = pb at T2 ⊢
  go_upto_region 3 with (go_at_call 10; refine (blank_is _).mono ?_; rintro e v3 ⟨_, rfl, b2, c2, S2, rfl, hT, hs, hB⟩; (have T3 : Hid (PQ v3 b2 c2 S2 0 (fun _ => 0) 0 (fun _ => 0) ∧ (∀ k, S2 k → v2.heap.size ≤ k) ∧ Below v2.heap.size v2 v3) := ⟨hT, hs, hB⟩); clear hT hs hB; unfold pageV)
  have L1 : pb < v2.heap.size := World.block_lt_of_cell? v2 _ T2.out.2.1
  have T4 : Hid (TwoP w (v3.alloc (pageO b2 c2)) pb v3.heap.size b1 c1 b2 c2) := by
    have kb : Below v2.heap.size v2 (v3.alloc (pageO b2 c2)) := T3.out.2.2.alloc T3.out.2.2.size _
    have ka : Below v3.heap.size v3 (v3.alloc (pageO b2 c2)) := (Below.refl _ _).alloc (Nat.le_refl _) _
    refine ⟨⟨S1, S2, 0, 0, _, _, T2.out.1.past kb, T3.out.1.past ka, fun k a b => ?_, fun k a => ?_, T2.out.2.2.2.1, fun e => ?_, fun e => ?_, fun e => ?_⟩, (kb.cell (p := ⟨pb, 0, none⟩) L1).trans T2.out.2.1, (kb.cell (p := ⟨pb, 1, none⟩) L1).trans T2.out.2.2.1, ?_, ?_, T2.out.2.2.2.2.2.trans (kb.mono T2.out.2.2.2.2.2.size)⟩
    · have := T2.out.1.lt k a; have := T3.out.2.1 k b; omega
    · rcases a with a | a
      · exact T2.out.2.2.2.2.1 k a
      · exact Nat.le_trans T2.out.2.2.2.2.2.size (T3.out.2.1 k a)
    · have := T2.out.1.lt _ e; have := T3.out.2.2.size; omega
    · have := T3.out.2.1 _ e; omega
    · have := T3.out.1.lt _ e; omega
    · unfold pageO; rw [World.cell?_alloc_at _ _ _ _ rfl]; rfl
    · unfold pageO; rw [World.cell?_alloc_at _ _ _ _ rfl]; rfl
  clear T2 T3 L1
  change Code.wp _ _ _ _ (v3.alloc (pageO b2 c2))
  generalize v3.alloc (pageO b2 c2) = v4 at T4 ⊢
  generalize v3.heap.size = qb at T4 ⊢
  obtain ⟨_, p0, p1, q0, q1, _⟩ := T4.out
  go_upto_region 5 with fail
  clear p0 p1 q0 q1
  go_wp2
  go_loopw [5] (fun si wr => ∃ k : Nat, k ≤ n ∧ si = .int .i64 (k : Int) ∧ TwoP w wr pb qb b1 c1 b2 c2) (fun si _ => n - (intOf si).toNat)
  case atStart => exact ⟨0, by omega, rfl, T4.out⟩
  case round =>
    obtain ⟨k, hk, rfl, hA⟩ := hrel
    have A0 : Hid (TwoP w wr pb qb b1 c1 b2 c2) := hA
    clear hA T4
    by_cases hkn : k < n
    · have kI : (k : Int) < (n : Int) := by omega
      obtain ⟨g, a, rfl, hOp⟩ := HO.out (by omega)
      have OK : Hid (OpAt w g (a + k * 14) (os k) ∧ OpOk w (os k)) := hOp k hkn
      clear hOp
      obtain ⟨_, p0, p1, q0, q1, _⟩ := A0.out
      go_upto_region 9 with fail
      have A1 : Hid (TwoP w (wr.alloc (pageO b1 c1)) pb qb b1 c1 b2 c2) := A0.out.past ((Below.refl _ _).alloc (Nat.le_refl _) _)
      have s0 : (wr.alloc (pageO b1 c1)).cell? ⟨wr.heap.size, 0, none⟩ = some (.pointer (some ⟨b1, 0, none⟩)) ∧ (wr.alloc (pageO b1 c1)).cell? ⟨wr.heap.size, 1, none⟩ = some (.pointer (some ⟨c1, 0, none⟩)) ∧ (wr.alloc (pageO b1 c1)).frozen? ⟨wr.heap.size, 0, none⟩ = false ∧ (wr.alloc (pageO b1 c1)).frozen? ⟨wr.heap.size, 1, none⟩ = false := by
        unfold pageO; simp [World.cell?_alloc_at, World.frozen?_alloc_at]
      have SB : Hid _ := s0
      have LB : Hid (wr.heap.size ≤ wr.heap.size ∧ Below wr.heap.size wr (wr.alloc (pageO b1 c1))) := ⟨Nat.le_refl _, (Below.refl _ _).alloc (Nat.le_refl _) _⟩
      clear s0 p0 p1 q0 q1
      change Code.wp _ _ _ _ (wr.alloc (pageO b1 c1))
      generalize wr.alloc (pageO b1 c1) = v5 at A1 SB LB ⊢
      obtain ⟨sb, esb⟩ : ∃ sb, wr.heap.size = sb := ⟨_, rfl⟩
      rw [esb] at SB ⊢
      have LS : Hid (wr.heap.size ≤ sb ∧ Below wr.heap.size wr v5) := ⟨by omega, LB.out.2⟩
      clear esb LB
      have tc : v5.cell? ⟨g, a + k * 14 + 1, none⟩ = some (.bool (os k).tw) := (A1.out.bel.cell (p := ⟨g, a + k * 14 + 1, none⟩) (World.block_lt_of_cell? w _ (OK.out.1 1 _ rfl))).trans (OK.out.1 1 _ rfl)
      obtain ⟨tw, etw⟩ : ∃ tw, (os k).tw = tw := ⟨_, rfl⟩
      rw [etw] at tc
      have DONE : Hid (∀ W, Below wr.heap.size wr W → Calls Try.prog 11 #[pageV (pick2 tw b1 b2) (pick2 tw c1 c2), opV (os k).kd (os k).tw (os k).N (os k).M (os k).P (os k).X (os k).Y (os k).B] W fun e w' => e = .returned (.bool true) ∧ TwoP w w' pb qb b1 c1 b2 c2 ∧ ∃ S, But S W w' ∧ ∀ j, S j → j < wr.heap.size ∧ w.heap.size ≤ j) := fun W hW => by
        obtain ⟨_, ⟨f1, f2, f3⟩, f4, f5, f6, f7, _⟩ := OK.out
        exact A0.out.paged hW tw _ _ _ _ _ _ _ _ _ _ f6 f7 f1 f2 f3 f4 f5
      clear etw
      cases tw
      · skip
        have PK : Hid (pick2 false b1 b2 = b1 ∧ pick2 false c1 c2 = c1) := ⟨rfl, rfl⟩
        rw [PK.out.1, PK.out.2] at DONE
        go_upto_region 11 with fail
        clear tc
        have OA : Hid (OpAt v5.drew g (a + k * 14) (os k)) := fun j x hx => (A1.out.bel.drew.cell (p := ⟨g, a + k * 14 + j, none⟩) (World.block_lt_of_cell? w _ (OK.out.1 j x hx))).trans (OK.out.1 j x hx)
        have D1 : Hid (Below wr.heap.size wr v5.drew) := LS.out.2.drew
        have GL : Hid (g < w.heap.size) := World.block_lt_of_cell? w _ (OK.out.1 0 _ rfl)
        refine wp_region_held_drew (S := fun V' => (V'.cell? ⟨sb, 0, none⟩ = some (.pointer (some ⟨b1, 0, none⟩)) ∧ V'.cell? ⟨sb, 1, none⟩ = some (.pointer (some ⟨c1, 0, none⟩))) ∧ OpAt V' g (a + k * 14) (os k)) (by kernel_rfl) ⟨⟨SB.out.1, SB.out.2.1⟩, OA.out⟩ (fun hHeld => ?_)
        generalize v5.drew = z0 at hHeld D1 ⊢
        refine wpAnyH_take (i := 0) (v := pageV b1 c1) ov0 (by kernel_rfl) (by kernel_rfl) (by kernel_rfl) (fun _ _ _ h => h) (Or.inl ⟨by rfl, fun V' hS => ?_⟩) hHeld ?_
        · have q0 := hS.1.1
          have q1 := hS.1.2
          unfold pageV
          go_simp
        simp only [Act.put, List.setIfInBounds_toArray, List.set_cons_zero, List.set_cons_succ]
        refine wpAnyH_take (i := 1) (v := .slice (some ⟨g, a, none⟩) n cap) ov1 (by kernel_rfl) (by kernel_rfl) (by kernel_rfl) (fun _ _ _ h => h) (Or.inl ⟨by rfl, fun V' hS => ?_⟩) hHeld ?_
        · go_simp
        simp only [Act.put, List.setIfInBounds_toArray, List.set_cons_zero, List.set_cons_succ]
        refine wpAnyH_take (i := 2) (v := .int .i64 (k : Int)) ov2 (by kernel_rfl) (by kernel_rfl) (by kernel_rfl) (fun _ _ _ h => h) (Or.inl ⟨by rfl, fun V' hS => ?_⟩) hHeld ?_
        · go_simp
        simp only [Act.put, List.setIfInBounds_toArray, List.set_cons_zero, List.set_cons_succ]
        refine wpAnyH_take (i := 3) (v := .pointer (some ⟨g, a + k * 14, none⟩)) ov3 (by kernel_rfl) (by kernel_rfl) (by kernel_rfl) (fun _ _ _ h => h) (Or.inl ⟨by rfl, fun V' hS => ?_⟩) hHeld ?_
        · go_simp
        simp only [Act.put, List.setIfInBounds_toArray, List.set_cons_zero, List.set_cons_succ]
        refine wpAnyH_take (i := 4) (v := opV (os k).kd (os k).tw (os k).N (os k).M (os k).P (os k).X (os k).Y (os k).B) ov4 (by kernel_rfl) (by kernel_rfl) (by kernel_rfl) (fun _ _ _ h => h) (Or.inl ⟨by rfl, fun V' hS => ?_⟩) hHeld ?_
        · have c0 : V'.cell? ⟨g, a + k * 14, none⟩ = some (.int .i64 (os k).kd) := hS.2 0 _ rfl
          have c1 : V'.cell? ⟨g, a + k * 14 + 1, none⟩ = some (.bool (os k).tw) := hS.2 1 _ rfl
          have c2 : V'.cell? ⟨g, a + k * 14 + 2, none⟩ = some (.int .i64 (os k).N) := hS.2 2 _ rfl
          have c3 : V'.cell? ⟨g, a + k * 14 + 3, none⟩ = some (.int .i64 (os k).M) := hS.2 3 _ rfl
          have c4 : V'.cell? ⟨g, a + k * 14 + 4, none⟩ = some (.int .i64 (os k).P) := hS.2 4 _ rfl
          have c5 : V'.cell? ⟨g, a + k * 14 + 5, none⟩ = some (.int .u64 (os k).X.a) := hS.2 5 _ rfl
          have c6 : V'.cell? ⟨g, a + k * 14 + 6, none⟩ = some (.int .u64 (os k).X.b) := hS.2 6 _ rfl
          have c7 : V'.cell? ⟨g, a + k * 14 + 7, none⟩ = some (.int .u64 (os k).X.c) := hS.2 7 _ rfl
          have c8 : V'.cell? ⟨g, a + k * 14 + 8, none⟩ = some (.int .u64 (os k).X.d) := hS.2 8 _ rfl
          have c9 : V'.cell? ⟨g, a + k * 14 + 9, none⟩ = some (.int .u64 (os k).Y.a) := hS.2 9 _ rfl
          have c10 : V'.cell? ⟨g, a + k * 14 + 10, none⟩ = some (.int .u64 (os k).Y.b) := hS.2 10 _ rfl
          have c11 : V'.cell? ⟨g, a + k * 14 + 11, none⟩ = some (.int .u64 (os k).Y.c) := hS.2 11 _ rfl
          have c12 : V'.cell? ⟨g, a + k * 14 + 12, none⟩ = some (.int .u64 (os k).Y.d) := hS.2 12 _ rfl
          have c13 : V'.cell? ⟨g, a + k * 14 + 13, none⟩ = some (.slice (os k).ba (os k).bn (os k).bc) := hS.2 13 _ rfl
          unfold opV OpR.B
          go_simp
        simp only [Act.put, List.setIfInBounds_toArray, List.set_cons_zero, List.set_cons_succ]
        refine wpAnyH_ready (rs := [5]) (by kernel_rfl) (by simp) ?_
        refine AllReadyH.cons ov5 (fun K hK => ?_) AllReadyH.nil
        rw [if_pos (by rfl)]
        go_simp
        refine (DONE.out z0 D1.out).mono ?_
        rintro e v7 ⟨rfl, h1, SX, h2, h3⟩
        have A2 : Hid (TwoP w v7 pb qb b1 c1 b2 c2) := h1
        have hH2 := keep11 h2 h3 LS.out.1 GL.out hHeld
        clear h1 h2 h3
        (try go_wp2_with fail)
        refine hK.out _ _ hH2 (fun _ => ?_)
        clear hK K
        (try simp only [Act.put, List.setIfInBounds_toArray, List.set_cons_zero, List.set_cons_succ])
        refine wpAnyH_take (i := 6) (v := .bool false) ov6 (by kernel_rfl) (by kernel_rfl) (by kernel_rfl) (fun _ _ _ h => h) (Or.inl ⟨by rfl, fun V' hS => ?_⟩) hH2 ?_
        · go_simp
        simp only [Act.put, List.setIfInBounds_toArray, List.set_cons_zero, List.set_cons_succ]
        refine wpAnyH_done (by kernel_rfl) ?_ _
        go_wp2
        go_roundw
        case rel => exact ⟨k + 1, by omega, by go_num, A2.out⟩
        case measure => simp [intOf]; omega
      · skip
        have PK : Hid (pick2 true b1 b2 = b2 ∧ pick2 true c1 c2 = c2) := ⟨rfl, rfl⟩
        rw [PK.out.1, PK.out.2] at DONE
        obtain ⟨_, p0, p1, q0, q1, _⟩ := A1.out
        obtain ⟨t0, t1, t2, t3⟩ := SB.out
        go_upto_region 11 with fail
        clear tc p0 p1 q0 q1
        have A3 : Hid (TwoP w ((v5.setCell ⟨sb, 0, none⟩ (.pointer (some ⟨b2, 0, none⟩))).setCell ⟨sb, 1, none⟩ (.pointer (some ⟨c2, 0, none⟩))) pb qb b1 c1 b2 c2) := A0.out.past ((LS.out.2.setCell LS.out.1 _).setCell LS.out.1 _)
        have S3 : Hid (((v5.setCell ⟨sb, 0, none⟩ (.pointer (some ⟨b2, 0, none⟩))).setCell ⟨sb, 1, none⟩ (.pointer (some ⟨c2, 0, none⟩))).cell? ⟨sb, 0, none⟩ = some (.pointer (some ⟨b2, 0, none⟩)) ∧ ((v5.setCell ⟨sb, 0, none⟩ (.pointer (some ⟨b2, 0, none⟩))).setCell ⟨sb, 1, none⟩ (.pointer (some ⟨c2, 0, none⟩))).cell? ⟨sb, 1, none⟩ = some (.pointer (some ⟨c2, 0, none⟩))) := ⟨by rw [set_off _ (by omega)]; exact World.cell?_setCell_same _ _ _ t0, World.cell?_setCell_same _ _ _ ((set_off _ (by omega)).trans t1)⟩
        have LZ : Hid (Below wr.heap.size wr ((v5.setCell ⟨sb, 0, none⟩ (.pointer (some ⟨b2, 0, none⟩))).setCell ⟨sb, 1, none⟩ (.pointer (some ⟨c2, 0, none⟩)))) := (LS.out.2.setCell LS.out.1 _).setCell LS.out.1 _
        generalize (v5.setCell ⟨sb, 0, none⟩ (.pointer (some ⟨b2, 0, none⟩))).setCell ⟨sb, 1, none⟩ (.pointer (some ⟨c2, 0, none⟩)) = v6 at A3 S3 LZ ⊢
        clear t0 t1 t2 t3
        have OA : Hid (OpAt v6.drew g (a + k * 14) (os k)) := fun j x hx => (A3.out.bel.drew.cell (p := ⟨g, a + k * 14 + j, none⟩) (World.block_lt_of_cell? w _ (OK.out.1 j x hx))).trans (OK.out.1 j x hx)
        have D1 : Hid (Below wr.heap.size wr v6.drew) := LZ.out.drew
        have GL : Hid (g < w.heap.size) := World.block_lt_of_cell? w _ (OK.out.1 0 _ rfl)
        refine wp_region_held_drew (S := fun V' => (V'.cell? ⟨sb, 0, none⟩ = some (.pointer (some ⟨b2, 0, none⟩)) ∧ V'.cell? ⟨sb, 1, none⟩ = some (.pointer (some ⟨c2, 0, none⟩))) ∧ OpAt V' g (a + k * 14) (os k)) (by kernel_rfl) ⟨⟨S3.out.1, S3.out.2⟩, OA.out⟩ (fun hHeld => ?_)
        generalize v6.drew = z0 at hHeld D1 ⊢
        refine wpAnyH_take (i := 0) (v := pageV b2 c2) ov0 (by kernel_rfl) (by kernel_rfl) (by kernel_rfl) (fun _ _ _ h => h) (Or.inl ⟨by rfl, fun V' hS => ?_⟩) hHeld ?_
        · have q0 := hS.1.1
          have q1 := hS.1.2
          unfold pageV
          go_simp
        simp only [Act.put, List.setIfInBounds_toArray, List.set_cons_zero, List.set_cons_succ]
        refine wpAnyH_take (i := 1) (v := .slice (some ⟨g, a, none⟩) n cap) ov1 (by kernel_rfl) (by kernel_rfl) (by kernel_rfl) (fun _ _ _ h => h) (Or.inl ⟨by rfl, fun V' hS => ?_⟩) hHeld ?_
        · go_simp
        simp only [Act.put, List.setIfInBounds_toArray, List.set_cons_zero, List.set_cons_succ]
        refine wpAnyH_take (i := 2) (v := .int .i64 (k : Int)) ov2 (by kernel_rfl) (by kernel_rfl) (by kernel_rfl) (fun _ _ _ h => h) (Or.inl ⟨by rfl, fun V' hS => ?_⟩) hHeld ?_
        · go_simp
        simp only [Act.put, List.setIfInBounds_toArray, List.set_cons_zero, List.set_cons_succ]
        refine wpAnyH_take (i := 3) (v := .pointer (some ⟨g, a + k * 14, none⟩)) ov3 (by kernel_rfl) (by kernel_rfl) (by kernel_rfl) (fun _ _ _ h => h) (Or.inl ⟨by rfl, fun V' hS => ?_⟩) hHeld ?_
        · go_simp
        simp only [Act.put, List.setIfInBounds_toArray, List.set_cons_zero, List.set_cons_succ]
        refine wpAnyH_take (i := 4) (v := opV (os k).kd (os k).tw (os k).N (os k).M (os k).P (os k).X (os k).Y (os k).B) ov4 (by kernel_rfl) (by kernel_rfl) (by kernel_rfl) (fun _ _ _ h => h) (Or.inl ⟨by rfl, fun V' hS => ?_⟩) hHeld ?_
        · have c0 : V'.cell? ⟨g, a + k * 14, none⟩ = some (.int .i64 (os k).kd) := hS.2 0 _ rfl
          have c1 : V'.cell? ⟨g, a + k * 14 + 1, none⟩ = some (.bool (os k).tw) := hS.2 1 _ rfl
          have c2 : V'.cell? ⟨g, a + k * 14 + 2, none⟩ = some (.int .i64 (os k).N) := hS.2 2 _ rfl
          have c3 : V'.cell? ⟨g, a + k * 14 + 3, none⟩ = some (.int .i64 (os k).M) := hS.2 3 _ rfl
          have c4 : V'.cell? ⟨g, a + k * 14 + 4, none⟩ = some (.int .i64 (os k).P) := hS.2 4 _ rfl
          have c5 : V'.cell? ⟨g, a + k * 14 + 5, none⟩ = some (.int .u64 (os k).X.a) := hS.2 5 _ rfl
          have c6 : V'.cell? ⟨g, a + k * 14 + 6, none⟩ = some (.int .u64 (os k).X.b) := hS.2 6 _ rfl
          have c7 : V'.cell? ⟨g, a + k * 14 + 7, none⟩ = some (.int .u64 (os k).X.c) := hS.2 7 _ rfl
          have c8 : V'.cell? ⟨g, a + k * 14 + 8, none⟩ = some (.int .u64 (os k).X.d) := hS.2 8 _ rfl
          have c9 : V'.cell? ⟨g, a + k * 14 + 9, none⟩ = some (.int .u64 (os k).Y.a) := hS.2 9 _ rfl
          have c10 : V'.cell? ⟨g, a + k * 14 + 10, none⟩ = some (.int .u64 (os k).Y.b) := hS.2 10 _ rfl
          have c11 : V'.cell? ⟨g, a + k * 14 + 11, none⟩ = some (.int .u64 (os k).Y.c) := hS.2 11 _ rfl
          have c12 : V'.cell? ⟨g, a + k * 14 + 12, none⟩ = some (.int .u64 (os k).Y.d) := hS.2 12 _ rfl
          have c13 : V'.cell? ⟨g, a + k * 14 + 13, none⟩ = some (.slice (os k).ba (os k).bn (os k).bc) := hS.2 13 _ rfl
          unfold opV OpR.B
          go_simp
        simp only [Act.put, List.setIfInBounds_toArray, List.set_cons_zero, List.set_cons_succ]
        refine wpAnyH_ready (rs := [5]) (by kernel_rfl) (by simp) ?_
        refine AllReadyH.cons ov5 (fun K hK => ?_) AllReadyH.nil
        rw [if_pos (by rfl)]
        go_simp
        refine (DONE.out z0 D1.out).mono ?_
        rintro e v7 ⟨rfl, h1, SX, h2, h3⟩
        have A2 : Hid (TwoP w v7 pb qb b1 c1 b2 c2) := h1
        have hH2 := keep11 h2 h3 LS.out.1 GL.out hHeld
        clear h1 h2 h3
        (try go_wp2_with fail)
        refine hK.out _ _ hH2 (fun _ => ?_)
        clear hK K
        (try simp only [Act.put, List.setIfInBounds_toArray, List.set_cons_zero, List.set_cons_succ])
        refine wpAnyH_take (i := 6) (v := .bool false) ov6 (by kernel_rfl) (by kernel_rfl) (by kernel_rfl) (fun _ _ _ h => h) (Or.inl ⟨by rfl, fun V' hS => ?_⟩) hH2 ?_
        · go_simp
        simp only [Act.put, List.setIfInBounds_toArray, List.set_cons_zero, List.set_cons_succ]
        refine wpAnyH_done (by kernel_rfl) ?_ _
        go_wp2
        go_roundw
        case rel => exact ⟨k + 1, by omega, by go_num, A2.out⟩
        case measure => simp [intOf]; omega
    · have kI : ¬ (k : Int) < (n : Int) := by omega
      go_upto_region 13 with fail
      clear kI HO hkn hk
      obtain ⟨n1, n2, l1, l2, LC0⟩ := A0.out.lens
      have LC : Hid _ := LC0
      clear LC0 l1 l2
      have ZB : Hid (Below wr.heap.size wr wr.drew) := (Below.refl _ _).drew
      have D1 : Hid (TwoP w wr.drew pb qb b1 c1 b2 c2) := A0.out.drew
      refine wp_region_held_drew (S := fun V' => (V'.cell? ⟨pb, 0, none⟩ = some (.pointer (some ⟨b1, 0, none⟩)) ∧ V'.cell? ⟨pb, 1, none⟩ = some (.pointer (some ⟨c1, 0, none⟩))) ∧ V'.cell? ⟨qb, 0, none⟩ = some (.pointer (some ⟨b2, 0, none⟩)) ∧ V'.cell? ⟨qb, 1, none⟩ = some (.pointer (some ⟨c2, 0, none⟩))) (by kernel_rfl) ⟨⟨D1.out.p0, D1.out.p1⟩, D1.out.q0, D1.out.q1⟩ (fun hHeld => ?_)
      generalize wr.drew = z0 at hHeld D1 ZB ⊢
      clear A0
      refine wpAnyH_take (i := 0) (v := .pointer (some ⟨pb, 0, none⟩)) ov0 (by kernel_rfl) (by kernel_rfl) (by kernel_rfl) (fun _ _ _ h => h) (Or.inl ⟨by rfl, fun V' hS => ?_⟩) hHeld ?_
      · go_simp
      simp only [Act.put, List.setIfInBounds_toArray, List.set_cons_zero, List.set_cons_succ]
      refine wpAnyH_take (i := 1) (v := .pointer (some ⟨b1, 0, none⟩)) ov1 (by kernel_rfl) (by kernel_rfl) (by kernel_rfl) (fun _ _ _ h => h) (Or.inl ⟨by rfl, fun V' hS => ?_⟩) hHeld ?_
      · have q0 := hS.1.1
        go_simp
      simp only [Act.put, List.setIfInBounds_toArray, List.set_cons_zero, List.set_cons_succ]
      refine wpAnyH_take (i := 3) (v := .pointer (some ⟨pb, 1, none⟩)) ov3 (by kernel_rfl) (by kernel_rfl) (by kernel_rfl) (fun _ _ _ h => h) (Or.inl ⟨by rfl, fun V' hS => ?_⟩) hHeld ?_
      · go_simp
      simp only [Act.put, List.setIfInBounds_toArray, List.set_cons_zero, List.set_cons_succ]
      refine wpAnyH_take (i := 4) (v := .pointer (some ⟨c1, 0, none⟩)) ov4 (by kernel_rfl) (by kernel_rfl) (by kernel_rfl) (fun _ _ _ h => h) (Or.inl ⟨by rfl, fun V' hS => ?_⟩) hHeld ?_
      · have q0 := hS.1.2
        go_simp
      simp only [Act.put, List.setIfInBounds_toArray, List.set_cons_zero, List.set_cons_succ]
      refine wpAnyH_ready (rs := [2]) (by kernel_rfl) (by simp) ?_
      refine AllReadyH.cons ov2 (fun K hK => ?_) AllReadyH.nil
      rw [if_pos (by rfl)]
      go_simp
      refine ((LC.out z0 ZB.out).1).mono ?_
      rintro e w' ⟨rfl, hw⟩
      have hw2 := hw.symm
      clear hw
      subst hw2
      (try go_wp2_with fail)
      refine hK.out _ _ hHeld (fun _ => ?_)
      clear hK K
      (try simp only [Act.put, List.setIfInBounds_toArray, List.set_cons_zero, List.set_cons_succ])
      refine wpAnyH_ready (rs := [5]) (by kernel_rfl) (by simp) ?_
      refine AllReadyH.cons ov5 (fun K hK => ?_) AllReadyH.nil
      rw [if_pos (by rfl)]
      go_simp
      refine ((LC.out z0 ZB.out).2.1).mono ?_
      rintro e w' ⟨rfl, hw⟩
      have hw2 := hw.symm
      clear hw
      subst hw2
      (try go_wp2_with fail)
      refine hK.out _ _ hHeld (fun _ => ?_)
      clear hK K
      (try simp only [Act.put, List.setIfInBounds_toArray, List.set_cons_zero, List.set_cons_succ])
      refine wpAnyH_take (i := 6) (v := .bool false) ov6 (by kernel_rfl) (by kernel_rfl) (by kernel_rfl) (fun _ _ _ h => h) (Or.inl ⟨by rfl, fun V' hS => ?_⟩) hHeld ?_
      · go_simp
      simp only [Act.put, List.setIfInBounds_toArray, List.set_cons_zero, List.set_cons_succ]
      refine wpAnyH_take (i := 7) (v := .bool false) ov7 (by kernel_rfl) (by kernel_rfl) (by kernel_rfl) (fun _ _ _ h => h) (Or.inl ⟨by rfl, fun V' hS => ?_⟩) hHeld ?_
      · go_simp
      simp only [Act.put, List.setIfInBounds_toArray, List.set_cons_zero, List.set_cons_succ]
      refine wpAnyH_take (i := 8) (v := .pointer (some ⟨qb, 0, none⟩)) ov8 (by kernel_rfl) (by kernel_rfl) (by kernel_rfl) (fun _ _ _ h => h) (Or.inl ⟨by rfl, fun V' hS => ?_⟩) hHeld ?_
      · go_simp
      simp only [Act.put, List.setIfInBounds_toArray, List.set_cons_zero, List.set_cons_succ]
      refine wpAnyH_take (i := 9) (v := .pointer (some ⟨b2, 0, none⟩)) ov9 (by kernel_rfl) (by kernel_rfl) (by kernel_rfl) (fun _ _ _ h => h) (Or.inl ⟨by rfl, fun V' hS => ?_⟩) hHeld ?_
      · have q0 := hS.2.1
        go_simp
      simp only [Act.put, List.setIfInBounds_toArray, List.set_cons_zero, List.set_cons_succ]
      refine wpAnyH_take (i := 11) (v := .pointer (some ⟨qb, 1, none⟩)) ov11 (by kernel_rfl) (by kernel_rfl) (by kernel_rfl) (fun _ _ _ h => h) (Or.inl ⟨by rfl, fun V' hS => ?_⟩) hHeld ?_
      · go_simp
      simp only [Act.put, List.setIfInBounds_toArray, List.set_cons_zero, List.set_cons_succ]
      refine wpAnyH_take (i := 12) (v := .pointer (some ⟨c2, 0, none⟩)) ov12 (by kernel_rfl) (by kernel_rfl) (by kernel_rfl) (fun _ _ _ h => h) (Or.inl ⟨by rfl, fun V' hS => ?_⟩) hHeld ?_
      · have q0 := hS.2.2
        go_simp
      simp only [Act.put, List.setIfInBounds_toArray, List.set_cons_zero, List.set_cons_succ]
      refine wpAnyH_ready (rs := [10]) (by kernel_rfl) (by simp) ?_
      refine AllReadyH.cons ov10 (fun K hK => ?_) AllReadyH.nil
      rw [if_pos (by rfl)]
      go_simp
      refine ((LC.out z0 ZB.out).2.2.1).mono ?_
      rintro e w' ⟨rfl, hw⟩
      have hw2 := hw.symm
      clear hw
      subst hw2
      (try go_wp2_with fail)
      refine hK.out _ _ hHeld (fun _ => ?_)
      clear hK K
      (try simp only [Act.put, List.setIfInBounds_toArray, List.set_cons_zero, List.set_cons_succ])
      refine wpAnyH_ready (rs := [13]) (by kernel_rfl) (by simp) ?_
      refine AllReadyH.cons ov13 (fun K hK => ?_) AllReadyH.nil
      rw [if_pos (by rfl)]
      go_simp
      refine ((LC.out z0 ZB.out).2.2.2).mono ?_
      rintro e w' ⟨rfl, hw⟩
      have hw2 := hw.symm
      clear hw
      subst hw2
      (try go_wp2_with fail)
      refine hK.out _ _ hHeld (fun _ => ?_)
      clear hK K
      (try simp only [Act.put, List.setIfInBounds_toArray, List.set_cons_zero, List.set_cons_succ])
      refine wpAnyH_take (i := 14) (v := .bool false) ov14 (by kernel_rfl) (by kernel_rfl) (by kernel_rfl) (fun _ _ _ h => h) (Or.inl ⟨by rfl, fun V' hS => ?_⟩) hHeld ?_
      · go_simp
      simp only [Act.put, List.setIfInBounds_toArray, List.set_cons_zero, List.set_cons_succ]
      refine wpAnyH_take (i := 15) (v := .bool false) ov15 (by kernel_rfl) (by kernel_rfl) (by kernel_rfl) (fun _ _ _ h => h) (Or.inl ⟨by rfl, fun V' hS => ?_⟩) hHeld ?_
      · go_simp
      simp only [Act.put, List.setIfInBounds_toArray, List.set_cons_zero, List.set_cons_succ]
      refine wpAnyH_done (by kernel_rfl) ?_ _
      go_upto_region 15 with fail
      clear hHeld ZB LC
      replace D1 : Hid (TwoP w z0.drew pb qb b1 c1 b2 c2) := D1.out.drew
      obtain ⟨m1, m2, l1, l2, LC0⟩ := D1.out.lens
      have LC : Hid _ := LC0
      clear LC0 l2
      refine wp_region_held_drew (S := fun V' => (V'.cell? ⟨pb, 0, none⟩ = some (.pointer (some ⟨b1, 0, none⟩)) ∧ V'.cell? ⟨pb, 1, none⟩ = some (.pointer (some ⟨c1, 0, none⟩))) ∧ V'.cell? ⟨qb, 0, none⟩ = some (.pointer (some ⟨b2, 0, none⟩)) ∧ V'.cell? ⟨qb, 1, none⟩ = some (.pointer (some ⟨c2, 0, none⟩))) (by kernel_rfl) ⟨⟨D1.out.p0, D1.out.p1⟩, D1.out.q0, D1.out.q1⟩ (fun hHeld => ?_)
      generalize z0.drew = zz at hHeld D1 LC ⊢
      refine wpAnyH_take (i := 0) (v := pageV b1 c1) ov0 (by kernel_rfl) (by kernel_rfl) (by kernel_rfl) (fun _ _ _ h => h) (Or.inl ⟨by rfl, fun V' hS => ?_⟩) hHeld ?_
      · have q0 := hS.1.1
        have q1 := hS.1.2
        unfold pageV
        go_simp
      simp only [Act.put, List.setIfInBounds_toArray, List.set_cons_zero, List.set_cons_succ]
      refine wpAnyH_take (i := 1) (v := .pointer (some ⟨pb, 1, none⟩)) ov1 (by kernel_rfl) (by kernel_rfl) (by kernel_rfl) (fun _ _ _ h => h) (Or.inl ⟨by rfl, fun V' hS => ?_⟩) hHeld ?_
      · go_simp
      simp only [Act.put, List.setIfInBounds_toArray, List.set_cons_zero, List.set_cons_succ]
      refine wpAnyH_take (i := 2) (v := .pointer (some ⟨c1, 0, none⟩)) ov2 (by kernel_rfl) (by kernel_rfl) (by kernel_rfl) (fun _ _ _ h => h) (Or.inl ⟨by rfl, fun V' hS => ?_⟩) hHeld ?_
      · have q0 := hS.1.2
        go_simp
      simp only [Act.put, List.setIfInBounds_toArray, List.set_cons_zero, List.set_cons_succ]
      refine wpAnyH_ready (rs := [3]) (by kernel_rfl) (by simp) ?_
      refine AllReadyH.cons ov3 (fun K hK => ?_) AllReadyH.nil
      rw [if_pos (by rfl)]
      go_simp
      refine ((LC.out zz (Below.refl _ _)).2.1).mono ?_
      rintro e w' ⟨rfl, hw⟩
      have hw2 := hw.symm
      clear hw
      subst hw2
      (try go_wp2_with fail)
      refine hK.out _ _ hHeld (fun _ => ?_)
      clear hK K
      (try simp only [Act.put, List.setIfInBounds_toArray, List.set_cons_zero, List.set_cons_succ])
      refine wpAnyH_take (i := 4) (v := opV 7 false 0 (m1 : Int) 0 wz wz (.slice none 0 0)) ov4 (by kernel_rfl) (by kernel_rfl) (by kernel_rfl) (fun _ _ _ h => h) (Or.inl ⟨by rfl, fun V' hS => ?_⟩) hHeld ?_
      · unfold opV wz
        go_simp
      simp only [Act.put, List.setIfInBounds_toArray, List.set_cons_zero, List.set_cons_succ]
      refine wpAnyH_ready (rs := [5]) (by kernel_rfl) (by simp) ?_
      refine AllReadyH.cons ov5 (fun K hK => ?_) AllReadyH.nil
      rw [if_pos (by rfl)]
      go_simp
      refine (TwoP.paged D1.out (Below.refl _ _) false 7 false 0 (m1 : Int) 0 wz wz (.slice none 0 0) 0 (fun _ => 0) (show By w (.slice none 0 0) 0 (fun _ => 0) from ⟨none, 0, rfl, Nat.le_refl _, by omega, fun h => absurd h (by omega)⟩) (fun _ => (by decide : (0 : Nat) < 256)) (by omega) (by omega) (by omega) isW_00 isW_00).mono ?_
      rintro e v7 ⟨rfl, h1, _⟩
      have A2 : Hid (TwoP w v7 pb qb b1 c1 b2 c2) := h1
      clear h1 LC l1
      obtain ⟨k1, k2, _, l2, LD0⟩ := A2.out.lens
      have LD : Hid _ := LD0
      clear LD0
      (try go_wp2_with fail)
      refine hK.out _ _ ⟨⟨A2.out.p0, A2.out.p1⟩, A2.out.q0, A2.out.q1⟩ (fun _ => ?_)
      clear hK K
      (try simp only [Act.put, List.setIfInBounds_toArray, List.set_cons_zero, List.set_cons_succ])
      refine wpAnyH_take (i := 6) (v := .bool true) ov6 (by kernel_rfl) (by kernel_rfl) (by kernel_rfl) (fun _ _ _ h => h) (Or.inl ⟨by rfl, fun V' hS => ?_⟩) ⟨⟨A2.out.p0, A2.out.p1⟩, A2.out.q0, A2.out.q1⟩ ?_
      · go_simp
      simp only [Act.put, List.setIfInBounds_toArray, List.set_cons_zero, List.set_cons_succ]
      refine wpAnyH_take (i := 7) (v := pageV b2 c2) ov7 (by kernel_rfl) (by kernel_rfl) (by kernel_rfl) (fun _ _ _ h => h) (Or.inl ⟨by rfl, fun V' hS => ?_⟩) ⟨⟨A2.out.p0, A2.out.p1⟩, A2.out.q0, A2.out.q1⟩ ?_
      · have q0 := hS.2.1
        have q1 := hS.2.2
        unfold pageV
        go_simp
      simp only [Act.put, List.setIfInBounds_toArray, List.set_cons_zero, List.set_cons_succ]
      refine wpAnyH_take (i := 8) (v := .pointer (some ⟨qb, 1, none⟩)) ov8 (by kernel_rfl) (by kernel_rfl) (by kernel_rfl) (fun _ _ _ h => h) (Or.inl ⟨by rfl, fun V' hS => ?_⟩) ⟨⟨A2.out.p0, A2.out.p1⟩, A2.out.q0, A2.out.q1⟩ ?_
      · go_simp
      simp only [Act.put, List.setIfInBounds_toArray, List.set_cons_zero, List.set_cons_succ]
      refine wpAnyH_take (i := 9) (v := .pointer (some ⟨c2, 0, none⟩)) ov9 (by kernel_rfl) (by kernel_rfl) (by kernel_rfl) (fun _ _ _ h => h) (Or.inl ⟨by rfl, fun V' hS => ?_⟩) ⟨⟨A2.out.p0, A2.out.p1⟩, A2.out.q0, A2.out.q1⟩ ?_
      · have q0 := hS.2.2
        go_simp
      simp only [Act.put, List.setIfInBounds_toArray, List.set_cons_zero, List.set_cons_succ]
      refine wpAnyH_ready (rs := [10]) (by kernel_rfl) (by simp) ?_
      refine AllReadyH.cons ov10 (fun K hK => ?_) AllReadyH.nil
      rw [if_pos (by rfl)]
      go_simp
      refine ((LD.out v7 (Below.refl _ _)).2.2.2).mono ?_
      rintro e w' ⟨rfl, hw⟩
      have hw2 := hw.symm
      clear hw
      subst hw2
      (try go_wp2_with fail)
      refine hK.out _ _ ⟨⟨A2.out.p0, A2.out.p1⟩, A2.out.q0, A2.out.q1⟩ (fun _ => ?_)
      clear hK K
      (try simp only [Act.put, List.setIfInBounds_toArray, List.set_cons_zero, List.set_cons_succ])
      refine wpAnyH_take (i := 11) (v := opV 7 false 0 (k2 : Int) 0 wz wz (.slice none 0 0)) ov11 (by kernel_rfl) (by kernel_rfl) (by kernel_rfl) (fun _ _ _ h => h) (Or.inl ⟨by rfl, fun V' hS => ?_⟩) ⟨⟨A2.out.p0, A2.out.p1⟩, A2.out.q0, A2.out.q1⟩ ?_
      · unfold opV wz
        go_simp
      simp only [Act.put, List.setIfInBounds_toArray, List.set_cons_zero, List.set_cons_succ]
      refine wpAnyH_ready (rs := [12]) (by kernel_rfl) (by simp) ?_
      refine AllReadyH.cons ov12 (fun K hK => ?_) AllReadyH.nil
      rw [if_pos (by rfl)]
      go_simp
      refine (TwoP.paged A2.out (Below.refl _ _) true 7 false 0 (k2 : Int) 0 wz wz (.slice none 0 0) 0 (fun _ => 0) (show By w (.slice none 0 0) 0 (fun _ => 0) from ⟨none, 0, rfl, Nat.le_refl _, by omega, fun h => absurd h (by omega)⟩) (fun _ => (by decide : (0 : Nat) < 256)) (by omega) (by omega) (by omega) isW_00 isW_00).mono ?_
      rintro e v8 ⟨rfl, h1, _⟩
      have A3 : Hid (TwoP w v8 pb qb b1 c1 b2 c2) := h1
      clear h1 LD l2
      (try go_wp2_with fail)
      refine hK.out _ _ ⟨⟨A3.out.p0, A3.out.p1⟩, A3.out.q0, A3.out.q1⟩ (fun _ => ?_)
      clear hK K
      (try simp only [Act.put, List.setIfInBounds_toArray, List.set_cons_zero, List.set_cons_succ])
      refine wpAnyH_take (i := 13) (v := .bool true) ov13 (by kernel_rfl) (by kernel_rfl) (by kernel_rfl) (fun _ _ _ h => h) (Or.inl ⟨by rfl, fun V' hS => ?_⟩) ⟨⟨A3.out.p0, A3.out.p1⟩, A3.out.q0, A3.out.q1⟩ ?_
      · go_simp
      simp only [Act.put, List.setIfInBounds_toArray, List.set_cons_zero, List.set_cons_succ]
      refine wpAnyH_take (i := 14) (v := .bool true) ov14 (by kernel_rfl) (by kernel_rfl) (by kernel_rfl) (fun _ _ _ h => h) (Or.inl ⟨by rfl, fun V' hS => ?_⟩) ⟨⟨A3.out.p0, A3.out.p1⟩, A3.out.q0, A3.out.q1⟩ ?_
      · go_simp
      simp only [Act.put, List.setIfInBounds_toArray, List.set_cons_zero, List.set_cons_succ]
      refine wpAnyH_ready (rs := [15]) (by kernel_rfl) (by simp) ?_
      refine AllReadyH.cons ov15 (fun K hK => ?_) AllReadyH.nil
      rw [if_pos (by rfl)]
      go_simp
      refine (wrote_is v8).mono ?_
      rintro e v9 ⟨rfl, hB⟩
      have A4 : Hid (TwoP w v9 pb qb b1 c1 b2 c2) := A3.out.past hB
      clear hB
      (try go_wp2_with fail)
      refine hK.out _ _ ⟨⟨A4.out.p0, A4.out.p1⟩, A4.out.q0, A4.out.q1⟩ (fun _ => ?_)
      clear hK K
      (try simp only [Act.put, List.setIfInBounds_toArray, List.set_cons_zero, List.set_cons_succ])
      refine wpAnyH_take (i := 16) (v := .bool true) ov16 (by kernel_rfl) (by kernel_rfl) (by kernel_rfl) (fun _ _ _ h => h) (Or.inl ⟨by rfl, fun V' hS => ?_⟩) ⟨⟨A4.out.p0, A4.out.p1⟩, A4.out.q0, A4.out.q1⟩ ?_
      · go_simp
      simp only [Act.put, List.setIfInBounds_toArray, List.set_cons_zero, List.set_cons_succ]
      refine wpAnyH_take (i := 17) (v := .bool true) ov17 (by kernel_rfl) (by kernel_rfl) (by kernel_rfl) (fun _ _ _ h => h) (Or.inl ⟨by rfl, fun V' hS => ?_⟩) ⟨⟨A4.out.p0, A4.out.p1⟩, A4.out.q0, A4.out.q1⟩ ?_
      · go_simp
      simp only [Act.put, List.setIfInBounds_toArray, List.set_cons_zero, List.set_cons_succ]
      refine wpAnyH_done (by kernel_rfl) ?_ _
      go_wp2
      go_ret
      exact ⟨rfl, A4.out.bel⟩
end Go.Proofs.Ytlemnjhdnciddaa
