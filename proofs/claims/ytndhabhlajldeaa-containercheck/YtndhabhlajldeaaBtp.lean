/- The laws' longer: lists that are written over where they lie. -/
import Derived.Test.YtndhabhlajldeaaBtcM
namespace Go.Proofs.Ytndhabhlajldeaa
open Go.RowKit
theorem row_set {W : World} {B n cap s i g : Nat} {t : TypeId} {xs : List Value} (h : W.ownsRow B t s (.slice (some ⟨g, 0, none⟩) n cap) n xs) (u : Value) : (W.setCell ⟨g, i, none⟩ u).ownsRow B t s (.slice (some ⟨g, 0, none⟩) n cap) n (xs.set i u) := by
  obtain ⟨hl, h2⟩ := h
  rcases h2 with ⟨e, _⟩ | ⟨g', c, cur, e, hb, hh, q1, q2, q3, q4⟩
  · cases e
  · injection e with e1 _ e3
    injection e1 with e1
    injection e1 with e1 _ _
    subst e1 e3
    have hc : CBox W g t cur.toList := hh
    have h3 := hc.set i u
    exact ⟨by rw [List.length_set]; exact hl, Or.inr ⟨g, cap, (cur.toList.set i u).toArray, rfl, hb, h3, q1, q2, by simpa using q3, by
      show (cur.toList.set i u).take (n * s) = xs.set i u
      rw [List.take_set, q4]⟩⟩
/-- the first piece is another one -/
theorem PO.set0 {W : World} {B n cap g : Nat} {ll : List (List Nat)} (h : PO B W (.slice (some ⟨g, 0, none⟩) n cap) ll) (hn : ll.length = n) (u : Value) (x : List Nat) (hu : W.ownsRow B 5 1 u x.length (bV x)) : PO B (W.setCell ⟨g, 0, none⟩ u) (.slice (some ⟨g, 0, none⟩) n cap) (ll.set 0 x) := by
  subst hn
  obtain ⟨us, h1, h2, h3⟩ := h
  have hs : But (fun y => y = g) W (W.setCell ⟨g, 0, none⟩ u) := (But.refl (fun y => y = g) W).setCell ⟨g, 0, none⟩ _ (Or.inl rfl)
  have keep : ∀ {y : Value} {m : List Nat}, W.ownsRow B 5 1 y m.length (bV m) → (W.setCell ⟨g, 0, none⟩ u).ownsRow B 5 1 y m.length (bV m) := fun hy => owns_row_blockB hy fun k hk => hs.block k (World.ownsRow.lt hy k hk).2 fun e => owns_apart hy h2 (by decide) hk (by subst e; rfl)
  refine ⟨us.set 0 u, by simp [h1], by rw [List.length_set]; exact row_set h2 u, fun i y l hi hl => ?_⟩
  by_cases e : i = 0
  · subst e
    have hlt : 0 < us.length := by have := (List.getElem?_eq_some_iff.1 hi).1; simpa using this
    have hlt2 : 0 < ll.length := by omega
    rw [List.getElem?_set_self hlt] at hi
    rw [List.getElem?_set_self hlt2] at hl
    cases hi
    cases hl
    exact keep hu
  · rw [List.getElem?_set_ne (by omega)] at hi hl
    exact keep (h3 i y l hi hl)
/-- the lists of a container of one's own -/
structure DQ (B : Nat) (W : World) (tv cv sv dv : Value) (c : Con) : Prop where
  t : W.ownsRow B 77 3 tv c.ts.length (tV c.ts)
  p : PO B W cv c.cs
  s : PO B W sv c.ss
  d : W.ownsRow B 5 1 dv c.d.length (bV c.d)
  ap : ∀ g, OwnV sv g → ¬ OwnV cv g
theorem DQ.past {B : Nat} {W W' : World} {tv cv sv dv : Value} {c : Con} (h : DQ B W tv cv sv dv c) (k : Below W.heap.size W W') : DQ B W' tv cv sv dv c := ⟨owns_past h.t k, h.p.past k, h.s.past k, owns_past h.d k, h.ap⟩
theorem DQ.set1 {B n cap g : Nat} {W : World} {tv sv dv : Value} {c : Con} (h : DQ B W tv (.slice (some ⟨g, 0, none⟩) n cap) sv dv c) (hn : c.cs.length = n) (u : Value) (x : List Nat) (hu : W.ownsRow B 5 1 u x.length (bV x)) : DQ B (W.setCell ⟨g, 0, none⟩ u) tv (.slice (some ⟨g, 0, none⟩) n cap) sv dv ⟨c.ts, c.cs.set 0 x, c.ss, c.d, c.n⟩ := by
  have hs : But (fun y => y = g) W (W.setCell ⟨g, 0, none⟩ u) := (But.refl (fun y => y = g) W).setCell ⟨g, 0, none⟩ _ (Or.inl rfl)
  obtain ⟨us, h1, h2, h3⟩ := id h.p
  have ho : OwnV (.slice (some ⟨g, 0, none⟩) n cap) g := rfl
  refine ⟨owns_row_blockB h.t fun k hk => hs.block k (World.ownsRow.lt h.t k hk).2 fun e => owns_apart h.t h2 (by decide) hk (by subst e; exact ho), h.p.set0 hn u x hu, ?_, owns_row_blockB h.d fun k hk => hs.block k (World.ownsRow.lt h.d k hk).2 fun e => owns_apart h.d h2 (by decide) hk (by subst e; exact ho), h.ap⟩
  obtain ⟨ws, k1, k2, k3⟩ := h.s
  exact ⟨ws, k1, owns_row_blockB k2 fun k hk => hs.block k (World.ownsRow.lt k2 k hk).2 fun e => h.ap k hk (by subst e; exact ho), fun i y l hi hl => owns_row_blockB (k3 i y l hi hl) fun k hk => hs.block k (World.ownsRow.lt (k3 i y l hi hl) k hk).2 fun e => owns_apart (k3 i y l hi hl) h2 (by decide) hk (by subst e; exact ho)⟩
theorem DQ.set2 {B n cap g : Nat} {W : World} {tv cv dv : Value} {c : Con} (h : DQ B W tv cv (.slice (some ⟨g, 0, none⟩) n cap) dv c) (hn : c.ss.length = n) (u : Value) (x : List Nat) (hu : W.ownsRow B 5 1 u x.length (bV x)) : DQ B (W.setCell ⟨g, 0, none⟩ u) tv cv (.slice (some ⟨g, 0, none⟩) n cap) dv ⟨c.ts, c.cs, c.ss.set 0 x, c.d, c.n⟩ := by
  have hs : But (fun y => y = g) W (W.setCell ⟨g, 0, none⟩ u) := (But.refl (fun y => y = g) W).setCell ⟨g, 0, none⟩ _ (Or.inl rfl)
  obtain ⟨us, h1, h2, h3⟩ := id h.s
  have ho : OwnV (.slice (some ⟨g, 0, none⟩) n cap) g := rfl
  refine ⟨owns_row_blockB h.t fun k hk => hs.block k (World.ownsRow.lt h.t k hk).2 fun e => owns_apart h.t h2 (by decide) hk (by subst e; exact ho), ?_, h.s.set0 hn u x hu, owns_row_blockB h.d fun k hk => hs.block k (World.ownsRow.lt h.d k hk).2 fun e => owns_apart h.d h2 (by decide) hk (by subst e; exact ho), h.ap⟩
  obtain ⟨ws, k1, k2, k3⟩ := h.p
  exact ⟨ws, k1, owns_row_blockB k2 fun k hk => hs.block k (World.ownsRow.lt k2 k hk).2 fun e => h.ap k (by subst e; exact ho) hk, fun i y l hi hl => owns_row_blockB (k3 i y l hi hl) fun k hk => hs.block k (World.ownsRow.lt (k3 i y l hi hl) k hk).2 fun e => owns_apart (k3 i y l hi hl) h2 (by decide) hk (by subst e; exact ho)⟩
theorem DQ.setT {B n cap g i : Nat} {W : World} {cv sv dv : Value} {c : Con} (h : DQ B W (.slice (some ⟨g, 0, none⟩) n cap) cv sv dv c) (hn : c.ts.length = n) (u : Value) (ts : List Ty) (he : (tV c.ts).set i u = tV ts) (hl : ts.length = n) : DQ B (W.setCell ⟨g, i, none⟩ u) (.slice (some ⟨g, 0, none⟩) n cap) cv sv dv ⟨ts, c.cs, c.ss, c.d, c.n⟩ := by
  subst hn
  have hs : But (fun y => y = g) W (W.setCell ⟨g, i, none⟩ u) := (But.refl (fun y => y = g) W).setCell ⟨g, i, none⟩ _ (Or.inl rfl)
  have ho : OwnV (.slice (some ⟨g, 0, none⟩) c.ts.length cap) g := rfl
  have np : ∀ {v : Value} {ll : List (List Nat)}, PO B W v ll → PO B (W.setCell ⟨g, i, none⟩ u) v ll := fun hp => by
    obtain ⟨ws, k1, k2, k3⟩ := hp
    exact ⟨ws, k1, owns_row_blockB k2 fun k hk => hs.block k (World.ownsRow.lt k2 k hk).2 fun e => owns_apart k2 h.t (by decide) hk (by subst e; exact ho), fun j y l hi hl => owns_row_blockB (k3 j y l hi hl) fun k hk => hs.block k (World.ownsRow.lt (k3 j y l hi hl) k hk).2 fun e => owns_apart (k3 j y l hi hl) h.t (by decide) hk (by subst e; exact ho)⟩
  refine ⟨?_, np h.p, np h.s, owns_row_blockB h.d fun k hk => hs.block k (World.ownsRow.lt h.d k hk).2 fun e => owns_apart h.d h.t (by decide) hk (by subst e; exact ho), h.ap⟩
  have h9 := row_set (i := i) h.t u
  rw [he] at h9
  show World.ownsRow _ _ _ _ _ ts.length (tV ts)
  rw [hl]
  exact h9
theorem total_set1 (c : Con) (x : List Nat) (y : Nat) (h : c.cs[0]? = some x) : total ⟨c.ts, c.cs.set 0 (x ++ [y]), c.ss, c.d, c.n⟩ = total c + 1 := by
  obtain ⟨l, r, hc⟩ : ∃ l r, c.cs = l :: r := by cases hq : c.cs with
    | nil => rw [hq] at h; cases h
    | cons l r => exact ⟨l, r, rfl⟩
  rw [hc] at h
  simp at h
  subst h
  unfold total fourOf
  simp [hc]
  omega
theorem total_set2 (c : Con) (x : List Nat) (y : Nat) (h : c.ss[0]? = some x) : total ⟨c.ts, c.cs, c.ss.set 0 (x ++ [y]), c.d, c.n⟩ = total c + 1 := by
  obtain ⟨l, r, hc⟩ : ∃ l r, c.ss = l :: r := by cases hq : c.ss with
    | nil => rw [hq] at h; cases h
    | cons l r => exact ⟨l, r, rfl⟩
  rw [hc] at h
  simp at h
  subst h
  unfold total fourOf
  simp [hc]
  omega
/-- in the midst of longer, over: the container's box, the result's, its lists -/
structure LgM (b1 b2 B : Nat) (w W : World) (tv cv sv dv : Value) (z : Int) (c : Con) : Prop where
  c1 : CBox W b1 28 [tv, cv, sv, dv, .int .i64 z]
  c2 : CBox W b2 28 [.slice none 0 0, .slice none 0 0, .slice none 0 0, .slice none 0 0, .int .i64 0]
  dq : DQ B W tv cv sv dv c
  bel : Below B w W
  ge : B ≤ w.heap.size
theorem LgM.past {b1 b2 B : Nat} {w W W' : World} {tv cv sv dv : Value} {z : Int} {c : Con} (h : LgM b1 b2 B w W tv cv sv dv z c) (k : Below W.heap.size W W') : LgM b1 b2 B w W' tv cv sv dv z c := ⟨h.c1.past k, h.c2.past k, h.dq.past k, h.bel.trans (k.mono (Nat.le_trans h.ge h.bel.size)), h.ge⟩
theorem piece_at {B n cap : Nat} {W : World} {ad : Option Addr} {ll : List (List Nat)} (h : PO B W (.slice ad n cap) ll) (hn : ll.length = n) {x : List Nat} (hx : ll[0]? = some x) (hs : x.length ≤ 16777216) : ∃ g ua uc, ad = some ⟨g, 0, none⟩ ∧ B ≤ g ∧ W.cell? ⟨g, 0, none⟩ = some (.slice ua x.length uc) ∧ W.frozen? ⟨g, 0, none⟩ = false ∧ BL (fun _ => True) W (.slice ua x.length uc) x ∧ g < W.heap.size ∧ ∀ t l q, CBox W q t l → t ≠ 22 → q ≠ g := by
  subst hn
  obtain ⟨us, h1, h2, h3⟩ := h
  have h0 : 0 < ll.length := (List.getElem?_eq_some_iff.1 hx).1
  obtain ⟨u0, hu0⟩ : ∃ u, us[0]? = some u := ⟨us[0]'(by omega), List.getElem?_eq_getElem _⟩
  have h4 := h3 0 u0 x hu0 hx
  obtain ⟨ua, uc, rfl⟩ := owns_sl h4
  have hg : ∃ g, ad = some ⟨g, 0, none⟩ := by
    rcases h2.2 with ⟨_, e0⟩ | ⟨g, c9, cur, e, _⟩
    · omega
    · injection e with e _ _; exact ⟨g, e⟩
  obtain ⟨g, rfl⟩ := hg
  have hlt := h2.lt g rfl
  refine ⟨g, ua, uc, rfl, hlt.1, ?_, World.ownsRow.frozenAt h2 0, SL.own h4 (by omega) fun _ _ => trivial, hlt.2, fun t l q hc ht e => own_box h2 hc (Ne.symm ht) (g := g) rfl e.symm⟩
  have := World.ownsRow.cells h2 (g := g) rfl 0 _ hu0
  simpa [Addr.add_mid] using this
theorem LgM.set1 {b1 b2 B n cap g : Nat} {w W : World} {tv sv dv : Value} {z : Int} {c : Con} (h : LgM b1 b2 B w W tv (.slice (some ⟨g, 0, none⟩) n cap) sv dv z c) (hn : c.cs.length = n) (hg : B ≤ g) (g1 : b1 ≠ g) (g2 : b2 ≠ g) (u : Value) (x : List Nat) (hu : W.ownsRow B 5 1 u x.length (bV x)) : LgM b1 b2 B w (W.setCell ⟨g, 0, none⟩ u) tv (.slice (some ⟨g, 0, none⟩) n cap) sv dv z ⟨c.ts, c.cs.set 0 x, c.ss, c.d, c.n⟩ := by
  have hs : But (fun y => y = g) W (W.setCell ⟨g, 0, none⟩ u) := (But.refl (fun y => y = g) W).setCell ⟨g, 0, none⟩ _ (Or.inl rfl)
  exact ⟨h.c1.but hs g1, h.c2.but hs g2, h.dq.set1 hn u x hu, h.bel.trans (hs.below (fun k e => by omega) (Nat.le_trans h.ge h.bel.size)), h.ge⟩
theorem LgM.set2 {b1 b2 B n cap g : Nat} {w W : World} {tv cv dv : Value} {z : Int} {c : Con} (h : LgM b1 b2 B w W tv cv (.slice (some ⟨g, 0, none⟩) n cap) dv z c) (hn : c.ss.length = n) (hg : B ≤ g) (g1 : b1 ≠ g) (g2 : b2 ≠ g) (u : Value) (x : List Nat) (hu : W.ownsRow B 5 1 u x.length (bV x)) : LgM b1 b2 B w (W.setCell ⟨g, 0, none⟩ u) tv cv (.slice (some ⟨g, 0, none⟩) n cap) dv z ⟨c.ts, c.cs, c.ss.set 0 x, c.d, c.n⟩ := by
  have hs : But (fun y => y = g) W (W.setCell ⟨g, 0, none⟩ u) := (But.refl (fun y => y = g) W).setCell ⟨g, 0, none⟩ _ (Or.inl rfl)
  exact ⟨h.c1.but hs g1, h.c2.but hs g2, h.dq.set2 hn u x hu, h.bel.trans (hs.below (fun k e => by omega) (Nat.le_trans h.ge h.bel.size)), h.ge⟩
/-- how long its lists are -/
def Lens (c : Con) (nt nc ns nd : Nat) (z : Int) : Prop := c.ts.length = nt ∧ c.cs.length = nc ∧ c.ss.length = ns ∧ c.d.length = nd ∧ c.n = z
theorem dq_do {B nt nc ns nd tc cc sc dc : Nat} {z : Int} {W : World} {ta ca sa da : Option Addr} {c : Con} (h : DQ B W (.slice ta nt tc) (.slice ca nc cc) (.slice sa ns sc) (.slice da nd dc) c) (k : Lens c nt nc ns nd z) : DO B W (.agg #[.slice ta nt tc, .slice ca nc cc, .slice sa ns sc, .slice da nd dc, .int .i64 z]) c := by
  obtain ⟨rfl, rfl, rfl, rfl, rfl⟩ := k
  exact ⟨ta, tc, ca, cc, sa, sc, da, dc, rfl, h.t, h.p, h.s, h.d, h.ap⟩
theorem do_dq {B : Nat} {W : World} {v : Value} {c : Con} (h : DO B W v c) : ∃ ta tc ca cc sa sc da dc, v = .agg #[.slice ta c.ts.length tc, .slice ca c.cs.length cc, .slice sa c.ss.length sc, .slice da c.d.length dc, .int .i64 c.n] ∧ DQ B W (.slice ta c.ts.length tc) (.slice ca c.cs.length cc) (.slice sa c.ss.length sc) (.slice da c.d.length dc) c := by
  obtain ⟨ta, tc, ca, cc, sa, sc, da, dc, e, k1, k2, k3, k4, k5⟩ := h
  exact ⟨ta, tc, ca, cc, sa, sc, da, dc, e, k1, k2, k3, k4, k5⟩
set_option maxHeartbeats 8000000 in
set_option maxRecDepth 100000 in
theorem longer_is (w : World) (B : Nat) (hB : B ≤ w.heap.size) (v : Value) (c : Con) (h : DO B w v c) (ht : total c ≤ 2097152) : Calls Try.prog 25 #[v] w fun e w' => (∃ v' c', e = .returned v' ∧ DO B w' v' c' ∧ total c' ≤ 2097154) ∧ Below B w w' := by
  obtain ⟨ta, tc, ca, cc, sa, sc, da, dc, rfl, hd⟩ := do_dq h
  have HL : Hid (Lens c c.ts.length c.cs.length c.ss.length c.d.length c.n) := ⟨rfl, rfl, rfl, rfl, rfl⟩
  generalize c.ts.length = nt at *
  generalize c.cs.length = nc at *
  generalize c.ss.length = ns at *
  generalize c.d.length = nd at *
  generalize c.n = z at *
  have HTO : Hid (total c ≤ 2097152) := ht
  have b1 := below_alloc w (.cells #[.slice ta nt tc, .slice ca nc cc, .slice sa ns sc, .slice da nd dc, .int .i64 z] 28)
  have b2 := below_alloc (w.alloc (.cells #[.slice ta nt tc, .slice ca nc cc, .slice sa ns sc, .slice da nd dc, .int .i64 z] 28)) (.cells #[.slice none 0 0, .slice none 0 0, .slice none 0 0, .slice none 0 0, .int .i64 0] 28)
  have s1 : (w.alloc (.cells #[.slice ta nt tc, .slice ca nc cc, .slice sa ns sc, .slice da nd dc, .int .i64 z] 28)).heap.size = w.heap.size + 1 := by simp
  have bb : Below w.heap.size w ((w.alloc (.cells #[.slice ta nt tc, .slice ca nc cc, .slice sa ns sc, .slice da nd dc, .int .i64 z] 28)).alloc (.cells #[.slice none 0 0, .slice none 0 0, .slice none 0 0, .slice none 0 0, .int .i64 0] 28)) := b1.trans (b2.mono (by omega))
  have c2 := CBox.new (w.alloc (.cells #[.slice ta nt tc, .slice ca nc cc, .slice sa ns sc, .slice da nd dc, .int .i64 z] 28)) 28 [.slice none 0 0, .slice none 0 0, .slice none 0 0, .slice none 0 0, .int .i64 0]
  rw [s1] at c2
  have M : Hid (LgM w.heap.size (w.heap.size + 1) B w ((w.alloc (.cells #[.slice ta nt tc, .slice ca nc cc, .slice sa ns sc, .slice da nd dc, .int .i64 z] 28)).alloc (.cells #[.slice none 0 0, .slice none 0 0, .slice none 0 0, .slice none 0 0, .int .i64 0] 28)) (.slice ta nt tc) (.slice ca nc cc) (.slice sa ns sc) (.slice da nd dc) z c) := ⟨(CBox.new w 28 [.slice ta nt tc, .slice ca nc cc, .slice sa ns sc, .slice da nd dc, .int .i64 z]).past b2, c2, hd.past bb, bb.mono hB, hB⟩
  have GL : Hid (B ≤ w.heap.size + 1) := by unfold Hid; omega
  clear h hd ht b1 b2 s1 bb c2 hB
  go_enter Try.func25, Try.ntmps25
  go_upto_region 1 with fail
  generalize w.heap.size + 1 = b2 at M GL ⊢
  generalize w.heap.size = b1 at M ⊢
  generalize (w.alloc _).alloc _ = W0 at M ⊢
  by_cases e1 : nc = 0
  · have a1 : W0.cell? ⟨b1, 1, none⟩ = some (.slice ca nc cc) := M.out.c1.cell 1
    have q1 : ¬ (0 : Int) < (nc : Int) := by omega
    clear e1
    go_upto_region 3 with fail
    clear a1 q1
    by_cases e2 : ns = 0
    · have a2 : W0.cell? ⟨b1, 2, none⟩ = some (.slice sa ns sc) := M.out.c1.cell 2
      have q2 : ¬ (0 : Int) < (ns : Int) := by omega
      clear e2
      go_upto_region 5 with fail
      clear a2 q2
      have x0 : W0.cell? ⟨b1, 0, none⟩ = some (.slice ta nt tc) := M.out.c1.cell 0
      have x1 : W0.cell? ⟨b1, 1, none⟩ = some (.slice ca nc cc) := M.out.c1.cell 1
      have x2 : W0.cell? ⟨b1, 2, none⟩ = some (.slice sa ns sc) := M.out.c1.cell 2
      have x3 : W0.cell? ⟨b1, 3, none⟩ = some (.slice da nd dc) := M.out.c1.cell 3
      have x4 : W0.cell? ⟨b1, 4, none⟩ = some (.int .i64 z) := M.out.c1.cell 4
      have k0 : W0.cell? ⟨b2, 0, none⟩ = some (.slice none 0 0) := M.out.c2.cell 0
      have f0 := CBox.frozen M.out.c2 0
      have k1 : W0.cell? ⟨b2, 1, none⟩ = some (.slice none 0 0) := M.out.c2.cell 1
      have f1 := CBox.frozen M.out.c2 1
      have k2 : W0.cell? ⟨b2, 2, none⟩ = some (.slice none 0 0) := M.out.c2.cell 2
      have f2 := CBox.frozen M.out.c2 2
      have k3 : W0.cell? ⟨b2, 3, none⟩ = some (.slice none 0 0) := M.out.c2.cell 3
      have f3 := CBox.frozen M.out.c2 3
      have k4 : W0.cell? ⟨b2, 4, none⟩ = some (.int .i64 0) := M.out.c2.cell 4
      have f4 := CBox.frozen M.out.c2 4
      have HF : Hid (CBox (((((W0.setCell ⟨b2, 0, none⟩ (.slice ta nt tc)).setCell ⟨b2, 1, none⟩ (.slice ca nc cc)).setCell ⟨b2, 2, none⟩ (.slice sa ns sc)).setCell ⟨b2, 3, none⟩ (.slice da nd dc)).setCell ⟨b2, 4, none⟩ (.int .i64 z)) b2 28 [.slice ta nt tc, .slice ca nc cc, .slice sa ns sc, .slice da nd dc, .int .i64 z] ∧ DQ B (((((W0.setCell ⟨b2, 0, none⟩ (.slice ta nt tc)).setCell ⟨b2, 1, none⟩ (.slice ca nc cc)).setCell ⟨b2, 2, none⟩ (.slice sa ns sc)).setCell ⟨b2, 3, none⟩ (.slice da nd dc)).setCell ⟨b2, 4, none⟩ (.int .i64 z)) (.slice ta nt tc) (.slice ca nc cc) (.slice sa ns sc) (.slice da nd dc) c ∧ Below B w (((((W0.setCell ⟨b2, 0, none⟩ (.slice ta nt tc)).setCell ⟨b2, 1, none⟩ (.slice ca nc cc)).setCell ⟨b2, 2, none⟩ (.slice sa ns sc)).setCell ⟨b2, 3, none⟩ (.slice da nd dc)).setCell ⟨b2, 4, none⟩ (.int .i64 z))) := by
        have hs : But (fun y => y = b2) W0 (((((W0.setCell ⟨b2, 0, none⟩ (.slice ta nt tc)).setCell ⟨b2, 1, none⟩ (.slice ca nc cc)).setCell ⟨b2, 2, none⟩ (.slice sa ns sc)).setCell ⟨b2, 3, none⟩ (.slice da nd dc)).setCell ⟨b2, 4, none⟩ (.int .i64 z)) := ((((((But.refl (fun y => y = b2) W0).setCell ⟨b2, 0, none⟩ _ (Or.inl rfl)).setCell ⟨b2, 1, none⟩ _ (Or.inl rfl)).setCell ⟨b2, 2, none⟩ _ (Or.inl rfl)).setCell ⟨b2, 3, none⟩ _ (Or.inl rfl)).setCell ⟨b2, 4, none⟩ _ (Or.inl rfl))
        have ra : Alien W0 b2 := ⟨_, _, M.out.c2, by decide, by decide, by decide⟩
        exact ⟨(((((M.out.c2.set 0 _).set 1 _).set 2 _).set 3 _).set 4 _), ⟨row_alienT M.out.dq.t hs ra, PO.alien M.out.dq.p hs ra, PO.alien M.out.dq.s hs ra, row_alien M.out.dq.d hs ra, M.out.dq.ap⟩, M.out.bel.trans (hs.below (fun g e => by have := GL.out; omega) (Nat.le_trans M.out.ge M.out.bel.size))⟩
      clear M
      go_wp2
      clear x0 x1 x2 x3 x4 k0 k1 k2 k3 k4 f0 f1 f2 f3 f4
      generalize (((((W0.setCell ⟨b2, 0, none⟩ (.slice ta nt tc)).setCell ⟨b2, 1, none⟩ (.slice ca nc cc)).setCell ⟨b2, 2, none⟩ (.slice sa ns sc)).setCell ⟨b2, 3, none⟩ (.slice da nd dc)).setCell ⟨b2, 4, none⟩ (.int .i64 z)) = Z9 at HF ⊢
      refine bodyPost_ret (v := .agg #[.slice ta nt tc, .slice ca nc cc, .slice sa ns sc, .slice da nd dc, .int .i64 z]) (results_c (p := 2) (ty := 28) Try.results25 _ _ _ ⟨b2, 0, none⟩ rfl (run_loadVar_mid Z9 b2 0 28 [.slice ta nt tc, .slice ca nc cc, .slice sa ns sc, .slice da nd dc, .int .i64 z] _ HF.out.1.range Try.underlying28 rfl (by kernel_rfl))) rfl ?_
      exact ⟨⟨_, c, rfl, dq_do HF.out.2.1 HL.out, by have := HTO.out; omega⟩, HF.out.2.2⟩
    · have q2 : (0 : Int) < (ns : Int) := by omega
      obtain ⟨y2, hx⟩ : ∃ x, c.ss[0]? = some x := ⟨c.ss[0]'(by have := HL.out; unfold Lens at this; omega), List.getElem?_eq_getElem _⟩
      have HX : Hid (c.ss[0]? = some y2) := hx
      have hsx : y2.length ≤ 16777216 := by
        have h1 := (List.sublist_flatten_of_mem (List.mem_of_getElem? hx)).length_le
        have h2 := HTO.out
        unfold total at h2
        omega
      have HSX : Hid (y2.length ≤ 16777216) := hsx
      obtain ⟨g2, ua, uc, eg, r1, r2, r3, r4, r5, r6⟩ := piece_at M.out.dq.s HL.out.2.2.1 hx hsx
      subst eg
      have PA : Hid (W0.cell? ⟨g2, 0, none⟩ = some (.slice ua y2.length uc) ∧ W0.frozen? ⟨g2, 0, none⟩ = false ∧ BL (fun _ => True) W0 (.slice ua y2.length uc) y2 ∧ g2 < W0.heap.size) := ⟨r2, r3, r4, r5⟩
      have PB : Hid (B ≤ g2 ∧ b1 ≠ g2 ∧ b2 ≠ g2) := ⟨r1, r6 _ _ _ M.out.c1 (by decide), r6 _ _ _ M.out.c2 (by decide)⟩
      clear hx hsx r1 r2 r3 r4 r5 r6 e2
      have a2 : W0.cell? ⟨b1, 2, none⟩ = some (.slice (some ⟨g2, 0, none⟩) ns sc) := M.out.c1.cell 2
      go_upto_region 4 with fail
      clear a2 q2
      refine wp_region_held_drew (S := fun V' => CBox V' b1 28 [.slice ta nt tc, .slice ca nc cc, .slice (some ⟨g2, 0, none⟩) ns sc, .slice da nd dc, .int .i64 z]) (by kernel_rfl) (M.out.c1.past below_drew) (fun HH => ?_)
      have BC : Hid (Below W0.heap.size W0 W0.drew) := below_drew
      have M : Hid _ := M
      generalize W0.drew = z1 at HH BC ⊢
      refine wpAnyH_take (i := 0) (v := .pointer (some ⟨b1, 2, none⟩)) ov0 (by kernel_rfl) (by kernel_rfl) (by kernel_rfl) (fun _ _ _ h => h) (Or.inl ⟨by rfl, fun V' hS => ?_⟩) HH ?_
      · go_simp
      simp only [Act.put, List.setIfInBounds_toArray, List.set_cons_zero, List.set_cons_succ]
      refine wpAnyH_take (i := 1) (v := .slice (some ⟨g2, 0, none⟩) ns sc) ov1 (by kernel_rfl) (by kernel_rfl) (by kernel_rfl) (fun _ _ _ h => h) (Or.inl ⟨by rfl, fun V' hS => ?_⟩) HH ?_
      · have c0 := hS.cell 2
        go_simp
      simp only [Act.put, List.setIfInBounds_toArray, List.set_cons_zero, List.set_cons_succ]
      refine wpAnyH_take (i := 2) (v := .pointer (some ⟨b1, 2, none⟩)) ov2 (by kernel_rfl) (by kernel_rfl) (by kernel_rfl) (fun _ _ _ h => h) (Or.inl ⟨by rfl, fun V' hS => ?_⟩) HH ?_
      · go_simp
      simp only [Act.put, List.setIfInBounds_toArray, List.set_cons_zero, List.set_cons_succ]
      refine wpAnyH_take (i := 3) (v := .slice (some ⟨g2, 0, none⟩) ns sc) ov3 (by kernel_rfl) (by kernel_rfl) (by kernel_rfl) (fun _ _ _ h => h) (Or.inl ⟨by rfl, fun V' hS => ?_⟩) HH ?_
      · have c0 := hS.cell 2
        go_simp
      simp only [Act.put, List.setIfInBounds_toArray, List.set_cons_zero, List.set_cons_succ]
      refine wpAnyH_take (i := 4) (v := .pointer (some ⟨g2, 0, none⟩)) ov4 (by kernel_rfl) (by kernel_rfl) (by kernel_rfl) (fun _ _ _ h => h) (Or.inl ⟨by rfl, fun V' hS => ?_⟩) HH ?_
      · go_simp
      simp only [Act.put, List.setIfInBounds_toArray, List.set_cons_zero, List.set_cons_succ]
      refine wpAnyH_ready (rs := [5, 7]) (by kernel_rfl) (by simp) ?_
      refine AllReadyH.cons ov5 (fun K hK => ?_) (AllReadyH.cons ov7 (fun K hK => ?_) AllReadyH.nil)
      · rw [if_pos (by rfl)]
        have c0 := (BC.out.cell (p := ⟨g2, 0, none⟩) PA.out.2.2.2).trans PA.out.1
        go_simp
        clear c0
        refine hK.out _ _ HH (fun _ => ?_)
        clear hK K
        (try simp only [Act.put, List.setIfInBounds_toArray, List.set_cons_zero, List.set_cons_succ])
        refine wpAnyH_ready (rs := [6, 7]) (by kernel_rfl) (by simp) ?_
        refine AllReadyH.cons ov6 (fun K hK => ?_) (AllReadyH.cons ov7 (fun K hK => ?_) AllReadyH.nil)
        · rw [if_pos (by rfl)]
          go_simp
          refine (own_is _ _ y2 (PA.out.2.2.1.past BC.out) HSX.out).mono ?_
          rintro e z1 ⟨v9, rfl, hO, hB⟩
          obtain ⟨oa, oc, rfl⟩ := owns_sl hO
          have FO9 := owns_base hO BC.out.size
          clear hO
          have H9 := HH.past hB
          clear HH
          have HH := H9
          clear H9
          have B9 := BC.out.trans (hB.mono BC.out.size)
          clear BC
          have BC : Hid (Below W0.heap.size W0 z1) := B9
          clear B9
          (try (have q9 := FB.out; clear FB; have FB : Hid (BL (fun _ => True) z1 (.slice (some ⟨bb, 0, none⟩) 1 1) [8]) := q9.past hB; clear q9))
          have FO : Hid (z1.ownsRow W0.heap.size 5 1 (.slice oa y2.length oc) y2.length (bV y2)) := FO9
          clear FO9 hB
          (try go_wp2_with fail)
          refine hK.out _ _ HH (fun _ => ?_)
          clear hK K
          (try simp only [Act.put, List.setIfInBounds_toArray, List.set_cons_zero, List.set_cons_succ])
          refine wpAnyH_ready (rs := [7]) (by kernel_rfl) (by simp) ?_
          refine AllReadyH.cons ov7 (fun K hK => ?_) AllReadyH.nil
          rw [if_pos (by rfl)]
          go_simp
          have hB : Below z1.heap.size z1 (z1.alloc (.cells #[.int .u8 8] 5)) := below_alloc _ _
          have FB9 : BL (fun _ => True) (z1.alloc (.cells #[.int .u8 8] 5)) (.slice (some ⟨z1.heap.size, 0, none⟩) 1 1) [8] := (BL.new z1 [8] (by simp)).mono fun _ _ _ => trivial
          have H9 := HH.past hB
          clear HH
          have HH := H9
          clear H9
          have B9 := BC.out.trans (hB.mono BC.out.size)
          clear BC
          have BC : Hid (Below W0.heap.size W0 (z1.alloc (.cells #[.int .u8 8] 5))) := B9
          clear B9
          (try (have q9 := FO.out; clear FO; have FO : Hid ((z1.alloc (.cells #[.int .u8 8] 5)).ownsRow W0.heap.size 5 1 (.slice oa y2.length oc) y2.length (bV y2)) := owns_past q9 hB; clear q9))
          have FB : Hid _ := FB9
          clear FB9 hB
          refine hK.out _ (z1.alloc (.cells #[.int .u8 8] 5)) HH (fun _ => ?_)
          clear hK K
          (try simp only [Act.put, List.setIfInBounds_toArray, List.set_cons_zero, List.set_cons_succ])
          generalize z1.heap.size = bb at FB ⊢
          (first | generalize (z1.alloc (.cells #[.int .u8 8] 5)) = z1 at HH BC FO FB ⊢ | generalize (z1.alloc (.cells #[.int .u8 8] 5)) = z1 at HH BC FB ⊢)
          refine wpAnyH_ready (rs := [8]) (by kernel_rfl) (by simp) ?_
          refine AllReadyH.cons ov8 (fun K hK => ?_) AllReadyH.nil
          rw [if_pos (by rfl)]
          refine wp_appB _ _ rfl W0.heap.size BC.out.size (.slice oa y2.length oc) y2 rfl FO.out (.slice (some ⟨bb, 0, none⟩) 1 1) [8] rfl FB.out (by have := HSX.out; simp only [List.length_singleton]; omega) ?_
          intro v9 z9 hA
          obtain ⟨oa2, oc2, e9⟩ := owns_sl hA.row
          rw [List.length_append, List.length_singleton] at e9
          subst e9
          have H9 := HH.app hA FO.out (by decide)
          have B9 := BC.out.trans (hA.below FO.out BC.out.size)
          have FO9 := hA.row
          rw [List.length_append, List.length_singleton] at FO9
          clear HH BC FO FB hA
          have HH := H9
          have BC : Hid (Below W0.heap.size W0 z9) := B9
          have FO : Hid (z9.ownsRow W0.heap.size 5 1 (.slice oa2 (y2.length + 1) oc2) (y2.length + 1) (bV (y2 ++ [8]))) := FO9
          clear H9 B9 FO9
          refine hK.out _ z9 HH (fun _ => ?_)
          clear hK K
          (try simp only [Act.put, List.setIfInBounds_toArray, List.set_cons_zero, List.set_cons_succ])
          refine wpAnyH_take (i := 9) (v := .pointer (some ⟨g2, 0, none⟩)) ov9 (by kernel_rfl) (by kernel_rfl) (by kernel_rfl) (fun _ _ _ h => h) (Or.inl ⟨by rfl, fun V' hS => ?_⟩) HH ?_
          · go_simp
          simp only [Act.put, List.setIfInBounds_toArray, List.set_cons_zero, List.set_cons_succ]
          refine wpAnyH_ready (rs := [10]) (by kernel_rfl) (by simp) ?_
          refine AllReadyH.cons ov10 (fun K hK => ?_) AllReadyH.nil
          rw [if_pos (by rfl)]
          have c0 := (BC.out.cell (p := ⟨g2, 0, none⟩) PA.out.2.2.2).trans PA.out.1
          have f0 := (BC.out.frozen (p := ⟨g2, 0, none⟩) PA.out.2.2.2).trans PA.out.2.1
          go_simp
          clear c0 f0
          have M9 : Hid (LgM b1 b2 B w (z9.setCell ⟨g2, 0, none⟩ (.slice oa2 (y2.length + 1) oc2)) (.slice ta nt tc) (.slice ca nc cc) (.slice (some ⟨g2, 0, none⟩) ns sc) (.slice da nd dc) z ⟨c.ts, c.cs, c.ss.set 0 (y2 ++ [8]), c.d, c.n⟩) := (M.out.past BC.out).set2 HL.out.2.2.1 PB.out.1 PB.out.2.1 PB.out.2.2 _ _ (by rw [List.length_append, List.length_singleton]; exact owns_base FO.out (Nat.le_trans M.out.ge M.out.bel.size))
          have H9 := HH.but ((But.refl (fun y => y = g2) z9).setCell ⟨g2, 0, none⟩ (.slice oa2 (y2.length + 1) oc2) (Or.inl rfl)) PB.out.2.1
          refine hK.out _ (z9.setCell ⟨g2, 0, none⟩ (.slice oa2 (y2.length + 1) oc2)) H9 (fun _ => ?_)
          clear hK K
          (try simp only [Act.put, List.setIfInBounds_toArray, List.set_cons_zero, List.set_cons_succ])
          generalize z9.setCell ⟨g2, 0, none⟩ (.slice oa2 (y2.length + 1) oc2) = W2 at M9 H9 ⊢
          clear H9 HH BC FO PA PB M HSX
          have M := M9
          clear M9
          refine wpAnyH_done (by kernel_rfl) ?_ _
          obtain ⟨c2, hc2⟩ : ∃ q : Con, q = ⟨c.ts, c.cs, c.ss.set 0 (y2 ++ [8]), c.d, c.n⟩ := ⟨_, rfl⟩
          rw [← hc2] at M
          have HT9 : Hid (total c2 ≤ 2097154) := by have := total_set2 c y2 8 HX.out; unfold Hid; rw [hc2, this]; have := HTO.out; omega
          have HL9 : Hid (Lens c2 nt nc ns nd z) := by have := HL.out; unfold Lens at this; unfold Hid Lens; rw [hc2]; simp only [List.length_set]; exact this
          clear hc2 HTO HL HX
          have HTO := HT9
          have HL := HL9
          clear HT9 HL9
          go_upto_region 5 with fail
          have x0 : W2.cell? ⟨b1, 0, none⟩ = some (.slice ta nt tc) := M.out.c1.cell 0
          have x1 : W2.cell? ⟨b1, 1, none⟩ = some (.slice ca nc cc) := M.out.c1.cell 1
          have x2 : W2.cell? ⟨b1, 2, none⟩ = some (.slice (some ⟨g2, 0, none⟩) ns sc) := M.out.c1.cell 2
          have x3 : W2.cell? ⟨b1, 3, none⟩ = some (.slice da nd dc) := M.out.c1.cell 3
          have x4 : W2.cell? ⟨b1, 4, none⟩ = some (.int .i64 z) := M.out.c1.cell 4
          have k0 : W2.cell? ⟨b2, 0, none⟩ = some (.slice none 0 0) := M.out.c2.cell 0
          have f0 := CBox.frozen M.out.c2 0
          have k1 : W2.cell? ⟨b2, 1, none⟩ = some (.slice none 0 0) := M.out.c2.cell 1
          have f1 := CBox.frozen M.out.c2 1
          have k2 : W2.cell? ⟨b2, 2, none⟩ = some (.slice none 0 0) := M.out.c2.cell 2
          have f2 := CBox.frozen M.out.c2 2
          have k3 : W2.cell? ⟨b2, 3, none⟩ = some (.slice none 0 0) := M.out.c2.cell 3
          have f3 := CBox.frozen M.out.c2 3
          have k4 : W2.cell? ⟨b2, 4, none⟩ = some (.int .i64 0) := M.out.c2.cell 4
          have f4 := CBox.frozen M.out.c2 4
          have HF : Hid (CBox (((((W2.setCell ⟨b2, 0, none⟩ (.slice ta nt tc)).setCell ⟨b2, 1, none⟩ (.slice ca nc cc)).setCell ⟨b2, 2, none⟩ (.slice (some ⟨g2, 0, none⟩) ns sc)).setCell ⟨b2, 3, none⟩ (.slice da nd dc)).setCell ⟨b2, 4, none⟩ (.int .i64 z)) b2 28 [.slice ta nt tc, .slice ca nc cc, .slice (some ⟨g2, 0, none⟩) ns sc, .slice da nd dc, .int .i64 z] ∧ DQ B (((((W2.setCell ⟨b2, 0, none⟩ (.slice ta nt tc)).setCell ⟨b2, 1, none⟩ (.slice ca nc cc)).setCell ⟨b2, 2, none⟩ (.slice (some ⟨g2, 0, none⟩) ns sc)).setCell ⟨b2, 3, none⟩ (.slice da nd dc)).setCell ⟨b2, 4, none⟩ (.int .i64 z)) (.slice ta nt tc) (.slice ca nc cc) (.slice (some ⟨g2, 0, none⟩) ns sc) (.slice da nd dc) c2 ∧ Below B w (((((W2.setCell ⟨b2, 0, none⟩ (.slice ta nt tc)).setCell ⟨b2, 1, none⟩ (.slice ca nc cc)).setCell ⟨b2, 2, none⟩ (.slice (some ⟨g2, 0, none⟩) ns sc)).setCell ⟨b2, 3, none⟩ (.slice da nd dc)).setCell ⟨b2, 4, none⟩ (.int .i64 z))) := by
            have hs : But (fun y => y = b2) W2 (((((W2.setCell ⟨b2, 0, none⟩ (.slice ta nt tc)).setCell ⟨b2, 1, none⟩ (.slice ca nc cc)).setCell ⟨b2, 2, none⟩ (.slice (some ⟨g2, 0, none⟩) ns sc)).setCell ⟨b2, 3, none⟩ (.slice da nd dc)).setCell ⟨b2, 4, none⟩ (.int .i64 z)) := ((((((But.refl (fun y => y = b2) W2).setCell ⟨b2, 0, none⟩ _ (Or.inl rfl)).setCell ⟨b2, 1, none⟩ _ (Or.inl rfl)).setCell ⟨b2, 2, none⟩ _ (Or.inl rfl)).setCell ⟨b2, 3, none⟩ _ (Or.inl rfl)).setCell ⟨b2, 4, none⟩ _ (Or.inl rfl))
            have ra : Alien W2 b2 := ⟨_, _, M.out.c2, by decide, by decide, by decide⟩
            exact ⟨(((((M.out.c2.set 0 _).set 1 _).set 2 _).set 3 _).set 4 _), ⟨row_alienT M.out.dq.t hs ra, PO.alien M.out.dq.p hs ra, PO.alien M.out.dq.s hs ra, row_alien M.out.dq.d hs ra, M.out.dq.ap⟩, M.out.bel.trans (hs.below (fun g e => by have := GL.out; omega) (Nat.le_trans M.out.ge M.out.bel.size))⟩
          clear M
          go_wp2
          clear x0 x1 x2 x3 x4 k0 k1 k2 k3 k4 f0 f1 f2 f3 f4
          generalize (((((W2.setCell ⟨b2, 0, none⟩ (.slice ta nt tc)).setCell ⟨b2, 1, none⟩ (.slice ca nc cc)).setCell ⟨b2, 2, none⟩ (.slice (some ⟨g2, 0, none⟩) ns sc)).setCell ⟨b2, 3, none⟩ (.slice da nd dc)).setCell ⟨b2, 4, none⟩ (.int .i64 z)) = Z9 at HF ⊢
          refine bodyPost_ret (v := .agg #[.slice ta nt tc, .slice ca nc cc, .slice (some ⟨g2, 0, none⟩) ns sc, .slice da nd dc, .int .i64 z]) (results_c (p := 2) (ty := 28) Try.results25 _ _ _ ⟨b2, 0, none⟩ rfl (run_loadVar_mid Z9 b2 0 28 [.slice ta nt tc, .slice ca nc cc, .slice (some ⟨g2, 0, none⟩) ns sc, .slice da nd dc, .int .i64 z] _ HF.out.1.range Try.underlying28 rfl (by kernel_rfl))) rfl ?_
          exact ⟨⟨_, c2, rfl, dq_do HF.out.2.1 HL.out, by have := HTO.out; omega⟩, HF.out.2.2⟩
        · rw [if_pos (by rfl)]
          go_simp
          have hB : Below z1.heap.size z1 (z1.alloc (.cells #[.int .u8 8] 5)) := below_alloc _ _
          have FB9 : BL (fun _ => True) (z1.alloc (.cells #[.int .u8 8] 5)) (.slice (some ⟨z1.heap.size, 0, none⟩) 1 1) [8] := (BL.new z1 [8] (by simp)).mono fun _ _ _ => trivial
          have H9 := HH.past hB
          clear HH
          have HH := H9
          clear H9
          have B9 := BC.out.trans (hB.mono BC.out.size)
          clear BC
          have BC : Hid (Below W0.heap.size W0 (z1.alloc (.cells #[.int .u8 8] 5))) := B9
          clear B9
          (try (have q9 := FO.out; clear FO; have FO : Hid ((z1.alloc (.cells #[.int .u8 8] 5)).ownsRow W0.heap.size 5 1 (.slice oa y2.length oc) y2.length (bV y2)) := owns_past q9 hB; clear q9))
          have FB : Hid _ := FB9
          clear FB9 hB
          refine hK.out _ (z1.alloc (.cells #[.int .u8 8] 5)) HH (fun _ => ?_)
          clear hK K
          (try simp only [Act.put, List.setIfInBounds_toArray, List.set_cons_zero, List.set_cons_succ])
          generalize z1.heap.size = bb at FB ⊢
          (first | generalize (z1.alloc (.cells #[.int .u8 8] 5)) = z1 at HH BC FO FB ⊢ | generalize (z1.alloc (.cells #[.int .u8 8] 5)) = z1 at HH BC FB ⊢)
          refine wpAnyH_ready (rs := [6]) (by kernel_rfl) (by simp) ?_
          refine AllReadyH.cons ov6 (fun K hK => ?_) AllReadyH.nil
          rw [if_pos (by rfl)]
          go_simp
          refine (own_is _ _ y2 (PA.out.2.2.1.past BC.out) HSX.out).mono ?_
          rintro e z1 ⟨v9, rfl, hO, hB⟩
          obtain ⟨oa, oc, rfl⟩ := owns_sl hO
          have FO9 := owns_base hO BC.out.size
          clear hO
          have H9 := HH.past hB
          clear HH
          have HH := H9
          clear H9
          have B9 := BC.out.trans (hB.mono BC.out.size)
          clear BC
          have BC : Hid (Below W0.heap.size W0 z1) := B9
          clear B9
          (try (have q9 := FB.out; clear FB; have FB : Hid (BL (fun _ => True) z1 (.slice (some ⟨bb, 0, none⟩) 1 1) [8]) := q9.past hB; clear q9))
          have FO : Hid (z1.ownsRow W0.heap.size 5 1 (.slice oa y2.length oc) y2.length (bV y2)) := FO9
          clear FO9 hB
          (try go_wp2_with fail)
          refine hK.out _ _ HH (fun _ => ?_)
          clear hK K
          (try simp only [Act.put, List.setIfInBounds_toArray, List.set_cons_zero, List.set_cons_succ])
          refine wpAnyH_ready (rs := [8]) (by kernel_rfl) (by simp) ?_
          refine AllReadyH.cons ov8 (fun K hK => ?_) AllReadyH.nil
          rw [if_pos (by rfl)]
          refine wp_appB _ _ rfl W0.heap.size BC.out.size (.slice oa y2.length oc) y2 rfl FO.out (.slice (some ⟨bb, 0, none⟩) 1 1) [8] rfl FB.out (by have := HSX.out; simp only [List.length_singleton]; omega) ?_
          intro v9 z9 hA
          obtain ⟨oa2, oc2, e9⟩ := owns_sl hA.row
          rw [List.length_append, List.length_singleton] at e9
          subst e9
          have H9 := HH.app hA FO.out (by decide)
          have B9 := BC.out.trans (hA.below FO.out BC.out.size)
          have FO9 := hA.row
          rw [List.length_append, List.length_singleton] at FO9
          clear HH BC FO FB hA
          have HH := H9
          have BC : Hid (Below W0.heap.size W0 z9) := B9
          have FO : Hid (z9.ownsRow W0.heap.size 5 1 (.slice oa2 (y2.length + 1) oc2) (y2.length + 1) (bV (y2 ++ [8]))) := FO9
          clear H9 B9 FO9
          refine hK.out _ z9 HH (fun _ => ?_)
          clear hK K
          (try simp only [Act.put, List.setIfInBounds_toArray, List.set_cons_zero, List.set_cons_succ])
          refine wpAnyH_take (i := 9) (v := .pointer (some ⟨g2, 0, none⟩)) ov9 (by kernel_rfl) (by kernel_rfl) (by kernel_rfl) (fun _ _ _ h => h) (Or.inl ⟨by rfl, fun V' hS => ?_⟩) HH ?_
          · go_simp
          simp only [Act.put, List.setIfInBounds_toArray, List.set_cons_zero, List.set_cons_succ]
          refine wpAnyH_ready (rs := [10]) (by kernel_rfl) (by simp) ?_
          refine AllReadyH.cons ov10 (fun K hK => ?_) AllReadyH.nil
          rw [if_pos (by rfl)]
          have c0 := (BC.out.cell (p := ⟨g2, 0, none⟩) PA.out.2.2.2).trans PA.out.1
          have f0 := (BC.out.frozen (p := ⟨g2, 0, none⟩) PA.out.2.2.2).trans PA.out.2.1
          go_simp
          clear c0 f0
          have M9 : Hid (LgM b1 b2 B w (z9.setCell ⟨g2, 0, none⟩ (.slice oa2 (y2.length + 1) oc2)) (.slice ta nt tc) (.slice ca nc cc) (.slice (some ⟨g2, 0, none⟩) ns sc) (.slice da nd dc) z ⟨c.ts, c.cs, c.ss.set 0 (y2 ++ [8]), c.d, c.n⟩) := (M.out.past BC.out).set2 HL.out.2.2.1 PB.out.1 PB.out.2.1 PB.out.2.2 _ _ (by rw [List.length_append, List.length_singleton]; exact owns_base FO.out (Nat.le_trans M.out.ge M.out.bel.size))
          have H9 := HH.but ((But.refl (fun y => y = g2) z9).setCell ⟨g2, 0, none⟩ (.slice oa2 (y2.length + 1) oc2) (Or.inl rfl)) PB.out.2.1
          refine hK.out _ (z9.setCell ⟨g2, 0, none⟩ (.slice oa2 (y2.length + 1) oc2)) H9 (fun _ => ?_)
          clear hK K
          (try simp only [Act.put, List.setIfInBounds_toArray, List.set_cons_zero, List.set_cons_succ])
          generalize z9.setCell ⟨g2, 0, none⟩ (.slice oa2 (y2.length + 1) oc2) = W2 at M9 H9 ⊢
          clear H9 HH BC FO PA PB M HSX
          have M := M9
          clear M9
          refine wpAnyH_done (by kernel_rfl) ?_ _
          obtain ⟨c2, hc2⟩ : ∃ q : Con, q = ⟨c.ts, c.cs, c.ss.set 0 (y2 ++ [8]), c.d, c.n⟩ := ⟨_, rfl⟩
          rw [← hc2] at M
          have HT9 : Hid (total c2 ≤ 2097154) := by have := total_set2 c y2 8 HX.out; unfold Hid; rw [hc2, this]; have := HTO.out; omega
          have HL9 : Hid (Lens c2 nt nc ns nd z) := by have := HL.out; unfold Lens at this; unfold Hid Lens; rw [hc2]; simp only [List.length_set]; exact this
          clear hc2 HTO HL HX
          have HTO := HT9
          have HL := HL9
          clear HT9 HL9
          go_upto_region 5 with fail
          have x0 : W2.cell? ⟨b1, 0, none⟩ = some (.slice ta nt tc) := M.out.c1.cell 0
          have x1 : W2.cell? ⟨b1, 1, none⟩ = some (.slice ca nc cc) := M.out.c1.cell 1
          have x2 : W2.cell? ⟨b1, 2, none⟩ = some (.slice (some ⟨g2, 0, none⟩) ns sc) := M.out.c1.cell 2
          have x3 : W2.cell? ⟨b1, 3, none⟩ = some (.slice da nd dc) := M.out.c1.cell 3
          have x4 : W2.cell? ⟨b1, 4, none⟩ = some (.int .i64 z) := M.out.c1.cell 4
          have k0 : W2.cell? ⟨b2, 0, none⟩ = some (.slice none 0 0) := M.out.c2.cell 0
          have f0 := CBox.frozen M.out.c2 0
          have k1 : W2.cell? ⟨b2, 1, none⟩ = some (.slice none 0 0) := M.out.c2.cell 1
          have f1 := CBox.frozen M.out.c2 1
          have k2 : W2.cell? ⟨b2, 2, none⟩ = some (.slice none 0 0) := M.out.c2.cell 2
          have f2 := CBox.frozen M.out.c2 2
          have k3 : W2.cell? ⟨b2, 3, none⟩ = some (.slice none 0 0) := M.out.c2.cell 3
          have f3 := CBox.frozen M.out.c2 3
          have k4 : W2.cell? ⟨b2, 4, none⟩ = some (.int .i64 0) := M.out.c2.cell 4
          have f4 := CBox.frozen M.out.c2 4
          have HF : Hid (CBox (((((W2.setCell ⟨b2, 0, none⟩ (.slice ta nt tc)).setCell ⟨b2, 1, none⟩ (.slice ca nc cc)).setCell ⟨b2, 2, none⟩ (.slice (some ⟨g2, 0, none⟩) ns sc)).setCell ⟨b2, 3, none⟩ (.slice da nd dc)).setCell ⟨b2, 4, none⟩ (.int .i64 z)) b2 28 [.slice ta nt tc, .slice ca nc cc, .slice (some ⟨g2, 0, none⟩) ns sc, .slice da nd dc, .int .i64 z] ∧ DQ B (((((W2.setCell ⟨b2, 0, none⟩ (.slice ta nt tc)).setCell ⟨b2, 1, none⟩ (.slice ca nc cc)).setCell ⟨b2, 2, none⟩ (.slice (some ⟨g2, 0, none⟩) ns sc)).setCell ⟨b2, 3, none⟩ (.slice da nd dc)).setCell ⟨b2, 4, none⟩ (.int .i64 z)) (.slice ta nt tc) (.slice ca nc cc) (.slice (some ⟨g2, 0, none⟩) ns sc) (.slice da nd dc) c2 ∧ Below B w (((((W2.setCell ⟨b2, 0, none⟩ (.slice ta nt tc)).setCell ⟨b2, 1, none⟩ (.slice ca nc cc)).setCell ⟨b2, 2, none⟩ (.slice (some ⟨g2, 0, none⟩) ns sc)).setCell ⟨b2, 3, none⟩ (.slice da nd dc)).setCell ⟨b2, 4, none⟩ (.int .i64 z))) := by
            have hs : But (fun y => y = b2) W2 (((((W2.setCell ⟨b2, 0, none⟩ (.slice ta nt tc)).setCell ⟨b2, 1, none⟩ (.slice ca nc cc)).setCell ⟨b2, 2, none⟩ (.slice (some ⟨g2, 0, none⟩) ns sc)).setCell ⟨b2, 3, none⟩ (.slice da nd dc)).setCell ⟨b2, 4, none⟩ (.int .i64 z)) := ((((((But.refl (fun y => y = b2) W2).setCell ⟨b2, 0, none⟩ _ (Or.inl rfl)).setCell ⟨b2, 1, none⟩ _ (Or.inl rfl)).setCell ⟨b2, 2, none⟩ _ (Or.inl rfl)).setCell ⟨b2, 3, none⟩ _ (Or.inl rfl)).setCell ⟨b2, 4, none⟩ _ (Or.inl rfl))
            have ra : Alien W2 b2 := ⟨_, _, M.out.c2, by decide, by decide, by decide⟩
            exact ⟨(((((M.out.c2.set 0 _).set 1 _).set 2 _).set 3 _).set 4 _), ⟨row_alienT M.out.dq.t hs ra, PO.alien M.out.dq.p hs ra, PO.alien M.out.dq.s hs ra, row_alien M.out.dq.d hs ra, M.out.dq.ap⟩, M.out.bel.trans (hs.below (fun g e => by have := GL.out; omega) (Nat.le_trans M.out.ge M.out.bel.size))⟩
          clear M
          go_wp2
          clear x0 x1 x2 x3 x4 k0 k1 k2 k3 k4 f0 f1 f2 f3 f4
          generalize (((((W2.setCell ⟨b2, 0, none⟩ (.slice ta nt tc)).setCell ⟨b2, 1, none⟩ (.slice ca nc cc)).setCell ⟨b2, 2, none⟩ (.slice (some ⟨g2, 0, none⟩) ns sc)).setCell ⟨b2, 3, none⟩ (.slice da nd dc)).setCell ⟨b2, 4, none⟩ (.int .i64 z)) = Z9 at HF ⊢
          refine bodyPost_ret (v := .agg #[.slice ta nt tc, .slice ca nc cc, .slice (some ⟨g2, 0, none⟩) ns sc, .slice da nd dc, .int .i64 z]) (results_c (p := 2) (ty := 28) Try.results25 _ _ _ ⟨b2, 0, none⟩ rfl (run_loadVar_mid Z9 b2 0 28 [.slice ta nt tc, .slice ca nc cc, .slice (some ⟨g2, 0, none⟩) ns sc, .slice da nd dc, .int .i64 z] _ HF.out.1.range Try.underlying28 rfl (by kernel_rfl))) rfl ?_
          exact ⟨⟨_, c2, rfl, dq_do HF.out.2.1 HL.out, by have := HTO.out; omega⟩, HF.out.2.2⟩
      · rw [if_pos (by rfl)]
        go_simp
        have hB : Below z1.heap.size z1 (z1.alloc (.cells #[.int .u8 8] 5)) := below_alloc _ _
        have FB9 : BL (fun _ => True) (z1.alloc (.cells #[.int .u8 8] 5)) (.slice (some ⟨z1.heap.size, 0, none⟩) 1 1) [8] := (BL.new z1 [8] (by simp)).mono fun _ _ _ => trivial
        have H9 := HH.past hB
        clear HH
        have HH := H9
        clear H9
        have B9 := BC.out.trans (hB.mono BC.out.size)
        clear BC
        have BC : Hid (Below W0.heap.size W0 (z1.alloc (.cells #[.int .u8 8] 5))) := B9
        clear B9
        (try (have q9 := FO.out; clear FO; have FO : Hid ((z1.alloc (.cells #[.int .u8 8] 5)).ownsRow W0.heap.size 5 1 (.slice oa y2.length oc) y2.length (bV y2)) := owns_past q9 hB; clear q9))
        have FB : Hid _ := FB9
        clear FB9 hB
        refine hK.out _ (z1.alloc (.cells #[.int .u8 8] 5)) HH (fun _ => ?_)
        clear hK K
        (try simp only [Act.put, List.setIfInBounds_toArray, List.set_cons_zero, List.set_cons_succ])
        generalize z1.heap.size = bb at FB ⊢
        (first | generalize (z1.alloc (.cells #[.int .u8 8] 5)) = z1 at HH BC FO FB ⊢ | generalize (z1.alloc (.cells #[.int .u8 8] 5)) = z1 at HH BC FB ⊢)
        refine wpAnyH_ready (rs := [5]) (by kernel_rfl) (by simp) ?_
        refine AllReadyH.cons ov5 (fun K hK => ?_) AllReadyH.nil
        rw [if_pos (by rfl)]
        have c0 := (BC.out.cell (p := ⟨g2, 0, none⟩) PA.out.2.2.2).trans PA.out.1
        go_simp
        clear c0
        refine hK.out _ _ HH (fun _ => ?_)
        clear hK K
        (try simp only [Act.put, List.setIfInBounds_toArray, List.set_cons_zero, List.set_cons_succ])
        refine wpAnyH_ready (rs := [6]) (by kernel_rfl) (by simp) ?_
        refine AllReadyH.cons ov6 (fun K hK => ?_) AllReadyH.nil
        rw [if_pos (by rfl)]
        go_simp
        refine (own_is _ _ y2 (PA.out.2.2.1.past BC.out) HSX.out).mono ?_
        rintro e z1 ⟨v9, rfl, hO, hB⟩
        obtain ⟨oa, oc, rfl⟩ := owns_sl hO
        have FO9 := owns_base hO BC.out.size
        clear hO
        have H9 := HH.past hB
        clear HH
        have HH := H9
        clear H9
        have B9 := BC.out.trans (hB.mono BC.out.size)
        clear BC
        have BC : Hid (Below W0.heap.size W0 z1) := B9
        clear B9
        (try (have q9 := FB.out; clear FB; have FB : Hid (BL (fun _ => True) z1 (.slice (some ⟨bb, 0, none⟩) 1 1) [8]) := q9.past hB; clear q9))
        have FO : Hid (z1.ownsRow W0.heap.size 5 1 (.slice oa y2.length oc) y2.length (bV y2)) := FO9
        clear FO9 hB
        (try go_wp2_with fail)
        refine hK.out _ _ HH (fun _ => ?_)
        clear hK K
        (try simp only [Act.put, List.setIfInBounds_toArray, List.set_cons_zero, List.set_cons_succ])
        refine wpAnyH_ready (rs := [8]) (by kernel_rfl) (by simp) ?_
        refine AllReadyH.cons ov8 (fun K hK => ?_) AllReadyH.nil
        rw [if_pos (by rfl)]
        refine wp_appB _ _ rfl W0.heap.size BC.out.size (.slice oa y2.length oc) y2 rfl FO.out (.slice (some ⟨bb, 0, none⟩) 1 1) [8] rfl FB.out (by have := HSX.out; simp only [List.length_singleton]; omega) ?_
        intro v9 z9 hA
        obtain ⟨oa2, oc2, e9⟩ := owns_sl hA.row
        rw [List.length_append, List.length_singleton] at e9
        subst e9
        have H9 := HH.app hA FO.out (by decide)
        have B9 := BC.out.trans (hA.below FO.out BC.out.size)
        have FO9 := hA.row
        rw [List.length_append, List.length_singleton] at FO9
        clear HH BC FO FB hA
        have HH := H9
        have BC : Hid (Below W0.heap.size W0 z9) := B9
        have FO : Hid (z9.ownsRow W0.heap.size 5 1 (.slice oa2 (y2.length + 1) oc2) (y2.length + 1) (bV (y2 ++ [8]))) := FO9
        clear H9 B9 FO9
        refine hK.out _ z9 HH (fun _ => ?_)
        clear hK K
        (try simp only [Act.put, List.setIfInBounds_toArray, List.set_cons_zero, List.set_cons_succ])
        refine wpAnyH_take (i := 9) (v := .pointer (some ⟨g2, 0, none⟩)) ov9 (by kernel_rfl) (by kernel_rfl) (by kernel_rfl) (fun _ _ _ h => h) (Or.inl ⟨by rfl, fun V' hS => ?_⟩) HH ?_
        · go_simp
        simp only [Act.put, List.setIfInBounds_toArray, List.set_cons_zero, List.set_cons_succ]
        refine wpAnyH_ready (rs := [10]) (by kernel_rfl) (by simp) ?_
        refine AllReadyH.cons ov10 (fun K hK => ?_) AllReadyH.nil
        rw [if_pos (by rfl)]
        have c0 := (BC.out.cell (p := ⟨g2, 0, none⟩) PA.out.2.2.2).trans PA.out.1
        have f0 := (BC.out.frozen (p := ⟨g2, 0, none⟩) PA.out.2.2.2).trans PA.out.2.1
        go_simp
        clear c0 f0
        have M9 : Hid (LgM b1 b2 B w (z9.setCell ⟨g2, 0, none⟩ (.slice oa2 (y2.length + 1) oc2)) (.slice ta nt tc) (.slice ca nc cc) (.slice (some ⟨g2, 0, none⟩) ns sc) (.slice da nd dc) z ⟨c.ts, c.cs, c.ss.set 0 (y2 ++ [8]), c.d, c.n⟩) := (M.out.past BC.out).set2 HL.out.2.2.1 PB.out.1 PB.out.2.1 PB.out.2.2 _ _ (by rw [List.length_append, List.length_singleton]; exact owns_base FO.out (Nat.le_trans M.out.ge M.out.bel.size))
        have H9 := HH.but ((But.refl (fun y => y = g2) z9).setCell ⟨g2, 0, none⟩ (.slice oa2 (y2.length + 1) oc2) (Or.inl rfl)) PB.out.2.1
        refine hK.out _ (z9.setCell ⟨g2, 0, none⟩ (.slice oa2 (y2.length + 1) oc2)) H9 (fun _ => ?_)
        clear hK K
        (try simp only [Act.put, List.setIfInBounds_toArray, List.set_cons_zero, List.set_cons_succ])
        generalize z9.setCell ⟨g2, 0, none⟩ (.slice oa2 (y2.length + 1) oc2) = W2 at M9 H9 ⊢
        clear H9 HH BC FO PA PB M HSX
        have M := M9
        clear M9
        refine wpAnyH_done (by kernel_rfl) ?_ _
        obtain ⟨c2, hc2⟩ : ∃ q : Con, q = ⟨c.ts, c.cs, c.ss.set 0 (y2 ++ [8]), c.d, c.n⟩ := ⟨_, rfl⟩
        rw [← hc2] at M
        have HT9 : Hid (total c2 ≤ 2097154) := by have := total_set2 c y2 8 HX.out; unfold Hid; rw [hc2, this]; have := HTO.out; omega
        have HL9 : Hid (Lens c2 nt nc ns nd z) := by have := HL.out; unfold Lens at this; unfold Hid Lens; rw [hc2]; simp only [List.length_set]; exact this
        clear hc2 HTO HL HX
        have HTO := HT9
        have HL := HL9
        clear HT9 HL9
        go_upto_region 5 with fail
        have x0 : W2.cell? ⟨b1, 0, none⟩ = some (.slice ta nt tc) := M.out.c1.cell 0
        have x1 : W2.cell? ⟨b1, 1, none⟩ = some (.slice ca nc cc) := M.out.c1.cell 1
        have x2 : W2.cell? ⟨b1, 2, none⟩ = some (.slice (some ⟨g2, 0, none⟩) ns sc) := M.out.c1.cell 2
        have x3 : W2.cell? ⟨b1, 3, none⟩ = some (.slice da nd dc) := M.out.c1.cell 3
        have x4 : W2.cell? ⟨b1, 4, none⟩ = some (.int .i64 z) := M.out.c1.cell 4
        have k0 : W2.cell? ⟨b2, 0, none⟩ = some (.slice none 0 0) := M.out.c2.cell 0
        have f0 := CBox.frozen M.out.c2 0
        have k1 : W2.cell? ⟨b2, 1, none⟩ = some (.slice none 0 0) := M.out.c2.cell 1
        have f1 := CBox.frozen M.out.c2 1
        have k2 : W2.cell? ⟨b2, 2, none⟩ = some (.slice none 0 0) := M.out.c2.cell 2
        have f2 := CBox.frozen M.out.c2 2
        have k3 : W2.cell? ⟨b2, 3, none⟩ = some (.slice none 0 0) := M.out.c2.cell 3
        have f3 := CBox.frozen M.out.c2 3
        have k4 : W2.cell? ⟨b2, 4, none⟩ = some (.int .i64 0) := M.out.c2.cell 4
        have f4 := CBox.frozen M.out.c2 4
        have HF : Hid (CBox (((((W2.setCell ⟨b2, 0, none⟩ (.slice ta nt tc)).setCell ⟨b2, 1, none⟩ (.slice ca nc cc)).setCell ⟨b2, 2, none⟩ (.slice (some ⟨g2, 0, none⟩) ns sc)).setCell ⟨b2, 3, none⟩ (.slice da nd dc)).setCell ⟨b2, 4, none⟩ (.int .i64 z)) b2 28 [.slice ta nt tc, .slice ca nc cc, .slice (some ⟨g2, 0, none⟩) ns sc, .slice da nd dc, .int .i64 z] ∧ DQ B (((((W2.setCell ⟨b2, 0, none⟩ (.slice ta nt tc)).setCell ⟨b2, 1, none⟩ (.slice ca nc cc)).setCell ⟨b2, 2, none⟩ (.slice (some ⟨g2, 0, none⟩) ns sc)).setCell ⟨b2, 3, none⟩ (.slice da nd dc)).setCell ⟨b2, 4, none⟩ (.int .i64 z)) (.slice ta nt tc) (.slice ca nc cc) (.slice (some ⟨g2, 0, none⟩) ns sc) (.slice da nd dc) c2 ∧ Below B w (((((W2.setCell ⟨b2, 0, none⟩ (.slice ta nt tc)).setCell ⟨b2, 1, none⟩ (.slice ca nc cc)).setCell ⟨b2, 2, none⟩ (.slice (some ⟨g2, 0, none⟩) ns sc)).setCell ⟨b2, 3, none⟩ (.slice da nd dc)).setCell ⟨b2, 4, none⟩ (.int .i64 z))) := by
          have hs : But (fun y => y = b2) W2 (((((W2.setCell ⟨b2, 0, none⟩ (.slice ta nt tc)).setCell ⟨b2, 1, none⟩ (.slice ca nc cc)).setCell ⟨b2, 2, none⟩ (.slice (some ⟨g2, 0, none⟩) ns sc)).setCell ⟨b2, 3, none⟩ (.slice da nd dc)).setCell ⟨b2, 4, none⟩ (.int .i64 z)) := ((((((But.refl (fun y => y = b2) W2).setCell ⟨b2, 0, none⟩ _ (Or.inl rfl)).setCell ⟨b2, 1, none⟩ _ (Or.inl rfl)).setCell ⟨b2, 2, none⟩ _ (Or.inl rfl)).setCell ⟨b2, 3, none⟩ _ (Or.inl rfl)).setCell ⟨b2, 4, none⟩ _ (Or.inl rfl))
          have ra : Alien W2 b2 := ⟨_, _, M.out.c2, by decide, by decide, by decide⟩
          exact ⟨(((((M.out.c2.set 0 _).set 1 _).set 2 _).set 3 _).set 4 _), ⟨row_alienT M.out.dq.t hs ra, PO.alien M.out.dq.p hs ra, PO.alien M.out.dq.s hs ra, row_alien M.out.dq.d hs ra, M.out.dq.ap⟩, M.out.bel.trans (hs.below (fun g e => by have := GL.out; omega) (Nat.le_trans M.out.ge M.out.bel.size))⟩
        clear M
        go_wp2
        clear x0 x1 x2 x3 x4 k0 k1 k2 k3 k4 f0 f1 f2 f3 f4
        generalize (((((W2.setCell ⟨b2, 0, none⟩ (.slice ta nt tc)).setCell ⟨b2, 1, none⟩ (.slice ca nc cc)).setCell ⟨b2, 2, none⟩ (.slice (some ⟨g2, 0, none⟩) ns sc)).setCell ⟨b2, 3, none⟩ (.slice da nd dc)).setCell ⟨b2, 4, none⟩ (.int .i64 z)) = Z9 at HF ⊢
        refine bodyPost_ret (v := .agg #[.slice ta nt tc, .slice ca nc cc, .slice (some ⟨g2, 0, none⟩) ns sc, .slice da nd dc, .int .i64 z]) (results_c (p := 2) (ty := 28) Try.results25 _ _ _ ⟨b2, 0, none⟩ rfl (run_loadVar_mid Z9 b2 0 28 [.slice ta nt tc, .slice ca nc cc, .slice (some ⟨g2, 0, none⟩) ns sc, .slice da nd dc, .int .i64 z] _ HF.out.1.range Try.underlying28 rfl (by kernel_rfl))) rfl ?_
        exact ⟨⟨_, c2, rfl, dq_do HF.out.2.1 HL.out, by have := HTO.out; omega⟩, HF.out.2.2⟩
  · have q1 : (0 : Int) < (nc : Int) := by omega
    obtain ⟨y1, hx⟩ : ∃ x, c.cs[0]? = some x := ⟨c.cs[0]'(by have := HL.out; unfold Lens at this; omega), List.getElem?_eq_getElem _⟩
    have HX : Hid (c.cs[0]? = some y1) := hx
    have hsx : y1.length ≤ 16777216 := by
      have h1 := (List.sublist_flatten_of_mem (List.mem_of_getElem? hx)).length_le
      have h2 := HTO.out
      unfold total at h2
      omega
    have HSX : Hid (y1.length ≤ 16777216) := hsx
    obtain ⟨g1, ua, uc, eg, r1, r2, r3, r4, r5, r6⟩ := piece_at M.out.dq.p HL.out.2.1 hx hsx
    subst eg
    have PA : Hid (W0.cell? ⟨g1, 0, none⟩ = some (.slice ua y1.length uc) ∧ W0.frozen? ⟨g1, 0, none⟩ = false ∧ BL (fun _ => True) W0 (.slice ua y1.length uc) y1 ∧ g1 < W0.heap.size) := ⟨r2, r3, r4, r5⟩
    have PB : Hid (B ≤ g1 ∧ b1 ≠ g1 ∧ b2 ≠ g1) := ⟨r1, r6 _ _ _ M.out.c1 (by decide), r6 _ _ _ M.out.c2 (by decide)⟩
    clear hx hsx r1 r2 r3 r4 r5 r6 e1
    have a1 : W0.cell? ⟨b1, 1, none⟩ = some (.slice (some ⟨g1, 0, none⟩) nc cc) := M.out.c1.cell 1
    go_upto_region 2 with fail
    clear a1 q1
    refine wp_region_held_drew (S := fun V' => CBox V' b1 28 [.slice ta nt tc, .slice (some ⟨g1, 0, none⟩) nc cc, .slice sa ns sc, .slice da nd dc, .int .i64 z]) (by kernel_rfl) (M.out.c1.past below_drew) (fun HH => ?_)
    have BC : Hid (Below W0.heap.size W0 W0.drew) := below_drew
    have M : Hid _ := M
    generalize W0.drew = z1 at HH BC ⊢
    refine wpAnyH_take (i := 0) (v := .pointer (some ⟨b1, 1, none⟩)) ov0 (by kernel_rfl) (by kernel_rfl) (by kernel_rfl) (fun _ _ _ h => h) (Or.inl ⟨by rfl, fun V' hS => ?_⟩) HH ?_
    · go_simp
    simp only [Act.put, List.setIfInBounds_toArray, List.set_cons_zero, List.set_cons_succ]
    refine wpAnyH_take (i := 1) (v := .slice (some ⟨g1, 0, none⟩) nc cc) ov1 (by kernel_rfl) (by kernel_rfl) (by kernel_rfl) (fun _ _ _ h => h) (Or.inl ⟨by rfl, fun V' hS => ?_⟩) HH ?_
    · have c0 := hS.cell 1
      go_simp
    simp only [Act.put, List.setIfInBounds_toArray, List.set_cons_zero, List.set_cons_succ]
    refine wpAnyH_take (i := 2) (v := .pointer (some ⟨b1, 1, none⟩)) ov2 (by kernel_rfl) (by kernel_rfl) (by kernel_rfl) (fun _ _ _ h => h) (Or.inl ⟨by rfl, fun V' hS => ?_⟩) HH ?_
    · go_simp
    simp only [Act.put, List.setIfInBounds_toArray, List.set_cons_zero, List.set_cons_succ]
    refine wpAnyH_take (i := 3) (v := .slice (some ⟨g1, 0, none⟩) nc cc) ov3 (by kernel_rfl) (by kernel_rfl) (by kernel_rfl) (fun _ _ _ h => h) (Or.inl ⟨by rfl, fun V' hS => ?_⟩) HH ?_
    · have c0 := hS.cell 1
      go_simp
    simp only [Act.put, List.setIfInBounds_toArray, List.set_cons_zero, List.set_cons_succ]
    refine wpAnyH_take (i := 4) (v := .pointer (some ⟨g1, 0, none⟩)) ov4 (by kernel_rfl) (by kernel_rfl) (by kernel_rfl) (fun _ _ _ h => h) (Or.inl ⟨by rfl, fun V' hS => ?_⟩) HH ?_
    · go_simp
    simp only [Act.put, List.setIfInBounds_toArray, List.set_cons_zero, List.set_cons_succ]
    refine wpAnyH_ready (rs := [5, 7]) (by kernel_rfl) (by simp) ?_
    refine AllReadyH.cons ov5 (fun K hK => ?_) (AllReadyH.cons ov7 (fun K hK => ?_) AllReadyH.nil)
    · rw [if_pos (by rfl)]
      have c0 := (BC.out.cell (p := ⟨g1, 0, none⟩) PA.out.2.2.2).trans PA.out.1
      go_simp
      clear c0
      refine hK.out _ _ HH (fun _ => ?_)
      clear hK K
      (try simp only [Act.put, List.setIfInBounds_toArray, List.set_cons_zero, List.set_cons_succ])
      refine wpAnyH_ready (rs := [6, 7]) (by kernel_rfl) (by simp) ?_
      refine AllReadyH.cons ov6 (fun K hK => ?_) (AllReadyH.cons ov7 (fun K hK => ?_) AllReadyH.nil)
      · rw [if_pos (by rfl)]
        go_simp
        refine (own_is _ _ y1 (PA.out.2.2.1.past BC.out) HSX.out).mono ?_
        rintro e z1 ⟨v9, rfl, hO, hB⟩
        obtain ⟨oa, oc, rfl⟩ := owns_sl hO
        have FO9 := owns_base hO BC.out.size
        clear hO
        have H9 := HH.past hB
        clear HH
        have HH := H9
        clear H9
        have B9 := BC.out.trans (hB.mono BC.out.size)
        clear BC
        have BC : Hid (Below W0.heap.size W0 z1) := B9
        clear B9
        (try (have q9 := FB.out; clear FB; have FB : Hid (BL (fun _ => True) z1 (.slice (some ⟨bb, 0, none⟩) 1 1) [7]) := q9.past hB; clear q9))
        have FO : Hid (z1.ownsRow W0.heap.size 5 1 (.slice oa y1.length oc) y1.length (bV y1)) := FO9
        clear FO9 hB
        (try go_wp2_with fail)
        refine hK.out _ _ HH (fun _ => ?_)
        clear hK K
        (try simp only [Act.put, List.setIfInBounds_toArray, List.set_cons_zero, List.set_cons_succ])
        refine wpAnyH_ready (rs := [7]) (by kernel_rfl) (by simp) ?_
        refine AllReadyH.cons ov7 (fun K hK => ?_) AllReadyH.nil
        rw [if_pos (by rfl)]
        go_simp
        have hB : Below z1.heap.size z1 (z1.alloc (.cells #[.int .u8 7] 5)) := below_alloc _ _
        have FB9 : BL (fun _ => True) (z1.alloc (.cells #[.int .u8 7] 5)) (.slice (some ⟨z1.heap.size, 0, none⟩) 1 1) [7] := (BL.new z1 [7] (by simp)).mono fun _ _ _ => trivial
        have H9 := HH.past hB
        clear HH
        have HH := H9
        clear H9
        have B9 := BC.out.trans (hB.mono BC.out.size)
        clear BC
        have BC : Hid (Below W0.heap.size W0 (z1.alloc (.cells #[.int .u8 7] 5))) := B9
        clear B9
        (try (have q9 := FO.out; clear FO; have FO : Hid ((z1.alloc (.cells #[.int .u8 7] 5)).ownsRow W0.heap.size 5 1 (.slice oa y1.length oc) y1.length (bV y1)) := owns_past q9 hB; clear q9))
        have FB : Hid _ := FB9
        clear FB9 hB
        refine hK.out _ (z1.alloc (.cells #[.int .u8 7] 5)) HH (fun _ => ?_)
        clear hK K
        (try simp only [Act.put, List.setIfInBounds_toArray, List.set_cons_zero, List.set_cons_succ])
        generalize z1.heap.size = bb at FB ⊢
        (first | generalize (z1.alloc (.cells #[.int .u8 7] 5)) = z1 at HH BC FO FB ⊢ | generalize (z1.alloc (.cells #[.int .u8 7] 5)) = z1 at HH BC FB ⊢)
        refine wpAnyH_ready (rs := [8]) (by kernel_rfl) (by simp) ?_
        refine AllReadyH.cons ov8 (fun K hK => ?_) AllReadyH.nil
        rw [if_pos (by rfl)]
        refine wp_appB _ _ rfl W0.heap.size BC.out.size (.slice oa y1.length oc) y1 rfl FO.out (.slice (some ⟨bb, 0, none⟩) 1 1) [7] rfl FB.out (by have := HSX.out; simp only [List.length_singleton]; omega) ?_
        intro v9 z9 hA
        obtain ⟨oa2, oc2, e9⟩ := owns_sl hA.row
        rw [List.length_append, List.length_singleton] at e9
        subst e9
        have H9 := HH.app hA FO.out (by decide)
        have B9 := BC.out.trans (hA.below FO.out BC.out.size)
        have FO9 := hA.row
        rw [List.length_append, List.length_singleton] at FO9
        clear HH BC FO FB hA
        have HH := H9
        have BC : Hid (Below W0.heap.size W0 z9) := B9
        have FO : Hid (z9.ownsRow W0.heap.size 5 1 (.slice oa2 (y1.length + 1) oc2) (y1.length + 1) (bV (y1 ++ [7]))) := FO9
        clear H9 B9 FO9
        refine hK.out _ z9 HH (fun _ => ?_)
        clear hK K
        (try simp only [Act.put, List.setIfInBounds_toArray, List.set_cons_zero, List.set_cons_succ])
        refine wpAnyH_take (i := 9) (v := .pointer (some ⟨g1, 0, none⟩)) ov9 (by kernel_rfl) (by kernel_rfl) (by kernel_rfl) (fun _ _ _ h => h) (Or.inl ⟨by rfl, fun V' hS => ?_⟩) HH ?_
        · go_simp
        simp only [Act.put, List.setIfInBounds_toArray, List.set_cons_zero, List.set_cons_succ]
        refine wpAnyH_ready (rs := [10]) (by kernel_rfl) (by simp) ?_
        refine AllReadyH.cons ov10 (fun K hK => ?_) AllReadyH.nil
        rw [if_pos (by rfl)]
        have c0 := (BC.out.cell (p := ⟨g1, 0, none⟩) PA.out.2.2.2).trans PA.out.1
        have f0 := (BC.out.frozen (p := ⟨g1, 0, none⟩) PA.out.2.2.2).trans PA.out.2.1
        go_simp
        clear c0 f0
        have M9 : Hid (LgM b1 b2 B w (z9.setCell ⟨g1, 0, none⟩ (.slice oa2 (y1.length + 1) oc2)) (.slice ta nt tc) (.slice (some ⟨g1, 0, none⟩) nc cc) (.slice sa ns sc) (.slice da nd dc) z ⟨c.ts, c.cs.set 0 (y1 ++ [7]), c.ss, c.d, c.n⟩) := (M.out.past BC.out).set1 HL.out.2.1 PB.out.1 PB.out.2.1 PB.out.2.2 _ _ (by rw [List.length_append, List.length_singleton]; exact owns_base FO.out (Nat.le_trans M.out.ge M.out.bel.size))
        have H9 := HH.but ((But.refl (fun y => y = g1) z9).setCell ⟨g1, 0, none⟩ (.slice oa2 (y1.length + 1) oc2) (Or.inl rfl)) PB.out.2.1
        refine hK.out _ (z9.setCell ⟨g1, 0, none⟩ (.slice oa2 (y1.length + 1) oc2)) H9 (fun _ => ?_)
        clear hK K
        (try simp only [Act.put, List.setIfInBounds_toArray, List.set_cons_zero, List.set_cons_succ])
        generalize z9.setCell ⟨g1, 0, none⟩ (.slice oa2 (y1.length + 1) oc2) = W1 at M9 H9 ⊢
        clear H9 HH BC FO PA PB M HSX
        have M := M9
        clear M9
        refine wpAnyH_done (by kernel_rfl) ?_ _
        obtain ⟨c1, hc2⟩ : ∃ q : Con, q = ⟨c.ts, c.cs.set 0 (y1 ++ [7]), c.ss, c.d, c.n⟩ := ⟨_, rfl⟩
        rw [← hc2] at M
        have HT9 : Hid (total c1 ≤ 2097153) := by have := total_set1 c y1 7 HX.out; unfold Hid; rw [hc2, this]; have := HTO.out; omega
        have HL9 : Hid (Lens c1 nt nc ns nd z) := by have := HL.out; unfold Lens at this; unfold Hid Lens; rw [hc2]; simp only [List.length_set]; exact this
        clear hc2 HTO HL HX
        have HTO := HT9
        have HL := HL9
        clear HT9 HL9
        go_upto_region 3 with fail
        by_cases e2 : ns = 0
        · have a2 : W1.cell? ⟨b1, 2, none⟩ = some (.slice sa ns sc) := M.out.c1.cell 2
          have q2 : ¬ (0 : Int) < (ns : Int) := by omega
          clear e2
          go_upto_region 5 with fail
          clear a2 q2
          have x0 : W1.cell? ⟨b1, 0, none⟩ = some (.slice ta nt tc) := M.out.c1.cell 0
          have x1 : W1.cell? ⟨b1, 1, none⟩ = some (.slice (some ⟨g1, 0, none⟩) nc cc) := M.out.c1.cell 1
          have x2 : W1.cell? ⟨b1, 2, none⟩ = some (.slice sa ns sc) := M.out.c1.cell 2
          have x3 : W1.cell? ⟨b1, 3, none⟩ = some (.slice da nd dc) := M.out.c1.cell 3
          have x4 : W1.cell? ⟨b1, 4, none⟩ = some (.int .i64 z) := M.out.c1.cell 4
          have k0 : W1.cell? ⟨b2, 0, none⟩ = some (.slice none 0 0) := M.out.c2.cell 0
          have f0 := CBox.frozen M.out.c2 0
          have k1 : W1.cell? ⟨b2, 1, none⟩ = some (.slice none 0 0) := M.out.c2.cell 1
          have f1 := CBox.frozen M.out.c2 1
          have k2 : W1.cell? ⟨b2, 2, none⟩ = some (.slice none 0 0) := M.out.c2.cell 2
          have f2 := CBox.frozen M.out.c2 2
          have k3 : W1.cell? ⟨b2, 3, none⟩ = some (.slice none 0 0) := M.out.c2.cell 3
          have f3 := CBox.frozen M.out.c2 3
          have k4 : W1.cell? ⟨b2, 4, none⟩ = some (.int .i64 0) := M.out.c2.cell 4
          have f4 := CBox.frozen M.out.c2 4
          have HF : Hid (CBox (((((W1.setCell ⟨b2, 0, none⟩ (.slice ta nt tc)).setCell ⟨b2, 1, none⟩ (.slice (some ⟨g1, 0, none⟩) nc cc)).setCell ⟨b2, 2, none⟩ (.slice sa ns sc)).setCell ⟨b2, 3, none⟩ (.slice da nd dc)).setCell ⟨b2, 4, none⟩ (.int .i64 z)) b2 28 [.slice ta nt tc, .slice (some ⟨g1, 0, none⟩) nc cc, .slice sa ns sc, .slice da nd dc, .int .i64 z] ∧ DQ B (((((W1.setCell ⟨b2, 0, none⟩ (.slice ta nt tc)).setCell ⟨b2, 1, none⟩ (.slice (some ⟨g1, 0, none⟩) nc cc)).setCell ⟨b2, 2, none⟩ (.slice sa ns sc)).setCell ⟨b2, 3, none⟩ (.slice da nd dc)).setCell ⟨b2, 4, none⟩ (.int .i64 z)) (.slice ta nt tc) (.slice (some ⟨g1, 0, none⟩) nc cc) (.slice sa ns sc) (.slice da nd dc) c1 ∧ Below B w (((((W1.setCell ⟨b2, 0, none⟩ (.slice ta nt tc)).setCell ⟨b2, 1, none⟩ (.slice (some ⟨g1, 0, none⟩) nc cc)).setCell ⟨b2, 2, none⟩ (.slice sa ns sc)).setCell ⟨b2, 3, none⟩ (.slice da nd dc)).setCell ⟨b2, 4, none⟩ (.int .i64 z))) := by
            have hs : But (fun y => y = b2) W1 (((((W1.setCell ⟨b2, 0, none⟩ (.slice ta nt tc)).setCell ⟨b2, 1, none⟩ (.slice (some ⟨g1, 0, none⟩) nc cc)).setCell ⟨b2, 2, none⟩ (.slice sa ns sc)).setCell ⟨b2, 3, none⟩ (.slice da nd dc)).setCell ⟨b2, 4, none⟩ (.int .i64 z)) := ((((((But.refl (fun y => y = b2) W1).setCell ⟨b2, 0, none⟩ _ (Or.inl rfl)).setCell ⟨b2, 1, none⟩ _ (Or.inl rfl)).setCell ⟨b2, 2, none⟩ _ (Or.inl rfl)).setCell ⟨b2, 3, none⟩ _ (Or.inl rfl)).setCell ⟨b2, 4, none⟩ _ (Or.inl rfl))
            have ra : Alien W1 b2 := ⟨_, _, M.out.c2, by decide, by decide, by decide⟩
            exact ⟨(((((M.out.c2.set 0 _).set 1 _).set 2 _).set 3 _).set 4 _), ⟨row_alienT M.out.dq.t hs ra, PO.alien M.out.dq.p hs ra, PO.alien M.out.dq.s hs ra, row_alien M.out.dq.d hs ra, M.out.dq.ap⟩, M.out.bel.trans (hs.below (fun g e => by have := GL.out; omega) (Nat.le_trans M.out.ge M.out.bel.size))⟩
          clear M
          go_wp2
          clear x0 x1 x2 x3 x4 k0 k1 k2 k3 k4 f0 f1 f2 f3 f4
          generalize (((((W1.setCell ⟨b2, 0, none⟩ (.slice ta nt tc)).setCell ⟨b2, 1, none⟩ (.slice (some ⟨g1, 0, none⟩) nc cc)).setCell ⟨b2, 2, none⟩ (.slice sa ns sc)).setCell ⟨b2, 3, none⟩ (.slice da nd dc)).setCell ⟨b2, 4, none⟩ (.int .i64 z)) = Z9 at HF ⊢
          refine bodyPost_ret (v := .agg #[.slice ta nt tc, .slice (some ⟨g1, 0, none⟩) nc cc, .slice sa ns sc, .slice da nd dc, .int .i64 z]) (results_c (p := 2) (ty := 28) Try.results25 _ _ _ ⟨b2, 0, none⟩ rfl (run_loadVar_mid Z9 b2 0 28 [.slice ta nt tc, .slice (some ⟨g1, 0, none⟩) nc cc, .slice sa ns sc, .slice da nd dc, .int .i64 z] _ HF.out.1.range Try.underlying28 rfl (by kernel_rfl))) rfl ?_
          exact ⟨⟨_, c1, rfl, dq_do HF.out.2.1 HL.out, by have := HTO.out; omega⟩, HF.out.2.2⟩
        · have q2 : (0 : Int) < (ns : Int) := by omega
          obtain ⟨y2, hx⟩ : ∃ x, c1.ss[0]? = some x := ⟨c1.ss[0]'(by have := HL.out; unfold Lens at this; omega), List.getElem?_eq_getElem _⟩
          have HX : Hid (c1.ss[0]? = some y2) := hx
          have hsx : y2.length ≤ 16777216 := by
            have h1 := (List.sublist_flatten_of_mem (List.mem_of_getElem? hx)).length_le
            have h2 := HTO.out
            unfold total at h2
            omega
          have HSX : Hid (y2.length ≤ 16777216) := hsx
          obtain ⟨g2, ua, uc, eg, r1, r2, r3, r4, r5, r6⟩ := piece_at M.out.dq.s HL.out.2.2.1 hx hsx
          subst eg
          have PA : Hid (W1.cell? ⟨g2, 0, none⟩ = some (.slice ua y2.length uc) ∧ W1.frozen? ⟨g2, 0, none⟩ = false ∧ BL (fun _ => True) W1 (.slice ua y2.length uc) y2 ∧ g2 < W1.heap.size) := ⟨r2, r3, r4, r5⟩
          have PB : Hid (B ≤ g2 ∧ b1 ≠ g2 ∧ b2 ≠ g2) := ⟨r1, r6 _ _ _ M.out.c1 (by decide), r6 _ _ _ M.out.c2 (by decide)⟩
          clear hx hsx r1 r2 r3 r4 r5 r6 e2
          have a2 : W1.cell? ⟨b1, 2, none⟩ = some (.slice (some ⟨g2, 0, none⟩) ns sc) := M.out.c1.cell 2
          go_upto_region 4 with fail
          clear a2 q2
          refine wp_region_held_drew (S := fun V' => CBox V' b1 28 [.slice ta nt tc, .slice (some ⟨g1, 0, none⟩) nc cc, .slice (some ⟨g2, 0, none⟩) ns sc, .slice da nd dc, .int .i64 z]) (by kernel_rfl) (M.out.c1.past below_drew) (fun HH => ?_)
          have BC : Hid (Below W1.heap.size W1 W1.drew) := below_drew
          have M : Hid _ := M
          generalize W1.drew = z1 at HH BC ⊢
          refine wpAnyH_take (i := 0) (v := .pointer (some ⟨b1, 2, none⟩)) ov0 (by kernel_rfl) (by kernel_rfl) (by kernel_rfl) (fun _ _ _ h => h) (Or.inl ⟨by rfl, fun V' hS => ?_⟩) HH ?_
          · go_simp
          simp only [Act.put, List.setIfInBounds_toArray, List.set_cons_zero, List.set_cons_succ]
          refine wpAnyH_take (i := 1) (v := .slice (some ⟨g2, 0, none⟩) ns sc) ov1 (by kernel_rfl) (by kernel_rfl) (by kernel_rfl) (fun _ _ _ h => h) (Or.inl ⟨by rfl, fun V' hS => ?_⟩) HH ?_
          · have c0 := hS.cell 2
            go_simp
          simp only [Act.put, List.setIfInBounds_toArray, List.set_cons_zero, List.set_cons_succ]
          refine wpAnyH_take (i := 2) (v := .pointer (some ⟨b1, 2, none⟩)) ov2 (by kernel_rfl) (by kernel_rfl) (by kernel_rfl) (fun _ _ _ h => h) (Or.inl ⟨by rfl, fun V' hS => ?_⟩) HH ?_
          · go_simp
          simp only [Act.put, List.setIfInBounds_toArray, List.set_cons_zero, List.set_cons_succ]
          refine wpAnyH_take (i := 3) (v := .slice (some ⟨g2, 0, none⟩) ns sc) ov3 (by kernel_rfl) (by kernel_rfl) (by kernel_rfl) (fun _ _ _ h => h) (Or.inl ⟨by rfl, fun V' hS => ?_⟩) HH ?_
          · have c0 := hS.cell 2
            go_simp
          simp only [Act.put, List.setIfInBounds_toArray, List.set_cons_zero, List.set_cons_succ]
          refine wpAnyH_take (i := 4) (v := .pointer (some ⟨g2, 0, none⟩)) ov4 (by kernel_rfl) (by kernel_rfl) (by kernel_rfl) (fun _ _ _ h => h) (Or.inl ⟨by rfl, fun V' hS => ?_⟩) HH ?_
          · go_simp
          simp only [Act.put, List.setIfInBounds_toArray, List.set_cons_zero, List.set_cons_succ]
          refine wpAnyH_ready (rs := [5, 7]) (by kernel_rfl) (by simp) ?_
          refine AllReadyH.cons ov5 (fun K hK => ?_) (AllReadyH.cons ov7 (fun K hK => ?_) AllReadyH.nil)
          · rw [if_pos (by rfl)]
            have c0 := (BC.out.cell (p := ⟨g2, 0, none⟩) PA.out.2.2.2).trans PA.out.1
            go_simp
            clear c0
            refine hK.out _ _ HH (fun _ => ?_)
            clear hK K
            (try simp only [Act.put, List.setIfInBounds_toArray, List.set_cons_zero, List.set_cons_succ])
            refine wpAnyH_ready (rs := [6, 7]) (by kernel_rfl) (by simp) ?_
            refine AllReadyH.cons ov6 (fun K hK => ?_) (AllReadyH.cons ov7 (fun K hK => ?_) AllReadyH.nil)
            · rw [if_pos (by rfl)]
              go_simp
              refine (own_is _ _ y2 (PA.out.2.2.1.past BC.out) HSX.out).mono ?_
              rintro e z1 ⟨v9, rfl, hO, hB⟩
              obtain ⟨oa, oc, rfl⟩ := owns_sl hO
              have FO9 := owns_base hO BC.out.size
              clear hO
              have H9 := HH.past hB
              clear HH
              have HH := H9
              clear H9
              have B9 := BC.out.trans (hB.mono BC.out.size)
              clear BC
              have BC : Hid (Below W1.heap.size W1 z1) := B9
              clear B9
              (try (have q9 := FB.out; clear FB; have FB : Hid (BL (fun _ => True) z1 (.slice (some ⟨bb, 0, none⟩) 1 1) [8]) := q9.past hB; clear q9))
              have FO : Hid (z1.ownsRow W1.heap.size 5 1 (.slice oa y2.length oc) y2.length (bV y2)) := FO9
              clear FO9 hB
              (try go_wp2_with fail)
              refine hK.out _ _ HH (fun _ => ?_)
              clear hK K
              (try simp only [Act.put, List.setIfInBounds_toArray, List.set_cons_zero, List.set_cons_succ])
              refine wpAnyH_ready (rs := [7]) (by kernel_rfl) (by simp) ?_
              refine AllReadyH.cons ov7 (fun K hK => ?_) AllReadyH.nil
              rw [if_pos (by rfl)]
              go_simp
              have hB : Below z1.heap.size z1 (z1.alloc (.cells #[.int .u8 8] 5)) := below_alloc _ _
              have FB9 : BL (fun _ => True) (z1.alloc (.cells #[.int .u8 8] 5)) (.slice (some ⟨z1.heap.size, 0, none⟩) 1 1) [8] := (BL.new z1 [8] (by simp)).mono fun _ _ _ => trivial
              have H9 := HH.past hB
              clear HH
              have HH := H9
              clear H9
              have B9 := BC.out.trans (hB.mono BC.out.size)
              clear BC
              have BC : Hid (Below W1.heap.size W1 (z1.alloc (.cells #[.int .u8 8] 5))) := B9
              clear B9
              (try (have q9 := FO.out; clear FO; have FO : Hid ((z1.alloc (.cells #[.int .u8 8] 5)).ownsRow W1.heap.size 5 1 (.slice oa y2.length oc) y2.length (bV y2)) := owns_past q9 hB; clear q9))
              have FB : Hid _ := FB9
              clear FB9 hB
              refine hK.out _ (z1.alloc (.cells #[.int .u8 8] 5)) HH (fun _ => ?_)
              clear hK K
              (try simp only [Act.put, List.setIfInBounds_toArray, List.set_cons_zero, List.set_cons_succ])
              generalize z1.heap.size = bb at FB ⊢
              (first | generalize (z1.alloc (.cells #[.int .u8 8] 5)) = z1 at HH BC FO FB ⊢ | generalize (z1.alloc (.cells #[.int .u8 8] 5)) = z1 at HH BC FB ⊢)
              refine wpAnyH_ready (rs := [8]) (by kernel_rfl) (by simp) ?_
              refine AllReadyH.cons ov8 (fun K hK => ?_) AllReadyH.nil
              rw [if_pos (by rfl)]
              refine wp_appB _ _ rfl W1.heap.size BC.out.size (.slice oa y2.length oc) y2 rfl FO.out (.slice (some ⟨bb, 0, none⟩) 1 1) [8] rfl FB.out (by have := HSX.out; simp only [List.length_singleton]; omega) ?_
              intro v9 z9 hA
              obtain ⟨oa2, oc2, e9⟩ := owns_sl hA.row
              rw [List.length_append, List.length_singleton] at e9
              subst e9
              have H9 := HH.app hA FO.out (by decide)
              have B9 := BC.out.trans (hA.below FO.out BC.out.size)
              have FO9 := hA.row
              rw [List.length_append, List.length_singleton] at FO9
              clear HH BC FO FB hA
              have HH := H9
              have BC : Hid (Below W1.heap.size W1 z9) := B9
              have FO : Hid (z9.ownsRow W1.heap.size 5 1 (.slice oa2 (y2.length + 1) oc2) (y2.length + 1) (bV (y2 ++ [8]))) := FO9
              clear H9 B9 FO9
              refine hK.out _ z9 HH (fun _ => ?_)
              clear hK K
              (try simp only [Act.put, List.setIfInBounds_toArray, List.set_cons_zero, List.set_cons_succ])
              refine wpAnyH_take (i := 9) (v := .pointer (some ⟨g2, 0, none⟩)) ov9 (by kernel_rfl) (by kernel_rfl) (by kernel_rfl) (fun _ _ _ h => h) (Or.inl ⟨by rfl, fun V' hS => ?_⟩) HH ?_
              · go_simp
              simp only [Act.put, List.setIfInBounds_toArray, List.set_cons_zero, List.set_cons_succ]
              refine wpAnyH_ready (rs := [10]) (by kernel_rfl) (by simp) ?_
              refine AllReadyH.cons ov10 (fun K hK => ?_) AllReadyH.nil
              rw [if_pos (by rfl)]
              have c0 := (BC.out.cell (p := ⟨g2, 0, none⟩) PA.out.2.2.2).trans PA.out.1
              have f0 := (BC.out.frozen (p := ⟨g2, 0, none⟩) PA.out.2.2.2).trans PA.out.2.1
              go_simp
              clear c0 f0
              have M9 : Hid (LgM b1 b2 B w (z9.setCell ⟨g2, 0, none⟩ (.slice oa2 (y2.length + 1) oc2)) (.slice ta nt tc) (.slice (some ⟨g1, 0, none⟩) nc cc) (.slice (some ⟨g2, 0, none⟩) ns sc) (.slice da nd dc) z ⟨c1.ts, c1.cs, c1.ss.set 0 (y2 ++ [8]), c1.d, c1.n⟩) := (M.out.past BC.out).set2 HL.out.2.2.1 PB.out.1 PB.out.2.1 PB.out.2.2 _ _ (by rw [List.length_append, List.length_singleton]; exact owns_base FO.out (Nat.le_trans M.out.ge M.out.bel.size))
              have H9 := HH.but ((But.refl (fun y => y = g2) z9).setCell ⟨g2, 0, none⟩ (.slice oa2 (y2.length + 1) oc2) (Or.inl rfl)) PB.out.2.1
              refine hK.out _ (z9.setCell ⟨g2, 0, none⟩ (.slice oa2 (y2.length + 1) oc2)) H9 (fun _ => ?_)
              clear hK K
              (try simp only [Act.put, List.setIfInBounds_toArray, List.set_cons_zero, List.set_cons_succ])
              generalize z9.setCell ⟨g2, 0, none⟩ (.slice oa2 (y2.length + 1) oc2) = W2 at M9 H9 ⊢
              clear H9 HH BC FO PA PB M HSX
              have M := M9
              clear M9
              refine wpAnyH_done (by kernel_rfl) ?_ _
              obtain ⟨c2, hc2⟩ : ∃ q : Con, q = ⟨c1.ts, c1.cs, c1.ss.set 0 (y2 ++ [8]), c1.d, c1.n⟩ := ⟨_, rfl⟩
              rw [← hc2] at M
              have HT9 : Hid (total c2 ≤ 2097154) := by have := total_set2 c1 y2 8 HX.out; unfold Hid; rw [hc2, this]; have := HTO.out; omega
              have HL9 : Hid (Lens c2 nt nc ns nd z) := by have := HL.out; unfold Lens at this; unfold Hid Lens; rw [hc2]; simp only [List.length_set]; exact this
              clear hc2 HTO HL HX
              have HTO := HT9
              have HL := HL9
              clear HT9 HL9
              go_upto_region 5 with fail
              have x0 : W2.cell? ⟨b1, 0, none⟩ = some (.slice ta nt tc) := M.out.c1.cell 0
              have x1 : W2.cell? ⟨b1, 1, none⟩ = some (.slice (some ⟨g1, 0, none⟩) nc cc) := M.out.c1.cell 1
              have x2 : W2.cell? ⟨b1, 2, none⟩ = some (.slice (some ⟨g2, 0, none⟩) ns sc) := M.out.c1.cell 2
              have x3 : W2.cell? ⟨b1, 3, none⟩ = some (.slice da nd dc) := M.out.c1.cell 3
              have x4 : W2.cell? ⟨b1, 4, none⟩ = some (.int .i64 z) := M.out.c1.cell 4
              have k0 : W2.cell? ⟨b2, 0, none⟩ = some (.slice none 0 0) := M.out.c2.cell 0
              have f0 := CBox.frozen M.out.c2 0
              have k1 : W2.cell? ⟨b2, 1, none⟩ = some (.slice none 0 0) := M.out.c2.cell 1
              have f1 := CBox.frozen M.out.c2 1
              have k2 : W2.cell? ⟨b2, 2, none⟩ = some (.slice none 0 0) := M.out.c2.cell 2
              have f2 := CBox.frozen M.out.c2 2
              have k3 : W2.cell? ⟨b2, 3, none⟩ = some (.slice none 0 0) := M.out.c2.cell 3
              have f3 := CBox.frozen M.out.c2 3
              have k4 : W2.cell? ⟨b2, 4, none⟩ = some (.int .i64 0) := M.out.c2.cell 4
              have f4 := CBox.frozen M.out.c2 4
              have HF : Hid (CBox (((((W2.setCell ⟨b2, 0, none⟩ (.slice ta nt tc)).setCell ⟨b2, 1, none⟩ (.slice (some ⟨g1, 0, none⟩) nc cc)).setCell ⟨b2, 2, none⟩ (.slice (some ⟨g2, 0, none⟩) ns sc)).setCell ⟨b2, 3, none⟩ (.slice da nd dc)).setCell ⟨b2, 4, none⟩ (.int .i64 z)) b2 28 [.slice ta nt tc, .slice (some ⟨g1, 0, none⟩) nc cc, .slice (some ⟨g2, 0, none⟩) ns sc, .slice da nd dc, .int .i64 z] ∧ DQ B (((((W2.setCell ⟨b2, 0, none⟩ (.slice ta nt tc)).setCell ⟨b2, 1, none⟩ (.slice (some ⟨g1, 0, none⟩) nc cc)).setCell ⟨b2, 2, none⟩ (.slice (some ⟨g2, 0, none⟩) ns sc)).setCell ⟨b2, 3, none⟩ (.slice da nd dc)).setCell ⟨b2, 4, none⟩ (.int .i64 z)) (.slice ta nt tc) (.slice (some ⟨g1, 0, none⟩) nc cc) (.slice (some ⟨g2, 0, none⟩) ns sc) (.slice da nd dc) c2 ∧ Below B w (((((W2.setCell ⟨b2, 0, none⟩ (.slice ta nt tc)).setCell ⟨b2, 1, none⟩ (.slice (some ⟨g1, 0, none⟩) nc cc)).setCell ⟨b2, 2, none⟩ (.slice (some ⟨g2, 0, none⟩) ns sc)).setCell ⟨b2, 3, none⟩ (.slice da nd dc)).setCell ⟨b2, 4, none⟩ (.int .i64 z))) := by
                have hs : But (fun y => y = b2) W2 (((((W2.setCell ⟨b2, 0, none⟩ (.slice ta nt tc)).setCell ⟨b2, 1, none⟩ (.slice (some ⟨g1, 0, none⟩) nc cc)).setCell ⟨b2, 2, none⟩ (.slice (some ⟨g2, 0, none⟩) ns sc)).setCell ⟨b2, 3, none⟩ (.slice da nd dc)).setCell ⟨b2, 4, none⟩ (.int .i64 z)) := ((((((But.refl (fun y => y = b2) W2).setCell ⟨b2, 0, none⟩ _ (Or.inl rfl)).setCell ⟨b2, 1, none⟩ _ (Or.inl rfl)).setCell ⟨b2, 2, none⟩ _ (Or.inl rfl)).setCell ⟨b2, 3, none⟩ _ (Or.inl rfl)).setCell ⟨b2, 4, none⟩ _ (Or.inl rfl))
                have ra : Alien W2 b2 := ⟨_, _, M.out.c2, by decide, by decide, by decide⟩
                exact ⟨(((((M.out.c2.set 0 _).set 1 _).set 2 _).set 3 _).set 4 _), ⟨row_alienT M.out.dq.t hs ra, PO.alien M.out.dq.p hs ra, PO.alien M.out.dq.s hs ra, row_alien M.out.dq.d hs ra, M.out.dq.ap⟩, M.out.bel.trans (hs.below (fun g e => by have := GL.out; omega) (Nat.le_trans M.out.ge M.out.bel.size))⟩
              clear M
              go_wp2
              clear x0 x1 x2 x3 x4 k0 k1 k2 k3 k4 f0 f1 f2 f3 f4
              generalize (((((W2.setCell ⟨b2, 0, none⟩ (.slice ta nt tc)).setCell ⟨b2, 1, none⟩ (.slice (some ⟨g1, 0, none⟩) nc cc)).setCell ⟨b2, 2, none⟩ (.slice (some ⟨g2, 0, none⟩) ns sc)).setCell ⟨b2, 3, none⟩ (.slice da nd dc)).setCell ⟨b2, 4, none⟩ (.int .i64 z)) = Z9 at HF ⊢
              refine bodyPost_ret (v := .agg #[.slice ta nt tc, .slice (some ⟨g1, 0, none⟩) nc cc, .slice (some ⟨g2, 0, none⟩) ns sc, .slice da nd dc, .int .i64 z]) (results_c (p := 2) (ty := 28) Try.results25 _ _ _ ⟨b2, 0, none⟩ rfl (run_loadVar_mid Z9 b2 0 28 [.slice ta nt tc, .slice (some ⟨g1, 0, none⟩) nc cc, .slice (some ⟨g2, 0, none⟩) ns sc, .slice da nd dc, .int .i64 z] _ HF.out.1.range Try.underlying28 rfl (by kernel_rfl))) rfl ?_
              exact ⟨⟨_, c2, rfl, dq_do HF.out.2.1 HL.out, by have := HTO.out; omega⟩, HF.out.2.2⟩
            · rw [if_pos (by rfl)]
              go_simp
              have hB : Below z1.heap.size z1 (z1.alloc (.cells #[.int .u8 8] 5)) := below_alloc _ _
              have FB9 : BL (fun _ => True) (z1.alloc (.cells #[.int .u8 8] 5)) (.slice (some ⟨z1.heap.size, 0, none⟩) 1 1) [8] := (BL.new z1 [8] (by simp)).mono fun _ _ _ => trivial
              have H9 := HH.past hB
              clear HH
              have HH := H9
              clear H9
              have B9 := BC.out.trans (hB.mono BC.out.size)
              clear BC
              have BC : Hid (Below W1.heap.size W1 (z1.alloc (.cells #[.int .u8 8] 5))) := B9
              clear B9
              (try (have q9 := FO.out; clear FO; have FO : Hid ((z1.alloc (.cells #[.int .u8 8] 5)).ownsRow W1.heap.size 5 1 (.slice oa y2.length oc) y2.length (bV y2)) := owns_past q9 hB; clear q9))
              have FB : Hid _ := FB9
              clear FB9 hB
              refine hK.out _ (z1.alloc (.cells #[.int .u8 8] 5)) HH (fun _ => ?_)
              clear hK K
              (try simp only [Act.put, List.setIfInBounds_toArray, List.set_cons_zero, List.set_cons_succ])
              generalize z1.heap.size = bb at FB ⊢
              (first | generalize (z1.alloc (.cells #[.int .u8 8] 5)) = z1 at HH BC FO FB ⊢ | generalize (z1.alloc (.cells #[.int .u8 8] 5)) = z1 at HH BC FB ⊢)
              refine wpAnyH_ready (rs := [6]) (by kernel_rfl) (by simp) ?_
              refine AllReadyH.cons ov6 (fun K hK => ?_) AllReadyH.nil
              rw [if_pos (by rfl)]
              go_simp
              refine (own_is _ _ y2 (PA.out.2.2.1.past BC.out) HSX.out).mono ?_
              rintro e z1 ⟨v9, rfl, hO, hB⟩
              obtain ⟨oa, oc, rfl⟩ := owns_sl hO
              have FO9 := owns_base hO BC.out.size
              clear hO
              have H9 := HH.past hB
              clear HH
              have HH := H9
              clear H9
              have B9 := BC.out.trans (hB.mono BC.out.size)
              clear BC
              have BC : Hid (Below W1.heap.size W1 z1) := B9
              clear B9
              (try (have q9 := FB.out; clear FB; have FB : Hid (BL (fun _ => True) z1 (.slice (some ⟨bb, 0, none⟩) 1 1) [8]) := q9.past hB; clear q9))
              have FO : Hid (z1.ownsRow W1.heap.size 5 1 (.slice oa y2.length oc) y2.length (bV y2)) := FO9
              clear FO9 hB
              (try go_wp2_with fail)
              refine hK.out _ _ HH (fun _ => ?_)
              clear hK K
              (try simp only [Act.put, List.setIfInBounds_toArray, List.set_cons_zero, List.set_cons_succ])
              refine wpAnyH_ready (rs := [8]) (by kernel_rfl) (by simp) ?_
              refine AllReadyH.cons ov8 (fun K hK => ?_) AllReadyH.nil
              rw [if_pos (by rfl)]
              refine wp_appB _ _ rfl W1.heap.size BC.out.size (.slice oa y2.length oc) y2 rfl FO.out (.slice (some ⟨bb, 0, none⟩) 1 1) [8] rfl FB.out (by have := HSX.out; simp only [List.length_singleton]; omega) ?_
              intro v9 z9 hA
              obtain ⟨oa2, oc2, e9⟩ := owns_sl hA.row
              rw [List.length_append, List.length_singleton] at e9
              subst e9
              have H9 := HH.app hA FO.out (by decide)
              have B9 := BC.out.trans (hA.below FO.out BC.out.size)
              have FO9 := hA.row
              rw [List.length_append, List.length_singleton] at FO9
              clear HH BC FO FB hA
              have HH := H9
              have BC : Hid (Below W1.heap.size W1 z9) := B9
              have FO : Hid (z9.ownsRow W1.heap.size 5 1 (.slice oa2 (y2.length + 1) oc2) (y2.length + 1) (bV (y2 ++ [8]))) := FO9
              clear H9 B9 FO9
              refine hK.out _ z9 HH (fun _ => ?_)
              clear hK K
              (try simp only [Act.put, List.setIfInBounds_toArray, List.set_cons_zero, List.set_cons_succ])
              refine wpAnyH_take (i := 9) (v := .pointer (some ⟨g2, 0, none⟩)) ov9 (by kernel_rfl) (by kernel_rfl) (by kernel_rfl) (fun _ _ _ h => h) (Or.inl ⟨by rfl, fun V' hS => ?_⟩) HH ?_
              · go_simp
              simp only [Act.put, List.setIfInBounds_toArray, List.set_cons_zero, List.set_cons_succ]
              refine wpAnyH_ready (rs := [10]) (by kernel_rfl) (by simp) ?_
              refine AllReadyH.cons ov10 (fun K hK => ?_) AllReadyH.nil
              rw [if_pos (by rfl)]
              have c0 := (BC.out.cell (p := ⟨g2, 0, none⟩) PA.out.2.2.2).trans PA.out.1
              have f0 := (BC.out.frozen (p := ⟨g2, 0, none⟩) PA.out.2.2.2).trans PA.out.2.1
              go_simp
              clear c0 f0
              have M9 : Hid (LgM b1 b2 B w (z9.setCell ⟨g2, 0, none⟩ (.slice oa2 (y2.length + 1) oc2)) (.slice ta nt tc) (.slice (some ⟨g1, 0, none⟩) nc cc) (.slice (some ⟨g2, 0, none⟩) ns sc) (.slice da nd dc) z ⟨c1.ts, c1.cs, c1.ss.set 0 (y2 ++ [8]), c1.d, c1.n⟩) := (M.out.past BC.out).set2 HL.out.2.2.1 PB.out.1 PB.out.2.1 PB.out.2.2 _ _ (by rw [List.length_append, List.length_singleton]; exact owns_base FO.out (Nat.le_trans M.out.ge M.out.bel.size))
              have H9 := HH.but ((But.refl (fun y => y = g2) z9).setCell ⟨g2, 0, none⟩ (.slice oa2 (y2.length + 1) oc2) (Or.inl rfl)) PB.out.2.1
              refine hK.out _ (z9.setCell ⟨g2, 0, none⟩ (.slice oa2 (y2.length + 1) oc2)) H9 (fun _ => ?_)
              clear hK K
              (try simp only [Act.put, List.setIfInBounds_toArray, List.set_cons_zero, List.set_cons_succ])
              generalize z9.setCell ⟨g2, 0, none⟩ (.slice oa2 (y2.length + 1) oc2) = W2 at M9 H9 ⊢
              clear H9 HH BC FO PA PB M HSX
              have M := M9
              clear M9
              refine wpAnyH_done (by kernel_rfl) ?_ _
              obtain ⟨c2, hc2⟩ : ∃ q : Con, q = ⟨c1.ts, c1.cs, c1.ss.set 0 (y2 ++ [8]), c1.d, c1.n⟩ := ⟨_, rfl⟩
              rw [← hc2] at M
              have HT9 : Hid (total c2 ≤ 2097154) := by have := total_set2 c1 y2 8 HX.out; unfold Hid; rw [hc2, this]; have := HTO.out; omega
              have HL9 : Hid (Lens c2 nt nc ns nd z) := by have := HL.out; unfold Lens at this; unfold Hid Lens; rw [hc2]; simp only [List.length_set]; exact this
              clear hc2 HTO HL HX
              have HTO := HT9
              have HL := HL9
              clear HT9 HL9
              go_upto_region 5 with fail
              have x0 : W2.cell? ⟨b1, 0, none⟩ = some (.slice ta nt tc) := M.out.c1.cell 0
              have x1 : W2.cell? ⟨b1, 1, none⟩ = some (.slice (some ⟨g1, 0, none⟩) nc cc) := M.out.c1.cell 1
              have x2 : W2.cell? ⟨b1, 2, none⟩ = some (.slice (some ⟨g2, 0, none⟩) ns sc) := M.out.c1.cell 2
              have x3 : W2.cell? ⟨b1, 3, none⟩ = some (.slice da nd dc) := M.out.c1.cell 3
              have x4 : W2.cell? ⟨b1, 4, none⟩ = some (.int .i64 z) := M.out.c1.cell 4
              have k0 : W2.cell? ⟨b2, 0, none⟩ = some (.slice none 0 0) := M.out.c2.cell 0
              have f0 := CBox.frozen M.out.c2 0
              have k1 : W2.cell? ⟨b2, 1, none⟩ = some (.slice none 0 0) := M.out.c2.cell 1
              have f1 := CBox.frozen M.out.c2 1
              have k2 : W2.cell? ⟨b2, 2, none⟩ = some (.slice none 0 0) := M.out.c2.cell 2
              have f2 := CBox.frozen M.out.c2 2
              have k3 : W2.cell? ⟨b2, 3, none⟩ = some (.slice none 0 0) := M.out.c2.cell 3
              have f3 := CBox.frozen M.out.c2 3
              have k4 : W2.cell? ⟨b2, 4, none⟩ = some (.int .i64 0) := M.out.c2.cell 4
              have f4 := CBox.frozen M.out.c2 4
              have HF : Hid (CBox (((((W2.setCell ⟨b2, 0, none⟩ (.slice ta nt tc)).setCell ⟨b2, 1, none⟩ (.slice (some ⟨g1, 0, none⟩) nc cc)).setCell ⟨b2, 2, none⟩ (.slice (some ⟨g2, 0, none⟩) ns sc)).setCell ⟨b2, 3, none⟩ (.slice da nd dc)).setCell ⟨b2, 4, none⟩ (.int .i64 z)) b2 28 [.slice ta nt tc, .slice (some ⟨g1, 0, none⟩) nc cc, .slice (some ⟨g2, 0, none⟩) ns sc, .slice da nd dc, .int .i64 z] ∧ DQ B (((((W2.setCell ⟨b2, 0, none⟩ (.slice ta nt tc)).setCell ⟨b2, 1, none⟩ (.slice (some ⟨g1, 0, none⟩) nc cc)).setCell ⟨b2, 2, none⟩ (.slice (some ⟨g2, 0, none⟩) ns sc)).setCell ⟨b2, 3, none⟩ (.slice da nd dc)).setCell ⟨b2, 4, none⟩ (.int .i64 z)) (.slice ta nt tc) (.slice (some ⟨g1, 0, none⟩) nc cc) (.slice (some ⟨g2, 0, none⟩) ns sc) (.slice da nd dc) c2 ∧ Below B w (((((W2.setCell ⟨b2, 0, none⟩ (.slice ta nt tc)).setCell ⟨b2, 1, none⟩ (.slice (some ⟨g1, 0, none⟩) nc cc)).setCell ⟨b2, 2, none⟩ (.slice (some ⟨g2, 0, none⟩) ns sc)).setCell ⟨b2, 3, none⟩ (.slice da nd dc)).setCell ⟨b2, 4, none⟩ (.int .i64 z))) := by
                have hs : But (fun y => y = b2) W2 (((((W2.setCell ⟨b2, 0, none⟩ (.slice ta nt tc)).setCell ⟨b2, 1, none⟩ (.slice (some ⟨g1, 0, none⟩) nc cc)).setCell ⟨b2, 2, none⟩ (.slice (some ⟨g2, 0, none⟩) ns sc)).setCell ⟨b2, 3, none⟩ (.slice da nd dc)).setCell ⟨b2, 4, none⟩ (.int .i64 z)) := ((((((But.refl (fun y => y = b2) W2).setCell ⟨b2, 0, none⟩ _ (Or.inl rfl)).setCell ⟨b2, 1, none⟩ _ (Or.inl rfl)).setCell ⟨b2, 2, none⟩ _ (Or.inl rfl)).setCell ⟨b2, 3, none⟩ _ (Or.inl rfl)).setCell ⟨b2, 4, none⟩ _ (Or.inl rfl))
                have ra : Alien W2 b2 := ⟨_, _, M.out.c2, by decide, by decide, by decide⟩
                exact ⟨(((((M.out.c2.set 0 _).set 1 _).set 2 _).set 3 _).set 4 _), ⟨row_alienT M.out.dq.t hs ra, PO.alien M.out.dq.p hs ra, PO.alien M.out.dq.s hs ra, row_alien M.out.dq.d hs ra, M.out.dq.ap⟩, M.out.bel.trans (hs.below (fun g e => by have := GL.out; omega) (Nat.le_trans M.out.ge M.out.bel.size))⟩
              clear M
              go_wp2
              clear x0 x1 x2 x3 x4 k0 k1 k2 k3 k4 f0 f1 f2 f3 f4
              generalize (((((W2.setCell ⟨b2, 0, none⟩ (.slice ta nt tc)).setCell ⟨b2, 1, none⟩ (.slice (some ⟨g1, 0, none⟩) nc cc)).setCell ⟨b2, 2, none⟩ (.slice (some ⟨g2, 0, none⟩) ns sc)).setCell ⟨b2, 3, none⟩ (.slice da nd dc)).setCell ⟨b2, 4, none⟩ (.int .i64 z)) = Z9 at HF ⊢
              refine bodyPost_ret (v := .agg #[.slice ta nt tc, .slice (some ⟨g1, 0, none⟩) nc cc, .slice (some ⟨g2, 0, none⟩) ns sc, .slice da nd dc, .int .i64 z]) (results_c (p := 2) (ty := 28) Try.results25 _ _ _ ⟨b2, 0, none⟩ rfl (run_loadVar_mid Z9 b2 0 28 [.slice ta nt tc, .slice (some ⟨g1, 0, none⟩) nc cc, .slice (some ⟨g2, 0, none⟩) ns sc, .slice da nd dc, .int .i64 z] _ HF.out.1.range Try.underlying28 rfl (by kernel_rfl))) rfl ?_
              exact ⟨⟨_, c2, rfl, dq_do HF.out.2.1 HL.out, by have := HTO.out; omega⟩, HF.out.2.2⟩
          · rw [if_pos (by rfl)]
            go_simp
            have hB : Below z1.heap.size z1 (z1.alloc (.cells #[.int .u8 8] 5)) := below_alloc _ _
            have FB9 : BL (fun _ => True) (z1.alloc (.cells #[.int .u8 8] 5)) (.slice (some ⟨z1.heap.size, 0, none⟩) 1 1) [8] := (BL.new z1 [8] (by simp)).mono fun _ _ _ => trivial
            have H9 := HH.past hB
            clear HH
            have HH := H9
            clear H9
            have B9 := BC.out.trans (hB.mono BC.out.size)
            clear BC
            have BC : Hid (Below W1.heap.size W1 (z1.alloc (.cells #[.int .u8 8] 5))) := B9
            clear B9
            (try (have q9 := FO.out; clear FO; have FO : Hid ((z1.alloc (.cells #[.int .u8 8] 5)).ownsRow W1.heap.size 5 1 (.slice oa y2.length oc) y2.length (bV y2)) := owns_past q9 hB; clear q9))
            have FB : Hid _ := FB9
            clear FB9 hB
            refine hK.out _ (z1.alloc (.cells #[.int .u8 8] 5)) HH (fun _ => ?_)
            clear hK K
            (try simp only [Act.put, List.setIfInBounds_toArray, List.set_cons_zero, List.set_cons_succ])
            generalize z1.heap.size = bb at FB ⊢
            (first | generalize (z1.alloc (.cells #[.int .u8 8] 5)) = z1 at HH BC FO FB ⊢ | generalize (z1.alloc (.cells #[.int .u8 8] 5)) = z1 at HH BC FB ⊢)
            refine wpAnyH_ready (rs := [5]) (by kernel_rfl) (by simp) ?_
            refine AllReadyH.cons ov5 (fun K hK => ?_) AllReadyH.nil
            rw [if_pos (by rfl)]
            have c0 := (BC.out.cell (p := ⟨g2, 0, none⟩) PA.out.2.2.2).trans PA.out.1
            go_simp
            clear c0
            refine hK.out _ _ HH (fun _ => ?_)
            clear hK K
            (try simp only [Act.put, List.setIfInBounds_toArray, List.set_cons_zero, List.set_cons_succ])
            refine wpAnyH_ready (rs := [6]) (by kernel_rfl) (by simp) ?_
            refine AllReadyH.cons ov6 (fun K hK => ?_) AllReadyH.nil
            rw [if_pos (by rfl)]
            go_simp
            refine (own_is _ _ y2 (PA.out.2.2.1.past BC.out) HSX.out).mono ?_
            rintro e z1 ⟨v9, rfl, hO, hB⟩
            obtain ⟨oa, oc, rfl⟩ := owns_sl hO
            have FO9 := owns_base hO BC.out.size
            clear hO
            have H9 := HH.past hB
            clear HH
            have HH := H9
            clear H9
            have B9 := BC.out.trans (hB.mono BC.out.size)
            clear BC
            have BC : Hid (Below W1.heap.size W1 z1) := B9
            clear B9
            (try (have q9 := FB.out; clear FB; have FB : Hid (BL (fun _ => True) z1 (.slice (some ⟨bb, 0, none⟩) 1 1) [8]) := q9.past hB; clear q9))
            have FO : Hid (z1.ownsRow W1.heap.size 5 1 (.slice oa y2.length oc) y2.length (bV y2)) := FO9
            clear FO9 hB
            (try go_wp2_with fail)
            refine hK.out _ _ HH (fun _ => ?_)
            clear hK K
            (try simp only [Act.put, List.setIfInBounds_toArray, List.set_cons_zero, List.set_cons_succ])
            refine wpAnyH_ready (rs := [8]) (by kernel_rfl) (by simp) ?_
            refine AllReadyH.cons ov8 (fun K hK => ?_) AllReadyH.nil
            rw [if_pos (by rfl)]
            refine wp_appB _ _ rfl W1.heap.size BC.out.size (.slice oa y2.length oc) y2 rfl FO.out (.slice (some ⟨bb, 0, none⟩) 1 1) [8] rfl FB.out (by have := HSX.out; simp only [List.length_singleton]; omega) ?_
            intro v9 z9 hA
            obtain ⟨oa2, oc2, e9⟩ := owns_sl hA.row
            rw [List.length_append, List.length_singleton] at e9
            subst e9
            have H9 := HH.app hA FO.out (by decide)
            have B9 := BC.out.trans (hA.below FO.out BC.out.size)
            have FO9 := hA.row
            rw [List.length_append, List.length_singleton] at FO9
            clear HH BC FO FB hA
            have HH := H9
            have BC : Hid (Below W1.heap.size W1 z9) := B9
            have FO : Hid (z9.ownsRow W1.heap.size 5 1 (.slice oa2 (y2.length + 1) oc2) (y2.length + 1) (bV (y2 ++ [8]))) := FO9
            clear H9 B9 FO9
            refine hK.out _ z9 HH (fun _ => ?_)
            clear hK K
            (try simp only [Act.put, List.setIfInBounds_toArray, List.set_cons_zero, List.set_cons_succ])
            refine wpAnyH_take (i := 9) (v := .pointer (some ⟨g2, 0, none⟩)) ov9 (by kernel_rfl) (by kernel_rfl) (by kernel_rfl) (fun _ _ _ h => h) (Or.inl ⟨by rfl, fun V' hS => ?_⟩) HH ?_
            · go_simp
            simp only [Act.put, List.setIfInBounds_toArray, List.set_cons_zero, List.set_cons_succ]
            refine wpAnyH_ready (rs := [10]) (by kernel_rfl) (by simp) ?_
            refine AllReadyH.cons ov10 (fun K hK => ?_) AllReadyH.nil
            rw [if_pos (by rfl)]
            have c0 := (BC.out.cell (p := ⟨g2, 0, none⟩) PA.out.2.2.2).trans PA.out.1
            have f0 := (BC.out.frozen (p := ⟨g2, 0, none⟩) PA.out.2.2.2).trans PA.out.2.1
            go_simp
            clear c0 f0
            have M9 : Hid (LgM b1 b2 B w (z9.setCell ⟨g2, 0, none⟩ (.slice oa2 (y2.length + 1) oc2)) (.slice ta nt tc) (.slice (some ⟨g1, 0, none⟩) nc cc) (.slice (some ⟨g2, 0, none⟩) ns sc) (.slice da nd dc) z ⟨c1.ts, c1.cs, c1.ss.set 0 (y2 ++ [8]), c1.d, c1.n⟩) := (M.out.past BC.out).set2 HL.out.2.2.1 PB.out.1 PB.out.2.1 PB.out.2.2 _ _ (by rw [List.length_append, List.length_singleton]; exact owns_base FO.out (Nat.le_trans M.out.ge M.out.bel.size))
            have H9 := HH.but ((But.refl (fun y => y = g2) z9).setCell ⟨g2, 0, none⟩ (.slice oa2 (y2.length + 1) oc2) (Or.inl rfl)) PB.out.2.1
            refine hK.out _ (z9.setCell ⟨g2, 0, none⟩ (.slice oa2 (y2.length + 1) oc2)) H9 (fun _ => ?_)
            clear hK K
            (try simp only [Act.put, List.setIfInBounds_toArray, List.set_cons_zero, List.set_cons_succ])
            generalize z9.setCell ⟨g2, 0, none⟩ (.slice oa2 (y2.length + 1) oc2) = W2 at M9 H9 ⊢
            clear H9 HH BC FO PA PB M HSX
            have M := M9
            clear M9
            refine wpAnyH_done (by kernel_rfl) ?_ _
            obtain ⟨c2, hc2⟩ : ∃ q : Con, q = ⟨c1.ts, c1.cs, c1.ss.set 0 (y2 ++ [8]), c1.d, c1.n⟩ := ⟨_, rfl⟩
            rw [← hc2] at M
            have HT9 : Hid (total c2 ≤ 2097154) := by have := total_set2 c1 y2 8 HX.out; unfold Hid; rw [hc2, this]; have := HTO.out; omega
            have HL9 : Hid (Lens c2 nt nc ns nd z) := by have := HL.out; unfold Lens at this; unfold Hid Lens; rw [hc2]; simp only [List.length_set]; exact this
            clear hc2 HTO HL HX
            have HTO := HT9
            have HL := HL9
            clear HT9 HL9
            go_upto_region 5 with fail
            have x0 : W2.cell? ⟨b1, 0, none⟩ = some (.slice ta nt tc) := M.out.c1.cell 0
            have x1 : W2.cell? ⟨b1, 1, none⟩ = some (.slice (some ⟨g1, 0, none⟩) nc cc) := M.out.c1.cell 1
            have x2 : W2.cell? ⟨b1, 2, none⟩ = some (.slice (some ⟨g2, 0, none⟩) ns sc) := M.out.c1.cell 2
            have x3 : W2.cell? ⟨b1, 3, none⟩ = some (.slice da nd dc) := M.out.c1.cell 3
            have x4 : W2.cell? ⟨b1, 4, none⟩ = some (.int .i64 z) := M.out.c1.cell 4
            have k0 : W2.cell? ⟨b2, 0, none⟩ = some (.slice none 0 0) := M.out.c2.cell 0
            have f0 := CBox.frozen M.out.c2 0
            have k1 : W2.cell? ⟨b2, 1, none⟩ = some (.slice none 0 0) := M.out.c2.cell 1
            have f1 := CBox.frozen M.out.c2 1
            have k2 : W2.cell? ⟨b2, 2, none⟩ = some (.slice none 0 0) := M.out.c2.cell 2
            have f2 := CBox.frozen M.out.c2 2
            have k3 : W2.cell? ⟨b2, 3, none⟩ = some (.slice none 0 0) := M.out.c2.cell 3
            have f3 := CBox.frozen M.out.c2 3
            have k4 : W2.cell? ⟨b2, 4, none⟩ = some (.int .i64 0) := M.out.c2.cell 4
            have f4 := CBox.frozen M.out.c2 4
            have HF : Hid (CBox (((((W2.setCell ⟨b2, 0, none⟩ (.slice ta nt tc)).setCell ⟨b2, 1, none⟩ (.slice (some ⟨g1, 0, none⟩) nc cc)).setCell ⟨b2, 2, none⟩ (.slice (some ⟨g2, 0, none⟩) ns sc)).setCell ⟨b2, 3, none⟩ (.slice da nd dc)).setCell ⟨b2, 4, none⟩ (.int .i64 z)) b2 28 [.slice ta nt tc, .slice (some ⟨g1, 0, none⟩) nc cc, .slice (some ⟨g2, 0, none⟩) ns sc, .slice da nd dc, .int .i64 z] ∧ DQ B (((((W2.setCell ⟨b2, 0, none⟩ (.slice ta nt tc)).setCell ⟨b2, 1, none⟩ (.slice (some ⟨g1, 0, none⟩) nc cc)).setCell ⟨b2, 2, none⟩ (.slice (some ⟨g2, 0, none⟩) ns sc)).setCell ⟨b2, 3, none⟩ (.slice da nd dc)).setCell ⟨b2, 4, none⟩ (.int .i64 z)) (.slice ta nt tc) (.slice (some ⟨g1, 0, none⟩) nc cc) (.slice (some ⟨g2, 0, none⟩) ns sc) (.slice da nd dc) c2 ∧ Below B w (((((W2.setCell ⟨b2, 0, none⟩ (.slice ta nt tc)).setCell ⟨b2, 1, none⟩ (.slice (some ⟨g1, 0, none⟩) nc cc)).setCell ⟨b2, 2, none⟩ (.slice (some ⟨g2, 0, none⟩) ns sc)).setCell ⟨b2, 3, none⟩ (.slice da nd dc)).setCell ⟨b2, 4, none⟩ (.int .i64 z))) := by
              have hs : But (fun y => y = b2) W2 (((((W2.setCell ⟨b2, 0, none⟩ (.slice ta nt tc)).setCell ⟨b2, 1, none⟩ (.slice (some ⟨g1, 0, none⟩) nc cc)).setCell ⟨b2, 2, none⟩ (.slice (some ⟨g2, 0, none⟩) ns sc)).setCell ⟨b2, 3, none⟩ (.slice da nd dc)).setCell ⟨b2, 4, none⟩ (.int .i64 z)) := ((((((But.refl (fun y => y = b2) W2).setCell ⟨b2, 0, none⟩ _ (Or.inl rfl)).setCell ⟨b2, 1, none⟩ _ (Or.inl rfl)).setCell ⟨b2, 2, none⟩ _ (Or.inl rfl)).setCell ⟨b2, 3, none⟩ _ (Or.inl rfl)).setCell ⟨b2, 4, none⟩ _ (Or.inl rfl))
              have ra : Alien W2 b2 := ⟨_, _, M.out.c2, by decide, by decide, by decide⟩
              exact ⟨(((((M.out.c2.set 0 _).set 1 _).set 2 _).set 3 _).set 4 _), ⟨row_alienT M.out.dq.t hs ra, PO.alien M.out.dq.p hs ra, PO.alien M.out.dq.s hs ra, row_alien M.out.dq.d hs ra, M.out.dq.ap⟩, M.out.bel.trans (hs.below (fun g e => by have := GL.out; omega) (Nat.le_trans M.out.ge M.out.bel.size))⟩
            clear M
            go_wp2
            clear x0 x1 x2 x3 x4 k0 k1 k2 k3 k4 f0 f1 f2 f3 f4
            generalize (((((W2.setCell ⟨b2, 0, none⟩ (.slice ta nt tc)).setCell ⟨b2, 1, none⟩ (.slice (some ⟨g1, 0, none⟩) nc cc)).setCell ⟨b2, 2, none⟩ (.slice (some ⟨g2, 0, none⟩) ns sc)).setCell ⟨b2, 3, none⟩ (.slice da nd dc)).setCell ⟨b2, 4, none⟩ (.int .i64 z)) = Z9 at HF ⊢
            refine bodyPost_ret (v := .agg #[.slice ta nt tc, .slice (some ⟨g1, 0, none⟩) nc cc, .slice (some ⟨g2, 0, none⟩) ns sc, .slice da nd dc, .int .i64 z]) (results_c (p := 2) (ty := 28) Try.results25 _ _ _ ⟨b2, 0, none⟩ rfl (run_loadVar_mid Z9 b2 0 28 [.slice ta nt tc, .slice (some ⟨g1, 0, none⟩) nc cc, .slice (some ⟨g2, 0, none⟩) ns sc, .slice da nd dc, .int .i64 z] _ HF.out.1.range Try.underlying28 rfl (by kernel_rfl))) rfl ?_
            exact ⟨⟨_, c2, rfl, dq_do HF.out.2.1 HL.out, by have := HTO.out; omega⟩, HF.out.2.2⟩
      · rw [if_pos (by rfl)]
        go_simp
        have hB : Below z1.heap.size z1 (z1.alloc (.cells #[.int .u8 7] 5)) := below_alloc _ _
        have FB9 : BL (fun _ => True) (z1.alloc (.cells #[.int .u8 7] 5)) (.slice (some ⟨z1.heap.size, 0, none⟩) 1 1) [7] := (BL.new z1 [7] (by simp)).mono fun _ _ _ => trivial
        have H9 := HH.past hB
        clear HH
        have HH := H9
        clear H9
        have B9 := BC.out.trans (hB.mono BC.out.size)
        clear BC
        have BC : Hid (Below W0.heap.size W0 (z1.alloc (.cells #[.int .u8 7] 5))) := B9
        clear B9
        (try (have q9 := FO.out; clear FO; have FO : Hid ((z1.alloc (.cells #[.int .u8 7] 5)).ownsRow W0.heap.size 5 1 (.slice oa y1.length oc) y1.length (bV y1)) := owns_past q9 hB; clear q9))
        have FB : Hid _ := FB9
        clear FB9 hB
        refine hK.out _ (z1.alloc (.cells #[.int .u8 7] 5)) HH (fun _ => ?_)
        clear hK K
        (try simp only [Act.put, List.setIfInBounds_toArray, List.set_cons_zero, List.set_cons_succ])
        generalize z1.heap.size = bb at FB ⊢
        (first | generalize (z1.alloc (.cells #[.int .u8 7] 5)) = z1 at HH BC FO FB ⊢ | generalize (z1.alloc (.cells #[.int .u8 7] 5)) = z1 at HH BC FB ⊢)
        refine wpAnyH_ready (rs := [6]) (by kernel_rfl) (by simp) ?_
        refine AllReadyH.cons ov6 (fun K hK => ?_) AllReadyH.nil
        rw [if_pos (by rfl)]
        go_simp
        refine (own_is _ _ y1 (PA.out.2.2.1.past BC.out) HSX.out).mono ?_
        rintro e z1 ⟨v9, rfl, hO, hB⟩
        obtain ⟨oa, oc, rfl⟩ := owns_sl hO
        have FO9 := owns_base hO BC.out.size
        clear hO
        have H9 := HH.past hB
        clear HH
        have HH := H9
        clear H9
        have B9 := BC.out.trans (hB.mono BC.out.size)
        clear BC
        have BC : Hid (Below W0.heap.size W0 z1) := B9
        clear B9
        (try (have q9 := FB.out; clear FB; have FB : Hid (BL (fun _ => True) z1 (.slice (some ⟨bb, 0, none⟩) 1 1) [7]) := q9.past hB; clear q9))
        have FO : Hid (z1.ownsRow W0.heap.size 5 1 (.slice oa y1.length oc) y1.length (bV y1)) := FO9
        clear FO9 hB
        (try go_wp2_with fail)
        refine hK.out _ _ HH (fun _ => ?_)
        clear hK K
        (try simp only [Act.put, List.setIfInBounds_toArray, List.set_cons_zero, List.set_cons_succ])
        refine wpAnyH_ready (rs := [8]) (by kernel_rfl) (by simp) ?_
        refine AllReadyH.cons ov8 (fun K hK => ?_) AllReadyH.nil
        rw [if_pos (by rfl)]
        refine wp_appB _ _ rfl W0.heap.size BC.out.size (.slice oa y1.length oc) y1 rfl FO.out (.slice (some ⟨bb, 0, none⟩) 1 1) [7] rfl FB.out (by have := HSX.out; simp only [List.length_singleton]; omega) ?_
        intro v9 z9 hA
        obtain ⟨oa2, oc2, e9⟩ := owns_sl hA.row
        rw [List.length_append, List.length_singleton] at e9
        subst e9
        have H9 := HH.app hA FO.out (by decide)
        have B9 := BC.out.trans (hA.below FO.out BC.out.size)
        have FO9 := hA.row
        rw [List.length_append, List.length_singleton] at FO9
        clear HH BC FO FB hA
        have HH := H9
        have BC : Hid (Below W0.heap.size W0 z9) := B9
        have FO : Hid (z9.ownsRow W0.heap.size 5 1 (.slice oa2 (y1.length + 1) oc2) (y1.length + 1) (bV (y1 ++ [7]))) := FO9
        clear H9 B9 FO9
        refine hK.out _ z9 HH (fun _ => ?_)
        clear hK K
        (try simp only [Act.put, List.setIfInBounds_toArray, List.set_cons_zero, List.set_cons_succ])
        refine wpAnyH_take (i := 9) (v := .pointer (some ⟨g1, 0, none⟩)) ov9 (by kernel_rfl) (by kernel_rfl) (by kernel_rfl) (fun _ _ _ h => h) (Or.inl ⟨by rfl, fun V' hS => ?_⟩) HH ?_
        · go_simp
        simp only [Act.put, List.setIfInBounds_toArray, List.set_cons_zero, List.set_cons_succ]
        refine wpAnyH_ready (rs := [10]) (by kernel_rfl) (by simp) ?_
        refine AllReadyH.cons ov10 (fun K hK => ?_) AllReadyH.nil
        rw [if_pos (by rfl)]
        have c0 := (BC.out.cell (p := ⟨g1, 0, none⟩) PA.out.2.2.2).trans PA.out.1
        have f0 := (BC.out.frozen (p := ⟨g1, 0, none⟩) PA.out.2.2.2).trans PA.out.2.1
        go_simp
        clear c0 f0
        have M9 : Hid (LgM b1 b2 B w (z9.setCell ⟨g1, 0, none⟩ (.slice oa2 (y1.length + 1) oc2)) (.slice ta nt tc) (.slice (some ⟨g1, 0, none⟩) nc cc) (.slice sa ns sc) (.slice da nd dc) z ⟨c.ts, c.cs.set 0 (y1 ++ [7]), c.ss, c.d, c.n⟩) := (M.out.past BC.out).set1 HL.out.2.1 PB.out.1 PB.out.2.1 PB.out.2.2 _ _ (by rw [List.length_append, List.length_singleton]; exact owns_base FO.out (Nat.le_trans M.out.ge M.out.bel.size))
        have H9 := HH.but ((But.refl (fun y => y = g1) z9).setCell ⟨g1, 0, none⟩ (.slice oa2 (y1.length + 1) oc2) (Or.inl rfl)) PB.out.2.1
        refine hK.out _ (z9.setCell ⟨g1, 0, none⟩ (.slice oa2 (y1.length + 1) oc2)) H9 (fun _ => ?_)
        clear hK K
        (try simp only [Act.put, List.setIfInBounds_toArray, List.set_cons_zero, List.set_cons_succ])
        generalize z9.setCell ⟨g1, 0, none⟩ (.slice oa2 (y1.length + 1) oc2) = W1 at M9 H9 ⊢
        clear H9 HH BC FO PA PB M HSX
        have M := M9
        clear M9
        refine wpAnyH_done (by kernel_rfl) ?_ _
        obtain ⟨c1, hc2⟩ : ∃ q : Con, q = ⟨c.ts, c.cs.set 0 (y1 ++ [7]), c.ss, c.d, c.n⟩ := ⟨_, rfl⟩
        rw [← hc2] at M
        have HT9 : Hid (total c1 ≤ 2097153) := by have := total_set1 c y1 7 HX.out; unfold Hid; rw [hc2, this]; have := HTO.out; omega
        have HL9 : Hid (Lens c1 nt nc ns nd z) := by have := HL.out; unfold Lens at this; unfold Hid Lens; rw [hc2]; simp only [List.length_set]; exact this
        clear hc2 HTO HL HX
        have HTO := HT9
        have HL := HL9
        clear HT9 HL9
        go_upto_region 3 with fail
        by_cases e2 : ns = 0
        · have a2 : W1.cell? ⟨b1, 2, none⟩ = some (.slice sa ns sc) := M.out.c1.cell 2
          have q2 : ¬ (0 : Int) < (ns : Int) := by omega
          clear e2
          go_upto_region 5 with fail
          clear a2 q2
          have x0 : W1.cell? ⟨b1, 0, none⟩ = some (.slice ta nt tc) := M.out.c1.cell 0
          have x1 : W1.cell? ⟨b1, 1, none⟩ = some (.slice (some ⟨g1, 0, none⟩) nc cc) := M.out.c1.cell 1
          have x2 : W1.cell? ⟨b1, 2, none⟩ = some (.slice sa ns sc) := M.out.c1.cell 2
          have x3 : W1.cell? ⟨b1, 3, none⟩ = some (.slice da nd dc) := M.out.c1.cell 3
          have x4 : W1.cell? ⟨b1, 4, none⟩ = some (.int .i64 z) := M.out.c1.cell 4
          have k0 : W1.cell? ⟨b2, 0, none⟩ = some (.slice none 0 0) := M.out.c2.cell 0
          have f0 := CBox.frozen M.out.c2 0
          have k1 : W1.cell? ⟨b2, 1, none⟩ = some (.slice none 0 0) := M.out.c2.cell 1
          have f1 := CBox.frozen M.out.c2 1
          have k2 : W1.cell? ⟨b2, 2, none⟩ = some (.slice none 0 0) := M.out.c2.cell 2
          have f2 := CBox.frozen M.out.c2 2
          have k3 : W1.cell? ⟨b2, 3, none⟩ = some (.slice none 0 0) := M.out.c2.cell 3
          have f3 := CBox.frozen M.out.c2 3
          have k4 : W1.cell? ⟨b2, 4, none⟩ = some (.int .i64 0) := M.out.c2.cell 4
          have f4 := CBox.frozen M.out.c2 4
          have HF : Hid (CBox (((((W1.setCell ⟨b2, 0, none⟩ (.slice ta nt tc)).setCell ⟨b2, 1, none⟩ (.slice (some ⟨g1, 0, none⟩) nc cc)).setCell ⟨b2, 2, none⟩ (.slice sa ns sc)).setCell ⟨b2, 3, none⟩ (.slice da nd dc)).setCell ⟨b2, 4, none⟩ (.int .i64 z)) b2 28 [.slice ta nt tc, .slice (some ⟨g1, 0, none⟩) nc cc, .slice sa ns sc, .slice da nd dc, .int .i64 z] ∧ DQ B (((((W1.setCell ⟨b2, 0, none⟩ (.slice ta nt tc)).setCell ⟨b2, 1, none⟩ (.slice (some ⟨g1, 0, none⟩) nc cc)).setCell ⟨b2, 2, none⟩ (.slice sa ns sc)).setCell ⟨b2, 3, none⟩ (.slice da nd dc)).setCell ⟨b2, 4, none⟩ (.int .i64 z)) (.slice ta nt tc) (.slice (some ⟨g1, 0, none⟩) nc cc) (.slice sa ns sc) (.slice da nd dc) c1 ∧ Below B w (((((W1.setCell ⟨b2, 0, none⟩ (.slice ta nt tc)).setCell ⟨b2, 1, none⟩ (.slice (some ⟨g1, 0, none⟩) nc cc)).setCell ⟨b2, 2, none⟩ (.slice sa ns sc)).setCell ⟨b2, 3, none⟩ (.slice da nd dc)).setCell ⟨b2, 4, none⟩ (.int .i64 z))) := by
            have hs : But (fun y => y = b2) W1 (((((W1.setCell ⟨b2, 0, none⟩ (.slice ta nt tc)).setCell ⟨b2, 1, none⟩ (.slice (some ⟨g1, 0, none⟩) nc cc)).setCell ⟨b2, 2, none⟩ (.slice sa ns sc)).setCell ⟨b2, 3, none⟩ (.slice da nd dc)).setCell ⟨b2, 4, none⟩ (.int .i64 z)) := ((((((But.refl (fun y => y = b2) W1).setCell ⟨b2, 0, none⟩ _ (Or.inl rfl)).setCell ⟨b2, 1, none⟩ _ (Or.inl rfl)).setCell ⟨b2, 2, none⟩ _ (Or.inl rfl)).setCell ⟨b2, 3, none⟩ _ (Or.inl rfl)).setCell ⟨b2, 4, none⟩ _ (Or.inl rfl))
            have ra : Alien W1 b2 := ⟨_, _, M.out.c2, by decide, by decide, by decide⟩
            exact ⟨(((((M.out.c2.set 0 _).set 1 _).set 2 _).set 3 _).set 4 _), ⟨row_alienT M.out.dq.t hs ra, PO.alien M.out.dq.p hs ra, PO.alien M.out.dq.s hs ra, row_alien M.out.dq.d hs ra, M.out.dq.ap⟩, M.out.bel.trans (hs.below (fun g e => by have := GL.out; omega) (Nat.le_trans M.out.ge M.out.bel.size))⟩
          clear M
          go_wp2
          clear x0 x1 x2 x3 x4 k0 k1 k2 k3 k4 f0 f1 f2 f3 f4
          generalize (((((W1.setCell ⟨b2, 0, none⟩ (.slice ta nt tc)).setCell ⟨b2, 1, none⟩ (.slice (some ⟨g1, 0, none⟩) nc cc)).setCell ⟨b2, 2, none⟩ (.slice sa ns sc)).setCell ⟨b2, 3, none⟩ (.slice da nd dc)).setCell ⟨b2, 4, none⟩ (.int .i64 z)) = Z9 at HF ⊢
          refine bodyPost_ret (v := .agg #[.slice ta nt tc, .slice (some ⟨g1, 0, none⟩) nc cc, .slice sa ns sc, .slice da nd dc, .int .i64 z]) (results_c (p := 2) (ty := 28) Try.results25 _ _ _ ⟨b2, 0, none⟩ rfl (run_loadVar_mid Z9 b2 0 28 [.slice ta nt tc, .slice (some ⟨g1, 0, none⟩) nc cc, .slice sa ns sc, .slice da nd dc, .int .i64 z] _ HF.out.1.range Try.underlying28 rfl (by kernel_rfl))) rfl ?_
          exact ⟨⟨_, c1, rfl, dq_do HF.out.2.1 HL.out, by have := HTO.out; omega⟩, HF.out.2.2⟩
        · have q2 : (0 : Int) < (ns : Int) := by omega
          obtain ⟨y2, hx⟩ : ∃ x, c1.ss[0]? = some x := ⟨c1.ss[0]'(by have := HL.out; unfold Lens at this; omega), List.getElem?_eq_getElem _⟩
          have HX : Hid (c1.ss[0]? = some y2) := hx
          have hsx : y2.length ≤ 16777216 := by
            have h1 := (List.sublist_flatten_of_mem (List.mem_of_getElem? hx)).length_le
            have h2 := HTO.out
            unfold total at h2
            omega
          have HSX : Hid (y2.length ≤ 16777216) := hsx
          obtain ⟨g2, ua, uc, eg, r1, r2, r3, r4, r5, r6⟩ := piece_at M.out.dq.s HL.out.2.2.1 hx hsx
          subst eg
          have PA : Hid (W1.cell? ⟨g2, 0, none⟩ = some (.slice ua y2.length uc) ∧ W1.frozen? ⟨g2, 0, none⟩ = false ∧ BL (fun _ => True) W1 (.slice ua y2.length uc) y2 ∧ g2 < W1.heap.size) := ⟨r2, r3, r4, r5⟩
          have PB : Hid (B ≤ g2 ∧ b1 ≠ g2 ∧ b2 ≠ g2) := ⟨r1, r6 _ _ _ M.out.c1 (by decide), r6 _ _ _ M.out.c2 (by decide)⟩
          clear hx hsx r1 r2 r3 r4 r5 r6 e2
          have a2 : W1.cell? ⟨b1, 2, none⟩ = some (.slice (some ⟨g2, 0, none⟩) ns sc) := M.out.c1.cell 2
          go_upto_region 4 with fail
          clear a2 q2
          refine wp_region_held_drew (S := fun V' => CBox V' b1 28 [.slice ta nt tc, .slice (some ⟨g1, 0, none⟩) nc cc, .slice (some ⟨g2, 0, none⟩) ns sc, .slice da nd dc, .int .i64 z]) (by kernel_rfl) (M.out.c1.past below_drew) (fun HH => ?_)
          have BC : Hid (Below W1.heap.size W1 W1.drew) := below_drew
          have M : Hid _ := M
          generalize W1.drew = z1 at HH BC ⊢
          refine wpAnyH_take (i := 0) (v := .pointer (some ⟨b1, 2, none⟩)) ov0 (by kernel_rfl) (by kernel_rfl) (by kernel_rfl) (fun _ _ _ h => h) (Or.inl ⟨by rfl, fun V' hS => ?_⟩) HH ?_
          · go_simp
          simp only [Act.put, List.setIfInBounds_toArray, List.set_cons_zero, List.set_cons_succ]
          refine wpAnyH_take (i := 1) (v := .slice (some ⟨g2, 0, none⟩) ns sc) ov1 (by kernel_rfl) (by kernel_rfl) (by kernel_rfl) (fun _ _ _ h => h) (Or.inl ⟨by rfl, fun V' hS => ?_⟩) HH ?_
          · have c0 := hS.cell 2
            go_simp
          simp only [Act.put, List.setIfInBounds_toArray, List.set_cons_zero, List.set_cons_succ]
          refine wpAnyH_take (i := 2) (v := .pointer (some ⟨b1, 2, none⟩)) ov2 (by kernel_rfl) (by kernel_rfl) (by kernel_rfl) (fun _ _ _ h => h) (Or.inl ⟨by rfl, fun V' hS => ?_⟩) HH ?_
          · go_simp
          simp only [Act.put, List.setIfInBounds_toArray, List.set_cons_zero, List.set_cons_succ]
          refine wpAnyH_take (i := 3) (v := .slice (some ⟨g2, 0, none⟩) ns sc) ov3 (by kernel_rfl) (by kernel_rfl) (by kernel_rfl) (fun _ _ _ h => h) (Or.inl ⟨by rfl, fun V' hS => ?_⟩) HH ?_
          · have c0 := hS.cell 2
            go_simp
          simp only [Act.put, List.setIfInBounds_toArray, List.set_cons_zero, List.set_cons_succ]
          refine wpAnyH_take (i := 4) (v := .pointer (some ⟨g2, 0, none⟩)) ov4 (by kernel_rfl) (by kernel_rfl) (by kernel_rfl) (fun _ _ _ h => h) (Or.inl ⟨by rfl, fun V' hS => ?_⟩) HH ?_
          · go_simp
          simp only [Act.put, List.setIfInBounds_toArray, List.set_cons_zero, List.set_cons_succ]
          refine wpAnyH_ready (rs := [5, 7]) (by kernel_rfl) (by simp) ?_
          refine AllReadyH.cons ov5 (fun K hK => ?_) (AllReadyH.cons ov7 (fun K hK => ?_) AllReadyH.nil)
          · rw [if_pos (by rfl)]
            have c0 := (BC.out.cell (p := ⟨g2, 0, none⟩) PA.out.2.2.2).trans PA.out.1
            go_simp
            clear c0
            refine hK.out _ _ HH (fun _ => ?_)
            clear hK K
            (try simp only [Act.put, List.setIfInBounds_toArray, List.set_cons_zero, List.set_cons_succ])
            refine wpAnyH_ready (rs := [6, 7]) (by kernel_rfl) (by simp) ?_
            refine AllReadyH.cons ov6 (fun K hK => ?_) (AllReadyH.cons ov7 (fun K hK => ?_) AllReadyH.nil)
            · rw [if_pos (by rfl)]
              go_simp
              refine (own_is _ _ y2 (PA.out.2.2.1.past BC.out) HSX.out).mono ?_
              rintro e z1 ⟨v9, rfl, hO, hB⟩
              obtain ⟨oa, oc, rfl⟩ := owns_sl hO
              have FO9 := owns_base hO BC.out.size
              clear hO
              have H9 := HH.past hB
              clear HH
              have HH := H9
              clear H9
              have B9 := BC.out.trans (hB.mono BC.out.size)
              clear BC
              have BC : Hid (Below W1.heap.size W1 z1) := B9
              clear B9
              (try (have q9 := FB.out; clear FB; have FB : Hid (BL (fun _ => True) z1 (.slice (some ⟨bb, 0, none⟩) 1 1) [8]) := q9.past hB; clear q9))
              have FO : Hid (z1.ownsRow W1.heap.size 5 1 (.slice oa y2.length oc) y2.length (bV y2)) := FO9
              clear FO9 hB
              (try go_wp2_with fail)
              refine hK.out _ _ HH (fun _ => ?_)
              clear hK K
              (try simp only [Act.put, List.setIfInBounds_toArray, List.set_cons_zero, List.set_cons_succ])
              refine wpAnyH_ready (rs := [7]) (by kernel_rfl) (by simp) ?_
              refine AllReadyH.cons ov7 (fun K hK => ?_) AllReadyH.nil
              rw [if_pos (by rfl)]
              go_simp
              have hB : Below z1.heap.size z1 (z1.alloc (.cells #[.int .u8 8] 5)) := below_alloc _ _
              have FB9 : BL (fun _ => True) (z1.alloc (.cells #[.int .u8 8] 5)) (.slice (some ⟨z1.heap.size, 0, none⟩) 1 1) [8] := (BL.new z1 [8] (by simp)).mono fun _ _ _ => trivial
              have H9 := HH.past hB
              clear HH
              have HH := H9
              clear H9
              have B9 := BC.out.trans (hB.mono BC.out.size)
              clear BC
              have BC : Hid (Below W1.heap.size W1 (z1.alloc (.cells #[.int .u8 8] 5))) := B9
              clear B9
              (try (have q9 := FO.out; clear FO; have FO : Hid ((z1.alloc (.cells #[.int .u8 8] 5)).ownsRow W1.heap.size 5 1 (.slice oa y2.length oc) y2.length (bV y2)) := owns_past q9 hB; clear q9))
              have FB : Hid _ := FB9
              clear FB9 hB
              refine hK.out _ (z1.alloc (.cells #[.int .u8 8] 5)) HH (fun _ => ?_)
              clear hK K
              (try simp only [Act.put, List.setIfInBounds_toArray, List.set_cons_zero, List.set_cons_succ])
              generalize z1.heap.size = bb at FB ⊢
              (first | generalize (z1.alloc (.cells #[.int .u8 8] 5)) = z1 at HH BC FO FB ⊢ | generalize (z1.alloc (.cells #[.int .u8 8] 5)) = z1 at HH BC FB ⊢)
              refine wpAnyH_ready (rs := [8]) (by kernel_rfl) (by simp) ?_
              refine AllReadyH.cons ov8 (fun K hK => ?_) AllReadyH.nil
              rw [if_pos (by rfl)]
              refine wp_appB _ _ rfl W1.heap.size BC.out.size (.slice oa y2.length oc) y2 rfl FO.out (.slice (some ⟨bb, 0, none⟩) 1 1) [8] rfl FB.out (by have := HSX.out; simp only [List.length_singleton]; omega) ?_
              intro v9 z9 hA
              obtain ⟨oa2, oc2, e9⟩ := owns_sl hA.row
              rw [List.length_append, List.length_singleton] at e9
              subst e9
              have H9 := HH.app hA FO.out (by decide)
              have B9 := BC.out.trans (hA.below FO.out BC.out.size)
              have FO9 := hA.row
              rw [List.length_append, List.length_singleton] at FO9
              clear HH BC FO FB hA
              have HH := H9
              have BC : Hid (Below W1.heap.size W1 z9) := B9
              have FO : Hid (z9.ownsRow W1.heap.size 5 1 (.slice oa2 (y2.length + 1) oc2) (y2.length + 1) (bV (y2 ++ [8]))) := FO9
              clear H9 B9 FO9
              refine hK.out _ z9 HH (fun _ => ?_)
              clear hK K
              (try simp only [Act.put, List.setIfInBounds_toArray, List.set_cons_zero, List.set_cons_succ])
              refine wpAnyH_take (i := 9) (v := .pointer (some ⟨g2, 0, none⟩)) ov9 (by kernel_rfl) (by kernel_rfl) (by kernel_rfl) (fun _ _ _ h => h) (Or.inl ⟨by rfl, fun V' hS => ?_⟩) HH ?_
              · go_simp
              simp only [Act.put, List.setIfInBounds_toArray, List.set_cons_zero, List.set_cons_succ]
              refine wpAnyH_ready (rs := [10]) (by kernel_rfl) (by simp) ?_
              refine AllReadyH.cons ov10 (fun K hK => ?_) AllReadyH.nil
              rw [if_pos (by rfl)]
              have c0 := (BC.out.cell (p := ⟨g2, 0, none⟩) PA.out.2.2.2).trans PA.out.1
              have f0 := (BC.out.frozen (p := ⟨g2, 0, none⟩) PA.out.2.2.2).trans PA.out.2.1
              go_simp
              clear c0 f0
              have M9 : Hid (LgM b1 b2 B w (z9.setCell ⟨g2, 0, none⟩ (.slice oa2 (y2.length + 1) oc2)) (.slice ta nt tc) (.slice (some ⟨g1, 0, none⟩) nc cc) (.slice (some ⟨g2, 0, none⟩) ns sc) (.slice da nd dc) z ⟨c1.ts, c1.cs, c1.ss.set 0 (y2 ++ [8]), c1.d, c1.n⟩) := (M.out.past BC.out).set2 HL.out.2.2.1 PB.out.1 PB.out.2.1 PB.out.2.2 _ _ (by rw [List.length_append, List.length_singleton]; exact owns_base FO.out (Nat.le_trans M.out.ge M.out.bel.size))
              have H9 := HH.but ((But.refl (fun y => y = g2) z9).setCell ⟨g2, 0, none⟩ (.slice oa2 (y2.length + 1) oc2) (Or.inl rfl)) PB.out.2.1
              refine hK.out _ (z9.setCell ⟨g2, 0, none⟩ (.slice oa2 (y2.length + 1) oc2)) H9 (fun _ => ?_)
              clear hK K
              (try simp only [Act.put, List.setIfInBounds_toArray, List.set_cons_zero, List.set_cons_succ])
              generalize z9.setCell ⟨g2, 0, none⟩ (.slice oa2 (y2.length + 1) oc2) = W2 at M9 H9 ⊢
              clear H9 HH BC FO PA PB M HSX
              have M := M9
              clear M9
              refine wpAnyH_done (by kernel_rfl) ?_ _
              obtain ⟨c2, hc2⟩ : ∃ q : Con, q = ⟨c1.ts, c1.cs, c1.ss.set 0 (y2 ++ [8]), c1.d, c1.n⟩ := ⟨_, rfl⟩
              rw [← hc2] at M
              have HT9 : Hid (total c2 ≤ 2097154) := by have := total_set2 c1 y2 8 HX.out; unfold Hid; rw [hc2, this]; have := HTO.out; omega
              have HL9 : Hid (Lens c2 nt nc ns nd z) := by have := HL.out; unfold Lens at this; unfold Hid Lens; rw [hc2]; simp only [List.length_set]; exact this
              clear hc2 HTO HL HX
              have HTO := HT9
              have HL := HL9
              clear HT9 HL9
              go_upto_region 5 with fail
              have x0 : W2.cell? ⟨b1, 0, none⟩ = some (.slice ta nt tc) := M.out.c1.cell 0
              have x1 : W2.cell? ⟨b1, 1, none⟩ = some (.slice (some ⟨g1, 0, none⟩) nc cc) := M.out.c1.cell 1
              have x2 : W2.cell? ⟨b1, 2, none⟩ = some (.slice (some ⟨g2, 0, none⟩) ns sc) := M.out.c1.cell 2
              have x3 : W2.cell? ⟨b1, 3, none⟩ = some (.slice da nd dc) := M.out.c1.cell 3
              have x4 : W2.cell? ⟨b1, 4, none⟩ = some (.int .i64 z) := M.out.c1.cell 4
              have k0 : W2.cell? ⟨b2, 0, none⟩ = some (.slice none 0 0) := M.out.c2.cell 0
              have f0 := CBox.frozen M.out.c2 0
              have k1 : W2.cell? ⟨b2, 1, none⟩ = some (.slice none 0 0) := M.out.c2.cell 1
              have f1 := CBox.frozen M.out.c2 1
              have k2 : W2.cell? ⟨b2, 2, none⟩ = some (.slice none 0 0) := M.out.c2.cell 2
              have f2 := CBox.frozen M.out.c2 2
              have k3 : W2.cell? ⟨b2, 3, none⟩ = some (.slice none 0 0) := M.out.c2.cell 3
              have f3 := CBox.frozen M.out.c2 3
              have k4 : W2.cell? ⟨b2, 4, none⟩ = some (.int .i64 0) := M.out.c2.cell 4
              have f4 := CBox.frozen M.out.c2 4
              have HF : Hid (CBox (((((W2.setCell ⟨b2, 0, none⟩ (.slice ta nt tc)).setCell ⟨b2, 1, none⟩ (.slice (some ⟨g1, 0, none⟩) nc cc)).setCell ⟨b2, 2, none⟩ (.slice (some ⟨g2, 0, none⟩) ns sc)).setCell ⟨b2, 3, none⟩ (.slice da nd dc)).setCell ⟨b2, 4, none⟩ (.int .i64 z)) b2 28 [.slice ta nt tc, .slice (some ⟨g1, 0, none⟩) nc cc, .slice (some ⟨g2, 0, none⟩) ns sc, .slice da nd dc, .int .i64 z] ∧ DQ B (((((W2.setCell ⟨b2, 0, none⟩ (.slice ta nt tc)).setCell ⟨b2, 1, none⟩ (.slice (some ⟨g1, 0, none⟩) nc cc)).setCell ⟨b2, 2, none⟩ (.slice (some ⟨g2, 0, none⟩) ns sc)).setCell ⟨b2, 3, none⟩ (.slice da nd dc)).setCell ⟨b2, 4, none⟩ (.int .i64 z)) (.slice ta nt tc) (.slice (some ⟨g1, 0, none⟩) nc cc) (.slice (some ⟨g2, 0, none⟩) ns sc) (.slice da nd dc) c2 ∧ Below B w (((((W2.setCell ⟨b2, 0, none⟩ (.slice ta nt tc)).setCell ⟨b2, 1, none⟩ (.slice (some ⟨g1, 0, none⟩) nc cc)).setCell ⟨b2, 2, none⟩ (.slice (some ⟨g2, 0, none⟩) ns sc)).setCell ⟨b2, 3, none⟩ (.slice da nd dc)).setCell ⟨b2, 4, none⟩ (.int .i64 z))) := by
                have hs : But (fun y => y = b2) W2 (((((W2.setCell ⟨b2, 0, none⟩ (.slice ta nt tc)).setCell ⟨b2, 1, none⟩ (.slice (some ⟨g1, 0, none⟩) nc cc)).setCell ⟨b2, 2, none⟩ (.slice (some ⟨g2, 0, none⟩) ns sc)).setCell ⟨b2, 3, none⟩ (.slice da nd dc)).setCell ⟨b2, 4, none⟩ (.int .i64 z)) := ((((((But.refl (fun y => y = b2) W2).setCell ⟨b2, 0, none⟩ _ (Or.inl rfl)).setCell ⟨b2, 1, none⟩ _ (Or.inl rfl)).setCell ⟨b2, 2, none⟩ _ (Or.inl rfl)).setCell ⟨b2, 3, none⟩ _ (Or.inl rfl)).setCell ⟨b2, 4, none⟩ _ (Or.inl rfl))
                have ra : Alien W2 b2 := ⟨_, _, M.out.c2, by decide, by decide, by decide⟩
                exact ⟨(((((M.out.c2.set 0 _).set 1 _).set 2 _).set 3 _).set 4 _), ⟨row_alienT M.out.dq.t hs ra, PO.alien M.out.dq.p hs ra, PO.alien M.out.dq.s hs ra, row_alien M.out.dq.d hs ra, M.out.dq.ap⟩, M.out.bel.trans (hs.below (fun g e => by have := GL.out; omega) (Nat.le_trans M.out.ge M.out.bel.size))⟩
              clear M
              go_wp2
              clear x0 x1 x2 x3 x4 k0 k1 k2 k3 k4 f0 f1 f2 f3 f4
              generalize (((((W2.setCell ⟨b2, 0, none⟩ (.slice ta nt tc)).setCell ⟨b2, 1, none⟩ (.slice (some ⟨g1, 0, none⟩) nc cc)).setCell ⟨b2, 2, none⟩ (.slice (some ⟨g2, 0, none⟩) ns sc)).setCell ⟨b2, 3, none⟩ (.slice da nd dc)).setCell ⟨b2, 4, none⟩ (.int .i64 z)) = Z9 at HF ⊢
              refine bodyPost_ret (v := .agg #[.slice ta nt tc, .slice (some ⟨g1, 0, none⟩) nc cc, .slice (some ⟨g2, 0, none⟩) ns sc, .slice da nd dc, .int .i64 z]) (results_c (p := 2) (ty := 28) Try.results25 _ _ _ ⟨b2, 0, none⟩ rfl (run_loadVar_mid Z9 b2 0 28 [.slice ta nt tc, .slice (some ⟨g1, 0, none⟩) nc cc, .slice (some ⟨g2, 0, none⟩) ns sc, .slice da nd dc, .int .i64 z] _ HF.out.1.range Try.underlying28 rfl (by kernel_rfl))) rfl ?_
              exact ⟨⟨_, c2, rfl, dq_do HF.out.2.1 HL.out, by have := HTO.out; omega⟩, HF.out.2.2⟩
            · rw [if_pos (by rfl)]
              go_simp
              have hB : Below z1.heap.size z1 (z1.alloc (.cells #[.int .u8 8] 5)) := below_alloc _ _
              have FB9 : BL (fun _ => True) (z1.alloc (.cells #[.int .u8 8] 5)) (.slice (some ⟨z1.heap.size, 0, none⟩) 1 1) [8] := (BL.new z1 [8] (by simp)).mono fun _ _ _ => trivial
              have H9 := HH.past hB
              clear HH
              have HH := H9
              clear H9
              have B9 := BC.out.trans (hB.mono BC.out.size)
              clear BC
              have BC : Hid (Below W1.heap.size W1 (z1.alloc (.cells #[.int .u8 8] 5))) := B9
              clear B9
              (try (have q9 := FO.out; clear FO; have FO : Hid ((z1.alloc (.cells #[.int .u8 8] 5)).ownsRow W1.heap.size 5 1 (.slice oa y2.length oc) y2.length (bV y2)) := owns_past q9 hB; clear q9))
              have FB : Hid _ := FB9
              clear FB9 hB
              refine hK.out _ (z1.alloc (.cells #[.int .u8 8] 5)) HH (fun _ => ?_)
              clear hK K
              (try simp only [Act.put, List.setIfInBounds_toArray, List.set_cons_zero, List.set_cons_succ])
              generalize z1.heap.size = bb at FB ⊢
              (first | generalize (z1.alloc (.cells #[.int .u8 8] 5)) = z1 at HH BC FO FB ⊢ | generalize (z1.alloc (.cells #[.int .u8 8] 5)) = z1 at HH BC FB ⊢)
              refine wpAnyH_ready (rs := [6]) (by kernel_rfl) (by simp) ?_
              refine AllReadyH.cons ov6 (fun K hK => ?_) AllReadyH.nil
              rw [if_pos (by rfl)]
              go_simp
              refine (own_is _ _ y2 (PA.out.2.2.1.past BC.out) HSX.out).mono ?_
              rintro e z1 ⟨v9, rfl, hO, hB⟩
              obtain ⟨oa, oc, rfl⟩ := owns_sl hO
              have FO9 := owns_base hO BC.out.size
              clear hO
              have H9 := HH.past hB
              clear HH
              have HH := H9
              clear H9
              have B9 := BC.out.trans (hB.mono BC.out.size)
              clear BC
              have BC : Hid (Below W1.heap.size W1 z1) := B9
              clear B9
              (try (have q9 := FB.out; clear FB; have FB : Hid (BL (fun _ => True) z1 (.slice (some ⟨bb, 0, none⟩) 1 1) [8]) := q9.past hB; clear q9))
              have FO : Hid (z1.ownsRow W1.heap.size 5 1 (.slice oa y2.length oc) y2.length (bV y2)) := FO9
              clear FO9 hB
              (try go_wp2_with fail)
              refine hK.out _ _ HH (fun _ => ?_)
              clear hK K
              (try simp only [Act.put, List.setIfInBounds_toArray, List.set_cons_zero, List.set_cons_succ])
              refine wpAnyH_ready (rs := [8]) (by kernel_rfl) (by simp) ?_
              refine AllReadyH.cons ov8 (fun K hK => ?_) AllReadyH.nil
              rw [if_pos (by rfl)]
              refine wp_appB _ _ rfl W1.heap.size BC.out.size (.slice oa y2.length oc) y2 rfl FO.out (.slice (some ⟨bb, 0, none⟩) 1 1) [8] rfl FB.out (by have := HSX.out; simp only [List.length_singleton]; omega) ?_
              intro v9 z9 hA
              obtain ⟨oa2, oc2, e9⟩ := owns_sl hA.row
              rw [List.length_append, List.length_singleton] at e9
              subst e9
              have H9 := HH.app hA FO.out (by decide)
              have B9 := BC.out.trans (hA.below FO.out BC.out.size)
              have FO9 := hA.row
              rw [List.length_append, List.length_singleton] at FO9
              clear HH BC FO FB hA
              have HH := H9
              have BC : Hid (Below W1.heap.size W1 z9) := B9
              have FO : Hid (z9.ownsRow W1.heap.size 5 1 (.slice oa2 (y2.length + 1) oc2) (y2.length + 1) (bV (y2 ++ [8]))) := FO9
              clear H9 B9 FO9
              refine hK.out _ z9 HH (fun _ => ?_)
              clear hK K
              (try simp only [Act.put, List.setIfInBounds_toArray, List.set_cons_zero, List.set_cons_succ])
              refine wpAnyH_take (i := 9) (v := .pointer (some ⟨g2, 0, none⟩)) ov9 (by kernel_rfl) (by kernel_rfl) (by kernel_rfl) (fun _ _ _ h => h) (Or.inl ⟨by rfl, fun V' hS => ?_⟩) HH ?_
              · go_simp
              simp only [Act.put, List.setIfInBounds_toArray, List.set_cons_zero, List.set_cons_succ]
              refine wpAnyH_ready (rs := [10]) (by kernel_rfl) (by simp) ?_
              refine AllReadyH.cons ov10 (fun K hK => ?_) AllReadyH.nil
              rw [if_pos (by rfl)]
              have c0 := (BC.out.cell (p := ⟨g2, 0, none⟩) PA.out.2.2.2).trans PA.out.1
              have f0 := (BC.out.frozen (p := ⟨g2, 0, none⟩) PA.out.2.2.2).trans PA.out.2.1
              go_simp
              clear c0 f0
              have M9 : Hid (LgM b1 b2 B w (z9.setCell ⟨g2, 0, none⟩ (.slice oa2 (y2.length + 1) oc2)) (.slice ta nt tc) (.slice (some ⟨g1, 0, none⟩) nc cc) (.slice (some ⟨g2, 0, none⟩) ns sc) (.slice da nd dc) z ⟨c1.ts, c1.cs, c1.ss.set 0 (y2 ++ [8]), c1.d, c1.n⟩) := (M.out.past BC.out).set2 HL.out.2.2.1 PB.out.1 PB.out.2.1 PB.out.2.2 _ _ (by rw [List.length_append, List.length_singleton]; exact owns_base FO.out (Nat.le_trans M.out.ge M.out.bel.size))
              have H9 := HH.but ((But.refl (fun y => y = g2) z9).setCell ⟨g2, 0, none⟩ (.slice oa2 (y2.length + 1) oc2) (Or.inl rfl)) PB.out.2.1
              refine hK.out _ (z9.setCell ⟨g2, 0, none⟩ (.slice oa2 (y2.length + 1) oc2)) H9 (fun _ => ?_)
              clear hK K
              (try simp only [Act.put, List.setIfInBounds_toArray, List.set_cons_zero, List.set_cons_succ])
              generalize z9.setCell ⟨g2, 0, none⟩ (.slice oa2 (y2.length + 1) oc2) = W2 at M9 H9 ⊢
              clear H9 HH BC FO PA PB M HSX
              have M := M9
              clear M9
              refine wpAnyH_done (by kernel_rfl) ?_ _
              obtain ⟨c2, hc2⟩ : ∃ q : Con, q = ⟨c1.ts, c1.cs, c1.ss.set 0 (y2 ++ [8]), c1.d, c1.n⟩ := ⟨_, rfl⟩
              rw [← hc2] at M
              have HT9 : Hid (total c2 ≤ 2097154) := by have := total_set2 c1 y2 8 HX.out; unfold Hid; rw [hc2, this]; have := HTO.out; omega
              have HL9 : Hid (Lens c2 nt nc ns nd z) := by have := HL.out; unfold Lens at this; unfold Hid Lens; rw [hc2]; simp only [List.length_set]; exact this
              clear hc2 HTO HL HX
              have HTO := HT9
              have HL := HL9
              clear HT9 HL9
              go_upto_region 5 with fail
              have x0 : W2.cell? ⟨b1, 0, none⟩ = some (.slice ta nt tc) := M.out.c1.cell 0
              have x1 : W2.cell? ⟨b1, 1, none⟩ = some (.slice (some ⟨g1, 0, none⟩) nc cc) := M.out.c1.cell 1
              have x2 : W2.cell? ⟨b1, 2, none⟩ = some (.slice (some ⟨g2, 0, none⟩) ns sc) := M.out.c1.cell 2
              have x3 : W2.cell? ⟨b1, 3, none⟩ = some (.slice da nd dc) := M.out.c1.cell 3
              have x4 : W2.cell? ⟨b1, 4, none⟩ = some (.int .i64 z) := M.out.c1.cell 4
              have k0 : W2.cell? ⟨b2, 0, none⟩ = some (.slice none 0 0) := M.out.c2.cell 0
              have f0 := CBox.frozen M.out.c2 0
              have k1 : W2.cell? ⟨b2, 1, none⟩ = some (.slice none 0 0) := M.out.c2.cell 1
              have f1 := CBox.frozen M.out.c2 1
              have k2 : W2.cell? ⟨b2, 2, none⟩ = some (.slice none 0 0) := M.out.c2.cell 2
              have f2 := CBox.frozen M.out.c2 2
              have k3 : W2.cell? ⟨b2, 3, none⟩ = some (.slice none 0 0) := M.out.c2.cell 3
              have f3 := CBox.frozen M.out.c2 3
              have k4 : W2.cell? ⟨b2, 4, none⟩ = some (.int .i64 0) := M.out.c2.cell 4
              have f4 := CBox.frozen M.out.c2 4
              have HF : Hid (CBox (((((W2.setCell ⟨b2, 0, none⟩ (.slice ta nt tc)).setCell ⟨b2, 1, none⟩ (.slice (some ⟨g1, 0, none⟩) nc cc)).setCell ⟨b2, 2, none⟩ (.slice (some ⟨g2, 0, none⟩) ns sc)).setCell ⟨b2, 3, none⟩ (.slice da nd dc)).setCell ⟨b2, 4, none⟩ (.int .i64 z)) b2 28 [.slice ta nt tc, .slice (some ⟨g1, 0, none⟩) nc cc, .slice (some ⟨g2, 0, none⟩) ns sc, .slice da nd dc, .int .i64 z] ∧ DQ B (((((W2.setCell ⟨b2, 0, none⟩ (.slice ta nt tc)).setCell ⟨b2, 1, none⟩ (.slice (some ⟨g1, 0, none⟩) nc cc)).setCell ⟨b2, 2, none⟩ (.slice (some ⟨g2, 0, none⟩) ns sc)).setCell ⟨b2, 3, none⟩ (.slice da nd dc)).setCell ⟨b2, 4, none⟩ (.int .i64 z)) (.slice ta nt tc) (.slice (some ⟨g1, 0, none⟩) nc cc) (.slice (some ⟨g2, 0, none⟩) ns sc) (.slice da nd dc) c2 ∧ Below B w (((((W2.setCell ⟨b2, 0, none⟩ (.slice ta nt tc)).setCell ⟨b2, 1, none⟩ (.slice (some ⟨g1, 0, none⟩) nc cc)).setCell ⟨b2, 2, none⟩ (.slice (some ⟨g2, 0, none⟩) ns sc)).setCell ⟨b2, 3, none⟩ (.slice da nd dc)).setCell ⟨b2, 4, none⟩ (.int .i64 z))) := by
                have hs : But (fun y => y = b2) W2 (((((W2.setCell ⟨b2, 0, none⟩ (.slice ta nt tc)).setCell ⟨b2, 1, none⟩ (.slice (some ⟨g1, 0, none⟩) nc cc)).setCell ⟨b2, 2, none⟩ (.slice (some ⟨g2, 0, none⟩) ns sc)).setCell ⟨b2, 3, none⟩ (.slice da nd dc)).setCell ⟨b2, 4, none⟩ (.int .i64 z)) := ((((((But.refl (fun y => y = b2) W2).setCell ⟨b2, 0, none⟩ _ (Or.inl rfl)).setCell ⟨b2, 1, none⟩ _ (Or.inl rfl)).setCell ⟨b2, 2, none⟩ _ (Or.inl rfl)).setCell ⟨b2, 3, none⟩ _ (Or.inl rfl)).setCell ⟨b2, 4, none⟩ _ (Or.inl rfl))
                have ra : Alien W2 b2 := ⟨_, _, M.out.c2, by decide, by decide, by decide⟩
                exact ⟨(((((M.out.c2.set 0 _).set 1 _).set 2 _).set 3 _).set 4 _), ⟨row_alienT M.out.dq.t hs ra, PO.alien M.out.dq.p hs ra, PO.alien M.out.dq.s hs ra, row_alien M.out.dq.d hs ra, M.out.dq.ap⟩, M.out.bel.trans (hs.below (fun g e => by have := GL.out; omega) (Nat.le_trans M.out.ge M.out.bel.size))⟩
              clear M
              go_wp2
              clear x0 x1 x2 x3 x4 k0 k1 k2 k3 k4 f0 f1 f2 f3 f4
              generalize (((((W2.setCell ⟨b2, 0, none⟩ (.slice ta nt tc)).setCell ⟨b2, 1, none⟩ (.slice (some ⟨g1, 0, none⟩) nc cc)).setCell ⟨b2, 2, none⟩ (.slice (some ⟨g2, 0, none⟩) ns sc)).setCell ⟨b2, 3, none⟩ (.slice da nd dc)).setCell ⟨b2, 4, none⟩ (.int .i64 z)) = Z9 at HF ⊢
              refine bodyPost_ret (v := .agg #[.slice ta nt tc, .slice (some ⟨g1, 0, none⟩) nc cc, .slice (some ⟨g2, 0, none⟩) ns sc, .slice da nd dc, .int .i64 z]) (results_c (p := 2) (ty := 28) Try.results25 _ _ _ ⟨b2, 0, none⟩ rfl (run_loadVar_mid Z9 b2 0 28 [.slice ta nt tc, .slice (some ⟨g1, 0, none⟩) nc cc, .slice (some ⟨g2, 0, none⟩) ns sc, .slice da nd dc, .int .i64 z] _ HF.out.1.range Try.underlying28 rfl (by kernel_rfl))) rfl ?_
              exact ⟨⟨_, c2, rfl, dq_do HF.out.2.1 HL.out, by have := HTO.out; omega⟩, HF.out.2.2⟩
          · rw [if_pos (by rfl)]
            go_simp
            have hB : Below z1.heap.size z1 (z1.alloc (.cells #[.int .u8 8] 5)) := below_alloc _ _
            have FB9 : BL (fun _ => True) (z1.alloc (.cells #[.int .u8 8] 5)) (.slice (some ⟨z1.heap.size, 0, none⟩) 1 1) [8] := (BL.new z1 [8] (by simp)).mono fun _ _ _ => trivial
            have H9 := HH.past hB
            clear HH
            have HH := H9
            clear H9
            have B9 := BC.out.trans (hB.mono BC.out.size)
            clear BC
            have BC : Hid (Below W1.heap.size W1 (z1.alloc (.cells #[.int .u8 8] 5))) := B9
            clear B9
            (try (have q9 := FO.out; clear FO; have FO : Hid ((z1.alloc (.cells #[.int .u8 8] 5)).ownsRow W1.heap.size 5 1 (.slice oa y2.length oc) y2.length (bV y2)) := owns_past q9 hB; clear q9))
            have FB : Hid _ := FB9
            clear FB9 hB
            refine hK.out _ (z1.alloc (.cells #[.int .u8 8] 5)) HH (fun _ => ?_)
            clear hK K
            (try simp only [Act.put, List.setIfInBounds_toArray, List.set_cons_zero, List.set_cons_succ])
            generalize z1.heap.size = bb at FB ⊢
            (first | generalize (z1.alloc (.cells #[.int .u8 8] 5)) = z1 at HH BC FO FB ⊢ | generalize (z1.alloc (.cells #[.int .u8 8] 5)) = z1 at HH BC FB ⊢)
            refine wpAnyH_ready (rs := [5]) (by kernel_rfl) (by simp) ?_
            refine AllReadyH.cons ov5 (fun K hK => ?_) AllReadyH.nil
            rw [if_pos (by rfl)]
            have c0 := (BC.out.cell (p := ⟨g2, 0, none⟩) PA.out.2.2.2).trans PA.out.1
            go_simp
            clear c0
            refine hK.out _ _ HH (fun _ => ?_)
            clear hK K
            (try simp only [Act.put, List.setIfInBounds_toArray, List.set_cons_zero, List.set_cons_succ])
            refine wpAnyH_ready (rs := [6]) (by kernel_rfl) (by simp) ?_
            refine AllReadyH.cons ov6 (fun K hK => ?_) AllReadyH.nil
            rw [if_pos (by rfl)]
            go_simp
            refine (own_is _ _ y2 (PA.out.2.2.1.past BC.out) HSX.out).mono ?_
            rintro e z1 ⟨v9, rfl, hO, hB⟩
            obtain ⟨oa, oc, rfl⟩ := owns_sl hO
            have FO9 := owns_base hO BC.out.size
            clear hO
            have H9 := HH.past hB
            clear HH
            have HH := H9
            clear H9
            have B9 := BC.out.trans (hB.mono BC.out.size)
            clear BC
            have BC : Hid (Below W1.heap.size W1 z1) := B9
            clear B9
            (try (have q9 := FB.out; clear FB; have FB : Hid (BL (fun _ => True) z1 (.slice (some ⟨bb, 0, none⟩) 1 1) [8]) := q9.past hB; clear q9))
            have FO : Hid (z1.ownsRow W1.heap.size 5 1 (.slice oa y2.length oc) y2.length (bV y2)) := FO9
            clear FO9 hB
            (try go_wp2_with fail)
            refine hK.out _ _ HH (fun _ => ?_)
            clear hK K
            (try simp only [Act.put, List.setIfInBounds_toArray, List.set_cons_zero, List.set_cons_succ])
            refine wpAnyH_ready (rs := [8]) (by kernel_rfl) (by simp) ?_
            refine AllReadyH.cons ov8 (fun K hK => ?_) AllReadyH.nil
            rw [if_pos (by rfl)]
            refine wp_appB _ _ rfl W1.heap.size BC.out.size (.slice oa y2.length oc) y2 rfl FO.out (.slice (some ⟨bb, 0, none⟩) 1 1) [8] rfl FB.out (by have := HSX.out; simp only [List.length_singleton]; omega) ?_
            intro v9 z9 hA
            obtain ⟨oa2, oc2, e9⟩ := owns_sl hA.row
            rw [List.length_append, List.length_singleton] at e9
            subst e9
            have H9 := HH.app hA FO.out (by decide)
            have B9 := BC.out.trans (hA.below FO.out BC.out.size)
            have FO9 := hA.row
            rw [List.length_append, List.length_singleton] at FO9
            clear HH BC FO FB hA
            have HH := H9
            have BC : Hid (Below W1.heap.size W1 z9) := B9
            have FO : Hid (z9.ownsRow W1.heap.size 5 1 (.slice oa2 (y2.length + 1) oc2) (y2.length + 1) (bV (y2 ++ [8]))) := FO9
            clear H9 B9 FO9
            refine hK.out _ z9 HH (fun _ => ?_)
            clear hK K
            (try simp only [Act.put, List.setIfInBounds_toArray, List.set_cons_zero, List.set_cons_succ])
            refine wpAnyH_take (i := 9) (v := .pointer (some ⟨g2, 0, none⟩)) ov9 (by kernel_rfl) (by kernel_rfl) (by kernel_rfl) (fun _ _ _ h => h) (Or.inl ⟨by rfl, fun V' hS => ?_⟩) HH ?_
            · go_simp
            simp only [Act.put, List.setIfInBounds_toArray, List.set_cons_zero, List.set_cons_succ]
            refine wpAnyH_ready (rs := [10]) (by kernel_rfl) (by simp) ?_
            refine AllReadyH.cons ov10 (fun K hK => ?_) AllReadyH.nil
            rw [if_pos (by rfl)]
            have c0 := (BC.out.cell (p := ⟨g2, 0, none⟩) PA.out.2.2.2).trans PA.out.1
            have f0 := (BC.out.frozen (p := ⟨g2, 0, none⟩) PA.out.2.2.2).trans PA.out.2.1
            go_simp
            clear c0 f0
            have M9 : Hid (LgM b1 b2 B w (z9.setCell ⟨g2, 0, none⟩ (.slice oa2 (y2.length + 1) oc2)) (.slice ta nt tc) (.slice (some ⟨g1, 0, none⟩) nc cc) (.slice (some ⟨g2, 0, none⟩) ns sc) (.slice da nd dc) z ⟨c1.ts, c1.cs, c1.ss.set 0 (y2 ++ [8]), c1.d, c1.n⟩) := (M.out.past BC.out).set2 HL.out.2.2.1 PB.out.1 PB.out.2.1 PB.out.2.2 _ _ (by rw [List.length_append, List.length_singleton]; exact owns_base FO.out (Nat.le_trans M.out.ge M.out.bel.size))
            have H9 := HH.but ((But.refl (fun y => y = g2) z9).setCell ⟨g2, 0, none⟩ (.slice oa2 (y2.length + 1) oc2) (Or.inl rfl)) PB.out.2.1
            refine hK.out _ (z9.setCell ⟨g2, 0, none⟩ (.slice oa2 (y2.length + 1) oc2)) H9 (fun _ => ?_)
            clear hK K
            (try simp only [Act.put, List.setIfInBounds_toArray, List.set_cons_zero, List.set_cons_succ])
            generalize z9.setCell ⟨g2, 0, none⟩ (.slice oa2 (y2.length + 1) oc2) = W2 at M9 H9 ⊢
            clear H9 HH BC FO PA PB M HSX
            have M := M9
            clear M9
            refine wpAnyH_done (by kernel_rfl) ?_ _
            obtain ⟨c2, hc2⟩ : ∃ q : Con, q = ⟨c1.ts, c1.cs, c1.ss.set 0 (y2 ++ [8]), c1.d, c1.n⟩ := ⟨_, rfl⟩
            rw [← hc2] at M
            have HT9 : Hid (total c2 ≤ 2097154) := by have := total_set2 c1 y2 8 HX.out; unfold Hid; rw [hc2, this]; have := HTO.out; omega
            have HL9 : Hid (Lens c2 nt nc ns nd z) := by have := HL.out; unfold Lens at this; unfold Hid Lens; rw [hc2]; simp only [List.length_set]; exact this
            clear hc2 HTO HL HX
            have HTO := HT9
            have HL := HL9
            clear HT9 HL9
            go_upto_region 5 with fail
            have x0 : W2.cell? ⟨b1, 0, none⟩ = some (.slice ta nt tc) := M.out.c1.cell 0
            have x1 : W2.cell? ⟨b1, 1, none⟩ = some (.slice (some ⟨g1, 0, none⟩) nc cc) := M.out.c1.cell 1
            have x2 : W2.cell? ⟨b1, 2, none⟩ = some (.slice (some ⟨g2, 0, none⟩) ns sc) := M.out.c1.cell 2
            have x3 : W2.cell? ⟨b1, 3, none⟩ = some (.slice da nd dc) := M.out.c1.cell 3
            have x4 : W2.cell? ⟨b1, 4, none⟩ = some (.int .i64 z) := M.out.c1.cell 4
            have k0 : W2.cell? ⟨b2, 0, none⟩ = some (.slice none 0 0) := M.out.c2.cell 0
            have f0 := CBox.frozen M.out.c2 0
            have k1 : W2.cell? ⟨b2, 1, none⟩ = some (.slice none 0 0) := M.out.c2.cell 1
            have f1 := CBox.frozen M.out.c2 1
            have k2 : W2.cell? ⟨b2, 2, none⟩ = some (.slice none 0 0) := M.out.c2.cell 2
            have f2 := CBox.frozen M.out.c2 2
            have k3 : W2.cell? ⟨b2, 3, none⟩ = some (.slice none 0 0) := M.out.c2.cell 3
            have f3 := CBox.frozen M.out.c2 3
            have k4 : W2.cell? ⟨b2, 4, none⟩ = some (.int .i64 0) := M.out.c2.cell 4
            have f4 := CBox.frozen M.out.c2 4
            have HF : Hid (CBox (((((W2.setCell ⟨b2, 0, none⟩ (.slice ta nt tc)).setCell ⟨b2, 1, none⟩ (.slice (some ⟨g1, 0, none⟩) nc cc)).setCell ⟨b2, 2, none⟩ (.slice (some ⟨g2, 0, none⟩) ns sc)).setCell ⟨b2, 3, none⟩ (.slice da nd dc)).setCell ⟨b2, 4, none⟩ (.int .i64 z)) b2 28 [.slice ta nt tc, .slice (some ⟨g1, 0, none⟩) nc cc, .slice (some ⟨g2, 0, none⟩) ns sc, .slice da nd dc, .int .i64 z] ∧ DQ B (((((W2.setCell ⟨b2, 0, none⟩ (.slice ta nt tc)).setCell ⟨b2, 1, none⟩ (.slice (some ⟨g1, 0, none⟩) nc cc)).setCell ⟨b2, 2, none⟩ (.slice (some ⟨g2, 0, none⟩) ns sc)).setCell ⟨b2, 3, none⟩ (.slice da nd dc)).setCell ⟨b2, 4, none⟩ (.int .i64 z)) (.slice ta nt tc) (.slice (some ⟨g1, 0, none⟩) nc cc) (.slice (some ⟨g2, 0, none⟩) ns sc) (.slice da nd dc) c2 ∧ Below B w (((((W2.setCell ⟨b2, 0, none⟩ (.slice ta nt tc)).setCell ⟨b2, 1, none⟩ (.slice (some ⟨g1, 0, none⟩) nc cc)).setCell ⟨b2, 2, none⟩ (.slice (some ⟨g2, 0, none⟩) ns sc)).setCell ⟨b2, 3, none⟩ (.slice da nd dc)).setCell ⟨b2, 4, none⟩ (.int .i64 z))) := by
              have hs : But (fun y => y = b2) W2 (((((W2.setCell ⟨b2, 0, none⟩ (.slice ta nt tc)).setCell ⟨b2, 1, none⟩ (.slice (some ⟨g1, 0, none⟩) nc cc)).setCell ⟨b2, 2, none⟩ (.slice (some ⟨g2, 0, none⟩) ns sc)).setCell ⟨b2, 3, none⟩ (.slice da nd dc)).setCell ⟨b2, 4, none⟩ (.int .i64 z)) := ((((((But.refl (fun y => y = b2) W2).setCell ⟨b2, 0, none⟩ _ (Or.inl rfl)).setCell ⟨b2, 1, none⟩ _ (Or.inl rfl)).setCell ⟨b2, 2, none⟩ _ (Or.inl rfl)).setCell ⟨b2, 3, none⟩ _ (Or.inl rfl)).setCell ⟨b2, 4, none⟩ _ (Or.inl rfl))
              have ra : Alien W2 b2 := ⟨_, _, M.out.c2, by decide, by decide, by decide⟩
              exact ⟨(((((M.out.c2.set 0 _).set 1 _).set 2 _).set 3 _).set 4 _), ⟨row_alienT M.out.dq.t hs ra, PO.alien M.out.dq.p hs ra, PO.alien M.out.dq.s hs ra, row_alien M.out.dq.d hs ra, M.out.dq.ap⟩, M.out.bel.trans (hs.below (fun g e => by have := GL.out; omega) (Nat.le_trans M.out.ge M.out.bel.size))⟩
            clear M
            go_wp2
            clear x0 x1 x2 x3 x4 k0 k1 k2 k3 k4 f0 f1 f2 f3 f4
            generalize (((((W2.setCell ⟨b2, 0, none⟩ (.slice ta nt tc)).setCell ⟨b2, 1, none⟩ (.slice (some ⟨g1, 0, none⟩) nc cc)).setCell ⟨b2, 2, none⟩ (.slice (some ⟨g2, 0, none⟩) ns sc)).setCell ⟨b2, 3, none⟩ (.slice da nd dc)).setCell ⟨b2, 4, none⟩ (.int .i64 z)) = Z9 at HF ⊢
            refine bodyPost_ret (v := .agg #[.slice ta nt tc, .slice (some ⟨g1, 0, none⟩) nc cc, .slice (some ⟨g2, 0, none⟩) ns sc, .slice da nd dc, .int .i64 z]) (results_c (p := 2) (ty := 28) Try.results25 _ _ _ ⟨b2, 0, none⟩ rfl (run_loadVar_mid Z9 b2 0 28 [.slice ta nt tc, .slice (some ⟨g1, 0, none⟩) nc cc, .slice (some ⟨g2, 0, none⟩) ns sc, .slice da nd dc, .int .i64 z] _ HF.out.1.range Try.underlying28 rfl (by kernel_rfl))) rfl ?_
            exact ⟨⟨_, c2, rfl, dq_do HF.out.2.1 HL.out, by have := HTO.out; omega⟩, HF.out.2.2⟩
    · rw [if_pos (by rfl)]
      go_simp
      have hB : Below z1.heap.size z1 (z1.alloc (.cells #[.int .u8 7] 5)) := below_alloc _ _
      have FB9 : BL (fun _ => True) (z1.alloc (.cells #[.int .u8 7] 5)) (.slice (some ⟨z1.heap.size, 0, none⟩) 1 1) [7] := (BL.new z1 [7] (by simp)).mono fun _ _ _ => trivial
      have H9 := HH.past hB
      clear HH
      have HH := H9
      clear H9
      have B9 := BC.out.trans (hB.mono BC.out.size)
      clear BC
      have BC : Hid (Below W0.heap.size W0 (z1.alloc (.cells #[.int .u8 7] 5))) := B9
      clear B9
      (try (have q9 := FO.out; clear FO; have FO : Hid ((z1.alloc (.cells #[.int .u8 7] 5)).ownsRow W0.heap.size 5 1 (.slice oa y1.length oc) y1.length (bV y1)) := owns_past q9 hB; clear q9))
      have FB : Hid _ := FB9
      clear FB9 hB
      refine hK.out _ (z1.alloc (.cells #[.int .u8 7] 5)) HH (fun _ => ?_)
      clear hK K
      (try simp only [Act.put, List.setIfInBounds_toArray, List.set_cons_zero, List.set_cons_succ])
      generalize z1.heap.size = bb at FB ⊢
      (first | generalize (z1.alloc (.cells #[.int .u8 7] 5)) = z1 at HH BC FO FB ⊢ | generalize (z1.alloc (.cells #[.int .u8 7] 5)) = z1 at HH BC FB ⊢)
      refine wpAnyH_ready (rs := [5]) (by kernel_rfl) (by simp) ?_
      refine AllReadyH.cons ov5 (fun K hK => ?_) AllReadyH.nil
      rw [if_pos (by rfl)]
      have c0 := (BC.out.cell (p := ⟨g1, 0, none⟩) PA.out.2.2.2).trans PA.out.1
      go_simp
      clear c0
      refine hK.out _ _ HH (fun _ => ?_)
      clear hK K
      (try simp only [Act.put, List.setIfInBounds_toArray, List.set_cons_zero, List.set_cons_succ])
      refine wpAnyH_ready (rs := [6]) (by kernel_rfl) (by simp) ?_
      refine AllReadyH.cons ov6 (fun K hK => ?_) AllReadyH.nil
      rw [if_pos (by rfl)]
      go_simp
      refine (own_is _ _ y1 (PA.out.2.2.1.past BC.out) HSX.out).mono ?_
      rintro e z1 ⟨v9, rfl, hO, hB⟩
      obtain ⟨oa, oc, rfl⟩ := owns_sl hO
      have FO9 := owns_base hO BC.out.size
      clear hO
      have H9 := HH.past hB
      clear HH
      have HH := H9
      clear H9
      have B9 := BC.out.trans (hB.mono BC.out.size)
      clear BC
      have BC : Hid (Below W0.heap.size W0 z1) := B9
      clear B9
      (try (have q9 := FB.out; clear FB; have FB : Hid (BL (fun _ => True) z1 (.slice (some ⟨bb, 0, none⟩) 1 1) [7]) := q9.past hB; clear q9))
      have FO : Hid (z1.ownsRow W0.heap.size 5 1 (.slice oa y1.length oc) y1.length (bV y1)) := FO9
      clear FO9 hB
      (try go_wp2_with fail)
      refine hK.out _ _ HH (fun _ => ?_)
      clear hK K
      (try simp only [Act.put, List.setIfInBounds_toArray, List.set_cons_zero, List.set_cons_succ])
      refine wpAnyH_ready (rs := [8]) (by kernel_rfl) (by simp) ?_
      refine AllReadyH.cons ov8 (fun K hK => ?_) AllReadyH.nil
      rw [if_pos (by rfl)]
      refine wp_appB _ _ rfl W0.heap.size BC.out.size (.slice oa y1.length oc) y1 rfl FO.out (.slice (some ⟨bb, 0, none⟩) 1 1) [7] rfl FB.out (by have := HSX.out; simp only [List.length_singleton]; omega) ?_
      intro v9 z9 hA
      obtain ⟨oa2, oc2, e9⟩ := owns_sl hA.row
      rw [List.length_append, List.length_singleton] at e9
      subst e9
      have H9 := HH.app hA FO.out (by decide)
      have B9 := BC.out.trans (hA.below FO.out BC.out.size)
      have FO9 := hA.row
      rw [List.length_append, List.length_singleton] at FO9
      clear HH BC FO FB hA
      have HH := H9
      have BC : Hid (Below W0.heap.size W0 z9) := B9
      have FO : Hid (z9.ownsRow W0.heap.size 5 1 (.slice oa2 (y1.length + 1) oc2) (y1.length + 1) (bV (y1 ++ [7]))) := FO9
      clear H9 B9 FO9
      refine hK.out _ z9 HH (fun _ => ?_)
      clear hK K
      (try simp only [Act.put, List.setIfInBounds_toArray, List.set_cons_zero, List.set_cons_succ])
      refine wpAnyH_take (i := 9) (v := .pointer (some ⟨g1, 0, none⟩)) ov9 (by kernel_rfl) (by kernel_rfl) (by kernel_rfl) (fun _ _ _ h => h) (Or.inl ⟨by rfl, fun V' hS => ?_⟩) HH ?_
      · go_simp
      simp only [Act.put, List.setIfInBounds_toArray, List.set_cons_zero, List.set_cons_succ]
      refine wpAnyH_ready (rs := [10]) (by kernel_rfl) (by simp) ?_
      refine AllReadyH.cons ov10 (fun K hK => ?_) AllReadyH.nil
      rw [if_pos (by rfl)]
      have c0 := (BC.out.cell (p := ⟨g1, 0, none⟩) PA.out.2.2.2).trans PA.out.1
      have f0 := (BC.out.frozen (p := ⟨g1, 0, none⟩) PA.out.2.2.2).trans PA.out.2.1
      go_simp
      clear c0 f0
      have M9 : Hid (LgM b1 b2 B w (z9.setCell ⟨g1, 0, none⟩ (.slice oa2 (y1.length + 1) oc2)) (.slice ta nt tc) (.slice (some ⟨g1, 0, none⟩) nc cc) (.slice sa ns sc) (.slice da nd dc) z ⟨c.ts, c.cs.set 0 (y1 ++ [7]), c.ss, c.d, c.n⟩) := (M.out.past BC.out).set1 HL.out.2.1 PB.out.1 PB.out.2.1 PB.out.2.2 _ _ (by rw [List.length_append, List.length_singleton]; exact owns_base FO.out (Nat.le_trans M.out.ge M.out.bel.size))
      have H9 := HH.but ((But.refl (fun y => y = g1) z9).setCell ⟨g1, 0, none⟩ (.slice oa2 (y1.length + 1) oc2) (Or.inl rfl)) PB.out.2.1
      refine hK.out _ (z9.setCell ⟨g1, 0, none⟩ (.slice oa2 (y1.length + 1) oc2)) H9 (fun _ => ?_)
      clear hK K
      (try simp only [Act.put, List.setIfInBounds_toArray, List.set_cons_zero, List.set_cons_succ])
      generalize z9.setCell ⟨g1, 0, none⟩ (.slice oa2 (y1.length + 1) oc2) = W1 at M9 H9 ⊢
      clear H9 HH BC FO PA PB M HSX
      have M := M9
      clear M9
      refine wpAnyH_done (by kernel_rfl) ?_ _
      obtain ⟨c1, hc2⟩ : ∃ q : Con, q = ⟨c.ts, c.cs.set 0 (y1 ++ [7]), c.ss, c.d, c.n⟩ := ⟨_, rfl⟩
      rw [← hc2] at M
      have HT9 : Hid (total c1 ≤ 2097153) := by have := total_set1 c y1 7 HX.out; unfold Hid; rw [hc2, this]; have := HTO.out; omega
      have HL9 : Hid (Lens c1 nt nc ns nd z) := by have := HL.out; unfold Lens at this; unfold Hid Lens; rw [hc2]; simp only [List.length_set]; exact this
      clear hc2 HTO HL HX
      have HTO := HT9
      have HL := HL9
      clear HT9 HL9
      go_upto_region 3 with fail
      by_cases e2 : ns = 0
      · have a2 : W1.cell? ⟨b1, 2, none⟩ = some (.slice sa ns sc) := M.out.c1.cell 2
        have q2 : ¬ (0 : Int) < (ns : Int) := by omega
        clear e2
        go_upto_region 5 with fail
        clear a2 q2
        have x0 : W1.cell? ⟨b1, 0, none⟩ = some (.slice ta nt tc) := M.out.c1.cell 0
        have x1 : W1.cell? ⟨b1, 1, none⟩ = some (.slice (some ⟨g1, 0, none⟩) nc cc) := M.out.c1.cell 1
        have x2 : W1.cell? ⟨b1, 2, none⟩ = some (.slice sa ns sc) := M.out.c1.cell 2
        have x3 : W1.cell? ⟨b1, 3, none⟩ = some (.slice da nd dc) := M.out.c1.cell 3
        have x4 : W1.cell? ⟨b1, 4, none⟩ = some (.int .i64 z) := M.out.c1.cell 4
        have k0 : W1.cell? ⟨b2, 0, none⟩ = some (.slice none 0 0) := M.out.c2.cell 0
        have f0 := CBox.frozen M.out.c2 0
        have k1 : W1.cell? ⟨b2, 1, none⟩ = some (.slice none 0 0) := M.out.c2.cell 1
        have f1 := CBox.frozen M.out.c2 1
        have k2 : W1.cell? ⟨b2, 2, none⟩ = some (.slice none 0 0) := M.out.c2.cell 2
        have f2 := CBox.frozen M.out.c2 2
        have k3 : W1.cell? ⟨b2, 3, none⟩ = some (.slice none 0 0) := M.out.c2.cell 3
        have f3 := CBox.frozen M.out.c2 3
        have k4 : W1.cell? ⟨b2, 4, none⟩ = some (.int .i64 0) := M.out.c2.cell 4
        have f4 := CBox.frozen M.out.c2 4
        have HF : Hid (CBox (((((W1.setCell ⟨b2, 0, none⟩ (.slice ta nt tc)).setCell ⟨b2, 1, none⟩ (.slice (some ⟨g1, 0, none⟩) nc cc)).setCell ⟨b2, 2, none⟩ (.slice sa ns sc)).setCell ⟨b2, 3, none⟩ (.slice da nd dc)).setCell ⟨b2, 4, none⟩ (.int .i64 z)) b2 28 [.slice ta nt tc, .slice (some ⟨g1, 0, none⟩) nc cc, .slice sa ns sc, .slice da nd dc, .int .i64 z] ∧ DQ B (((((W1.setCell ⟨b2, 0, none⟩ (.slice ta nt tc)).setCell ⟨b2, 1, none⟩ (.slice (some ⟨g1, 0, none⟩) nc cc)).setCell ⟨b2, 2, none⟩ (.slice sa ns sc)).setCell ⟨b2, 3, none⟩ (.slice da nd dc)).setCell ⟨b2, 4, none⟩ (.int .i64 z)) (.slice ta nt tc) (.slice (some ⟨g1, 0, none⟩) nc cc) (.slice sa ns sc) (.slice da nd dc) c1 ∧ Below B w (((((W1.setCell ⟨b2, 0, none⟩ (.slice ta nt tc)).setCell ⟨b2, 1, none⟩ (.slice (some ⟨g1, 0, none⟩) nc cc)).setCell ⟨b2, 2, none⟩ (.slice sa ns sc)).setCell ⟨b2, 3, none⟩ (.slice da nd dc)).setCell ⟨b2, 4, none⟩ (.int .i64 z))) := by
          have hs : But (fun y => y = b2) W1 (((((W1.setCell ⟨b2, 0, none⟩ (.slice ta nt tc)).setCell ⟨b2, 1, none⟩ (.slice (some ⟨g1, 0, none⟩) nc cc)).setCell ⟨b2, 2, none⟩ (.slice sa ns sc)).setCell ⟨b2, 3, none⟩ (.slice da nd dc)).setCell ⟨b2, 4, none⟩ (.int .i64 z)) := ((((((But.refl (fun y => y = b2) W1).setCell ⟨b2, 0, none⟩ _ (Or.inl rfl)).setCell ⟨b2, 1, none⟩ _ (Or.inl rfl)).setCell ⟨b2, 2, none⟩ _ (Or.inl rfl)).setCell ⟨b2, 3, none⟩ _ (Or.inl rfl)).setCell ⟨b2, 4, none⟩ _ (Or.inl rfl))
          have ra : Alien W1 b2 := ⟨_, _, M.out.c2, by decide, by decide, by decide⟩
          exact ⟨(((((M.out.c2.set 0 _).set 1 _).set 2 _).set 3 _).set 4 _), ⟨row_alienT M.out.dq.t hs ra, PO.alien M.out.dq.p hs ra, PO.alien M.out.dq.s hs ra, row_alien M.out.dq.d hs ra, M.out.dq.ap⟩, M.out.bel.trans (hs.below (fun g e => by have := GL.out; omega) (Nat.le_trans M.out.ge M.out.bel.size))⟩
        clear M
        go_wp2
        clear x0 x1 x2 x3 x4 k0 k1 k2 k3 k4 f0 f1 f2 f3 f4
        generalize (((((W1.setCell ⟨b2, 0, none⟩ (.slice ta nt tc)).setCell ⟨b2, 1, none⟩ (.slice (some ⟨g1, 0, none⟩) nc cc)).setCell ⟨b2, 2, none⟩ (.slice sa ns sc)).setCell ⟨b2, 3, none⟩ (.slice da nd dc)).setCell ⟨b2, 4, none⟩ (.int .i64 z)) = Z9 at HF ⊢
        refine bodyPost_ret (v := .agg #[.slice ta nt tc, .slice (some ⟨g1, 0, none⟩) nc cc, .slice sa ns sc, .slice da nd dc, .int .i64 z]) (results_c (p := 2) (ty := 28) Try.results25 _ _ _ ⟨b2, 0, none⟩ rfl (run_loadVar_mid Z9 b2 0 28 [.slice ta nt tc, .slice (some ⟨g1, 0, none⟩) nc cc, .slice sa ns sc, .slice da nd dc, .int .i64 z] _ HF.out.1.range Try.underlying28 rfl (by kernel_rfl))) rfl ?_
        exact ⟨⟨_, c1, rfl, dq_do HF.out.2.1 HL.out, by have := HTO.out; omega⟩, HF.out.2.2⟩
      · have q2 : (0 : Int) < (ns : Int) := by omega
        obtain ⟨y2, hx⟩ : ∃ x, c1.ss[0]? = some x := ⟨c1.ss[0]'(by have := HL.out; unfold Lens at this; omega), List.getElem?_eq_getElem _⟩
        have HX : Hid (c1.ss[0]? = some y2) := hx
        have hsx : y2.length ≤ 16777216 := by
          have h1 := (List.sublist_flatten_of_mem (List.mem_of_getElem? hx)).length_le
          have h2 := HTO.out
          unfold total at h2
          omega
        have HSX : Hid (y2.length ≤ 16777216) := hsx
        obtain ⟨g2, ua, uc, eg, r1, r2, r3, r4, r5, r6⟩ := piece_at M.out.dq.s HL.out.2.2.1 hx hsx
        subst eg
        have PA : Hid (W1.cell? ⟨g2, 0, none⟩ = some (.slice ua y2.length uc) ∧ W1.frozen? ⟨g2, 0, none⟩ = false ∧ BL (fun _ => True) W1 (.slice ua y2.length uc) y2 ∧ g2 < W1.heap.size) := ⟨r2, r3, r4, r5⟩
        have PB : Hid (B ≤ g2 ∧ b1 ≠ g2 ∧ b2 ≠ g2) := ⟨r1, r6 _ _ _ M.out.c1 (by decide), r6 _ _ _ M.out.c2 (by decide)⟩
        clear hx hsx r1 r2 r3 r4 r5 r6 e2
        have a2 : W1.cell? ⟨b1, 2, none⟩ = some (.slice (some ⟨g2, 0, none⟩) ns sc) := M.out.c1.cell 2
        go_upto_region 4 with fail
        clear a2 q2
        refine wp_region_held_drew (S := fun V' => CBox V' b1 28 [.slice ta nt tc, .slice (some ⟨g1, 0, none⟩) nc cc, .slice (some ⟨g2, 0, none⟩) ns sc, .slice da nd dc, .int .i64 z]) (by kernel_rfl) (M.out.c1.past below_drew) (fun HH => ?_)
        have BC : Hid (Below W1.heap.size W1 W1.drew) := below_drew
        have M : Hid _ := M
        generalize W1.drew = z1 at HH BC ⊢
        refine wpAnyH_take (i := 0) (v := .pointer (some ⟨b1, 2, none⟩)) ov0 (by kernel_rfl) (by kernel_rfl) (by kernel_rfl) (fun _ _ _ h => h) (Or.inl ⟨by rfl, fun V' hS => ?_⟩) HH ?_
        · go_simp
        simp only [Act.put, List.setIfInBounds_toArray, List.set_cons_zero, List.set_cons_succ]
        refine wpAnyH_take (i := 1) (v := .slice (some ⟨g2, 0, none⟩) ns sc) ov1 (by kernel_rfl) (by kernel_rfl) (by kernel_rfl) (fun _ _ _ h => h) (Or.inl ⟨by rfl, fun V' hS => ?_⟩) HH ?_
        · have c0 := hS.cell 2
          go_simp
        simp only [Act.put, List.setIfInBounds_toArray, List.set_cons_zero, List.set_cons_succ]
        refine wpAnyH_take (i := 2) (v := .pointer (some ⟨b1, 2, none⟩)) ov2 (by kernel_rfl) (by kernel_rfl) (by kernel_rfl) (fun _ _ _ h => h) (Or.inl ⟨by rfl, fun V' hS => ?_⟩) HH ?_
        · go_simp
        simp only [Act.put, List.setIfInBounds_toArray, List.set_cons_zero, List.set_cons_succ]
        refine wpAnyH_take (i := 3) (v := .slice (some ⟨g2, 0, none⟩) ns sc) ov3 (by kernel_rfl) (by kernel_rfl) (by kernel_rfl) (fun _ _ _ h => h) (Or.inl ⟨by rfl, fun V' hS => ?_⟩) HH ?_
        · have c0 := hS.cell 2
          go_simp
        simp only [Act.put, List.setIfInBounds_toArray, List.set_cons_zero, List.set_cons_succ]
        refine wpAnyH_take (i := 4) (v := .pointer (some ⟨g2, 0, none⟩)) ov4 (by kernel_rfl) (by kernel_rfl) (by kernel_rfl) (fun _ _ _ h => h) (Or.inl ⟨by rfl, fun V' hS => ?_⟩) HH ?_
        · go_simp
        simp only [Act.put, List.setIfInBounds_toArray, List.set_cons_zero, List.set_cons_succ]
        refine wpAnyH_ready (rs := [5, 7]) (by kernel_rfl) (by simp) ?_
        refine AllReadyH.cons ov5 (fun K hK => ?_) (AllReadyH.cons ov7 (fun K hK => ?_) AllReadyH.nil)
        · rw [if_pos (by rfl)]
          have c0 := (BC.out.cell (p := ⟨g2, 0, none⟩) PA.out.2.2.2).trans PA.out.1
          go_simp
          clear c0
          refine hK.out _ _ HH (fun _ => ?_)
          clear hK K
          (try simp only [Act.put, List.setIfInBounds_toArray, List.set_cons_zero, List.set_cons_succ])
          refine wpAnyH_ready (rs := [6, 7]) (by kernel_rfl) (by simp) ?_
          refine AllReadyH.cons ov6 (fun K hK => ?_) (AllReadyH.cons ov7 (fun K hK => ?_) AllReadyH.nil)
          · rw [if_pos (by rfl)]
            go_simp
            refine (own_is _ _ y2 (PA.out.2.2.1.past BC.out) HSX.out).mono ?_
            rintro e z1 ⟨v9, rfl, hO, hB⟩
            obtain ⟨oa, oc, rfl⟩ := owns_sl hO
            have FO9 := owns_base hO BC.out.size
            clear hO
            have H9 := HH.past hB
            clear HH
            have HH := H9
            clear H9
            have B9 := BC.out.trans (hB.mono BC.out.size)
            clear BC
            have BC : Hid (Below W1.heap.size W1 z1) := B9
            clear B9
            (try (have q9 := FB.out; clear FB; have FB : Hid (BL (fun _ => True) z1 (.slice (some ⟨bb, 0, none⟩) 1 1) [8]) := q9.past hB; clear q9))
            have FO : Hid (z1.ownsRow W1.heap.size 5 1 (.slice oa y2.length oc) y2.length (bV y2)) := FO9
            clear FO9 hB
            (try go_wp2_with fail)
            refine hK.out _ _ HH (fun _ => ?_)
            clear hK K
            (try simp only [Act.put, List.setIfInBounds_toArray, List.set_cons_zero, List.set_cons_succ])
            refine wpAnyH_ready (rs := [7]) (by kernel_rfl) (by simp) ?_
            refine AllReadyH.cons ov7 (fun K hK => ?_) AllReadyH.nil
            rw [if_pos (by rfl)]
            go_simp
            have hB : Below z1.heap.size z1 (z1.alloc (.cells #[.int .u8 8] 5)) := below_alloc _ _
            have FB9 : BL (fun _ => True) (z1.alloc (.cells #[.int .u8 8] 5)) (.slice (some ⟨z1.heap.size, 0, none⟩) 1 1) [8] := (BL.new z1 [8] (by simp)).mono fun _ _ _ => trivial
            have H9 := HH.past hB
            clear HH
            have HH := H9
            clear H9
            have B9 := BC.out.trans (hB.mono BC.out.size)
            clear BC
            have BC : Hid (Below W1.heap.size W1 (z1.alloc (.cells #[.int .u8 8] 5))) := B9
            clear B9
            (try (have q9 := FO.out; clear FO; have FO : Hid ((z1.alloc (.cells #[.int .u8 8] 5)).ownsRow W1.heap.size 5 1 (.slice oa y2.length oc) y2.length (bV y2)) := owns_past q9 hB; clear q9))
            have FB : Hid _ := FB9
            clear FB9 hB
            refine hK.out _ (z1.alloc (.cells #[.int .u8 8] 5)) HH (fun _ => ?_)
            clear hK K
            (try simp only [Act.put, List.setIfInBounds_toArray, List.set_cons_zero, List.set_cons_succ])
            generalize z1.heap.size = bb at FB ⊢
            (first | generalize (z1.alloc (.cells #[.int .u8 8] 5)) = z1 at HH BC FO FB ⊢ | generalize (z1.alloc (.cells #[.int .u8 8] 5)) = z1 at HH BC FB ⊢)
            refine wpAnyH_ready (rs := [8]) (by kernel_rfl) (by simp) ?_
            refine AllReadyH.cons ov8 (fun K hK => ?_) AllReadyH.nil
            rw [if_pos (by rfl)]
            refine wp_appB _ _ rfl W1.heap.size BC.out.size (.slice oa y2.length oc) y2 rfl FO.out (.slice (some ⟨bb, 0, none⟩) 1 1) [8] rfl FB.out (by have := HSX.out; simp only [List.length_singleton]; omega) ?_
            intro v9 z9 hA
            obtain ⟨oa2, oc2, e9⟩ := owns_sl hA.row
            rw [List.length_append, List.length_singleton] at e9
            subst e9
            have H9 := HH.app hA FO.out (by decide)
            have B9 := BC.out.trans (hA.below FO.out BC.out.size)
            have FO9 := hA.row
            rw [List.length_append, List.length_singleton] at FO9
            clear HH BC FO FB hA
            have HH := H9
            have BC : Hid (Below W1.heap.size W1 z9) := B9
            have FO : Hid (z9.ownsRow W1.heap.size 5 1 (.slice oa2 (y2.length + 1) oc2) (y2.length + 1) (bV (y2 ++ [8]))) := FO9
            clear H9 B9 FO9
            refine hK.out _ z9 HH (fun _ => ?_)
            clear hK K
            (try simp only [Act.put, List.setIfInBounds_toArray, List.set_cons_zero, List.set_cons_succ])
            refine wpAnyH_take (i := 9) (v := .pointer (some ⟨g2, 0, none⟩)) ov9 (by kernel_rfl) (by kernel_rfl) (by kernel_rfl) (fun _ _ _ h => h) (Or.inl ⟨by rfl, fun V' hS => ?_⟩) HH ?_
            · go_simp
            simp only [Act.put, List.setIfInBounds_toArray, List.set_cons_zero, List.set_cons_succ]
            refine wpAnyH_ready (rs := [10]) (by kernel_rfl) (by simp) ?_
            refine AllReadyH.cons ov10 (fun K hK => ?_) AllReadyH.nil
            rw [if_pos (by rfl)]
            have c0 := (BC.out.cell (p := ⟨g2, 0, none⟩) PA.out.2.2.2).trans PA.out.1
            have f0 := (BC.out.frozen (p := ⟨g2, 0, none⟩) PA.out.2.2.2).trans PA.out.2.1
            go_simp
            clear c0 f0
            have M9 : Hid (LgM b1 b2 B w (z9.setCell ⟨g2, 0, none⟩ (.slice oa2 (y2.length + 1) oc2)) (.slice ta nt tc) (.slice (some ⟨g1, 0, none⟩) nc cc) (.slice (some ⟨g2, 0, none⟩) ns sc) (.slice da nd dc) z ⟨c1.ts, c1.cs, c1.ss.set 0 (y2 ++ [8]), c1.d, c1.n⟩) := (M.out.past BC.out).set2 HL.out.2.2.1 PB.out.1 PB.out.2.1 PB.out.2.2 _ _ (by rw [List.length_append, List.length_singleton]; exact owns_base FO.out (Nat.le_trans M.out.ge M.out.bel.size))
            have H9 := HH.but ((But.refl (fun y => y = g2) z9).setCell ⟨g2, 0, none⟩ (.slice oa2 (y2.length + 1) oc2) (Or.inl rfl)) PB.out.2.1
            refine hK.out _ (z9.setCell ⟨g2, 0, none⟩ (.slice oa2 (y2.length + 1) oc2)) H9 (fun _ => ?_)
            clear hK K
            (try simp only [Act.put, List.setIfInBounds_toArray, List.set_cons_zero, List.set_cons_succ])
            generalize z9.setCell ⟨g2, 0, none⟩ (.slice oa2 (y2.length + 1) oc2) = W2 at M9 H9 ⊢
            clear H9 HH BC FO PA PB M HSX
            have M := M9
            clear M9
            refine wpAnyH_done (by kernel_rfl) ?_ _
            obtain ⟨c2, hc2⟩ : ∃ q : Con, q = ⟨c1.ts, c1.cs, c1.ss.set 0 (y2 ++ [8]), c1.d, c1.n⟩ := ⟨_, rfl⟩
            rw [← hc2] at M
            have HT9 : Hid (total c2 ≤ 2097154) := by have := total_set2 c1 y2 8 HX.out; unfold Hid; rw [hc2, this]; have := HTO.out; omega
            have HL9 : Hid (Lens c2 nt nc ns nd z) := by have := HL.out; unfold Lens at this; unfold Hid Lens; rw [hc2]; simp only [List.length_set]; exact this
            clear hc2 HTO HL HX
            have HTO := HT9
            have HL := HL9
            clear HT9 HL9
            go_upto_region 5 with fail
            have x0 : W2.cell? ⟨b1, 0, none⟩ = some (.slice ta nt tc) := M.out.c1.cell 0
            have x1 : W2.cell? ⟨b1, 1, none⟩ = some (.slice (some ⟨g1, 0, none⟩) nc cc) := M.out.c1.cell 1
            have x2 : W2.cell? ⟨b1, 2, none⟩ = some (.slice (some ⟨g2, 0, none⟩) ns sc) := M.out.c1.cell 2
            have x3 : W2.cell? ⟨b1, 3, none⟩ = some (.slice da nd dc) := M.out.c1.cell 3
            have x4 : W2.cell? ⟨b1, 4, none⟩ = some (.int .i64 z) := M.out.c1.cell 4
            have k0 : W2.cell? ⟨b2, 0, none⟩ = some (.slice none 0 0) := M.out.c2.cell 0
            have f0 := CBox.frozen M.out.c2 0
            have k1 : W2.cell? ⟨b2, 1, none⟩ = some (.slice none 0 0) := M.out.c2.cell 1
            have f1 := CBox.frozen M.out.c2 1
            have k2 : W2.cell? ⟨b2, 2, none⟩ = some (.slice none 0 0) := M.out.c2.cell 2
            have f2 := CBox.frozen M.out.c2 2
            have k3 : W2.cell? ⟨b2, 3, none⟩ = some (.slice none 0 0) := M.out.c2.cell 3
            have f3 := CBox.frozen M.out.c2 3
            have k4 : W2.cell? ⟨b2, 4, none⟩ = some (.int .i64 0) := M.out.c2.cell 4
            have f4 := CBox.frozen M.out.c2 4
            have HF : Hid (CBox (((((W2.setCell ⟨b2, 0, none⟩ (.slice ta nt tc)).setCell ⟨b2, 1, none⟩ (.slice (some ⟨g1, 0, none⟩) nc cc)).setCell ⟨b2, 2, none⟩ (.slice (some ⟨g2, 0, none⟩) ns sc)).setCell ⟨b2, 3, none⟩ (.slice da nd dc)).setCell ⟨b2, 4, none⟩ (.int .i64 z)) b2 28 [.slice ta nt tc, .slice (some ⟨g1, 0, none⟩) nc cc, .slice (some ⟨g2, 0, none⟩) ns sc, .slice da nd dc, .int .i64 z] ∧ DQ B (((((W2.setCell ⟨b2, 0, none⟩ (.slice ta nt tc)).setCell ⟨b2, 1, none⟩ (.slice (some ⟨g1, 0, none⟩) nc cc)).setCell ⟨b2, 2, none⟩ (.slice (some ⟨g2, 0, none⟩) ns sc)).setCell ⟨b2, 3, none⟩ (.slice da nd dc)).setCell ⟨b2, 4, none⟩ (.int .i64 z)) (.slice ta nt tc) (.slice (some ⟨g1, 0, none⟩) nc cc) (.slice (some ⟨g2, 0, none⟩) ns sc) (.slice da nd dc) c2 ∧ Below B w (((((W2.setCell ⟨b2, 0, none⟩ (.slice ta nt tc)).setCell ⟨b2, 1, none⟩ (.slice (some ⟨g1, 0, none⟩) nc cc)).setCell ⟨b2, 2, none⟩ (.slice (some ⟨g2, 0, none⟩) ns sc)).setCell ⟨b2, 3, none⟩ (.slice da nd dc)).setCell ⟨b2, 4, none⟩ (.int .i64 z))) := by
              have hs : But (fun y => y = b2) W2 (((((W2.setCell ⟨b2, 0, none⟩ (.slice ta nt tc)).setCell ⟨b2, 1, none⟩ (.slice (some ⟨g1, 0, none⟩) nc cc)).setCell ⟨b2, 2, none⟩ (.slice (some ⟨g2, 0, none⟩) ns sc)).setCell ⟨b2, 3, none⟩ (.slice da nd dc)).setCell ⟨b2, 4, none⟩ (.int .i64 z)) := ((((((But.refl (fun y => y = b2) W2).setCell ⟨b2, 0, none⟩ _ (Or.inl rfl)).setCell ⟨b2, 1, none⟩ _ (Or.inl rfl)).setCell ⟨b2, 2, none⟩ _ (Or.inl rfl)).setCell ⟨b2, 3, none⟩ _ (Or.inl rfl)).setCell ⟨b2, 4, none⟩ _ (Or.inl rfl))
              have ra : Alien W2 b2 := ⟨_, _, M.out.c2, by decide, by decide, by decide⟩
              exact ⟨(((((M.out.c2.set 0 _).set 1 _).set 2 _).set 3 _).set 4 _), ⟨row_alienT M.out.dq.t hs ra, PO.alien M.out.dq.p hs ra, PO.alien M.out.dq.s hs ra, row_alien M.out.dq.d hs ra, M.out.dq.ap⟩, M.out.bel.trans (hs.below (fun g e => by have := GL.out; omega) (Nat.le_trans M.out.ge M.out.bel.size))⟩
            clear M
            go_wp2
            clear x0 x1 x2 x3 x4 k0 k1 k2 k3 k4 f0 f1 f2 f3 f4
            generalize (((((W2.setCell ⟨b2, 0, none⟩ (.slice ta nt tc)).setCell ⟨b2, 1, none⟩ (.slice (some ⟨g1, 0, none⟩) nc cc)).setCell ⟨b2, 2, none⟩ (.slice (some ⟨g2, 0, none⟩) ns sc)).setCell ⟨b2, 3, none⟩ (.slice da nd dc)).setCell ⟨b2, 4, none⟩ (.int .i64 z)) = Z9 at HF ⊢
            refine bodyPost_ret (v := .agg #[.slice ta nt tc, .slice (some ⟨g1, 0, none⟩) nc cc, .slice (some ⟨g2, 0, none⟩) ns sc, .slice da nd dc, .int .i64 z]) (results_c (p := 2) (ty := 28) Try.results25 _ _ _ ⟨b2, 0, none⟩ rfl (run_loadVar_mid Z9 b2 0 28 [.slice ta nt tc, .slice (some ⟨g1, 0, none⟩) nc cc, .slice (some ⟨g2, 0, none⟩) ns sc, .slice da nd dc, .int .i64 z] _ HF.out.1.range Try.underlying28 rfl (by kernel_rfl))) rfl ?_
            exact ⟨⟨_, c2, rfl, dq_do HF.out.2.1 HL.out, by have := HTO.out; omega⟩, HF.out.2.2⟩
          · rw [if_pos (by rfl)]
            go_simp
            have hB : Below z1.heap.size z1 (z1.alloc (.cells #[.int .u8 8] 5)) := below_alloc _ _
            have FB9 : BL (fun _ => True) (z1.alloc (.cells #[.int .u8 8] 5)) (.slice (some ⟨z1.heap.size, 0, none⟩) 1 1) [8] := (BL.new z1 [8] (by simp)).mono fun _ _ _ => trivial
            have H9 := HH.past hB
            clear HH
            have HH := H9
            clear H9
            have B9 := BC.out.trans (hB.mono BC.out.size)
            clear BC
            have BC : Hid (Below W1.heap.size W1 (z1.alloc (.cells #[.int .u8 8] 5))) := B9
            clear B9
            (try (have q9 := FO.out; clear FO; have FO : Hid ((z1.alloc (.cells #[.int .u8 8] 5)).ownsRow W1.heap.size 5 1 (.slice oa y2.length oc) y2.length (bV y2)) := owns_past q9 hB; clear q9))
            have FB : Hid _ := FB9
            clear FB9 hB
            refine hK.out _ (z1.alloc (.cells #[.int .u8 8] 5)) HH (fun _ => ?_)
            clear hK K
            (try simp only [Act.put, List.setIfInBounds_toArray, List.set_cons_zero, List.set_cons_succ])
            generalize z1.heap.size = bb at FB ⊢
            (first | generalize (z1.alloc (.cells #[.int .u8 8] 5)) = z1 at HH BC FO FB ⊢ | generalize (z1.alloc (.cells #[.int .u8 8] 5)) = z1 at HH BC FB ⊢)
            refine wpAnyH_ready (rs := [6]) (by kernel_rfl) (by simp) ?_
            refine AllReadyH.cons ov6 (fun K hK => ?_) AllReadyH.nil
            rw [if_pos (by rfl)]
            go_simp
            refine (own_is _ _ y2 (PA.out.2.2.1.past BC.out) HSX.out).mono ?_
            rintro e z1 ⟨v9, rfl, hO, hB⟩
            obtain ⟨oa, oc, rfl⟩ := owns_sl hO
            have FO9 := owns_base hO BC.out.size
            clear hO
            have H9 := HH.past hB
            clear HH
            have HH := H9
            clear H9
            have B9 := BC.out.trans (hB.mono BC.out.size)
            clear BC
            have BC : Hid (Below W1.heap.size W1 z1) := B9
            clear B9
            (try (have q9 := FB.out; clear FB; have FB : Hid (BL (fun _ => True) z1 (.slice (some ⟨bb, 0, none⟩) 1 1) [8]) := q9.past hB; clear q9))
            have FO : Hid (z1.ownsRow W1.heap.size 5 1 (.slice oa y2.length oc) y2.length (bV y2)) := FO9
            clear FO9 hB
            (try go_wp2_with fail)
            refine hK.out _ _ HH (fun _ => ?_)
            clear hK K
            (try simp only [Act.put, List.setIfInBounds_toArray, List.set_cons_zero, List.set_cons_succ])
            refine wpAnyH_ready (rs := [8]) (by kernel_rfl) (by simp) ?_
            refine AllReadyH.cons ov8 (fun K hK => ?_) AllReadyH.nil
            rw [if_pos (by rfl)]
            refine wp_appB _ _ rfl W1.heap.size BC.out.size (.slice oa y2.length oc) y2 rfl FO.out (.slice (some ⟨bb, 0, none⟩) 1 1) [8] rfl FB.out (by have := HSX.out; simp only [List.length_singleton]; omega) ?_
            intro v9 z9 hA
            obtain ⟨oa2, oc2, e9⟩ := owns_sl hA.row
            rw [List.length_append, List.length_singleton] at e9
            subst e9
            have H9 := HH.app hA FO.out (by decide)
            have B9 := BC.out.trans (hA.below FO.out BC.out.size)
            have FO9 := hA.row
            rw [List.length_append, List.length_singleton] at FO9
            clear HH BC FO FB hA
            have HH := H9
            have BC : Hid (Below W1.heap.size W1 z9) := B9
            have FO : Hid (z9.ownsRow W1.heap.size 5 1 (.slice oa2 (y2.length + 1) oc2) (y2.length + 1) (bV (y2 ++ [8]))) := FO9
            clear H9 B9 FO9
            refine hK.out _ z9 HH (fun _ => ?_)
            clear hK K
            (try simp only [Act.put, List.setIfInBounds_toArray, List.set_cons_zero, List.set_cons_succ])
            refine wpAnyH_take (i := 9) (v := .pointer (some ⟨g2, 0, none⟩)) ov9 (by kernel_rfl) (by kernel_rfl) (by kernel_rfl) (fun _ _ _ h => h) (Or.inl ⟨by rfl, fun V' hS => ?_⟩) HH ?_
            · go_simp
            simp only [Act.put, List.setIfInBounds_toArray, List.set_cons_zero, List.set_cons_succ]
            refine wpAnyH_ready (rs := [10]) (by kernel_rfl) (by simp) ?_
            refine AllReadyH.cons ov10 (fun K hK => ?_) AllReadyH.nil
            rw [if_pos (by rfl)]
            have c0 := (BC.out.cell (p := ⟨g2, 0, none⟩) PA.out.2.2.2).trans PA.out.1
            have f0 := (BC.out.frozen (p := ⟨g2, 0, none⟩) PA.out.2.2.2).trans PA.out.2.1
            go_simp
            clear c0 f0
            have M9 : Hid (LgM b1 b2 B w (z9.setCell ⟨g2, 0, none⟩ (.slice oa2 (y2.length + 1) oc2)) (.slice ta nt tc) (.slice (some ⟨g1, 0, none⟩) nc cc) (.slice (some ⟨g2, 0, none⟩) ns sc) (.slice da nd dc) z ⟨c1.ts, c1.cs, c1.ss.set 0 (y2 ++ [8]), c1.d, c1.n⟩) := (M.out.past BC.out).set2 HL.out.2.2.1 PB.out.1 PB.out.2.1 PB.out.2.2 _ _ (by rw [List.length_append, List.length_singleton]; exact owns_base FO.out (Nat.le_trans M.out.ge M.out.bel.size))
            have H9 := HH.but ((But.refl (fun y => y = g2) z9).setCell ⟨g2, 0, none⟩ (.slice oa2 (y2.length + 1) oc2) (Or.inl rfl)) PB.out.2.1
            refine hK.out _ (z9.setCell ⟨g2, 0, none⟩ (.slice oa2 (y2.length + 1) oc2)) H9 (fun _ => ?_)
            clear hK K
            (try simp only [Act.put, List.setIfInBounds_toArray, List.set_cons_zero, List.set_cons_succ])
            generalize z9.setCell ⟨g2, 0, none⟩ (.slice oa2 (y2.length + 1) oc2) = W2 at M9 H9 ⊢
            clear H9 HH BC FO PA PB M HSX
            have M := M9
            clear M9
            refine wpAnyH_done (by kernel_rfl) ?_ _
            obtain ⟨c2, hc2⟩ : ∃ q : Con, q = ⟨c1.ts, c1.cs, c1.ss.set 0 (y2 ++ [8]), c1.d, c1.n⟩ := ⟨_, rfl⟩
            rw [← hc2] at M
            have HT9 : Hid (total c2 ≤ 2097154) := by have := total_set2 c1 y2 8 HX.out; unfold Hid; rw [hc2, this]; have := HTO.out; omega
            have HL9 : Hid (Lens c2 nt nc ns nd z) := by have := HL.out; unfold Lens at this; unfold Hid Lens; rw [hc2]; simp only [List.length_set]; exact this
            clear hc2 HTO HL HX
            have HTO := HT9
            have HL := HL9
            clear HT9 HL9
            go_upto_region 5 with fail
            have x0 : W2.cell? ⟨b1, 0, none⟩ = some (.slice ta nt tc) := M.out.c1.cell 0
            have x1 : W2.cell? ⟨b1, 1, none⟩ = some (.slice (some ⟨g1, 0, none⟩) nc cc) := M.out.c1.cell 1
            have x2 : W2.cell? ⟨b1, 2, none⟩ = some (.slice (some ⟨g2, 0, none⟩) ns sc) := M.out.c1.cell 2
            have x3 : W2.cell? ⟨b1, 3, none⟩ = some (.slice da nd dc) := M.out.c1.cell 3
            have x4 : W2.cell? ⟨b1, 4, none⟩ = some (.int .i64 z) := M.out.c1.cell 4
            have k0 : W2.cell? ⟨b2, 0, none⟩ = some (.slice none 0 0) := M.out.c2.cell 0
            have f0 := CBox.frozen M.out.c2 0
            have k1 : W2.cell? ⟨b2, 1, none⟩ = some (.slice none 0 0) := M.out.c2.cell 1
            have f1 := CBox.frozen M.out.c2 1
            have k2 : W2.cell? ⟨b2, 2, none⟩ = some (.slice none 0 0) := M.out.c2.cell 2
            have f2 := CBox.frozen M.out.c2 2
            have k3 : W2.cell? ⟨b2, 3, none⟩ = some (.slice none 0 0) := M.out.c2.cell 3
            have f3 := CBox.frozen M.out.c2 3
            have k4 : W2.cell? ⟨b2, 4, none⟩ = some (.int .i64 0) := M.out.c2.cell 4
            have f4 := CBox.frozen M.out.c2 4
            have HF : Hid (CBox (((((W2.setCell ⟨b2, 0, none⟩ (.slice ta nt tc)).setCell ⟨b2, 1, none⟩ (.slice (some ⟨g1, 0, none⟩) nc cc)).setCell ⟨b2, 2, none⟩ (.slice (some ⟨g2, 0, none⟩) ns sc)).setCell ⟨b2, 3, none⟩ (.slice da nd dc)).setCell ⟨b2, 4, none⟩ (.int .i64 z)) b2 28 [.slice ta nt tc, .slice (some ⟨g1, 0, none⟩) nc cc, .slice (some ⟨g2, 0, none⟩) ns sc, .slice da nd dc, .int .i64 z] ∧ DQ B (((((W2.setCell ⟨b2, 0, none⟩ (.slice ta nt tc)).setCell ⟨b2, 1, none⟩ (.slice (some ⟨g1, 0, none⟩) nc cc)).setCell ⟨b2, 2, none⟩ (.slice (some ⟨g2, 0, none⟩) ns sc)).setCell ⟨b2, 3, none⟩ (.slice da nd dc)).setCell ⟨b2, 4, none⟩ (.int .i64 z)) (.slice ta nt tc) (.slice (some ⟨g1, 0, none⟩) nc cc) (.slice (some ⟨g2, 0, none⟩) ns sc) (.slice da nd dc) c2 ∧ Below B w (((((W2.setCell ⟨b2, 0, none⟩ (.slice ta nt tc)).setCell ⟨b2, 1, none⟩ (.slice (some ⟨g1, 0, none⟩) nc cc)).setCell ⟨b2, 2, none⟩ (.slice (some ⟨g2, 0, none⟩) ns sc)).setCell ⟨b2, 3, none⟩ (.slice da nd dc)).setCell ⟨b2, 4, none⟩ (.int .i64 z))) := by
              have hs : But (fun y => y = b2) W2 (((((W2.setCell ⟨b2, 0, none⟩ (.slice ta nt tc)).setCell ⟨b2, 1, none⟩ (.slice (some ⟨g1, 0, none⟩) nc cc)).setCell ⟨b2, 2, none⟩ (.slice (some ⟨g2, 0, none⟩) ns sc)).setCell ⟨b2, 3, none⟩ (.slice da nd dc)).setCell ⟨b2, 4, none⟩ (.int .i64 z)) := ((((((But.refl (fun y => y = b2) W2).setCell ⟨b2, 0, none⟩ _ (Or.inl rfl)).setCell ⟨b2, 1, none⟩ _ (Or.inl rfl)).setCell ⟨b2, 2, none⟩ _ (Or.inl rfl)).setCell ⟨b2, 3, none⟩ _ (Or.inl rfl)).setCell ⟨b2, 4, none⟩ _ (Or.inl rfl))
              have ra : Alien W2 b2 := ⟨_, _, M.out.c2, by decide, by decide, by decide⟩
              exact ⟨(((((M.out.c2.set 0 _).set 1 _).set 2 _).set 3 _).set 4 _), ⟨row_alienT M.out.dq.t hs ra, PO.alien M.out.dq.p hs ra, PO.alien M.out.dq.s hs ra, row_alien M.out.dq.d hs ra, M.out.dq.ap⟩, M.out.bel.trans (hs.below (fun g e => by have := GL.out; omega) (Nat.le_trans M.out.ge M.out.bel.size))⟩
            clear M
            go_wp2
            clear x0 x1 x2 x3 x4 k0 k1 k2 k3 k4 f0 f1 f2 f3 f4
            generalize (((((W2.setCell ⟨b2, 0, none⟩ (.slice ta nt tc)).setCell ⟨b2, 1, none⟩ (.slice (some ⟨g1, 0, none⟩) nc cc)).setCell ⟨b2, 2, none⟩ (.slice (some ⟨g2, 0, none⟩) ns sc)).setCell ⟨b2, 3, none⟩ (.slice da nd dc)).setCell ⟨b2, 4, none⟩ (.int .i64 z)) = Z9 at HF ⊢
            refine bodyPost_ret (v := .agg #[.slice ta nt tc, .slice (some ⟨g1, 0, none⟩) nc cc, .slice (some ⟨g2, 0, none⟩) ns sc, .slice da nd dc, .int .i64 z]) (results_c (p := 2) (ty := 28) Try.results25 _ _ _ ⟨b2, 0, none⟩ rfl (run_loadVar_mid Z9 b2 0 28 [.slice ta nt tc, .slice (some ⟨g1, 0, none⟩) nc cc, .slice (some ⟨g2, 0, none⟩) ns sc, .slice da nd dc, .int .i64 z] _ HF.out.1.range Try.underlying28 rfl (by kernel_rfl))) rfl ?_
            exact ⟨⟨_, c2, rfl, dq_do HF.out.2.1 HL.out, by have := HTO.out; omega⟩, HF.out.2.2⟩
        · rw [if_pos (by rfl)]
          go_simp
          have hB : Below z1.heap.size z1 (z1.alloc (.cells #[.int .u8 8] 5)) := below_alloc _ _
          have FB9 : BL (fun _ => True) (z1.alloc (.cells #[.int .u8 8] 5)) (.slice (some ⟨z1.heap.size, 0, none⟩) 1 1) [8] := (BL.new z1 [8] (by simp)).mono fun _ _ _ => trivial
          have H9 := HH.past hB
          clear HH
          have HH := H9
          clear H9
          have B9 := BC.out.trans (hB.mono BC.out.size)
          clear BC
          have BC : Hid (Below W1.heap.size W1 (z1.alloc (.cells #[.int .u8 8] 5))) := B9
          clear B9
          (try (have q9 := FO.out; clear FO; have FO : Hid ((z1.alloc (.cells #[.int .u8 8] 5)).ownsRow W1.heap.size 5 1 (.slice oa y2.length oc) y2.length (bV y2)) := owns_past q9 hB; clear q9))
          have FB : Hid _ := FB9
          clear FB9 hB
          refine hK.out _ (z1.alloc (.cells #[.int .u8 8] 5)) HH (fun _ => ?_)
          clear hK K
          (try simp only [Act.put, List.setIfInBounds_toArray, List.set_cons_zero, List.set_cons_succ])
          generalize z1.heap.size = bb at FB ⊢
          (first | generalize (z1.alloc (.cells #[.int .u8 8] 5)) = z1 at HH BC FO FB ⊢ | generalize (z1.alloc (.cells #[.int .u8 8] 5)) = z1 at HH BC FB ⊢)
          refine wpAnyH_ready (rs := [5]) (by kernel_rfl) (by simp) ?_
          refine AllReadyH.cons ov5 (fun K hK => ?_) AllReadyH.nil
          rw [if_pos (by rfl)]
          have c0 := (BC.out.cell (p := ⟨g2, 0, none⟩) PA.out.2.2.2).trans PA.out.1
          go_simp
          clear c0
          refine hK.out _ _ HH (fun _ => ?_)
          clear hK K
          (try simp only [Act.put, List.setIfInBounds_toArray, List.set_cons_zero, List.set_cons_succ])
          refine wpAnyH_ready (rs := [6]) (by kernel_rfl) (by simp) ?_
          refine AllReadyH.cons ov6 (fun K hK => ?_) AllReadyH.nil
          rw [if_pos (by rfl)]
          go_simp
          refine (own_is _ _ y2 (PA.out.2.2.1.past BC.out) HSX.out).mono ?_
          rintro e z1 ⟨v9, rfl, hO, hB⟩
          obtain ⟨oa, oc, rfl⟩ := owns_sl hO
          have FO9 := owns_base hO BC.out.size
          clear hO
          have H9 := HH.past hB
          clear HH
          have HH := H9
          clear H9
          have B9 := BC.out.trans (hB.mono BC.out.size)
          clear BC
          have BC : Hid (Below W1.heap.size W1 z1) := B9
          clear B9
          (try (have q9 := FB.out; clear FB; have FB : Hid (BL (fun _ => True) z1 (.slice (some ⟨bb, 0, none⟩) 1 1) [8]) := q9.past hB; clear q9))
          have FO : Hid (z1.ownsRow W1.heap.size 5 1 (.slice oa y2.length oc) y2.length (bV y2)) := FO9
          clear FO9 hB
          (try go_wp2_with fail)
          refine hK.out _ _ HH (fun _ => ?_)
          clear hK K
          (try simp only [Act.put, List.setIfInBounds_toArray, List.set_cons_zero, List.set_cons_succ])
          refine wpAnyH_ready (rs := [8]) (by kernel_rfl) (by simp) ?_
          refine AllReadyH.cons ov8 (fun K hK => ?_) AllReadyH.nil
          rw [if_pos (by rfl)]
          refine wp_appB _ _ rfl W1.heap.size BC.out.size (.slice oa y2.length oc) y2 rfl FO.out (.slice (some ⟨bb, 0, none⟩) 1 1) [8] rfl FB.out (by have := HSX.out; simp only [List.length_singleton]; omega) ?_
          intro v9 z9 hA
          obtain ⟨oa2, oc2, e9⟩ := owns_sl hA.row
          rw [List.length_append, List.length_singleton] at e9
          subst e9
          have H9 := HH.app hA FO.out (by decide)
          have B9 := BC.out.trans (hA.below FO.out BC.out.size)
          have FO9 := hA.row
          rw [List.length_append, List.length_singleton] at FO9
          clear HH BC FO FB hA
          have HH := H9
          have BC : Hid (Below W1.heap.size W1 z9) := B9
          have FO : Hid (z9.ownsRow W1.heap.size 5 1 (.slice oa2 (y2.length + 1) oc2) (y2.length + 1) (bV (y2 ++ [8]))) := FO9
          clear H9 B9 FO9
          refine hK.out _ z9 HH (fun _ => ?_)
          clear hK K
          (try simp only [Act.put, List.setIfInBounds_toArray, List.set_cons_zero, List.set_cons_succ])
          refine wpAnyH_take (i := 9) (v := .pointer (some ⟨g2, 0, none⟩)) ov9 (by kernel_rfl) (by kernel_rfl) (by kernel_rfl) (fun _ _ _ h => h) (Or.inl ⟨by rfl, fun V' hS => ?_⟩) HH ?_
          · go_simp
          simp only [Act.put, List.setIfInBounds_toArray, List.set_cons_zero, List.set_cons_succ]
          refine wpAnyH_ready (rs := [10]) (by kernel_rfl) (by simp) ?_
          refine AllReadyH.cons ov10 (fun K hK => ?_) AllReadyH.nil
          rw [if_pos (by rfl)]
          have c0 := (BC.out.cell (p := ⟨g2, 0, none⟩) PA.out.2.2.2).trans PA.out.1
          have f0 := (BC.out.frozen (p := ⟨g2, 0, none⟩) PA.out.2.2.2).trans PA.out.2.1
          go_simp
          clear c0 f0
          have M9 : Hid (LgM b1 b2 B w (z9.setCell ⟨g2, 0, none⟩ (.slice oa2 (y2.length + 1) oc2)) (.slice ta nt tc) (.slice (some ⟨g1, 0, none⟩) nc cc) (.slice (some ⟨g2, 0, none⟩) ns sc) (.slice da nd dc) z ⟨c1.ts, c1.cs, c1.ss.set 0 (y2 ++ [8]), c1.d, c1.n⟩) := (M.out.past BC.out).set2 HL.out.2.2.1 PB.out.1 PB.out.2.1 PB.out.2.2 _ _ (by rw [List.length_append, List.length_singleton]; exact owns_base FO.out (Nat.le_trans M.out.ge M.out.bel.size))
          have H9 := HH.but ((But.refl (fun y => y = g2) z9).setCell ⟨g2, 0, none⟩ (.slice oa2 (y2.length + 1) oc2) (Or.inl rfl)) PB.out.2.1
          refine hK.out _ (z9.setCell ⟨g2, 0, none⟩ (.slice oa2 (y2.length + 1) oc2)) H9 (fun _ => ?_)
          clear hK K
          (try simp only [Act.put, List.setIfInBounds_toArray, List.set_cons_zero, List.set_cons_succ])
          generalize z9.setCell ⟨g2, 0, none⟩ (.slice oa2 (y2.length + 1) oc2) = W2 at M9 H9 ⊢
          clear H9 HH BC FO PA PB M HSX
          have M := M9
          clear M9
          refine wpAnyH_done (by kernel_rfl) ?_ _
          obtain ⟨c2, hc2⟩ : ∃ q : Con, q = ⟨c1.ts, c1.cs, c1.ss.set 0 (y2 ++ [8]), c1.d, c1.n⟩ := ⟨_, rfl⟩
          rw [← hc2] at M
          have HT9 : Hid (total c2 ≤ 2097154) := by have := total_set2 c1 y2 8 HX.out; unfold Hid; rw [hc2, this]; have := HTO.out; omega
          have HL9 : Hid (Lens c2 nt nc ns nd z) := by have := HL.out; unfold Lens at this; unfold Hid Lens; rw [hc2]; simp only [List.length_set]; exact this
          clear hc2 HTO HL HX
          have HTO := HT9
          have HL := HL9
          clear HT9 HL9
          go_upto_region 5 with fail
          have x0 : W2.cell? ⟨b1, 0, none⟩ = some (.slice ta nt tc) := M.out.c1.cell 0
          have x1 : W2.cell? ⟨b1, 1, none⟩ = some (.slice (some ⟨g1, 0, none⟩) nc cc) := M.out.c1.cell 1
          have x2 : W2.cell? ⟨b1, 2, none⟩ = some (.slice (some ⟨g2, 0, none⟩) ns sc) := M.out.c1.cell 2
          have x3 : W2.cell? ⟨b1, 3, none⟩ = some (.slice da nd dc) := M.out.c1.cell 3
          have x4 : W2.cell? ⟨b1, 4, none⟩ = some (.int .i64 z) := M.out.c1.cell 4
          have k0 : W2.cell? ⟨b2, 0, none⟩ = some (.slice none 0 0) := M.out.c2.cell 0
          have f0 := CBox.frozen M.out.c2 0
          have k1 : W2.cell? ⟨b2, 1, none⟩ = some (.slice none 0 0) := M.out.c2.cell 1
          have f1 := CBox.frozen M.out.c2 1
          have k2 : W2.cell? ⟨b2, 2, none⟩ = some (.slice none 0 0) := M.out.c2.cell 2
          have f2 := CBox.frozen M.out.c2 2
          have k3 : W2.cell? ⟨b2, 3, none⟩ = some (.slice none 0 0) := M.out.c2.cell 3
          have f3 := CBox.frozen M.out.c2 3
          have k4 : W2.cell? ⟨b2, 4, none⟩ = some (.int .i64 0) := M.out.c2.cell 4
          have f4 := CBox.frozen M.out.c2 4
          have HF : Hid (CBox (((((W2.setCell ⟨b2, 0, none⟩ (.slice ta nt tc)).setCell ⟨b2, 1, none⟩ (.slice (some ⟨g1, 0, none⟩) nc cc)).setCell ⟨b2, 2, none⟩ (.slice (some ⟨g2, 0, none⟩) ns sc)).setCell ⟨b2, 3, none⟩ (.slice da nd dc)).setCell ⟨b2, 4, none⟩ (.int .i64 z)) b2 28 [.slice ta nt tc, .slice (some ⟨g1, 0, none⟩) nc cc, .slice (some ⟨g2, 0, none⟩) ns sc, .slice da nd dc, .int .i64 z] ∧ DQ B (((((W2.setCell ⟨b2, 0, none⟩ (.slice ta nt tc)).setCell ⟨b2, 1, none⟩ (.slice (some ⟨g1, 0, none⟩) nc cc)).setCell ⟨b2, 2, none⟩ (.slice (some ⟨g2, 0, none⟩) ns sc)).setCell ⟨b2, 3, none⟩ (.slice da nd dc)).setCell ⟨b2, 4, none⟩ (.int .i64 z)) (.slice ta nt tc) (.slice (some ⟨g1, 0, none⟩) nc cc) (.slice (some ⟨g2, 0, none⟩) ns sc) (.slice da nd dc) c2 ∧ Below B w (((((W2.setCell ⟨b2, 0, none⟩ (.slice ta nt tc)).setCell ⟨b2, 1, none⟩ (.slice (some ⟨g1, 0, none⟩) nc cc)).setCell ⟨b2, 2, none⟩ (.slice (some ⟨g2, 0, none⟩) ns sc)).setCell ⟨b2, 3, none⟩ (.slice da nd dc)).setCell ⟨b2, 4, none⟩ (.int .i64 z))) := by
            have hs : But (fun y => y = b2) W2 (((((W2.setCell ⟨b2, 0, none⟩ (.slice ta nt tc)).setCell ⟨b2, 1, none⟩ (.slice (some ⟨g1, 0, none⟩) nc cc)).setCell ⟨b2, 2, none⟩ (.slice (some ⟨g2, 0, none⟩) ns sc)).setCell ⟨b2, 3, none⟩ (.slice da nd dc)).setCell ⟨b2, 4, none⟩ (.int .i64 z)) := ((((((But.refl (fun y => y = b2) W2).setCell ⟨b2, 0, none⟩ _ (Or.inl rfl)).setCell ⟨b2, 1, none⟩ _ (Or.inl rfl)).setCell ⟨b2, 2, none⟩ _ (Or.inl rfl)).setCell ⟨b2, 3, none⟩ _ (Or.inl rfl)).setCell ⟨b2, 4, none⟩ _ (Or.inl rfl))
            have ra : Alien W2 b2 := ⟨_, _, M.out.c2, by decide, by decide, by decide⟩
            exact ⟨(((((M.out.c2.set 0 _).set 1 _).set 2 _).set 3 _).set 4 _), ⟨row_alienT M.out.dq.t hs ra, PO.alien M.out.dq.p hs ra, PO.alien M.out.dq.s hs ra, row_alien M.out.dq.d hs ra, M.out.dq.ap⟩, M.out.bel.trans (hs.below (fun g e => by have := GL.out; omega) (Nat.le_trans M.out.ge M.out.bel.size))⟩
          clear M
          go_wp2
          clear x0 x1 x2 x3 x4 k0 k1 k2 k3 k4 f0 f1 f2 f3 f4
          generalize (((((W2.setCell ⟨b2, 0, none⟩ (.slice ta nt tc)).setCell ⟨b2, 1, none⟩ (.slice (some ⟨g1, 0, none⟩) nc cc)).setCell ⟨b2, 2, none⟩ (.slice (some ⟨g2, 0, none⟩) ns sc)).setCell ⟨b2, 3, none⟩ (.slice da nd dc)).setCell ⟨b2, 4, none⟩ (.int .i64 z)) = Z9 at HF ⊢
          refine bodyPost_ret (v := .agg #[.slice ta nt tc, .slice (some ⟨g1, 0, none⟩) nc cc, .slice (some ⟨g2, 0, none⟩) ns sc, .slice da nd dc, .int .i64 z]) (results_c (p := 2) (ty := 28) Try.results25 _ _ _ ⟨b2, 0, none⟩ rfl (run_loadVar_mid Z9 b2 0 28 [.slice ta nt tc, .slice (some ⟨g1, 0, none⟩) nc cc, .slice (some ⟨g2, 0, none⟩) ns sc, .slice da nd dc, .int .i64 z] _ HF.out.1.range Try.underlying28 rfl (by kernel_rfl))) rfl ?_
          exact ⟨⟨_, c2, rfl, dq_do HF.out.2.1 HL.out, by have := HTO.out; omega⟩, HF.out.2.2⟩
end Go.Proofs.Ytndhabhlajldeaa
