/- told. -/
import Derived.Test.YtohfkgfjcnldaaaTysM
namespace Go.Proofs.Ytohfkgfjcnldaaa
open Go.RowKit Go.Shelf
attribute [local go_sem] Oper.semAt_some
theorem cell_own {X Y : World} {row : Option Nat} {p : Addr} {v : Value} (h : X.cell? p = some v) (hg : X.grownBy Y row) (hr : ∀ r, row = some r → ∃ o : Obj, X.heap[r]? = some o ∧ o.isCells = false) : Y.cell? p = some v := by
  have hne : row ≠ some p.block := by
    intro e
    obtain ⟨o, h1, h2⟩ := hr _ e
    unfold World.cell? at h
    rw [h1] at h
    cases o with
    | cells c t z => cases h2
    | _ => cases h
  rw [← h]
  exact World.cell?_of_block (w := X) (hg.block p.block (World.block_lt_of_cell? X _ h) (fun e => hne e.symm))
theorem CBox.own {X Y : World} {row : Option Nat} {B : Nat} {t : TypeId} {l : List Value} (h : CBox X B t l) (hg : X.grownBy Y row) (hr : ∀ r, row = some r → ∃ o : Obj, X.heap[r]? = some o ∧ o.isCells = false) : CBox Y B t l := by
  have hne : row ≠ some B := by
    intro e
    obtain ⟨o, h1, h2⟩ := hr _ e
    rw [show X.heap[B]? = _ from h] at h1
    injection h1 with h1
    subst h1
    cases h2
  exact (hg.block B h.lt (fun e => hne e.symm)).trans h
theorem AlE.own {rb : Nat} {ad : Option Addr} {cap : Nat} {l : List (Int × Int)} {X Y : World} {row : Option Nat} (h : AlE rb ad cap l X) (hg : X.grownBy Y row) (hr : ∀ r, row = some r → ∃ o : Obj, X.heap[r]? = some o ∧ o.isCells = false) : AlE rb ad cap l Y :=
  ⟨cell_own h.box hg hr, fun i p hp => by obtain ⟨g, e, c0, c1⟩ := h.el i p hp; exact ⟨g, e, cell_own c0 hg hr, cell_own c1 hg hr⟩⟩
theorem keeps_box {B nb : Nat} {W W' : World} {t : TypeId} {l : List Value} (h : CBox W nb t l) (hB : But (fun q => q = nb) W W') : KeepsFrom B W W' :=
  ⟨hB.size, fun k o _ ho hc => (hB.block k (Array.getElem?_eq_some_iff.1 ho).1 (fun e => by
    subst e
    rw [show W.heap[k]? = _ from h] at ho
    injection ho with ho
    subst ho
    cases hc)).trans ho⟩
theorem keeps_below {B : Nat} {W W' : World} (h : Below W.heap.size W W') : KeepsFrom B W W' := ⟨h.size, fun k _ _ ho _ => (h.block k (Array.getElem?_eq_some_iff.1 ho).1).trans ho⟩
theorem below_own {w X Y : World} {row : Option Nat} (h : Below w.heap.size w X) (hg : X.grownBy Y row) (hr : ∀ r, row = some r → w.heap.size ≤ r) : Below w.heap.size w Y :=
  h.trans ⟨hg.os, hg.tape, hg.output, hg.size, fun q hq => hg.block q (Nat.lt_of_lt_of_le hq h.size) (fun e => by have := hr q e.symm; omega)⟩
theorem keeps_trans {B : Nat} {U V W : World} (h : KeepsFrom B U V) (k : KeepsFrom B V W) : KeepsFrom B U W := ⟨Nat.le_trans h.1 k.1, fun q o hq ho hc => k.2 q o hq (h.2 q o hq ho hc) hc⟩
/-- between two rounds of told -/
structure TI (w : World) (kb ob lb nb rb : Nat) (k : Int) (la : Option Addr) (lc : Nat) (ad : Option Addr) (cap : Nat) (A : List (Int × Int)) (n : Nat) (W : World) : Prop where
  l : AlE lb la lc A W
  a : AlE rb ad cap A W
  nB : CBox W nb 3 [.int .i64 (n : Int)]
  kB : CBox W kb 3 [.int .i64 k]
  oB : CBox W ob 4 [.bool false]
  bel : Below w.heap.size w W
  low : w.heap.size ≤ nb ∧ w.heap.size ≤ ob
  ne : (nb ≠ kb ∧ nb ≠ ob ∧ ob ≠ kb) ∧ (nb ≠ lb ∧ nb ≠ rb) ∧ (ob ≠ lb ∧ ob ≠ rb)
  na : ∀ g, la = some ⟨g, 0, none⟩ → nb ≠ g ∧ ob ≠ g
  nd : ∀ g, ad = some ⟨g, 0, none⟩ → nb ≠ g ∧ ob ≠ g
theorem TI.own {w : World} {kb ob lb nb rb : Nat} {k : Int} {la : Option Addr} {lc : Nat} {ad : Option Addr} {cap : Nat} {A : List (Int × Int)} {n : Nat} {X Y : World} {row : Option Nat} (h : TI w kb ob lb nb rb k la lc ad cap A n X) (hg : X.grownBy Y row) (hr : ∀ r, row = some r → w.heap.size ≤ r ∧ ∃ o : Obj, X.heap[r]? = some o ∧ o.isCells = false) : TI w kb ob lb nb rb k la lc ad cap A n Y := by
  have hr2 : ∀ r, row = some r → ∃ o : Obj, X.heap[r]? = some o ∧ o.isCells = false := fun r e => (hr r e).2
  refine ⟨h.l.own hg hr2, h.a.own hg hr2, h.nB.own hg hr2, h.kB.own hg hr2, h.oB.own hg hr2, ?_, h.low, h.ne, h.na, h.nd⟩
  exact h.bel.trans ⟨hg.os, hg.tape, hg.output, hg.size, fun q hq => hg.block q (Nat.lt_of_lt_of_le hq h.bel.size) (fun e => by have := (hr q e.symm).1; omega)⟩
theorem AlE.but {rb B : Nat} {ad : Option Addr} {cap : Nat} {l : List (Int × Int)} {W W' : World} (h : AlE rb ad cap l W) (hB : But (fun q => q = B) W W') (h1 : B ≠ rb) (h2 : ∀ g, ad = some ⟨g, 0, none⟩ → B ≠ g) : AlE rb ad cap l W' :=
  ⟨(hB.cell (p := ⟨rb, 0, none⟩) (World.block_lt_of_cell? W _ h.box) (fun e => h1 e.symm)).trans h.box, fun i p hp => by
    obtain ⟨g, e, c0, c1⟩ := h.el i p hp
    exact ⟨g, e, (hB.cell (p := ⟨g, _, none⟩) (World.block_lt_of_cell? W _ c0) (fun e9 => h2 g e e9.symm)).trans c0, (hB.cell (p := ⟨g, _, none⟩) (World.block_lt_of_cell? W _ c1) (fun e9 => h2 g e e9.symm)).trans c1⟩⟩
theorem TI.next {w : World} {kb ob lb nb rb : Nat} {k : Int} {la : Option Addr} {lc : Nat} {ad : Option Addr} {cap : Nat} {A : List (Int × Int)} {n : Nat} {W : World} {x : Int × Int} (B : Nat) (h : TI w kb ob lb nb rb k la lc ad cap A n W) (m : Nat) : TI w kb ob lb nb rb k la lc ad cap A m (W.setCell ⟨nb, 0, none⟩ (.int .i64 (m : Int))) ∧ KeepsFrom B W (W.setCell ⟨nb, 0, none⟩ (.int .i64 (m : Int))) ∧ AlK rb ad x W (W.setCell ⟨nb, 0, none⟩ (.int .i64 (m : Int))) := by
  have hB : But (fun q => q = nb) W (W.setCell ⟨nb, 0, none⟩ (.int .i64 (m : Int))) := (But.refl (fun q => q = nb) W).setCell ⟨nb, 0, none⟩ _ (Or.inl rfl)
  refine ⟨⟨h.l.but hB h.ne.2.1.1 (fun g e => (h.na g e).1), h.a.but hB h.ne.2.1.2 (fun g e => (h.nd g e).1), h.nB.set 0 _, h.kB.but hB (fun e => h.ne.1.1 e.symm), h.oB.but hB (fun e => h.ne.1.2.1 e.symm), h.bel.trans (hB.below (fun q e => by have h9 : q = nb := e; have := h.low; omega) h.bel.size), h.low, h.ne, h.na, h.nd⟩, keeps_box h.nB hB, ⟨fun v hv => ?_, fun g j v e hv => ?_⟩⟩
  · exact (hB.cell (p := ⟨rb, 0, none⟩) (World.block_lt_of_cell? W _ hv) (fun e => h.ne.2.1.2 e.symm)).trans hv
  · exact (hB.cell (p := ⟨g, j, none⟩) (World.block_lt_of_cell? W _ hv) (fun e9 => (h.nd g e).1 e9.symm)).trans hv
theorem pair_neq (kx vx : Int) (W : World) : Sem.run Try.prog (binOp BinOp.neq 62 (.agg #[.int .i64 kx, .int .i64 vx]) (.agg #[.int .i64 kx, .int .i64 vx])) W = .ok (.bool false) W := by go_simp
theorem eq_fn2 (rb : Nat) (W : World) : Sem.run Try.prog (binOp BinOp.eql 77 (.func (.func 82) #[] #[.pointer (some ⟨rb, 0, none⟩)]) .nilFunc) W = .ok (.bool false) W := by kernel_rfl
set_option maxHeartbeats 4000000 in
set_option maxRecDepth 100000 in
theorem told_in (w : World) (ow : Nat → Nat) (s b c N : Nat) (A : List (Int × Int)) (H : List (List (Int × Int))) (h : SD w ow s b c N A H) (hN : N + 2 < 274877906944) (k : Int) : CallsIn Fence.wide 10 Try.prog 16 #[.agg #[.pointer (some ⟨b, 0, none⟩), .pointer (some ⟨c, 0, none⟩)], .int .i64 k] w fun e w' => e = .returned (.bool true) ∧ Below w.heap.size w w' := by
  obtain ⟨w3, e3⟩ : ∃ w3, w3 = ((w.alloc (.cells #[.pointer (some ⟨b, 0, none⟩), .pointer (some ⟨c, 0, none⟩)] 27)).alloc (.cells #[.int .i64 k] 3)).alloc (.cells #[.bool false] 4) := ⟨_, rfl⟩
  have B3 : Hid (Below w.heap.size w w3) := by rw [e3]; exact (((Below.refl _ w).alloc (Nat.le_refl _) _).alloc (by simp) _).alloc (by simp; omega) _
  have TB : Hid (∀ W, Below w.heap.size w W → SD W (grow ow w.heap.size 0) s b c N A H) := fun W hW => h.past hW
  have s1 : (w.alloc (.cells #[.pointer (some ⟨b, 0, none⟩), .pointer (some ⟨c, 0, none⟩)] 27)).heap.size = w.heap.size + 1 := by simp
  have s2 : ((w.alloc (.cells #[.pointer (some ⟨b, 0, none⟩), .pointer (some ⟨c, 0, none⟩)] 27)).alloc (.cells #[.int .i64 k] 3)).heap.size = w.heap.size + 2 := by simp
  have F3 : Hid (CBox w3 w.heap.size 27 [.pointer (some ⟨b, 0, none⟩), .pointer (some ⟨c, 0, none⟩)] ∧ CBox w3 (w.heap.size + 1) 3 [.int .i64 k] ∧ CBox w3 (w.heap.size + 2) 4 [.bool false] ∧ w3.heap.size = w.heap.size + 3) := by
    rw [e3]
    refine ⟨((CBox.new w _ [_, _]).but (S := fun _ => False) ((But.refl _ _).alloc _) id).but (S := fun _ => False) ((But.refl _ _).alloc _) id, ?_, ?_, by simp⟩
    · rw [← s1]
      exact (CBox.new (w.alloc (.cells #[.pointer (some ⟨b, 0, none⟩), .pointer (some ⟨c, 0, none⟩)] 27)) _ [_]).but (S := fun _ => False) ((But.refl _ _).alloc _) id
    · rw [← s2]
      exact CBox.new ((w.alloc (.cells #[.pointer (some ⟨b, 0, none⟩), .pointer (some ⟨c, 0, none⟩)] 27)).alloc (.cells #[.int .i64 k] 3)) _ [_]
  have HN : Hid (A.length ≤ N ∧ N + 2 < 274877906944) := ⟨h.t.lA, hN⟩
  have c1 : w3.cell? ⟨w.heap.size, 1, none⟩ = some (.pointer (some ⟨c, 0, none⟩)) := F3.out.1.cell 1
  have PRS : Hid (Calls Try.prog 33 #[.pointer (some ⟨c, 0, none⟩)] w3 fun e w' => ∃ v', e = .returned v' ∧ PrL w' v' A ∧ Below w3.heap.size w3 w' ∧ ∀ k, v'.ownBlock = some k → w3.heap.size ≤ k) := pairs1 w3 (grow ow w.heap.size 0) (2 * s + 1) c N A H (TB.out w3 B3.out).r (by omega)
  clear h hN s1 s2
  obtain ⟨n, en⟩ : ∃ n, A.length = n := ⟨_, rfl⟩
  have EN : Hid (A.length = n) := en
  clear en
  generalize grow ow w.heap.size 0 = o1 at TB
  refine callsIn_of_wp_marks Try.func16 rfl trivial ?_ rfl
  simp only [Try.ntmps16, List.size_toArray, List.length_cons, List.length_nil, Nat.reduceAdd, Nat.reduceSub, Array.replicate_succ, Array.replicate_zero, List.push_toArray, List.append_toArray, List.nil_append, List.cons_append]
  gi_wp2_with (first
    | (refine ⟨trivial, ?_⟩; gi_at_call 33; rw [← e3]; refine (callsIn_wide.2 PRS.out).mono ?_; rintro e v1 ⟨lv, rfl, hp, hB, hnw⟩; obtain ⟨la, lc, rfl⟩ := hp.form; rw [EN.out]; obtain ⟨v4, e4⟩ : ∃ v4, v4 = (v1.alloc (.cells #[.slice la n lc] 56)).alloc (.cells #[.int .i64 0] 3) := ⟨_, rfl⟩; (have V4 : Hid (v4 = (v1.alloc (.cells #[.slice la n lc] 56)).alloc (.cells #[.int .i64 0] 3) ∧ PrL v1 (.slice la A.length lc) A ∧ Below w3.heap.size w3 v1 ∧ ∀ k, (Value.slice la A.length lc).ownBlock = some k → w3.heap.size ≤ k) := ⟨e4, hp, hB, hnw⟩); (have B4 : Hid (Below v1.heap.size v1 v4) := by rw [e4]; exact ((Below.refl _ v1).alloc (Nat.le_refl _) _).alloc (by simp) _); (have c4 : ((v1.alloc (.cells #[.slice la n lc] 56)).alloc (.cells #[.int .i64 0] 3)).cell? ⟨w.heap.size, 0, none⟩ = some (.pointer (some ⟨b, 0, none⟩)) := by rw [← e4]; exact ((F3.out.1.but (below_but (S := fun _ => False) hB) id).but (below_but (S := fun _ => False) B4.out) id).cell 0); clear hp hB hnw)
    | (refine ⟨trivial, ?_⟩; gi_at_call 53; rw [← e4]; refine (callsIn_wide.2 (all1 v4 o1 (2 * s) b N A H (TB.out v4 (B3.out.trans ((V4.out.2.2.1.mono B3.out.size).trans (B4.out.mono (Nat.le_trans B3.out.size V4.out.2.2.1.size))))).t (by have := HN.out; omega))).mono ?_; rintro e v5 ⟨rb, ad, cap, rfl, hI, hB5, hR5⟩; (have V5 : Hid (AllI v5 (grow o1 v4.heap.size 0) rb ad cap A ∧ Below v4.heap.size v4 v5 ∧ v4.heap.size ≤ rb ∧ ∀ g, ad = some ⟨g, 0, none⟩ → v4.heap.size ≤ g) := ⟨hI, hB5, hR5⟩); clear hI hB5 hR5; (have hq := eq_fn2 rb v5)))
  have Z : Hid (w3.heap.size = w.heap.size + 3 ∧ w3.heap.size ≤ v1.heap.size ∧ v4.heap.size = v1.heap.size + 2) := ⟨F3.out.2.2.2, V4.out.2.2.1.size, by rw [V4.out.1]; simp⟩
  have HT : TI w (w.heap.size + 1) (w.heap.size + 1 + 1) v1.heap.size (v1.heap.size + 1) rb k la lc ad cap A 0 v5 := by
    have z := Z.out
    have b5 := V5.out.2.1
    have LB : CBox v4 v1.heap.size 56 [.slice la n lc] := by
      rw [V4.out.1]
      exact (CBox.new v1 _ [_]).but (S := fun _ => False) ((But.refl _ _).alloc _) id
    have NB : CBox v4 (v1.heap.size + 1) 3 [.int .i64 0] := by
      have e9 : (v1.alloc (.cells #[.slice la n lc] 56)).heap.size = v1.heap.size + 1 := by simp
      rw [V4.out.1, ← e9]
      exact CBox.new (v1.alloc (.cells #[.slice la n lc] 56)) _ [_]
    have up : ∀ {B t l}, CBox v4 B t l → CBox v5 B t l := fun h => h.but (below_but (S := fun _ => False) b5) id
    have up3 : ∀ {B t l}, CBox w3 B t l → CBox v5 B t l := fun h => up ((h.but (below_but (S := fun _ => False) V4.out.2.2.1) id).but (below_but (S := fun _ => False) B4.out) id)
    have pr : PrL v5 (.slice la A.length lc) A := (V4.out.2.1.past B4.out).past b5
    have gl : ∀ g, la = some ⟨g, 0, none⟩ → w3.heap.size ≤ g ∧ g < v1.heap.size := fun g e => by
      subst e
      exact ⟨V4.out.2.2.2 g rfl, (World.ownsRow.lt V4.out.2.1 g rfl).2⟩
    refine ⟨⟨by have := (up LB).cell 0; rw [EN.out]; exact this, fun i p hp => PrL.at pr hp⟩, ⟨V5.out.1.1.1, fun i p hp => by obtain ⟨g, e, _, c0, c1⟩ := V5.out.1.2 i p hp; exact ⟨g, e, c0, c1⟩⟩, up NB, up3 F3.out.2.1, up3 F3.out.2.2.1, ?_, ⟨by omega, by omega⟩, ⟨⟨by omega, by omega, by omega⟩, ⟨by omega, by have := V5.out.2.2.1; omega⟩, by omega, by have := V5.out.2.2.1; omega⟩, fun g e => by have := gl g e; omega, fun g e => by have := V5.out.2.2.2 g e; omega⟩
    exact B3.out.trans ((V4.out.2.2.1.mono B3.out.size).trans ((B4.out.mono (Nat.le_trans B3.out.size V4.out.2.2.1.size)).trans (b5.mono (by omega))))
  have HT0 : Hid (TI w (w.heap.size + 1) (w.heap.size + 1 + 1) v1.heap.size (v1.heap.size + 1) rb k la lc ad cap A 0 v5) := HT
  have WV : Hid (w.heap.size ≤ v5.heap.size) := HT.bel.size
  clear HT c1 c4 hq PRS V4 B4 V5 F3 B3 TB e3 e4
  generalize w.heap.size + 1 + 1 = ob at HT0 ⊢
  generalize w.heap.size + 1 = kb at HT0 ⊢
  generalize v1.heap.size + 1 = nb at HT0 ⊢
  generalize v1.heap.size = lb at HT0 ⊢
  have sbx : ∃ sb, sb = w.heap.size := ⟨_, rfl⟩
  obtain ⟨sb, esb⟩ := sbx
  refine wpIn_rangeFunc_x (F := Fence.wide) (α := Int × Int) rfl (by omega) (gf := 82) (lb := #[.pointer (some ⟨rb, 0, none⟩)]) rfl trivial (enters_of Try.func82 (by kernel_rfl) rfl)
    (all2_seq 9 (by omega) rb ad cap A (by have := HN.out; omega) v5 HT0.out.a)
    (fun _ _ _ _ h k => ⟨fun v hv => k.1 v (h.1 v hv), fun g j v e hv => k.2 g j v e (h.2 g j v e hv)⟩)
    (fun _ W r ob ob' _ hr hc => ⟨fun v hv => put_cell hr hc hv, fun g j v _ hv => put_cell hr hc hv⟩)
    (Below.refl _ _) (fun _ => rfl) (fun pre x V0 V1 hc => by rw [hc.1]; exact keeps_below ((Below.refl _ _).alloc (Nat.le_refl _) _))
    (fun pre W => TI w kb ob lb nb rb k la lc ad cap A pre.length W ∧ pre = A.take pre.length) (fun c _ W => c = .ret ∧ CBox W ob 4 [.bool true] ∧ Below w.heap.size w W) (fun pre x W => TI w kb ob lb nb rb k la lc ad cap A pre.length W ∧ pre = A.take pre.length ∧ A[pre.length]? = some x)
    ?hI ?hIx ?hIc ?hcome ⟨HT0.out, by simp⟩ (fun x a' W => a' = { tmps := #[.agg #[.pointer (some ⟨b, 0, none⟩), .pointer (some ⟨c, 0, none⟩)], .int .i64 k, .pointer (some ⟨w.heap.size, 0, none⟩), .pointer (some ⟨kb, 0, none⟩), .pointer (some ⟨ob, 0, none⟩), .pointer (some ⟨lb, 0, none⟩), .pointer (some ⟨nb, 0, none⟩), .func (.func 82) #[] #[.pointer (some ⟨rb, 0, none⟩)], .int .i64 x.1, .int .i64 x.2, .pointer (some ⟨w.heap.size, 1, none⟩), .pointer (some ⟨c, 0, none⟩), .slice la n lc, .pointer (some ⟨w.heap.size, 0, none⟩), .pointer (some ⟨b, 0, none⟩), .func (.func 82) #[] #[.pointer (some ⟨rb, 0, none⟩)], .func (.func 82) #[] #[.pointer (some ⟨rb, 0, none⟩)], .bool false, .func (.func 82) #[] #[.pointer (some ⟨rb, 0, none⟩)], .int .i64 x.1, .int .i64 x.2, undef, undef, undef, undef, undef, undef, undef, undef, undef, undef, undef, undef, undef, undef, undef, undef, undef, undef, undef, undef, undef, undef, undef], defers := [] }) ?hAx ?assign ?body ?done ?st
  case hI => exact fun s X Y row hs hg hr => ⟨hs.1.own hg (fun r e => ⟨Nat.le_trans WV.out (hr r e).1, (hr r e).2⟩), hs.2⟩
  case hIx => exact fun c s X Y row hs hg hr => ⟨hs.1, hs.2.1.own hg (fun r e => (hr r e).2), below_own hs.2.2 hg (fun r e => Nat.le_trans WV.out (hr r e).1)⟩
  case hIc => exact fun pre x _ X Y row hs hg hr => ⟨hs.1.own hg (fun r e => ⟨Nat.le_trans WV.out (hr r e).1, (hr r e).2⟩), hs.2⟩
  case hcome =>
    intro pre x V0 V1 h hc
    obtain ⟨rfl, hx⟩ := hc
    exact ⟨h.1.own (grown_below ((Below.refl _ _).alloc (Nat.le_refl _) _)) (fun r e => by cases e), h.2, hx⟩
  case hAx => exact fun x a' _ X Y row hs _ _ => hs
  case assign =>
    rintro l pre x W K hi hK
    have HI : Hid (TI w kb ob lb nb rb k la lc ad cap A pre.length W ∧ pre = A.take pre.length ∧ A[pre.length]? = some x) := hi
    clear hi
    gi_wp2
    exact hK _ _ (keeps_below (Below.refl _ _)) ⟨fun _ h => h, fun _ _ _ _ h => h⟩ HI.out rfl
  case body =>
    rintro l pre x a' W hl ⟨r, hr⟩ ⟨hT, hpre, hx⟩ rfl
    obtain ⟨kx, vx⟩ := x
    have T0 : Hid (TI w kb ob lb nb rb k la lc ad cap A pre.length W) := hT
    have hlt : pre.length < n := by rw [← EN.out]; exact (List.getElem?_eq_some_iff.1 hx).1
    have HP : Hid (pre ++ [(kx, vx)] = A.take (pre ++ [(kx, vx)]).length ∧ (pre ++ [(kx, vx)]).length = pre.length + 1) := by
      refine ⟨?_, by simp⟩
      rw [List.length_append, List.length_singleton, List.take_add_one, hx, ← hpre]
      rfl
    obtain ⟨gl, egl, d0, d1⟩ := hT.l.el pre.length (kx, vx) hx
    have l0 := hT.l.box
    rw [EN.out] at l0
    subst egl
    have N0 := hT.nB.cell 0
    change W.cell? ⟨nb, 0, none⟩ = some (.int .i64 (pre.length : Int)) at N0
    have f0 : W.frozen? ⟨nb, 0, none⟩ = false := hT.nB.frozen 0
    obtain ⟨t1, t2, t3⟩ := hT.next (x := (kx, vx)) v5.heap.size (pre.length + 1)
    have nX : (n : Int) < 274877906944 := by have := HN.out; have := EN.out; omega
    have pI : ¬ (n : Int) ≤ (pre.length : Int) := by omega
    have pI2 : (pre.length : Int) < (n : Int) := by omega
    have hq := pair_neq kx vx W
    generalize pre.length = q at *
    rw [show ((q + 1 : Nat) : Int) = (q : Int) + 1 by omega] at t1 t2 t3
    have T1 : Hid (TI w kb ob lb nb rb k (some ⟨gl, 0, none⟩) lc ad cap A (q + 1) (W.setCell ⟨nb, 0, none⟩ (.int .i64 ((q : Int) + 1)))) := t1
    have T2 : Hid (KeepsFrom v5.heap.size W (W.setCell ⟨nb, 0, none⟩ (.int .i64 ((q : Int) + 1))) ∧ AlK rb ad (kx, vx) W (W.setCell ⟨nb, 0, none⟩ (.int .i64 ((q : Int) + 1)))) := ⟨t2, t3⟩
    have n1 := t1.nB.cell 0
    change (W.setCell ⟨nb, 0, none⟩ (.int .i64 ((q : Int) + 1))).cell? ⟨nb, 0, none⟩ = some (.int .i64 ((q : Int) + 1)) at n1
    have k1 := t1.kB.cell 0
    change (W.setCell ⟨nb, 0, none⟩ (.int .i64 ((q : Int) + 1))).cell? ⟨kb, 0, none⟩ = some (.int .i64 k) at k1
    have o1 := t1.oB.cell 0
    change (W.setCell ⟨nb, 0, none⟩ (.int .i64 ((q : Int) + 1))).cell? ⟨ob, 0, none⟩ = some (.bool false) at o1
    have g1 : (W.setCell ⟨nb, 0, none⟩ (.int .i64 ((q : Int) + 1))).frozen? ⟨ob, 0, none⟩ = false := t1.oB.frozen 0
    clear hT hpre hx hlt t1 t2 t3
    dsimp only at d0 d1
    by_cases ek : (q : Int) + 1 = k
    · subst ek
      gi_wp2
      have hB : But (fun z => z = ob) (W.setCell ⟨nb, 0, none⟩ (.int .i64 ((q : Int) + 1))) ((W.setCell ⟨nb, 0, none⟩ (.int .i64 ((q : Int) + 1))).setCell ⟨ob, 0, none⟩ (.bool true)) := (But.refl (fun z => z = ob) _).setCell ⟨ob, 0, none⟩ _ (Or.inl rfl)
      refine ⟨keeps_trans T2.out.1 (keeps_box T1.out.oB hB), rfl, T1.out.oB.set 0 _, ?_⟩
      exact T1.out.bel.trans (hB.below (fun z e => by have h9 : z = ob := e; have := T1.out.low; omega) T1.out.bel.size)
    · have he : decide ((q : Int) + 1 = k) = false := decide_eq_false ek
      have he2 : (((q : Int) + 1) == k) = false := by simpa using ek
      clear ek
      gi_wp2
      exact ⟨T2.out.1, T2.out.2, by show TI w kb ob lb nb rb k _ lc ad cap A (pre ++ [(kx, vx)]).length _; rw [HP.out.2]; exact T1.out, HP.out.1⟩
  case done =>
    rintro D xs W hD hS hI hK
    have T9 : Hid (TI w kb ob lb nb rb k la lc ad cap A n W) := by have := hI.1; rw [hS, EN.out] at this; exact this
    have KD : Hid (W.heap[D]? = some (.deferred (some [])) ∧ v5.heap.size ≤ D) := ⟨hK, hD⟩
    have n1 := T9.out.nB.cell 0
    change W.cell? ⟨nb, 0, none⟩ = some (.int .i64 (n : Int)) at n1
    have l1 := T9.out.l.box
    rw [EN.out] at l1
    have o9 := T9.out.oB.cell 0
    change W.cell? ⟨ob, 0, none⟩ = some (.bool false) at o9
    have g9 : W.frozen? ⟨ob, 0, none⟩ = false := T9.out.oB.frozen 0
    clear hI hS hK hD
    gi_wp2
    have hB : But (fun z => z = ob) W (W.setCell ⟨ob, 0, none⟩ (.bool true)) := (But.refl (fun z => z = ob) _).setCell ⟨ob, 0, none⟩ _ (Or.inl rfl)
    have O9 : CBox (W.setCell ⟨ob, 0, none⟩ (.bool true)) ob 4 [.bool true] := T9.out.oB.set 0 _
    have hd1 : (W.setCell ⟨ob, 0, none⟩ (.bool true)).heap[D]? = some (.deferred (some [])) := (keeps_box (B := 0) T9.out.oB hB).2 D _ (Nat.zero_le _) KD.out.1 rfl
    have hr4 : ∀ r, some D = some r → ∃ o : Obj, (W.setCell ⟨ob, 0, none⟩ (.bool true)).heap[r]? = some o ∧ o.isCells = false := fun r e2 => by cases e2; exact ⟨_, hd1, rfl⟩
    have Bf : Below w.heap.size w (W.setCell ⟨ob, 0, none⟩ (.bool true)) := T9.out.bel.trans (hB.below (fun z e => by have h9 : z = ob := e; have := T9.out.low; omega) T9.out.bel.size)
    refine ⟨by simp, .inl ⟨_, _, rfl, run_takeDeferred hd1, ?_⟩⟩
    have cF := (O9.own (grownBy_putObj' _ D (.deferred none)) hr4).cell 0
    exact ⟨_, results_cellr rfl _ _ _ ⟨ob, 0, none⟩ rfl (by go_simp), rfl, below_own Bf (grownBy_putObj' _ D (.deferred none)) (fun r e => by cases e; exact Nat.le_trans WV.out KD.out.2)⟩
  case st =>
    rintro D cd pre W hD _ ⟨rfl, hO, hBl⟩ hK
    have hr4 : ∀ r, some D = some r → ∃ o : Obj, W.heap[r]? = some o ∧ o.isCells = false := fun r e2 => by cases e2; exact ⟨_, hK, rfl⟩
    gi_wp2
    refine ⟨by simp, .inl ⟨_, _, rfl, run_takeDeferred hK, ?_⟩⟩
    have cF := (hO.own (grownBy_putObj' _ D (.deferred none)) hr4).cell 0
    exact ⟨_, results_cellr rfl _ _ _ ⟨ob, 0, none⟩ rfl (by go_simp), rfl, below_own hBl (grownBy_putObj' _ D (.deferred none)) (fun r e => by cases e; exact Nat.le_trans WV.out hD)⟩
theorem told_is (w : World) (ow : Nat → Nat) (s b c N : Nat) (A : List (Int × Int)) (H : List (List (Int × Int))) (h : SD w ow s b c N A H) (hN : N + 2 < 274877906944) (k : Int) : Calls Try.prog 16 #[.agg #[.pointer (some ⟨b, 0, none⟩), .pointer (some ⟨c, 0, none⟩)], .int .i64 k] w fun e w' => e = .returned (.bool true) ∧ Below w.heap.size w w' :=
  (callsIn_wide (n := 10)).1 (told_in w ow s b c N A H h hN k)
end Go.Proofs.Ytohfkgfjcnldaaa
