/- Two memories side by side, package mach's and the document's, in the midst of the law's calls. -/
import Derived.Test.YtlemnjhdnciddaaGoe
namespace Go.Proofs.Ytlemnjhdnciddaa
open Go.RowKit
/-- all blocks that were there but those of S are as they were -/
structure But (S : Nat → Prop) (w w' : World) : Prop where
  os : w'.os = w.os
  tape : w'.tape = w.tape
  output : w'.output = w.output
  size : w.heap.size ≤ w'.heap.size
  block : ∀ k, k < w.heap.size → ¬ S k → w'.heap[k]? = w.heap[k]?
theorem But.refl (S : Nat → Prop) (w : World) : But S w w := ⟨rfl, rfl, rfl, Nat.le_refl _, fun _ _ _ => rfl⟩
theorem But.trans {S : Nat → Prop} {u v w : World} (h : But S u v) (k : But S v w) : But S u w :=
  ⟨k.os.trans h.os, k.tape.trans h.tape, k.output.trans h.output, Nat.le_trans h.size k.size, fun i hi hb => (k.block i (Nat.lt_of_lt_of_le hi h.size) hb).trans (h.block i hi hb)⟩
theorem below_but {S : Nat → Prop} {u v : World} (h : Below u.heap.size u v) : But S u v := ⟨h.os, h.tape, h.output, h.size, fun i hi _ => h.block i hi⟩
theorem But.cell {S : Nat → Prop} {w w' : World} (h : But S w w') {p : Addr} (hp : p.block < w.heap.size) (hb : ¬ S p.block) : w'.cell? p = w.cell? p := World.cell?_of_block (w := w) (h.block p.block hp hb)
theorem But.frozen {S : Nat → Prop} {w w' : World} (h : But S w w') {p : Addr} (hp : p.block < w.heap.size) (hb : ¬ S p.block) : w'.frozen? p = w.frozen? p := World.frozen?_of_block (w := w) (h.block p.block hp hb)
theorem But.below {S : Nat → Prop} {B : Nat} {w w' : World} (h : But S w w') (hS : ∀ k, S k → B ≤ k) (hB : B ≤ w.heap.size) : Below B w w' := ⟨h.os, h.tape, h.output, h.size, fun k hk => h.block k (by omega) (fun e => by have := hS k e; omega)⟩
/-- what stands in S later was there, or is new -/
def Grown (S S' : Nat → Prop) (w : World) : Prop := ∀ k, S' k → S k ∨ w.heap.size ≤ k
theorem But.then {S S' : Nat → Prop} {u v w : World} (h : But S u v) (g : Grown S S' u) (k : But S' v w) : But S u w :=
  ⟨k.os.trans h.os, k.tape.trans h.tape, k.output.trans h.output, Nat.le_trans h.size k.size, fun i hi hb => (k.block i (Nat.lt_of_lt_of_le hi h.size) (fun e => by rcases g i e with h1 | h1; exact hb h1; omega)).trans (h.block i hi hb)⟩
theorem Grown.then {S S' S2 : Nat → Prop} {u v : World} (g : Grown S S' u) (hs : u.heap.size ≤ v.heap.size) (k : Grown S' S2 v) : Grown S S2 u := fun i hi => by
  rcases k i hi with h | h
  · exact g i h
  · exact Or.inr (by omega)
def OwnB (b : Nat) (x : Option Addr) (k : Nat) : Prop := k = b ∨ ∃ a, x = some a ∧ k = a.block
theorem Off.but {b : Nat} {x : Option Addr} {w w' : World} (h : Off b x w w') : But (OwnB b x) w w' := ⟨h.os, h.tape, h.output, h.size, fun k hk hn => h.block k hk (fun e => hn (Or.inl e)) (fun a e1 e2 => hn (Or.inr ⟨a, e1, e2⟩))⟩
theorem But.mono {S T : Nat → Prop} {u v : World} (h : But S u v) (k : ∀ i, S i → T i) : But T u v := ⟨h.os, h.tape, h.output, h.size, fun i hi hb => h.block i hi fun e => hb (k i e)⟩
theorem Mem.but {S : Nat → Prop} {W W' : World} {b B : Nat} {ad : Option Addr} {n cap : Nat} {u : Nat → Nat} (h : Mem W b B ad n cap u) (k : But S W W') (hs : ∀ j, OwnB b ad j → ¬ S j) : Mem W' b B ad n cap u := by
  have hb := hs b (Or.inl rfl)
  refine ⟨(k.cell (p := ⟨b, 0, none⟩) h.lt hb).trans h.c, (k.frozen (p := ⟨b, 0, none⟩) h.lt hb).trans h.f, ?_, h.bb, Nat.le_trans h.sz k.size, h.le⟩
  obtain ⟨hl, ⟨e1, e2⟩ | ⟨g, cp, cur, e, hbg, hg, hnc, hcm, hcs, ht⟩⟩ := h.own
  · exact ⟨hl, Or.inl ⟨e1, e2⟩⟩
  · have e0 := e
    injection e0 with e1 _ _
    have hgl : g < W.heap.size := (Array.getElem?_eq_some_iff.1 hg).1
    refine ⟨hl, Or.inr ⟨g, cp, cur, e, hbg, (k.block g hgl (hs g (Or.inr ⟨_, e1, rfl⟩))).trans hg, hnc, hcm, hcs, ht⟩⟩
theorem Mem.own_lt {W : World} {b B : Nat} {ad : Option Addr} {n cap : Nat} {u : Nat → Nat} (h : Mem W b B ad n cap u) (j : Nat) (hj : OwnB b ad j) : j < W.heap.size := by
  rcases hj with rfl | ⟨a, e, rfl⟩
  · exact h.lt
  · exact h.adlt a e
theorem NewR.grown {b : Nat} {x x' : Option Addr} {w : World} (h : NewR w x x') : Grown (OwnB b x) (OwnB b x') w := fun k hk => by
  rcases hk with rfl | ⟨a, e, rfl⟩
  · exact Or.inl (Or.inl rfl)
  · rcases h with rfl | h
    · exact Or.inl (Or.inr ⟨a, e, rfl⟩)
    · exact Or.inr (h a e)
theorem By.but {S : Nat → Prop} {W W' : World} {v : Value} {n : Nat} {u : Nat → Nat} (h : By W v n u) (k : But S W W') (hs : ∀ q, 0 < n → v.ownBlock = some q → ¬ S q) : By W' v n u := by
  obtain ⟨ad, cap, rfl, h1, h2, h3⟩ := h
  refine ⟨ad, cap, rfl, h1, h2, fun h0 => ?_⟩
  obtain ⟨g, a, rfl, hc⟩ := h3 h0
  exact ⟨g, a, rfl, fun i hi => (k.cell (p := ⟨g, a + i, none⟩) (World.block_lt_of_cell? W _ (hc i hi)) (hs g h0 rfl)).trans (hc i hi)⟩
/-- the two memories of one pair, all their blocks in S -/
def PQ (W : World) (b c : Nat) (S : Nat → Prop) (n : Nat) (u : Nat → Nat) (m : Nat) (v : Nat → Nat) : Prop :=
  ∃ Bx x cx Bz z cz, Mem W b Bx x n cx u ∧ Mem W c Bz z m cz v ∧ (∀ k, OwnB b x k → ¬ OwnB c z k) ∧ (∀ k, S k ↔ (OwnB b x k ∨ OwnB c z k)) ∧ (∀ i, u i < 256) ∧ ∀ i, v i < 256
theorem PQ.but {S T : Nat → Prop} {W W' : World} {b c n m : Nat} {u v : Nat → Nat} (h : PQ W b c S n u m v) (k : But T W W') (hs : ∀ j, S j → ¬ T j) : PQ W' b c S n u m v := by
  obtain ⟨Bx, x, cx, Bz, z, cz, h1, h2, h3, h4, h5⟩ := h
  exact ⟨Bx, x, cx, Bz, z, cz, h1.but k (fun j hj => hs j ((h4 j).2 (Or.inl hj))), h2.but k (fun j hj => hs j ((h4 j).2 (Or.inr hj))), h3, h4, h5⟩
theorem PQ.past {S : Nat → Prop} {W W' : World} {b c n m : Nat} {u v : Nat → Nat} (h : PQ W b c S n u m v) (k : Below W.heap.size W W') : PQ W' b c S n u m v := h.but (below_but (S := fun _ => False) k) (fun _ _ => id)
theorem PQ.lt {S : Nat → Prop} {W : World} {b c n m : Nat} {u v : Nat → Nat} (h : PQ W b c S n u m v) (j : Nat) (hj : S j) : j < W.heap.size := by
  obtain ⟨Bx, x, cx, Bz, z, cz, h1, h2, h3, h4, h5⟩ := h
  rcases (h4 j).1 hj with h | h
  · exact h1.own_lt j h
  · exact h2.own_lt j h
theorem PQ.callM {S : Nat → Prop} {W : World} {b c n m : Nat} {u v : Nat → Nat} (h : PQ W b c S n u m v) : ∃ Bx x cx, Mem W b Bx x n cx u ∧ (∀ i, u i < 256) ∧ (∀ k, OwnB b x k → S k) ∧ ∀ W' x' cx' n' u', Mem W' b Bx x' n' cx' u' → Off b x W W' → NewR W x x' → (∀ i, u' i < 256) → ∃ S', PQ W' b c S' n' u' m v ∧ But S W W' ∧ Grown S S' W := by
  obtain ⟨Bx, x, cx, Bz, z, cz, h1, h2, h3, h4, h5, h6⟩ := h
  refine ⟨Bx, x, cx, h1, h5, fun k hk => (h4 k).2 (Or.inl hk), fun W' x' cx' n' u' k1 k2 k3 k4 => ⟨fun k => OwnB b x' k ∨ OwnB c z k, ⟨Bx, x', cx', Bz, z, cz, k1, h2.but k2.but (fun j hj hj2 => h3 j hj2 hj), fun k hk hk2 => ?_, fun k => Iff.rfl, k4, h6⟩, k2.but.mono (fun k hk => (h4 k).2 (Or.inl hk)), fun k hk => ?_⟩⟩
  · rcases k3.grown k hk with e | e
    · exact h3 k e hk2
    · have := h2.own_lt k hk2; omega
  · rcases hk with hk | hk
    · rcases k3.grown k hk with e | e
      · exact Or.inl ((h4 k).2 (Or.inl e))
      · exact Or.inr e
    · exact Or.inl ((h4 k).2 (Or.inr hk))
theorem PQ.callR {S : Nat → Prop} {W : World} {b c n m : Nat} {u v : Nat → Nat} (h : PQ W b c S n u m v) : ∃ Bz z cz, Mem W c Bz z m cz v ∧ (∀ i, v i < 256) ∧ (∀ k, OwnB c z k → S k) ∧ ∀ W' z' cz' m' v', Mem W' c Bz z' m' cz' v' → Off c z W W' → NewR W z z' → (∀ i, v' i < 256) → ∃ S', PQ W' b c S' n u m' v' ∧ But S W W' ∧ Grown S S' W := by
  obtain ⟨Bx, x, cx, Bz, z, cz, h1, h2, h3, h4, h5, h6⟩ := h
  refine ⟨Bz, z, cz, h2, h6, fun k hk => (h4 k).2 (Or.inr hk), fun W' z' cz' m' v' k1 k2 k3 k4 => ⟨fun k => OwnB b x k ∨ OwnB c z' k, ⟨Bx, x, cx, Bz, z', cz', h1.but k2.but (fun j hj hj2 => h3 j hj hj2), k1, fun k hk hk2 => ?_, fun k => Iff.rfl, h5, k4⟩, k2.but.mono (fun k hk => (h4 k).2 (Or.inr hk)), fun k hk => ?_⟩⟩
  · rcases k3.grown k hk2 with e | e
    · exact h3 k hk e
    · have := h1.own_lt k hk; omega
  · rcases hk with hk | hk
    · exact Or.inl ((h4 k).2 (Or.inl hk))
    · rcases k3.grown k hk with e | e
      · exact Or.inl ((h4 k).2 (Or.inr e))
      · exact Or.inr e
/-- what the law's boxes hold -/
structure Bo (W : World) (sb ob b c : Nat) (kd N M P : Int) (X Y : W4) (vB : Value) : Prop where
  p0 : W.cell? ⟨sb, 0, none⟩ = some (.pointer (some ⟨b, 0, none⟩))
  p1 : W.cell? ⟨sb, 1, none⟩ = some (.pointer (some ⟨c, 0, none⟩))
  k0 : W.cell? ⟨ob, 0, none⟩ = some (.int .i64 kd)
  k2 : W.cell? ⟨ob, 2, none⟩ = some (.int .i64 N)
  k3 : W.cell? ⟨ob, 3, none⟩ = some (.int .i64 M)
  k4 : W.cell? ⟨ob, 4, none⟩ = some (.int .i64 P)
  x0 : W.cell? ⟨ob, 5, none⟩ = some (.int .u64 X.a)
  x1 : W.cell? ⟨ob, 6, none⟩ = some (.int .u64 X.b)
  x2 : W.cell? ⟨ob, 7, none⟩ = some (.int .u64 X.c)
  x3 : W.cell? ⟨ob, 8, none⟩ = some (.int .u64 X.d)
  y0 : W.cell? ⟨ob, 9, none⟩ = some (.int .u64 Y.a)
  y1 : W.cell? ⟨ob, 10, none⟩ = some (.int .u64 Y.b)
  y2 : W.cell? ⟨ob, 11, none⟩ = some (.int .u64 Y.c)
  y3 : W.cell? ⟨ob, 12, none⟩ = some (.int .u64 Y.d)
  vb : W.cell? ⟨ob, 13, none⟩ = some vB
theorem Bo.lts {W : World} {sb ob b c : Nat} {kd N M P : Int} {X Y : W4} {vB : Value} (h : Bo W sb ob b c kd N M P X Y vB) : sb < W.heap.size ∧ ob < W.heap.size := ⟨World.block_lt_of_cell? W _ h.p0, World.block_lt_of_cell? W _ h.k0⟩
theorem Bo.but {S : Nat → Prop} {W W' : World} {sb ob b c : Nat} {kd N M P : Int} {X Y : W4} {vB : Value} (h : Bo W sb ob b c kd N M P X Y vB) (k : But S W W') (hs : ¬ S sb) (ho : ¬ S ob) : Bo W' sb ob b c kd N M P X Y vB :=
  have l := h.lts
  ⟨(k.cell (p := ⟨sb, _, none⟩) l.1 hs).trans h.p0, (k.cell (p := ⟨sb, _, none⟩) l.1 hs).trans h.p1, (k.cell (p := ⟨ob, _, none⟩) l.2 ho).trans h.k0, (k.cell (p := ⟨ob, _, none⟩) l.2 ho).trans h.k2, (k.cell (p := ⟨ob, _, none⟩) l.2 ho).trans h.k3, (k.cell (p := ⟨ob, _, none⟩) l.2 ho).trans h.k4, (k.cell (p := ⟨ob, _, none⟩) l.2 ho).trans h.x0, (k.cell (p := ⟨ob, _, none⟩) l.2 ho).trans h.x1, (k.cell (p := ⟨ob, _, none⟩) l.2 ho).trans h.x2, (k.cell (p := ⟨ob, _, none⟩) l.2 ho).trans h.x3, (k.cell (p := ⟨ob, _, none⟩) l.2 ho).trans h.y0, (k.cell (p := ⟨ob, _, none⟩) l.2 ho).trans h.y1, (k.cell (p := ⟨ob, _, none⟩) l.2 ho).trans h.y2, (k.cell (p := ⟨ob, _, none⟩) l.2 ho).trans h.y3, (k.cell (p := ⟨ob, _, none⟩) l.2 ho).trans h.vb⟩
def pageV (b c : Nat) : Value := .agg #[.pointer (some ⟨b, 0, none⟩), .pointer (some ⟨c, 0, none⟩)]
def opV (kd : Int) (tw : Bool) (N M P : Int) (X Y : W4) (B : Value) : Value := .agg #[.int .i64 kd, .bool tw, .int .i64 N, .int .i64 M, .int .i64 P, .int .u64 X.a, .int .u64 X.b, .int .u64 X.c, .int .u64 X.d, .int .u64 Y.a, .int .u64 Y.b, .int .u64 Y.c, .int .u64 Y.d, B]
def pageO (b c : Nat) : Obj := .cells #[.pointer (some ⟨b, 0, none⟩), .pointer (some ⟨c, 0, none⟩)] 26
def opO (kd : Int) (tw : Bool) (N M P : Int) (X Y : W4) (B : Value) : Obj := .cells #[.int .i64 kd, .bool tw, .int .i64 N, .int .i64 M, .int .i64 P, .int .u64 X.a, .int .u64 X.b, .int .u64 X.c, .int .u64 X.d, .int .u64 Y.a, .int .u64 Y.b, .int .u64 Y.c, .int .u64 Y.d, B] 33
/-- in the midst of one of the law's calls; W0: the world in which the boxes were laid -/
structure LM (W0 W : World) (sb ob b c : Nat) (S0 : Nat → Prop) (n : Nat) (u : Nat → Nat) (m : Nat) (v : Nat → Nat) (kd N M P : Int) (X Y : W4) (vB : Value) (mB : Nat) (t : Nat → Nat) : Prop where
  pk : ∃ S, PQ W b c S n u m v ∧ But S0 W0 W ∧ Grown S0 S W0
  bo : Bo W sb ob b c kd N M P X Y vB
  ap : (¬ S0 sb ∧ ¬ S0 ob) ∧ sb < W0.heap.size ∧ ob < W0.heap.size
  by_ : By W vB mB t
  ab : ∀ q, 0 < mB → vB.ownBlock = some q → ¬ S0 q ∧ q < W0.heap.size
theorem LM.past {W0 W W' : World} {sb ob b c : Nat} {S0 : Nat → Prop} {n m mB : Nat} {u v t : Nat → Nat} {kd N M P : Int} {X Y : W4} {vB : Value} (h : LM W0 W sb ob b c S0 n u m v kd N M P X Y vB mB t) (k : Below W.heap.size W W') : LM W0 W' sb ob b c S0 n u m v kd N M P X Y vB mB t := by
  obtain ⟨S, h1, h2, h3⟩ := h.pk
  exact ⟨⟨S, h1.past k, h2.trans (below_but k), h3⟩, h.bo.but (below_but (S := fun _ => False) k) id id, h.ap, h.by_.past k, h.ab⟩
theorem LM.drew {W0 W : World} {sb ob b c : Nat} {S0 : Nat → Prop} {n m mB : Nat} {u v t : Nat → Nat} {kd N M P : Int} {X Y : W4} {vB : Value} (h : LM W0 W sb ob b c S0 n u m v kd N M P X Y vB mB t) : LM W0 W.drew sb ob b c S0 n u m v kd N M P X Y vB mB t := h.past ((Below.refl _ _).drew)
/-- what comes behind a step of the pair's own blocks -/
theorem LM.step {W0 W W' : World} {sb ob b c : Nat} {S0 S : Nat → Prop} {n m mB n' m' : Nat} {u v t u' v' : Nat → Nat} {kd N M P : Int} {X Y : W4} {vB : Value} (h : LM W0 W sb ob b c S0 n u m v kd N M P X Y vB mB t) (h2 : But S0 W0 W) (h3 : Grown S0 S W0) (k : ∃ S', PQ W' b c S' n' u' m' v' ∧ But S W W' ∧ Grown S S' W) : LM W0 W' sb ob b c S0 n' u' m' v' kd N M P X Y vB mB t := by
  obtain ⟨S', k1, k2, k3⟩ := k
  have out : ∀ q, ¬ S0 q → q < W0.heap.size → ¬ S q := fun q h1 hq e => by
    rcases h3 q e with e | e
    · exact h1 e
    · omega
  exact ⟨⟨S', k1, h2.then h3 k2, h3.then h2.size k3⟩, h.bo.but k2 (out _ h.ap.1.1 h.ap.2.1) (out _ h.ap.1.2 h.ap.2.2), h.ap, h.by_.but k2 (fun q h0 hq => out q (h.ab q h0 hq).1 (h.ab q h0 hq).2), h.ab⟩
theorem LM.callM {W0 W : World} {sb ob b c : Nat} {S0 : Nat → Prop} {n m mB : Nat} {u v t : Nat → Nat} {kd N M P : Int} {X Y : W4} {vB : Value} (h : LM W0 W sb ob b c S0 n u m v kd N M P X Y vB mB t) : ∃ Bx x cx, Mem W b Bx x n cx u ∧ (∀ i, u i < 256) ∧ ∀ W' x' cx' n' u', Mem W' b Bx x' n' cx' u' → Off b x W W' → NewR W x x' → (∀ i, u' i < 256) → LM W0 W' sb ob b c S0 n' u' m v kd N M P X Y vB mB t := by
  obtain ⟨S, h1, h2, h3⟩ := h.pk
  obtain ⟨Bx, x, cx, k1, k2, _, k3⟩ := h1.callM
  exact ⟨Bx, x, cx, k1, k2, fun W' x' cx' n' u' a1 a2 a3 a4 => h.step h2 h3 (k3 W' x' cx' n' u' a1 a2 a3 a4)⟩
theorem LM.callR {W0 W : World} {sb ob b c : Nat} {S0 : Nat → Prop} {n m mB : Nat} {u v t : Nat → Nat} {kd N M P : Int} {X Y : W4} {vB : Value} (h : LM W0 W sb ob b c S0 n u m v kd N M P X Y vB mB t) : ∃ Bx x cx, Mem W c Bx x m cx v ∧ (∀ i, v i < 256) ∧ ∀ W' x' cx' n' u', Mem W' c Bx x' n' cx' u' → Off c x W W' → NewR W x x' → (∀ i, u' i < 256) → LM W0 W' sb ob b c S0 n u n' u' kd N M P X Y vB mB t := by
  obtain ⟨S, h1, h2, h3⟩ := h.pk
  obtain ⟨Bx, x, cx, k1, k2, _, k3⟩ := h1.callR
  exact ⟨Bx, x, cx, k1, k2, fun W' x' cx' n' u' a1 a2 a3 a4 => h.step h2 h3 (k3 W' x' cx' n' u' a1 a2 a3 a4)⟩
/-- what a step of the law leaves behind: as many bytes on both sides, the same ones -/
def PgAfter (w w' : World) (b c : Nat) (S : Nat → Prop) (n : Nat) : Prop := ∃ S' u, PQ w' b c S' n u n u ∧ But S w w' ∧ Grown S S' w
theorem LM.after {w W0 W : World} {sb ob b c : Nat} {S0 : Nat → Prop} {n mB : Nat} {u t : Nat → Nat} {kd N M P : Int} {X Y : W4} {vB : Value} (h : LM W0 W sb ob b c S0 n u n u kd N M P X Y vB mB t) (k : Below w.heap.size w W0) : PgAfter w W b c S0 n := by
  obtain ⟨S, h1, h2, h3⟩ := h.pk
  exact ⟨S, u, h1, (below_but k).trans h2, fun q hq => by
    rcases h3 q hq with e | e
    · exact Or.inl e
    · exact Or.inr (Nat.le_trans k.size e)⟩
/-- the bytes that are lent lie apart from the pair -/
def Lent (W : World) (S : Nat → Prop) (vB : Value) (mB : Nat) (t : Nat → Nat) : Prop := By W vB mB t ∧ (∀ i, t i < 256) ∧ ∀ q, 0 < mB → vB.ownBlock = some q → ¬ S q ∧ q < W.heap.size
theorem LM.start {w : World} {b c n mB : Nat} {u t : Nat → Nat} {S : Nat → Prop} (h : PQ w b c S n u n u) (kd : Int) (tw : Bool) (N M P : Int) (X Y : W4) (vB : Value) (hb : Lent w S vB mB t) : LM ((w.alloc (pageO b c)).alloc (opO kd tw N M P X Y vB)) ((w.alloc (pageO b c)).alloc (opO kd tw N M P X Y vB)) w.heap.size (w.heap.size + 1) b c S n u n u kd N M P X Y vB mB t ∧ Below w.heap.size w ((w.alloc (pageO b c)).alloc (opO kd tw N M P X Y vB)) := by
  have b1 : Below w.heap.size w (w.alloc (pageO b c)) := (Below.refl _ _).alloc (Nat.le_refl _) _
  have b2 : Below w.heap.size w ((w.alloc (pageO b c)).alloc (opO kd tw N M P X Y vB)) := b1.alloc b1.size _
  have sz : (w.alloc (pageO b c)).heap.size = w.heap.size + 1 := by simp
  have sz2 : ((w.alloc (pageO b c)).alloc (opO kd tw N M P X Y vB)).heap.size = w.heap.size + 1 + 1 := by simp
  have cs : ∀ j, ((w.alloc (pageO b c)).alloc (opO kd tw N M P X Y vB)).cell? ⟨w.heap.size, j, none⟩ = (w.alloc (pageO b c)).cell? ⟨w.heap.size, j, none⟩ := fun j => World.cell?_alloc_lt _ _ _ (by rw [sz]; exact Nat.lt_succ_self _)
  have co : ∀ j, ((w.alloc (pageO b c)).alloc (opO kd tw N M P X Y vB)).cell? ⟨w.heap.size + 1, j, none⟩ = ((w.alloc (pageO b c)).alloc (opO kd tw N M P X Y vB)).cell? ⟨(w.alloc (pageO b c)).heap.size, j, none⟩ := fun j => by rw [sz]
  refine ⟨⟨⟨S, h.past b2, But.refl _ _, fun k hk => Or.inl hk⟩, ?_, ⟨⟨fun e => ?_, fun e => ?_⟩, by rw [sz2]; omega, by rw [sz2]; omega⟩, hb.1.past b2, fun q h0 hq => ⟨(hb.2.2 q h0 hq).1, by have := (hb.2.2 q h0 hq).2; rw [sz2]; omega⟩⟩, b2⟩
  · refine ⟨?_, ?_, ?_, ?_, ?_, ?_, ?_, ?_, ?_, ?_, ?_, ?_, ?_, ?_, ?_⟩
    · rw [cs]; unfold pageO; rw [World.cell?_alloc_at _ _ _ _ rfl]; rfl
    · rw [cs]; unfold pageO; rw [World.cell?_alloc_at _ _ _ _ rfl]; rfl
    all_goals (rw [co]; unfold opO; rw [World.cell?_alloc_at _ _ _ _ rfl]; rfl)
  · have := h.lt _ e; omega
  · have := h.lt _ e; omega
theorem ins_lt {u t : Nat → Nat} (hu : ∀ i, u i < 256) (ht : ∀ i, t i < 256) (o m i : Nat) : ins u o t m i < 256 := by unfold ins; split; exact ht _; exact hu _
theorem grU_lt {u : Nat → Nat} (hu : ∀ i, u i < 256) (n i : Nat) : grU u n i < 256 := by unfold grU; split; exact hu _; omega
theorem ite_lt {p : Prop} [Decidable p] {u t : Nat → Nat} (hu : ∀ i, u i < 256) (ht : ∀ i, t i < 256) (i : Nat) : (if p then u else t) i < 256 := by split; exact hu i; exact ht i
end Go.Proofs.Ytlemnjhdnciddaa
