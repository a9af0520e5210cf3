/- Two stacks side by side, package mach's and the document's, and the law's own boxes. -/
import Derived.Test.YtdddmebihkdkjaaQi
namespace Go.Proofs.Ytdddmebihkdkjaa
open Go.RowKit
/-- all blocks that were there but those of S are as they were -/
structure But (S : Nat → Prop) (w w' : World) : Prop where
  os : w'.os = w.os
  tape : w'.tape = w.tape
  output : w'.output = w.output
  size : w.heap.size ≤ w'.heap.size
  block : ∀ k, k < w.heap.size → ¬ S k → w'.heap[k]? = w.heap[k]?
theorem But.refl (S : Nat → Prop) (w : World) : But S w w := ⟨rfl, rfl, rfl, Nat.le_refl _, fun _ _ _ => rfl⟩
theorem But.trans {S : Nat → Prop} {u v w : World} (h : But S u v) (k : But S v w) : But S u w :=
  ⟨k.os.trans h.os, k.tape.trans h.tape, k.output.trans h.output, Nat.le_trans h.size k.size, fun i hi hb => (k.block i (Nat.lt_of_lt_of_le hi h.size) hb).trans (h.block i hi hb)⟩
theorem But.mono {S T : Nat → Prop} {u v : World} (h : But S u v) (k : ∀ i, S i → T i) : But T u v := ⟨h.os, h.tape, h.output, h.size, fun i hi hb => h.block i hi fun e => hb (k i e)⟩
theorem Only.but {S : Nat → Prop} {b : Nat} {u v : World} (h : Only b u v) (hb : S b) : But S u v := ⟨h.os, h.tape, h.output, h.size, fun i hi hn => h.block i hi fun e => hn (e ▸ hb)⟩
theorem below_but {S : Nat → Prop} {u v : World} (h : Below u.heap.size u v) : But S u v := ⟨h.os, h.tape, h.output, h.size, fun i hi _ => h.block i hi⟩
theorem But.cell {S : Nat → Prop} {w w' : World} (h : But S w w') {p : Addr} (hp : p.block < w.heap.size) (hb : ¬ S p.block) : w'.cell? p = w.cell? p := World.cell?_of_block (w := w) (h.block p.block hp hb)
theorem But.frozen {S : Nat → Prop} {w w' : World} (h : But S w w') {p : Addr} (hp : p.block < w.heap.size) (hb : ¬ S p.block) : w'.frozen? p = w.frozen? p := World.frozen?_of_block (w := w) (h.block p.block hp hb)
theorem But.below {S : Nat → Prop} {B : Nat} {w w' : World} (h : But S w w') (hS : ∀ k, S k → B ≤ k) (hB : B ≤ w.heap.size) : Below B w w' := ⟨h.os, h.tape, h.output, h.size, fun k hk => h.block k (by omega) (fun e => by have := hS k e; omega)⟩
theorem Wd.but {S : Nat → Prop} {W W' : World} {b a : Nat} {x : W4} (h : Wd W b a x) (k : But S W W') (hb : ¬ S b) : Wd W' b a x := h.of (fun j => k.cell (p := ⟨b, j, none⟩) h.lt hb) (fun j => k.frozen (p := ⟨b, j, none⟩) h.lt hb)
theorem Rd.but {S : Nat → Prop} {W W' : World} {b a : Nat} {x : W4} (h : Rd W b a x) (k : But S W W') (hb : ¬ S b) : Rd W' b a x :=
  ⟨(k.cell (p := ⟨b, _, none⟩) h.lt hb).trans h.c0, (k.cell (p := ⟨b, _, none⟩) h.lt hb).trans h.c1, (k.cell (p := ⟨b, _, none⟩) h.lt hb).trans h.c2, (k.cell (p := ⟨b, _, none⟩) h.lt hb).trans h.c3⟩
theorem Stk.but {S : Nat → Prop} {W W' : World} {b o z : Nat} {f : Ring} {n : Int} (h : Stk W b o z f n) (k : But S W W') (hb : ¬ S b) : Stk W' b o z f n :=
  ⟨fun i hi => (h.wd i hi).but k hb, ⟨(k.cell (p := ⟨b, z, none⟩) h.lt hb).trans h.sz.1, (k.frozen (p := ⟨b, z, none⟩) h.lt hb).trans h.sz.2⟩, h.ap⟩
abbrev BC (b c : Nat) : Nat → Prop := fun k => k = b ∨ k = c
/-- the two stacks of one pair -/
structure Two (W : World) (b c : Nat) (f : Ring) (n : Int) : Prop where
  s : Stk W b 0 4096 f n
  r : Stk W c 1 0 f n
  ne : b ≠ c
theorem Two.past {W W' : World} {b c : Nat} {f : Ring} {n : Int} (h : Two W b c f n) (k : Below W.heap.size W W') : Two W' b c f n := ⟨h.s.past k, h.r.past k, h.ne⟩
theorem Two.but {S : Nat → Prop} {W W' : World} {b c : Nat} {f : Ring} {n : Int} (h : Two W b c f n) (k : But S W W') (hb : ¬ S b) (hc : ¬ S c) : Two W' b c f n := ⟨h.s.but k hb, h.r.but k hc, h.ne⟩
/-- what the law's boxes hold -/
structure Bo (W : World) (sb ob b c : Nat) (kd N M : Int) (X : W4) : Prop where
  p0 : W.cell? ⟨sb, 0, none⟩ = some (.pointer (some ⟨b, 0, none⟩))
  p1 : W.cell? ⟨sb, 1, none⟩ = some (.pointer (some ⟨c, 0, none⟩))
  k0 : W.cell? ⟨ob, 0, none⟩ = some (.int .i64 kd)
  k2 : W.cell? ⟨ob, 2, none⟩ = some (.int .i64 N)
  k3 : W.cell? ⟨ob, 3, none⟩ = some (.int .i64 M)
  x0 : W.cell? ⟨ob, 5, none⟩ = some (.int .u64 X.a)
  x1 : W.cell? ⟨ob, 6, none⟩ = some (.int .u64 X.b)
  x2 : W.cell? ⟨ob, 7, none⟩ = some (.int .u64 X.c)
  x3 : W.cell? ⟨ob, 8, none⟩ = some (.int .u64 X.d)
theorem Bo.lts {W : World} {sb ob b c : Nat} {kd N M : Int} {X : W4} (h : Bo W sb ob b c kd N M X) : sb < W.heap.size ∧ ob < W.heap.size := ⟨World.block_lt_of_cell? W _ h.p0, World.block_lt_of_cell? W _ h.k0⟩
theorem Bo.but {S : Nat → Prop} {W W' : World} {sb ob b c : Nat} {kd N M : Int} {X : W4} (h : Bo W sb ob b c kd N M X) (k : But S W W') (hs : ¬ S sb) (ho : ¬ S ob) : Bo W' sb ob b c kd N M X :=
  have l := h.lts
  ⟨(k.cell (p := ⟨sb, _, none⟩) l.1 hs).trans h.p0, (k.cell (p := ⟨sb, _, none⟩) l.1 hs).trans h.p1, (k.cell (p := ⟨ob, _, none⟩) l.2 ho).trans h.k0, (k.cell (p := ⟨ob, _, none⟩) l.2 ho).trans h.k2, (k.cell (p := ⟨ob, _, none⟩) l.2 ho).trans h.k3, (k.cell (p := ⟨ob, _, none⟩) l.2 ho).trans h.x0, (k.cell (p := ⟨ob, _, none⟩) l.2 ho).trans h.x1, (k.cell (p := ⟨ob, _, none⟩) l.2 ho).trans h.x2, (k.cell (p := ⟨ob, _, none⟩) l.2 ho).trans h.x3⟩
def sideV (b c : Nat) : Value := .agg #[.pointer (some ⟨b, 0, none⟩), .pointer (some ⟨c, 0, none⟩)]
def opV (kd : Int) (tw : Bool) (N M P : Int) (X Y : W4) (B : Value) : Value := .agg #[.int .i64 kd, .bool tw, .int .i64 N, .int .i64 M, .int .i64 P, .int .u64 X.a, .int .u64 X.b, .int .u64 X.c, .int .u64 X.d, .int .u64 Y.a, .int .u64 Y.b, .int .u64 Y.c, .int .u64 Y.d, B]
def sideO (b c : Nat) : Obj := .cells #[.pointer (some ⟨b, 0, none⟩), .pointer (some ⟨c, 0, none⟩)] 26
def opO (kd : Int) (tw : Bool) (N M P : Int) (X Y : W4) (B : Value) : Obj := .cells #[.int .i64 kd, .bool tw, .int .i64 N, .int .i64 M, .int .i64 P, .int .u64 X.a, .int .u64 X.b, .int .u64 X.c, .int .u64 X.d, .int .u64 Y.a, .int .u64 Y.b, .int .u64 Y.c, .int .u64 Y.d, B] 33
/-- in the midst of one of the law's calls -/
structure LK (w W : World) (sb ob b c : Nat) (f g : Ring) (n m : Int) (kd N M : Int) (X : W4) : Prop where
  s : Stk W b 0 4096 f n
  r : Stk W c 1 0 g m
  ne : b ≠ c
  bo : Bo W sb ob b c kd N M X
  ap : (sb ≠ b ∧ sb ≠ c) ∧ ob ≠ b ∧ ob ≠ c
  bt : But (BC b c) w W
theorem LK.callS {w W W' : World} {sb ob b c : Nat} {f g f' : Ring} {n m n' kd N M : Int} {X : W4} (h : LK w W sb ob b c f g n m kd N M X) (hs : Stk W' b 0 4096 f' n') (k : Only b W W') : LK w W' sb ob b c f' g n' m kd N M X :=
  ⟨hs, h.r.only k h.ne.symm, h.ne, h.bo.but (k.but (S := fun i => i = b) rfl) h.ap.1.1 h.ap.2.1, h.ap, h.bt.trans (k.but (Or.inl rfl))⟩
theorem LK.callR {w W W' : World} {sb ob b c : Nat} {f g g' : Ring} {n m m' kd N M : Int} {X : W4} (h : LK w W sb ob b c f g n m kd N M X) (hs : Stk W' c 1 0 g' m') (k : Only c W W') : LK w W' sb ob b c f g' n m' kd N M X :=
  ⟨h.s.only k h.ne, hs, h.ne, h.bo.but (k.but (S := fun i => i = c) rfl) h.ap.1.2 h.ap.2.2, h.ap, h.bt.trans (k.but (Or.inr rfl))⟩
theorem LK.past {w W W' : World} {sb ob b c : Nat} {f g : Ring} {n m kd N M : Int} {X : W4} (h : LK w W sb ob b c f g n m kd N M X) (k : Below W.heap.size W W') : LK w W' sb ob b c f g n m kd N M X :=
  ⟨h.s.past k, h.r.past k, h.ne, h.bo.but (below_but (S := fun _ => False) k) id id, h.ap, h.bt.trans (below_but k)⟩
theorem LK.drew {w W : World} {sb ob b c : Nat} {f g : Ring} {n m kd N M : Int} {X : W4} (h : LK w W sb ob b c f g n m kd N M X) : LK w W.drew sb ob b c f g n m kd N M X := h.past ((Below.refl _ _).drew)
theorem LK.alloc {w W : World} {sb ob b c : Nat} {f g : Ring} {n m kd N M : Int} {X : W4} (h : LK w W sb ob b c f g n m kd N M X) (o : Obj) : LK w (W.alloc o) sb ob b c f g n m kd N M X := h.past ((Below.refl _ _).alloc (Nat.le_refl _) o)
theorem LK.two {w W : World} {sb ob b c : Nat} {f : Ring} {n kd N M : Int} {X : W4} (h : LK w W sb ob b c f f n n kd N M X) : Two W b c f n := ⟨h.s, h.r, h.ne⟩
theorem LK.start {w : World} {b c : Nat} {f : Ring} {n : Int} (h : Two w b c f n) (kd : Int) (tw : Bool) (N M P : Int) (X Y : W4) (B : Value) : LK w ((w.alloc (sideO b c)).alloc (opO kd tw N M P X Y B)) w.heap.size (w.heap.size + 1) b c f f n n kd N M X := by
  have hb := h.s.lt
  have hc := h.r.lt
  have b1 : Below w.heap.size w (w.alloc (sideO b c)) := (Below.refl _ _).alloc (Nat.le_refl _) _
  have b2 : Below w.heap.size w ((w.alloc (sideO b c)).alloc (opO kd tw N M P X Y B)) := b1.alloc b1.size _
  have sz : (w.alloc (sideO b c)).heap.size = w.heap.size + 1 := by simp
  have cs : ∀ j, ((w.alloc (sideO b c)).alloc (opO kd tw N M P X Y B)).cell? ⟨w.heap.size, j, none⟩ = (w.alloc (sideO b c)).cell? ⟨w.heap.size, j, none⟩ := fun j => World.cell?_alloc_lt _ _ _ (by rw [sz]; exact Nat.lt_succ_self _)
  have co : ∀ j, ((w.alloc (sideO b c)).alloc (opO kd tw N M P X Y B)).cell? ⟨w.heap.size + 1, j, none⟩ = ((w.alloc (sideO b c)).alloc (opO kd tw N M P X Y B)).cell? ⟨(w.alloc (sideO b c)).heap.size, j, none⟩ := fun j => by rw [sz]
  refine ⟨h.s.below b2 hb, h.r.below b2 hc, h.ne, ?_, ⟨⟨by omega, by omega⟩, by omega, by omega⟩, below_but b2⟩
  refine ⟨?_, ?_, ?_, ?_, ?_, ?_, ?_, ?_, ?_⟩
  · rw [cs]; unfold sideO; rw [World.cell?_alloc_at _ _ _ _ rfl]; rfl
  · rw [cs]; unfold sideO; rw [World.cell?_alloc_at _ _ _ _ rfl]; rfl
  all_goals (rw [co]; unfold opO; rw [World.cell?_alloc_at _ _ _ _ rfl]; rfl)
/-- what a step leaves behind -/
structure After (w w' : World) (b c : Nat) (lo hi : Int) : Prop where
  ex : ∃ f n, Two w' b c f n ∧ lo ≤ n ∧ n ≤ hi
  bt : But (BC b c) w w'
theorem W4.v_eq (x : W4) : x.v = .agg #[.int .u64 x.a, .int .u64 x.b, .int .u64 x.c, .int .u64 x.d] := rfl
theorem wrap_up {n : Int} (h : n ≤ 4611686018427387904) (h0 : -4611686018427387904 ≤ n) : wrap64 (n + 1) = n + 1 := by rw [wrap64]; omega
theorem wrap_dn {n : Int} (h : n ≤ 4611686018427387904) (h0 : -4611686018427387904 ≤ n) : wrap64 (n - 1) = n - 1 := by rw [wrap64]; omega
end Go.Proofs.Ytdddmebihkdkjaa
