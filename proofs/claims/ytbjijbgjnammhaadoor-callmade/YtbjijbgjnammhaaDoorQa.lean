/- A ring of 1024 words in a block, and its number. -/
import Derived.Test.YtbjijbgjnammhaaDoorRows
import Derived.WalkKit
import Derived.WalkSpells
import Derived.WalkLawsBesides
import Derived.Deep.QuietTactic
import Derived.Deep.MidRow
import Derived.BigQuiet
import Derived.BigRegion
import Derived.OwnWalk
import Derived.Laws.OwnMore
import Derived.Laws.AppendOwnNone
import Derived.Deep.RegionHeld3
import Derived.Deep.CutRange
import Derived.Deep.CutBlock
import Derived.Deep.DeepCutAuto
import Derived.LoopTactic
import Derived.LoopN
import Derived.WalkMore
namespace Go.Proofs.YtbjijbgjnammhaaDoor.Wds
open Go.RowKit
theorem bdrewN {B : Nat} {a w : World} (h : Below B a w) (n : Nat) : Below B a (w.drewN n) := h.trans ⟨rfl, rfl, rfl, Nat.le_refl _, fun _ _ => rfl⟩
/-- all that was there but block b is as it was -/
structure Only (b : Nat) (w w' : World) : Prop where
  os : w'.os = w.os
  tape : w'.tape = w.tape
  output : w'.output = w.output
  size : w.heap.size ≤ w'.heap.size
  block : ∀ k, k < w.heap.size → k ≠ b → w'.heap[k]? = w.heap[k]?
theorem Only.refl (b : Nat) (w : World) : Only b w w := ⟨rfl, rfl, rfl, Nat.le_refl _, fun _ _ _ => rfl⟩
theorem Only.trans {b : Nat} {u v w : World} (h : Only b u v) (k : Only b v w) : Only b u w :=
  ⟨k.os.trans h.os, k.tape.trans h.tape, k.output.trans h.output, Nat.le_trans h.size k.size, fun i hi hb => (k.block i (Nat.lt_of_lt_of_le hi h.size) hb).trans (h.block i hi hb)⟩
theorem below_only {w w' : World} (h : Below w.heap.size w w') (b : Nat) : Only b w w' := ⟨h.os, h.tape, h.output, h.size, fun k hk _ => h.block k hk⟩
theorem Only.below {b B : Nat} {w w' : World} (h : Only b w w') (hb : B ≤ b) (hB : B ≤ w.heap.size) : Below B w w' := ⟨h.os, h.tape, h.output, h.size, fun k hk => h.block k (by omega) (by omega)⟩
theorem Only.cell {b : Nat} {w w' : World} (h : Only b w w') {p : Addr} (hp : p.block < w.heap.size) (hb : p.block ≠ b) : w'.cell? p = w.cell? p := World.cell?_of_block (w := w) (h.block p.block hp hb)
theorem Only.frozen {b : Nat} {w w' : World} (h : Only b w w') {p : Addr} (hp : p.block < w.heap.size) (hb : p.block ≠ b) : w'.frozen? p = w.frozen? p := World.frozen?_of_block (w := w) (h.block p.block hp hb)
theorem Only.set {b : Nat} {w w' : World} (h : Only b w w') (o : Nat) (x : Value) : Only b w (w'.setCell ⟨b, o, none⟩ x) :=
  h.trans ⟨rfl, rfl, rfl, by simp [World.setCell], fun k _ hb => Below.heap_setCell _ _ _ _ hb⟩
theorem Only.drew {b : Nat} {w w' : World} (h : Only b w w') : Only b w w'.drew := ⟨h.os, h.tape, h.output, h.size, h.block⟩
theorem Only.alloc {b : Nat} {w w' : World} (h : Only b w w') (o : Obj) : Only b w (w'.alloc o) := h.trans (below_only ((Below.refl _ _).alloc (Nat.le_refl _) o) b)
theorem Only.sets {b : Nat} {w w' : World} (h : Only b w w') : ∀ (vs : List Value) (o : Nat), Only b w (w'.setCells b o vs) := by
  intro vs
  induction vs generalizing w' with
  | nil => intro o; exact h
  | cons v r ih => intro o; rw [World.setCells]; exact ih (h.set o v) (o + 1)
theorem i64_and1023 (n : Int) : bits .and .i64 n 1023 = n % 1024 := by
  have h127 : (BitVec.ofInt 64 1023).toNat = 2 ^ 10 - 1 := by decide
  have key : (BitVec.ofInt 64 n &&& BitVec.ofInt 64 1023).toNat = (n % ((2 ^ 64 : Nat) : Int)).toNat % 2 ^ 10 := by
    rw [BitVec.toNat_and, BitVec.toNat_ofInt, h127, Nat.and_two_pow_sub_one_eq_mod]
  show IntKind.i64.wrap ((BitVec.ofInt 64 n &&& BitVec.ofInt 64 1023).toNat : Nat) = n % 1024
  rw [key, IntKind.wrap_i64]
  omega
/-- where word number n stands -/
def pl (n : Int) : Nat := (n % 1024).toNat
theorem pl_lt (n : Int) : pl n < 1024 := by unfold pl; omega
theorem pl_eq (n : Int) : (pl n : Int) = n % 1024 := by unfold pl; omega
theorem pl_wrap (n : Int) : pl (IntKind.i64.wrap n) = pl n := by rw [IntKind.wrap_i64]; unfold pl; omega
/-- a word: four numbers of 64 bits -/
structure W4 where
  a : Int
  b : Int
  c : Int
  d : Int
def W4.v (x : W4) : Value := .agg #[.int .u64 x.a, .int .u64 x.b, .int .u64 x.c, .int .u64 x.d]
def W4.cs (x : W4) : List Value := [.int .u64 x.a, .int .u64 x.b, .int .u64 x.c, .int .u64 x.d]
abbrev Ring := Nat → W4
def rput (f : Ring) (p : Nat) (x : W4) : Ring := fun i => if i = p then x else f i
/-- the word that lies at a of block b, and may be written -/
structure Wd (W : World) (b a : Nat) (x : W4) : Prop where
  c0 : W.cell? ⟨b, a, none⟩ = some (.int .u64 x.a)
  c1 : W.cell? ⟨b, a + 1, none⟩ = some (.int .u64 x.b)
  c2 : W.cell? ⟨b, a + 2, none⟩ = some (.int .u64 x.c)
  c3 : W.cell? ⟨b, a + 3, none⟩ = some (.int .u64 x.d)
  g0 : W.frozen? ⟨b, a, none⟩ = false
  g1 : W.frozen? ⟨b, a + 1, none⟩ = false
  g2 : W.frozen? ⟨b, a + 2, none⟩ = false
  g3 : W.frozen? ⟨b, a + 3, none⟩ = false
theorem Wd.lt {W : World} {b a : Nat} {x : W4} (h : Wd W b a x) : b < W.heap.size := World.block_lt_of_cell? W _ h.c0
theorem Wd.of {W W' : World} {b a : Nat} {x : W4} (h : Wd W b a x) (hc : ∀ j, W'.cell? ⟨b, j, none⟩ = W.cell? ⟨b, j, none⟩) (hf : ∀ j, W'.frozen? ⟨b, j, none⟩ = W.frozen? ⟨b, j, none⟩) : Wd W' b a x :=
  ⟨(hc _).trans h.c0, (hc _).trans h.c1, (hc _).trans h.c2, (hc _).trans h.c3, (hf _).trans h.g0, (hf _).trans h.g1, (hf _).trans h.g2, (hf _).trans h.g3⟩
theorem Wd.below {W W' : World} {B b a : Nat} {x : W4} (h : Wd W b a x) (k : Below B W W') (hb : b < B) : Wd W' b a x := h.of (fun j => k.cell (p := ⟨b, j, none⟩) hb) (fun j => k.frozen (p := ⟨b, j, none⟩) hb)
theorem Wd.past {W W' : World} {b a : Nat} {x : W4} (h : Wd W b a x) (k : Below W.heap.size W W') : Wd W' b a x := h.below k h.lt
theorem Wd.only {W W' : World} {b c a : Nat} {x : W4} (h : Wd W b a x) (k : Only c W W') (hb : b ≠ c) : Wd W' b a x := h.of (fun j => k.cell (p := ⟨b, j, none⟩) h.lt hb) (fun j => k.frozen (p := ⟨b, j, none⟩) h.lt hb)
theorem Wd.drew {W : World} {b a : Nat} {x : W4} (h : Wd W b a x) : Wd W.drew b a x := h.past ((Below.refl _ _).drew)
theorem Wd.alloc {W : World} {b a : Nat} {x : W4} (h : Wd W b a x) (o : Obj) : Wd (W.alloc o) b a x := h.past ((Below.refl _ _).alloc (Nat.le_refl _) o)
theorem Wd.new (w : World) (t : TypeId) (x : W4) : Wd (w.alloc (.cells #[.int .u64 x.a, .int .u64 x.b, .int .u64 x.c, .int .u64 x.d] t)) w.heap.size 0 x := by
  constructor <;> simp [World.cell?_alloc_at, World.frozen?_alloc_at]
theorem Wd.range {W : World} {b a : Nat} {x : W4} (h : Wd W b a x) : W.rangeAt b a x.cs := fun j v hv => by
  have hj : j < 4 := by have := (List.getElem?_eq_some_iff.1 hv).1; simpa [W4.cs] using this
  obtain rfl | rfl | rfl | rfl : j = 0 ∨ j = 1 ∨ j = 2 ∨ j = 3 := by omega
  · simp [W4.cs] at hv; subst hv; exact h.c0
  · simp [W4.cs] at hv; subst hv; exact h.c1
  · simp [W4.cs] at hv; subst hv; exact h.c2
  · simp [W4.cs] at hv; subst hv; exact h.c3
theorem loadWd {W : World} {b a : Nat} {x : W4} (h : Wd W b a x) : (loadVar 26 ⟨b, a, none⟩).run Tryd.prog W = .ok x.v W :=
  run_loadVar_mid W b a 26 x.cs _ h.range Tryd.underlying26 rfl (by kernel_rfl)
theorem results_c {fn : Func} {p : Tmp} {ty : TypeId} (h : fn.results = #[.cell p ty]) (tmps : Array Value) (P : Program) (w : World) (a : Addr) (ha : tmps.getD p undef = .pointer (some a)) {v : Value} (hl : (loadVar ty a).run P w = .ok v w) : (results fn tmps).run P w = .ok v w := by
  have ha' : tmps[p]?.getD undef = .pointer (some a) := by simpa using ha
  simp only [results, h]
  simp [ha', hl, asAddr]
theorem results_ct {fn : Func} {p q : Tmp} {ty : TypeId} (h : fn.results = #[.cell p ty, .tmp q]) (tmps : Array Value) (P : Program) (w : World) (a : Addr) (ha : tmps.getD p undef = .pointer (some a)) {v u : Value} (hq : tmps.getD q undef = u) (hl : (loadVar ty a).run P w = .ok v w) : (results fn tmps).run P w = .ok (.tuple #[v, u]) w := by
  have ha' : tmps[p]?.getD undef = .pointer (some a) := by simpa using ha
  have hq' : tmps[q]?.getD undef = u := by simpa using hq
  simp only [results, h]
  simp [ha', hq', hl, asAddr]
/-- block b is a stack: its words from o on, its number at z -/
structure Stk (W : World) (b o z : Nat) (f : Ring) (n : Int) : Prop where
  wd : ∀ i, i < 1024 → Wd W b (o + i * 4) (f i)
  sz : W.cell? ⟨b, z, none⟩ = some (.int .i64 n) ∧ W.frozen? ⟨b, z, none⟩ = false
  ap : z < o ∨ o + 4096 ≤ z
theorem Stk.lt {W : World} {b o z : Nat} {f : Ring} {n : Int} (h : Stk W b o z f n) : b < W.heap.size := World.block_lt_of_cell? W _ h.sz.1
theorem Stk.below {W W' : World} {B b o z : Nat} {f : Ring} {n : Int} (h : Stk W b o z f n) (k : Below B W W') (hb : b < B) : Stk W' b o z f n :=
  ⟨fun i hi => (h.wd i hi).below k hb, ⟨(k.cell (p := ⟨b, z, none⟩) hb).trans h.sz.1, (k.frozen (p := ⟨b, z, none⟩) hb).trans h.sz.2⟩, h.ap⟩
theorem Stk.past {W W' : World} {b o z : Nat} {f : Ring} {n : Int} (h : Stk W b o z f n) (k : Below W.heap.size W W') : Stk W' b o z f n := h.below k h.lt
theorem Stk.only {W W' : World} {b c o z : Nat} {f : Ring} {n : Int} (h : Stk W b o z f n) (k : Only c W W') (hb : b ≠ c) : Stk W' b o z f n :=
  ⟨fun i hi => (h.wd i hi).only k hb, ⟨(k.cell (p := ⟨b, z, none⟩) h.lt hb).trans h.sz.1, (k.frozen (p := ⟨b, z, none⟩) h.lt hb).trans h.sz.2⟩, h.ap⟩
theorem Stk.drew {W : World} {b o z : Nat} {f : Ring} {n : Int} (h : Stk W b o z f n) : Stk W.drew b o z f n := h.past ((Below.refl _ _).drew)
theorem Stk.alloc {W : World} {b o z : Nat} {f : Ring} {n : Int} (h : Stk W b o z f n) (x : Obj) : Stk (W.alloc x) b o z f n := h.past ((Below.refl _ _).alloc (Nat.le_refl _) x)
theorem set_off {W : World} {b i j : Nat} (v : Value) (h : i ≠ j) : (W.setCell ⟨b, j, none⟩ v).cell? ⟨b, i, none⟩ = W.cell? ⟨b, i, none⟩ := World.cell?_setCell_other _ _ _ _ (by intro e; injection e with _ e _; exact h e.symm)
theorem Wd.set {W : World} {b a j : Nat} {x : W4} (h : Wd W b a x) (v : Value) (hj : j < a ∨ a + 4 ≤ j) : Wd (W.setCell ⟨b, j, none⟩ v) b a x :=
  ⟨(set_off v (by omega)).trans h.c0, (set_off v (by omega)).trans h.c1, (set_off v (by omega)).trans h.c2, (set_off v (by omega)).trans h.c3, (World.frozen?_setCell ..).trans h.g0, (World.frozen?_setCell ..).trans h.g1, (World.frozen?_setCell ..).trans h.g2, (World.frozen?_setCell ..).trans h.g3⟩
theorem Stk.num {W : World} {b o z : Nat} {f : Ring} {n : Int} (h : Stk W b o z f n) (m : Int) : Stk (W.setCell ⟨b, z, none⟩ (.int .i64 m)) b o z f m :=
  ⟨fun i hi => (h.wd i hi).set _ (by have := h.ap; omega), ⟨World.cell?_setCell_same _ _ _ h.sz.1, by rw [World.frozen?_setCell]; exact h.sz.2⟩, h.ap⟩
def put4 (W : World) (g o : Nat) (x : W4) : World := (((W.setCell ⟨g, o, none⟩ (.int .u64 x.a)).setCell ⟨g, o + 1, none⟩ (.int .u64 x.b)).setCell ⟨g, o + 2, none⟩ (.int .u64 x.c)).setCell ⟨g, o + 3, none⟩ (.int .u64 x.d)
theorem Wd.put {W : World} {g o : Nat} {y : W4} (h : Wd W g o y) (x : W4) : Wd (put4 W g o x) g o x := by
  unfold put4
  refine ⟨?_, ?_, ?_, ?_, ?_, ?_, ?_, ?_⟩
  · rw [set_off _ (by omega), set_off _ (by omega), set_off _ (by omega)]; exact World.cell?_setCell_same _ _ _ h.c0
  · rw [set_off _ (by omega), set_off _ (by omega)]; exact World.cell?_setCell_same _ _ _ ((set_off _ (by omega)).trans h.c1)
  · rw [set_off _ (by omega)]; exact World.cell?_setCell_same _ _ _ (((set_off _ (by omega)).trans (set_off _ (by omega))).trans h.c2)
  · exact World.cell?_setCell_same _ _ _ ((((set_off _ (by omega)).trans (set_off _ (by omega))).trans (set_off _ (by omega))).trans h.c3)
  · simp only [World.frozen?_setCell]; exact h.g0
  · simp only [World.frozen?_setCell]; exact h.g1
  · simp only [World.frozen?_setCell]; exact h.g2
  · simp only [World.frozen?_setCell]; exact h.g3
theorem put4_off {W : World} {b o i : Nat} (x : W4) (h : i < o ∨ o + 4 ≤ i) : (put4 W b o x).cell? ⟨b, i, none⟩ = W.cell? ⟨b, i, none⟩ := by
  unfold put4; rw [set_off _ (by omega), set_off _ (by omega), set_off _ (by omega), set_off _ (by omega)]
theorem put4_frozen {W : World} {b o : Nat} (x : W4) (p : Addr) : (put4 W b o x).frozen? p = W.frozen? p := by unfold put4; simp only [World.frozen?_setCell]
theorem Wd.off {W : World} {b a o : Nat} {y : W4} (h : Wd W b a y) (x : W4) (ho : a + 4 ≤ o ∨ o + 4 ≤ a) : Wd (put4 W b o x) b a y :=
  ⟨(put4_off x (by omega)).trans h.c0, (put4_off x (by omega)).trans h.c1, (put4_off x (by omega)).trans h.c2, (put4_off x (by omega)).trans h.c3, (put4_frozen x _).trans h.g0, (put4_frozen x _).trans h.g1, (put4_frozen x _).trans h.g2, (put4_frozen x _).trans h.g3⟩
theorem Stk.put {W : World} {b o z : Nat} {f : Ring} {n : Int} (h : Stk W b o z f n) (p : Nat) (hp : p < 1024) (x : W4) : Stk (put4 W b (o + p * 4) x) b o z (rput f p x) n := by
  refine ⟨fun i hi => ?_, ⟨(put4_off x (by have := h.ap; omega)).trans h.sz.1, (put4_frozen x _).trans h.sz.2⟩, h.ap⟩
  unfold rput
  by_cases e : i = p
  · subst e; rw [if_pos rfl]; exact (h.wd i hi).put x
  · rw [if_neg e]; exact (h.wd i hi).off x (by omega)
theorem only_put4 {b : Nat} {w W : World} (h : Only b w W) (o : Nat) (x : W4) : Only b w (put4 W b o x) := (((h.set _ _).set _ _).set _ _).set _ _
theorem put4_new (w : World) (t : TypeId) (y x : W4) : put4 (w.alloc (.cells #[.int .u64 y.a, .int .u64 y.b, .int .u64 y.c, .int .u64 y.d] t)) w.heap.size 0 x = w.alloc (.cells #[.int .u64 x.a, .int .u64 x.b, .int .u64 x.c, .int .u64 x.d] t) := by
  unfold put4; simp [World.setCell_alloc_at]
def w0 : W4 := ⟨0, 0, 0, 0⟩
def ring0 : Ring := fun _ => w0
theorem rep_at (k j : Nat) (h : j < k) (v : Value) : (List.replicate k v)[j]? = some v := by rw [List.getElem?_replicate, if_pos h]
def stkL : List Value := List.replicate 4096 (Value.int .u64 0) ++ [Value.int .i64 0]
def stkR : List Value := Value.int .i64 0 :: List.replicate 4096 (Value.int .u64 0)
theorem Stk.ofL (w : World) (t : TypeId) (L : List Value) (o z : Nat) (hw : ∀ i, i < 4096 → L[o + i]? = some (.int .u64 0)) (hz : L[z]? = some (.int .i64 0)) (ap : z < o ∨ o + 4096 ≤ z) : Stk (w.alloc (.cells L.toArray t)) w.heap.size o z ring0 0 := by
  have hf : ∀ j, (w.alloc (.cells L.toArray t)).frozen? ⟨w.heap.size, j, none⟩ = false := fun j => by simp [World.frozen?_alloc_at]
  have hc : ∀ j v, L[j]? = some v → (w.alloc (.cells L.toArray t)).cell? ⟨w.heap.size, j, none⟩ = some v := fun j v h => by
    rw [World.cell?_alloc_at _ _ _ _ rfl, List.getElem?_toArray]; exact h
  refine ⟨fun i hi => ⟨hc _ _ (hw _ (by omega)), ?_, ?_, ?_, hf _, hf _, hf _, hf _⟩, ⟨hc _ _ hz, hf _⟩, ap⟩
  · exact hc _ _ (by rw [Nat.add_assoc]; exact hw _ (by omega))
  · exact hc _ _ (by rw [Nat.add_assoc]; exact hw _ (by omega))
  · exact hc _ _ (by rw [Nat.add_assoc]; exact hw _ (by omega))
theorem Stk.new (w : World) (t : TypeId) : Stk (w.alloc (.cells stkL.toArray t)) w.heap.size 0 4096 ring0 0 := by
  refine Stk.ofL w t stkL 0 4096 (fun i hi => ?_) ?_ (Or.inr (by omega))
  · unfold stkL; rw [List.getElem?_append_left (by rw [List.length_replicate]; omega), rep_at _ _ (by omega)]
  · unfold stkL; rw [List.getElem?_append_right (by rw [List.length_replicate]; omega), List.length_replicate]; rfl
theorem Stk.newR (w : World) (t : TypeId) : Stk (w.alloc (.cells stkR.toArray t)) w.heap.size 1 0 ring0 0 := by
  refine Stk.ofL w t stkR 1 0 (fun i hi => ?_) ?_ (Or.inl (by omega))
  · unfold stkR; rw [show 1 + i = i + 1 by omega, List.getElem?_cons_succ, rep_at _ _ (by omega)]
  · rfl
end Go.Proofs.YtbjijbgjnammhaaDoor.Wds
