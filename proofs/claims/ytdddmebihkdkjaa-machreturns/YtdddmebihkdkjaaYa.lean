/- Return stacks: a ring of 1024 places in a block, and its number. -/
import Derived.Test.YtdddmebihkdkjaaQn
import Derived.Test.YtdddmebihkdkjaaVo
namespace Go.Proofs.Ytdddmebihkdkjaa
open Go.RowKit
/-- a place: two numbers -/
structure P2 where
  a : Int
  b : Int
def P2.v (x : P2) : Value := .agg #[.int .i64 x.a, .int .i64 x.b]
def P2.o (x : P2) : Obj := .cells #[.int .i64 x.a, .int .i64 x.b] 44
def P2.cs (x : P2) : List Value := [.int .i64 x.a, .int .i64 x.b]
def q0 : P2 := ⟨0, 0⟩
abbrev PRing := Nat → P2
def pput (f : PRing) (p : Nat) (x : P2) : PRing := fun i => if i = p then x else f i
structure Pd (W : World) (b a : Nat) (x : P2) : Prop where
  c0 : W.cell? ⟨b, a, none⟩ = some (.int .i64 x.a)
  c1 : W.cell? ⟨b, a + 1, none⟩ = some (.int .i64 x.b)
  g0 : W.frozen? ⟨b, a, none⟩ = false
  g1 : W.frozen? ⟨b, a + 1, none⟩ = false
theorem Pd.lt {W : World} {b a : Nat} {x : P2} (h : Pd W b a x) : b < W.heap.size := World.block_lt_of_cell? W _ h.c0
theorem Pd.of {W W' : World} {b a : Nat} {x : P2} (h : Pd W b a x) (hc : ∀ j, W'.cell? ⟨b, j, none⟩ = W.cell? ⟨b, j, none⟩) (hf : ∀ j, W'.frozen? ⟨b, j, none⟩ = W.frozen? ⟨b, j, none⟩) : Pd W' b a x := ⟨(hc _).trans h.c0, (hc _).trans h.c1, (hf _).trans h.g0, (hf _).trans h.g1⟩
theorem Pd.past {W W' : World} {b a : Nat} {x : P2} (h : Pd W b a x) (k : Below W.heap.size W W') : Pd W' b a x := h.of (fun j => k.cell (p := ⟨b, j, none⟩) h.lt) (fun j => k.frozen (p := ⟨b, j, none⟩) h.lt)
theorem Pd.only {W W' : World} {b c a : Nat} {x : P2} (h : Pd W b a x) (k : Only c W W') (hb : b ≠ c) : Pd W' b a x := h.of (fun j => k.cell (p := ⟨b, j, none⟩) h.lt hb) (fun j => k.frozen (p := ⟨b, j, none⟩) h.lt hb)
theorem Pd.drew {W : World} {b a : Nat} {x : P2} (h : Pd W b a x) : Pd W.drew b a x := h.past ((Below.refl _ _).drew)
theorem Pd.alloc {W : World} {b a : Nat} {x : P2} (h : Pd W b a x) (o : Obj) : Pd (W.alloc o) b a x := h.past ((Below.refl _ _).alloc (Nat.le_refl _) o)
theorem Pd.new (w : World) (x : P2) : Pd (w.alloc x.o) w.heap.size 0 x := by unfold P2.o; constructor <;> simp [World.cell?_alloc_at, World.frozen?_alloc_at]
theorem Pd.range {W : World} {b a : Nat} {x : P2} (h : Pd W b a x) : W.rangeAt b a x.cs := fun j v hv => by
  have hj : j < 2 := by have := (List.getElem?_eq_some_iff.1 hv).1; simpa [P2.cs] using this
  obtain rfl | rfl : j = 0 ∨ j = 1 := by omega
  · simp [P2.cs] at hv; subst hv; exact h.c0
  · simp [P2.cs] at hv; subst hv; exact h.c1
theorem loadPd {W : World} {b a : Nat} {x : P2} (h : Pd W b a x) : (loadVar 44 ⟨b, a, none⟩).run Try.prog W = .ok x.v W :=
  run_loadVar_mid W b a 44 x.cs _ h.range Try.underlying44 rfl (by kernel_rfl)
theorem Pd.set {W : World} {b a j : Nat} {x : P2} (h : Pd W b a x) (v : Value) (hj : j < a ∨ a + 2 ≤ j) : Pd (W.setCell ⟨b, j, none⟩ v) b a x :=
  ⟨(set_off v (by omega)).trans h.c0, (set_off v (by omega)).trans h.c1, (World.frozen?_setCell ..).trans h.g0, (World.frozen?_setCell ..).trans h.g1⟩
def put2 (W : World) (g o : Nat) (x : P2) : World := (W.setCell ⟨g, o, none⟩ (.int .i64 x.a)).setCell ⟨g, o + 1, none⟩ (.int .i64 x.b)
theorem Pd.put {W : World} {g o : Nat} {y : P2} (h : Pd W g o y) (x : P2) : Pd (put2 W g o x) g o x := by
  unfold put2
  exact ⟨(set_off _ (by omega)).trans (World.cell?_setCell_same _ _ _ h.c0), World.cell?_setCell_same _ _ _ ((set_off _ (by omega)).trans h.c1), by simp only [World.frozen?_setCell]; exact h.g0, by simp only [World.frozen?_setCell]; exact h.g1⟩
theorem put2_off {W : World} {b o i : Nat} (x : P2) (h : i < o ∨ o + 2 ≤ i) : (put2 W b o x).cell? ⟨b, i, none⟩ = W.cell? ⟨b, i, none⟩ := by unfold put2; rw [set_off _ (by omega), set_off _ (by omega)]
theorem put2_frozen {W : World} {b o : Nat} (x : P2) (p : Addr) : (put2 W b o x).frozen? p = W.frozen? p := by unfold put2; simp only [World.frozen?_setCell]
theorem Pd.off {W : World} {b a o : Nat} {y : P2} (h : Pd W b a y) (x : P2) (ho : a + 2 ≤ o ∨ o + 2 ≤ a) : Pd (put2 W b o x) b a y := ⟨(put2_off x (by omega)).trans h.c0, (put2_off x (by omega)).trans h.c1, (put2_frozen x _).trans h.g0, (put2_frozen x _).trans h.g1⟩
theorem only_put2 {b : Nat} {w W : World} (h : Only b w W) (o : Nat) (x : P2) : Only b w (put2 W b o x) := (h.set _ _).set _ _
theorem only_new2 {b bx : Nat} {w W : World} (h : Only b w W) (hb : w.heap.size ≤ bx) (o : Nat) (x : P2) : Only b w (put2 W bx o x) := by
  have k := only_put2 (Only.refl bx W) o x
  exact ⟨k.os.trans h.os, k.tape.trans h.tape, k.output.trans h.output, Nat.le_trans h.size k.size, fun i hi hn => (k.block i (Nat.lt_of_lt_of_le hi h.size) (by omega)).trans (h.block i hi hn)⟩
/-- block b is a return stack -/
structure Rtn (W : World) (b o z : Nat) (f : PRing) (n : Int) : Prop where
  wd : ∀ i, i < 1024 → Pd W b (o + i * 2) (f i)
  sz : W.cell? ⟨b, z, none⟩ = some (.int .i64 n) ∧ W.frozen? ⟨b, z, none⟩ = false
  ap : z < o ∨ o + 2048 ≤ z
theorem Rtn.lt {W : World} {b o z : Nat} {f : PRing} {n : Int} (h : Rtn W b o z f n) : b < W.heap.size := World.block_lt_of_cell? W _ h.sz.1
theorem Rtn.past {W W' : World} {b o z : Nat} {f : PRing} {n : Int} (h : Rtn W b o z f n) (k : Below W.heap.size W W') : Rtn W' b o z f n :=
  ⟨fun i hi => (h.wd i hi).past k, ⟨(k.cell (p := ⟨b, z, none⟩) h.lt).trans h.sz.1, (k.frozen (p := ⟨b, z, none⟩) h.lt).trans h.sz.2⟩, h.ap⟩
theorem Rtn.only {W W' : World} {b c o z : Nat} {f : PRing} {n : Int} (h : Rtn W b o z f n) (k : Only c W W') (hb : b ≠ c) : Rtn W' b o z f n :=
  ⟨fun i hi => (h.wd i hi).only k hb, ⟨(k.cell (p := ⟨b, z, none⟩) h.lt hb).trans h.sz.1, (k.frozen (p := ⟨b, z, none⟩) h.lt hb).trans h.sz.2⟩, h.ap⟩
theorem Rtn.drew {W : World} {b o z : Nat} {f : PRing} {n : Int} (h : Rtn W b o z f n) : Rtn W.drew b o z f n := h.past ((Below.refl _ _).drew)
theorem Rtn.alloc {W : World} {b o z : Nat} {f : PRing} {n : Int} (h : Rtn W b o z f n) (x : Obj) : Rtn (W.alloc x) b o z f n := h.past ((Below.refl _ _).alloc (Nat.le_refl _) x)
theorem Rtn.num {W : World} {b o z : Nat} {f : PRing} {n : Int} (h : Rtn W b o z f n) (m : Int) : Rtn (W.setCell ⟨b, z, none⟩ (.int .i64 m)) b o z f m :=
  ⟨fun i hi => (h.wd i hi).set _ (by have := h.ap; omega), ⟨World.cell?_setCell_same _ _ _ h.sz.1, by rw [World.frozen?_setCell]; exact h.sz.2⟩, h.ap⟩
theorem Rtn.put {W : World} {b o z : Nat} {f : PRing} {n : Int} (h : Rtn W b o z f n) (p : Nat) (hp : p < 1024) (x : P2) : Rtn (put2 W b (o + p * 2) x) b o z (pput f p x) n := by
  refine ⟨fun i hi => ?_, ⟨(put2_off x (by have := h.ap; omega)).trans h.sz.1, (put2_frozen x _).trans h.sz.2⟩, h.ap⟩
  unfold pput
  by_cases e : i = p
  · subst e; rw [if_pos rfl]; exact (h.wd i hi).put x
  · rw [if_neg e]; exact (h.wd i hi).off x (by omega)
theorem Rtn.putS {W : World} {b o z : Nat} {f : PRing} {n : Int} (h : Rtn W b o z f n) (bx : Nat) (hb : b ≠ bx) (a : Nat) (x : P2) : Rtn (put2 W bx a x) b o z f n := h.only (only_put2 (Only.refl bx W) a x) hb
theorem Pd.of0 {W : World} {b z : Nat} {f : PRing} {n : Int} (h : Rtn W b 0 z f n) (p : Nat) (hp : p < 1024) : Pd W b (p * 2) (f p) := by have := h.wd p hp; rwa [Nat.zero_add] at this
def pring0 : PRing := fun _ => q0
def rtnL : List Value := List.replicate 2048 (Value.int .i64 0) ++ [Value.int .i64 0]
def rtnR : List Value := Value.int .i64 0 :: List.replicate 2048 (Value.int .i64 0)
theorem Rtn.ofL (w : World) (t : TypeId) (L : List Value) (o z : Nat) (hw : ∀ i, i < 2048 → L[o + i]? = some (.int .i64 0)) (hz : L[z]? = some (.int .i64 0)) (ap : z < o ∨ o + 2048 ≤ z) : Rtn (w.alloc (.cells L.toArray t)) w.heap.size o z pring0 0 := by
  have hf : ∀ j, (w.alloc (.cells L.toArray t)).frozen? ⟨w.heap.size, j, none⟩ = false := fun j => by simp [World.frozen?_alloc_at]
  have hc : ∀ j v, L[j]? = some v → (w.alloc (.cells L.toArray t)).cell? ⟨w.heap.size, j, none⟩ = some v := fun j v h => by
    rw [World.cell?_alloc_at _ _ _ _ rfl, List.getElem?_toArray]; exact h
  exact ⟨fun i hi => ⟨hc _ _ (hw _ (by omega)), hc _ _ (by rw [Nat.add_assoc]; exact hw _ (by omega)), hf _, hf _⟩, ⟨hc _ _ hz, hf _⟩, ap⟩
theorem Rtn.new (w : World) (t : TypeId) : Rtn (w.alloc (.cells rtnL.toArray t)) w.heap.size 0 2048 pring0 0 := by
  refine Rtn.ofL w t rtnL 0 2048 (fun i hi => ?_) ?_ (Or.inr (by omega))
  · unfold rtnL; rw [List.getElem?_append_left (by rw [List.length_replicate]; omega), rep_at _ _ (by omega)]
  · unfold rtnL; rw [List.getElem?_append_right (by rw [List.length_replicate]; omega), List.length_replicate]; rfl
theorem Rtn.newR (w : World) (t : TypeId) : Rtn (w.alloc (.cells rtnR.toArray t)) w.heap.size 1 0 pring0 0 := by
  refine Rtn.ofL w t rtnR 1 0 (fun i hi => ?_) ?_ (Or.inl (by omega))
  · unfold rtnR; rw [show 1 + i = i + 1 by omega, List.getElem?_cons_succ, rep_at _ _ (by omega)]
  · rfl
theorem buildT (w : World) : (Instr.build 77 #[]).run Try.prog w = .ok (.agg rtnL.toArray) w := by kernel_rfl
theorem buildTR (w : World) : (Instr.build 79 #[]).run Try.prog w = .ok (.agg rtnR.toArray) w := by kernel_rfl
structure NewRtn (w W : World) (o z : Nat) : Prop where
  st : Rtn W w.heap.size o z pring0 0
  bel : Below w.heap.size w W
  siz : W.heap.size = w.heap.size + 1
set_option maxHeartbeats 400000 in
theorem newRtn_is (w : World) : Calls Try.prog 13 #[] w fun e w' => e = .returned (.pointer (some ⟨w.heap.size, 0, none⟩)) ∧ NewRtn w w' 0 2048 := by
  have H : Hid (NewRtn w (w.alloc (.cells rtnL.toArray 77)) 0 2048) := ⟨Rtn.new w _, (Below.refl _ _).alloc (Nat.le_refl _) _, by simp⟩
  generalize hL : rtnL = L at H
  go_enter Try.func13, Try.ntmps13
  go_wp2_with (refine new_any 77 L (by rw [← hL]; exact buildT) rfl rfl _ rfl rfl rfl (fun _ => rfl) ?_)
  go_ret
  exact ⟨rfl, H.out⟩
set_option maxHeartbeats 400000 in
theorem newRtnR_is (w : World) : Calls Try.prog 14 #[] w fun e w' => e = .returned (.pointer (some ⟨w.heap.size, 0, none⟩)) ∧ NewRtn w w' 1 0 := by
  have H : Hid (NewRtn w (w.alloc (.cells rtnR.toArray 79)) 1 0) := ⟨Rtn.newR w _, (Below.refl _ _).alloc (Nat.le_refl _) _, by simp⟩
  generalize hL : rtnR = L at H
  go_enter Try.func14, Try.ntmps14
  go_wp2_with (refine new_any 79 L (by rw [← hL]; exact buildTR) rfl rfl _ rfl rfl rfl (fun _ => rfl) ?_)
  go_ret
  exact ⟨rfl, H.out⟩
end Go.Proofs.Ytdddmebihkdkjaa
