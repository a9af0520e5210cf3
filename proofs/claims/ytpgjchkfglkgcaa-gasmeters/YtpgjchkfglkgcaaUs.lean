/- Two meters of each kind, in two lists. -/
import Derived.Test.YtpgjchkfglkgcaaUq
import Derived.Test.YtpgjchkfglkgcaaUg
import Derived.Test.YtpgjchkfglkgcaaUo
import Derived.Deep.RegionHeld3
namespace Go.Proofs.Ytpgjchkfglkgcaa
open Go.RowKit
theorem i64_and1 (n : Int) : bits .and .i64 n 1 = n % 2 := by
  have h127 : (BitVec.ofInt 64 1).toNat = 2 ^ 1 - 1 := by decide
  have key : (BitVec.ofInt 64 n &&& BitVec.ofInt 64 1).toNat = (n % ((2 ^ 64 : Nat) : Int)).toNat % 2 ^ 1 := by
    rw [BitVec.toNat_and, BitVec.toNat_ofInt, h127, Nat.and_two_pow_sub_one_eq_mod]
  show IntKind.i64.wrap ((BitVec.ofInt 64 n &&& BitVec.ofInt 64 1).toNat : Nat) = n % 2
  rw [key, IntKind.wrap_i64]
  omega
def upd {α : Type} (f : Nat → α) (k : Nat) (v : α) : Nat → α := fun i => if i = k then v else f i
theorem upd_same {α : Type} (f : Nat → α) (k : Nat) (v : α) : upd f k v k = v := if_pos rfl
theorem upd_other {α : Type} (f : Nat → α) (k i : Nat) (v : α) (h : i ≠ k) : upd f k v i = f i := if_neg h
/-- the list g holds these pointers -/
def Ptrs (W : World) (g : Nat) (b : Nat → Nat) : Prop := ∀ i, i < 2 → W.cell? ⟨g, i, none⟩ = some (.pointer (some ⟨b i, 0, none⟩)) ∧ W.frozen? ⟨g, i, none⟩ = false
theorem Ptrs.lt {W : World} {g : Nat} {b : Nat → Nat} (h : Ptrs W g b) : g < W.heap.size := World.block_lt_of_cell? W _ (h 0 (by omega)).1
theorem Ptrs.past {W W' : World} {g : Nat} {b : Nat → Nat} (h : Ptrs W g b) (k : Below W.heap.size W W') : Ptrs W' g b := fun i hi => ⟨(k.cell (p := ⟨g, i, none⟩) h.lt).trans (h i hi).1, (k.frozen (p := ⟨g, i, none⟩) h.lt).trans (h i hi).2⟩
theorem Ptrs.only {W W' : World} {g d : Nat} {b : Nat → Nat} (h : Ptrs W g b) (k : Only d W W') (hd : g ≠ d) : Ptrs W' g b := fun i hi => ⟨(k.cell (p := ⟨g, i, none⟩) h.lt hd).trans (h i hi).1, (k.frozen (p := ⟨g, i, none⟩) h.lt hd).trans (h i hi).2⟩
theorem Ptrs.set {W : World} {g : Nat} {b : Nat → Nat} (h : Ptrs W g b) (k n : Nat) (hk : k < 2) : Ptrs (W.setCell ⟨g, k, none⟩ (.pointer (some ⟨n, 0, none⟩))) g (upd b k n) := fun i hi => by
  refine ⟨?_, by rw [World.frozen?_setCell]; exact (h i hi).2⟩
  by_cases e : i = k
  · subst e; rw [upd_same]; exact World.cell?_setCell_same _ _ _ (h i hi).1
  · rw [upd_other _ _ _ _ e, set_off _ e]; exact (h i hi).1
structure GM (w W : World) (gm gr : Nat) (b c : Nat → Nat) (p q : Nat → Int) : Prop where
  pm : Ptrs W gm b
  pr : Ptrs W gr c
  mb : ∀ i, i < 2 → Met W (b i) (p i)
  mc : ∀ i, i < 2 → Met W (c i) (q i)
  gb : ∀ i, i < 2 → w.heap.size ≤ b i ∧ b i ≠ gm ∧ b i ≠ gr
  gc : ∀ i, i < 2 → w.heap.size ≤ c i ∧ c i ≠ gm ∧ c i ≠ gr
  bc : ∀ i j, i < 2 → j < 2 → b i ≠ c j
  bb : ∀ i j, i < 2 → j < 2 → i ≠ j → b i ≠ b j
  cc : ∀ i j, i < 2 → j < 2 → i ≠ j → c i ≠ c j
  gg : gm ≠ gr ∧ w.heap.size ≤ gm ∧ w.heap.size ≤ gr
  bel : Below w.heap.size w W
theorem GM.past {w W : World} {gm gr : Nat} {b c : Nat → Nat} {p q : Nat → Int} {W' : World} (h : GM w W gm gr b c p q) (k : Below W.heap.size W W') : GM w W' gm gr b c p q :=
  ⟨h.pm.past k, h.pr.past k, fun i hi => (h.mb i hi).past k, fun i hi => (h.mc i hi).past k, h.gb, h.gc, h.bc, h.bb, h.cc, h.gg, h.bel.trans (k.mono h.bel.size)⟩
theorem GM.drew {w W : World} {gm gr : Nat} {b c : Nat → Nat} {p q : Nat → Int} (h : GM w W gm gr b c p q) : GM w W.drew gm gr b c p q := h.past ((Below.refl _ _).drew)
theorem GM.callB {w W : World} {gm gr : Nat} {b c : Nat → Nat} {p q : Nat → Int} {W' : World} {k : Nat} {v : Int} (h : GM w W gm gr b c p q) (hk : k < 2) (m : Met W' (b k) v) (l : Only (b k) W W') : GM w W' gm gr b c (upd p k v) q :=
  ⟨h.pm.only l (Ne.symm (h.gb k hk).2.1), h.pr.only l (Ne.symm (h.gb k hk).2.2), fun i hi => by
    by_cases e : i = k
    · subst e; rw [upd_same]; exact m
    · rw [upd_other _ _ _ _ e]; exact (h.mb i hi).only l (h.bb i k hi hk e), fun i hi => (h.mc i hi).only l (Ne.symm (h.bc k i hk hi)), h.gb, h.gc, h.bc, h.bb, h.cc, h.gg, h.bel.trans (l.below (h.gb k hk).1 h.bel.size)⟩
theorem GM.callC {w W : World} {gm gr : Nat} {b c : Nat → Nat} {p q : Nat → Int} {W' : World} {k : Nat} {v : Int} (h : GM w W gm gr b c p q) (hk : k < 2) (m : Met W' (c k) v) (l : Only (c k) W W') : GM w W' gm gr b c p (upd q k v) :=
  ⟨h.pm.only l (Ne.symm (h.gc k hk).2.1), h.pr.only l (Ne.symm (h.gc k hk).2.2), fun i hi => (h.mb i hi).only l (h.bc i k hi hk), fun i hi => by
    by_cases e : i = k
    · subst e; rw [upd_same]; exact m
    · rw [upd_other _ _ _ _ e]; exact (h.mc i hi).only l (h.cc i k hi hk e), h.gb, h.gc, h.bc, h.bb, h.cc, h.gg, h.bel.trans (l.below (h.gc k hk).1 h.bel.size)⟩
theorem GM.newB {w W : World} {gm gr : Nat} {b c : Nat → Nat} {p q : Nat → Int} {W1 : World} {k n : Nat} {v : Int} (h : GM w W gm gr b c p q) (hk : k < 2) (hn : n = W.heap.size) (m : Met W1 n v) (l : Below W.heap.size W W1) : GM w (W1.setCell ⟨gm, k, none⟩ (.pointer (some ⟨n, 0, none⟩))) gm gr (upd b k n) c (upd p k v) q := by
  have h1 := h.past l
  have lm := h.pm.lt
  have lr := h.pr.lt
  have hb : ∀ i, i < 2 → b i ≠ n := fun i hi => by have := (h.mb i hi).lt; omega
  have hc : ∀ i, i < 2 → c i ≠ n := fun i hi => by have := (h.mc i hi).lt; omega
  have hO : Only gm W1 (W1.setCell ⟨gm, k, none⟩ (.pointer (some ⟨n, 0, none⟩))) := (Only.refl _ _).set _ _
  refine ⟨h1.pm.set k n hk, h1.pr.only hO (Ne.symm h.gg.1), fun i hi => ?_, fun i hi => (h1.mc i hi).only hO (h.gc i hi).2.1, fun i hi => ?_, h.gc, fun i j hi hj => ?_, fun i j hi hj hij => ?_, h.cc, h.gg, h1.bel.trans (hO.below h.gg.2.1 h1.bel.size)⟩
  · by_cases e : i = k
    · subst e; rw [upd_same, upd_same]; exact m.only hO (by omega)
    · rw [upd_other _ _ _ _ e, upd_other _ _ _ _ e]; exact (h1.mb i hi).only hO (h.gb i hi).2.1
  · by_cases e : i = k
    · subst e; rw [upd_same]; have := h.bel.size; exact ⟨by omega, by omega, by omega⟩
    · rw [upd_other _ _ _ _ e]; exact h.gb i hi
  · by_cases e : i = k
    · subst e; rw [upd_same]; exact Ne.symm (hc j hj)
    · rw [upd_other _ _ _ _ e]; exact h.bc i j hi hj
  · by_cases e : i = k
    · subst e; rw [upd_same, upd_other _ _ _ _ (Ne.symm hij)]; exact Ne.symm (hb j hj)
    · rw [upd_other _ _ _ _ e]
      by_cases e2 : j = k
      · subst e2; rw [upd_same]; exact hb i hi
      · rw [upd_other _ _ _ _ e2]; exact h.bb i j hi hj hij
theorem GM.newC {w W : World} {gm gr : Nat} {b c : Nat → Nat} {p q : Nat → Int} {W1 : World} {k n : Nat} {v : Int} (h : GM w W gm gr b c p q) (hk : k < 2) (hn : n = W.heap.size) (m : Met W1 n v) (l : Below W.heap.size W W1) : GM w (W1.setCell ⟨gr, k, none⟩ (.pointer (some ⟨n, 0, none⟩))) gm gr b (upd c k n) p (upd q k v) := by
  have h1 := h.past l
  have lm := h.pm.lt
  have lr := h.pr.lt
  have hb : ∀ i, i < 2 → b i ≠ n := fun i hi => by have := (h.mb i hi).lt; omega
  have hc : ∀ i, i < 2 → c i ≠ n := fun i hi => by have := (h.mc i hi).lt; omega
  have hO : Only gr W1 (W1.setCell ⟨gr, k, none⟩ (.pointer (some ⟨n, 0, none⟩))) := (Only.refl _ _).set _ _
  refine ⟨h1.pm.only hO h.gg.1, h1.pr.set k n hk, fun i hi => (h1.mb i hi).only hO (h.gb i hi).2.2, fun i hi => ?_, h.gb, fun i hi => ?_, fun i j hi hj => ?_, h.bb, fun i j hi hj hij => ?_, h.gg, h1.bel.trans (hO.below h.gg.2.2 h1.bel.size)⟩
  · by_cases e : i = k
    · subst e; rw [upd_same, upd_same]; exact m.only hO (by omega)
    · rw [upd_other _ _ _ _ e, upd_other _ _ _ _ e]; exact (h1.mc i hi).only hO (h.gc i hi).2.2
  · by_cases e : i = k
    · subst e; rw [upd_same]; have := h.bel.size; exact ⟨by omega, by omega, by omega⟩
    · rw [upd_other _ _ _ _ e]; exact h.gc i hi
  · by_cases e : j = k
    · subst e; rw [upd_same]; exact hb i hi
    · rw [upd_other _ _ _ _ e]; exact h.bc i j hi hj
  · by_cases e : i = k
    · subst e; rw [upd_same, upd_other _ _ _ _ (Ne.symm hij)]; exact Ne.symm (hc j hj)
    · rw [upd_other _ _ _ _ e]
      by_cases e2 : j = k
      · subst e2; rw [upd_same]; exact hc i hi
      · rw [upd_other _ _ _ _ e2]; exact h.cc i j hi hj hij
theorem GM.ext {w W : World} {gm gr : Nat} {b c : Nat → Nat} {p q : Nat → Int} {p' q' : Nat → Int} (h : GM w W gm gr b c p q) (e1 : p = p') (e2 : q = q') : GM w W gm gr b c p' q' := e1 ▸ e2 ▸ h
/-- what the list of steps tells, in any later world -/
def StsIn (w : World) (ad : Option Addr) (n : Nat) (o : Nat → StR) : Prop := 0 < n → ∃ g a, ad = some ⟨g, a, none⟩ ∧ ∀ i, i < n → (∀ W, Below w.heap.size w W → StAt W g (a + i * 3) (o i)) ∧ StOk (o i)
theorem StAt.past {W W' : World} {g a : Nat} {o : StR} (h : StAt W g a o) (k : Below W.heap.size W W') : StAt W' g a o := by
  have l : g < W.heap.size := World.block_lt_of_cell? W _ h.1
  exact ⟨(k.cell (p := ⟨g, _, none⟩) l).trans h.1, (k.cell (p := ⟨g, _, none⟩) l).trans h.2.1, (k.cell (p := ⟨g, _, none⟩) l).trans h.2.2⟩
theorem StAt.only {W W' : World} {g a d : Nat} {o : StR} (h : StAt W g a o) (k : Only d W W') (hd : g ≠ d) : StAt W' g a o := by
  have l : g < W.heap.size := World.block_lt_of_cell? W _ h.1
  exact ⟨(k.cell (p := ⟨g, _, none⟩) l hd).trans h.1, (k.cell (p := ⟨g, _, none⟩) l hd).trans h.2.1, (k.cell (p := ⟨g, _, none⟩) l hd).trans h.2.2⟩
theorem StsAt.in {w : World} {v : Value} {n : Nat} {o : Nat → StR} (h : StsAt w v n o) : ∃ ad cap, v = .slice ad n cap ∧ StsIn w ad n o := by
  obtain ⟨ad, cap, rfl, h1⟩ := h
  refine ⟨ad, cap, rfl, fun hn => ?_⟩
  obtain ⟨g, a, e, h2⟩ := h1 hn
  exact ⟨g, a, e, fun i hi => ⟨fun W k => (h2 i hi).1.past k, (h2 i hi).2⟩⟩
/-- the step at hand, copied; it lies apart from the meters and their lists -/
structure GX (w W : World) (gm gr : Nat) (b c : Nat → Nat) (p q : Nat → Int) (bx : Nat) (o : StR) : Prop where
  g : GM w W gm gr b c p q
  x : StAt W bx 0 o
  ab : ∀ i, i < 2 → bx ≠ b i ∧ bx ≠ c i
  ag : bx ≠ gm ∧ bx ≠ gr
theorem GX.past {w W : World} {gm gr : Nat} {b c : Nat → Nat} {p q : Nat → Int} {W' : World} {bx : Nat} {o : StR} (h : GX w W gm gr b c p q bx o) (k : Below W.heap.size W W') : GX w W' gm gr b c p q bx o := ⟨h.g.past k, h.x.past k, h.ab, h.ag⟩
theorem GX.drew {w W : World} {gm gr : Nat} {b c : Nat → Nat} {p q : Nat → Int} {bx : Nat} {o : StR} (h : GX w W gm gr b c p q bx o) : GX w W.drew gm gr b c p q bx o := h.past ((Below.refl _ _).drew)
theorem GX.callB {w W : World} {gm gr : Nat} {b c : Nat → Nat} {p q : Nat → Int} {W' : World} {k bx : Nat} {v : Int} {o : StR} (h : GX w W gm gr b c p q bx o) (hk : k < 2) (m : Met W' (b k) v) (l : Only (b k) W W') : GX w W' gm gr b c (upd p k v) q bx o := ⟨h.g.callB hk m l, h.x.only l (h.ab k hk).1, h.ab, h.ag⟩
theorem GX.callC {w W : World} {gm gr : Nat} {b c : Nat → Nat} {p q : Nat → Int} {W' : World} {k bx : Nat} {v : Int} {o : StR} (h : GX w W gm gr b c p q bx o) (hk : k < 2) (m : Met W' (c k) v) (l : Only (c k) W W') : GX w W' gm gr b c p (upd q k v) bx o := ⟨h.g.callC hk m l, h.x.only l (h.ab k hk).2, h.ab, h.ag⟩
theorem GX.newB {w W : World} {gm gr : Nat} {b c : Nat → Nat} {p q : Nat → Int} {W1 : World} {k n bx : Nat} {v : Int} {o : StR} (h : GX w W gm gr b c p q bx o) (hk : k < 2) (hn : n = W.heap.size) (m : Met W1 n v) (l : Below W.heap.size W W1) : GX w (W1.setCell ⟨gm, k, none⟩ (.pointer (some ⟨n, 0, none⟩))) gm gr (upd b k n) c (upd p k v) q bx o := by
  refine ⟨h.g.newB hk hn m l, (h.x.past l).only ((Only.refl gm _).set _ _) h.ag.1, fun i hi => ?_, h.ag⟩
  have hx := World.block_lt_of_cell? W _ h.x.1
  by_cases e : i = k
  · subst e; rw [upd_same]; have hx2 : bx < W.heap.size := hx; exact ⟨by omega, (h.ab i hi).2⟩
  · rw [upd_other _ _ _ _ e]; exact h.ab i hi
set_option maxHeartbeats 1000000 in
/-- the lists at first -/
theorem GM.new {w W : World} {g1 g2 b0 b1 c0 c1 : Nat} {s t : Int} (hb0 : Met W b0 s) (hb1 : Met W b1 t) (hc0 : Met W c0 s) (hc1 : Met W c1 t) (p0 : W.cell? ⟨g1, 0, none⟩ = some (.pointer (some ⟨b0, 0, none⟩)) ∧ W.frozen? ⟨g1, 0, none⟩ = false) (p1 : W.cell? ⟨g1, 1, none⟩ = some (.pointer (some ⟨b1, 0, none⟩)) ∧ W.frozen? ⟨g1, 1, none⟩ = false) (q0 : W.cell? ⟨g2, 0, none⟩ = some (.pointer (some ⟨c0, 0, none⟩)) ∧ W.frozen? ⟨g2, 0, none⟩ = false) (q1 : W.cell? ⟨g2, 1, none⟩ = some (.pointer (some ⟨c1, 0, none⟩)) ∧ W.frozen? ⟨g2, 1, none⟩ = false)
    (o0 : w.heap.size ≤ b0) (o1 : b0 < b1) (o2 : b1 < g1) (o3 : g1 < c0) (o4 : c0 < c1) (o5 : c1 < g2) (bel : Below w.heap.size w W) : GM w W g1 g2 (fun i => if i = 0 then b0 else b1) (fun i => if i = 0 then c0 else c1) (fun i => if i = 0 then s else t) (fun i => if i = 0 then s else t) := by
  have two : ∀ i, i < 2 → i = 0 ∨ i = 1 := fun i hi => by omega
  refine ⟨fun i hi => ?_, fun i hi => ?_, fun i hi => ?_, fun i hi => ?_, fun i hi => ?_, fun i hi => ?_, fun i j hi hj => ?_, fun i j hi hj hij => ?_, fun i j hi hj hij => ?_, ⟨by omega, by omega, by omega⟩, bel⟩
  · rcases two i hi with rfl | rfl
    · exact p0
    · exact p1
  · rcases two i hi with rfl | rfl
    · exact q0
    · exact q1
  · rcases two i hi with rfl | rfl
    · exact hb0
    · exact hb1
  · rcases two i hi with rfl | rfl
    · exact hc0
    · exact hc1
  all_goals (try (rcases two i hi with rfl | rfl)) <;> (try (rcases two j hj with rfl | rfl)) <;> simp <;> omega
end Go.Proofs.Ytpgjchkfglkgcaa
