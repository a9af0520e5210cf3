/- A sponge in its block: 25 lanes and a place; lay. -/
import Derived.Test.YtbjijbgjnammhaaDoorKq
import Derived.BigRegion
namespace Go.Proofs.YtbjijbgjnammhaaDoor
open Go.RowKit
/-- all that was there but block b is as it was -/
structure Only (b : Nat) (w w' : World) : Prop where
  os : w'.os = w.os
  tape : w'.tape = w.tape
  output : w'.output = w.output
  size : w.heap.size ≤ w'.heap.size
  block : ∀ k, k < w.heap.size → k ≠ b → w'.heap[k]? = w.heap[k]?
theorem Only.refl (b : Nat) (w : World) : Only b w w := ⟨rfl, rfl, rfl, Nat.le_refl _, fun _ _ _ => rfl⟩
theorem Only.trans {b : Nat} {u v w : World} (h : Only b u v) (k : Only b v w) : Only b u w :=
  ⟨k.os.trans h.os, k.tape.trans h.tape, k.output.trans h.output, Nat.le_trans h.size k.size, fun i hi hb => (k.block i (Nat.lt_of_lt_of_le hi h.size) hb).trans (h.block i hi hb)⟩
theorem Below.only {w w' : World} (h : Below w.heap.size w w') (b : Nat) : Only b w w' := ⟨h.os, h.tape, h.output, h.size, fun k hk _ => h.block k hk⟩
theorem Only.below {b B : Nat} {w w' : World} (h : Only b w w') (hb : B ≤ b) (hB : B ≤ w.heap.size) : Below B w w' := ⟨h.os, h.tape, h.output, h.size, fun k hk => h.block k (by omega) (by omega)⟩
theorem Only.cell {b : Nat} {w w' : World} (h : Only b w w') {p : Addr} (hp : p.block < w.heap.size) (hb : p.block ≠ b) : w'.cell? p = w.cell? p := World.cell?_of_block (w := w) (h.block p.block hp hb)
theorem Only.frozen {b : Nat} {w w' : World} (h : Only b w w') {p : Addr} (hp : p.block < w.heap.size) (hb : p.block ≠ b) : w'.frozen? p = w.frozen? p := World.frozen?_of_block (w := w) (h.block p.block hp hb)
theorem Only.set {b : Nat} {w w' : World} (h : Only b w w') (o : Nat) (x : Value) : Only b w (w'.setCell ⟨b, o, none⟩ x) :=
  h.trans ⟨rfl, rfl, rfl, by simp [World.setCell], fun k _ hb => Below.heap_setCell _ _ _ _ hb⟩
theorem Only.drew {b : Nat} {w w' : World} (h : Only b w w') : Only b w w'.drew := ⟨h.os, h.tape, h.output, h.size, h.block⟩
theorem Only.sets {b : Nat} {w w' : World} (h : Only b w w') : ∀ (vs : List Value) (o : Nat), Only b w (w'.setCells b o vs) := by
  intro vs
  induction vs generalizing w' with
  | nil => intro o; exact h
  | cons v r ih => intro o; rw [World.setCells]; exact ih (h.set o v) (o + 1)
theorem Tabs.only {w w' : World} {b : Nat} (h : Tabs w) (k : Only b w w') (hb : 2 < b) : Tabs w' := by
  have g2 := h.lt
  exact ⟨fun i hi => (k.cell (p := ⟨0, i, none⟩) (by show 0 < _; omega) (by show 0 ≠ _; omega)).trans (h.1 i hi), fun j v hv => (k.cell (p := ⟨1, 0 + j, none⟩) (by show 1 < _; omega) (by show 1 ≠ _; omega)).trans (h.2.1 j v hv), fun i hi => (k.cell (p := ⟨2, i, none⟩) g2 (by show 2 ≠ _; omega)).trans (h.2.2 i hi)⟩
/-- block b is a sponge: these lanes, this place -/
def Spo (w : World) (b : Nat) (f : KSt) (p : Nat) : Prop := Row w b 25 (iv f) ∧ w.cell? ⟨b, 25, none⟩ = some (.int .i64 (p : Int)) ∧ w.frozen? ⟨b, 25, none⟩ = false
theorem Spo.lt {w : World} {b : Nat} {f : KSt} {p : Nat} (h : Spo w b f p) : b < w.heap.size := h.1.lt (by omega)
theorem Spo.below {w w' : World} {B b : Nat} {f : KSt} {p : Nat} (h : Spo w b f p) (k : Below B w w') (hb : b < B) : Spo w' b f p :=
  ⟨h.1.below k hb, (k.cell (p := ⟨b, 25, none⟩) hb).trans h.2.1, (k.frozen (p := ⟨b, 25, none⟩) hb).trans h.2.2⟩
def layF (f : KSt) (p x : Nat) : KSt := fun i => if i = p / 8 then f i ^^^ (BitVec.ofNat 64 x <<< (8 * (p % 8))) else f i
theorem lay_val (f : KSt) (p x : Nat) : bits .xor .u64 (iv f (p / 8)) (IntKind.u64.wrap ((x : Int) * 2 ^ (8 * (p % 8)))) = iv (layF f p x) (p / 8) := by
  have e : IntKind.u64.wrap ((x : Int) * 2 ^ (8 * (p % 8))) = ((BitVec.ofNat 64 x <<< (8 * (p % 8))).toNat : Int) := by
    rw [IntKind.wrap_u64, BitVec.toNat_shiftLeft, BitVec.toNat_ofNat, Nat.shiftLeft_eq, Nat.mod_mul_mod, Int.natCast_emod, Int.natCast_mul, Int.natCast_pow]; rfl
  rw [e, iv, xor64, iv, layF, if_pos rfl]
set_option maxHeartbeats 1000000 in
theorem lay_is (w : World) (b : Nat) (f : KSt) (q p x : Nat) (h : Spo w b f q) (hp : p < 136) (hx : x < 256) :
    Calls Tryd.prog 15 #[.pointer (some ⟨b, 0, none⟩), .int .i64 (p : Int), .int .u8 (x : Int)] w fun e w' => e = .returned (.tuple #[]) ∧ Spo w' b (layF f p x) q ∧ Only b w w' := by
  obtain ⟨d, ed⟩ : ∃ d : Nat, d = p / 8 := ⟨_, rfl⟩
  obtain ⟨r, er⟩ : ∃ r : Nat, r = p % 8 := ⟨_, rfl⟩
  obtain ⟨s, es⟩ : ∃ s : Nat, s = 8 * r := ⟨_, rfl⟩
  have t1 : Int.tdiv (p : Int) 8 = (d : Int) := by rw [Int.tdiv_eq_ediv_of_nonneg (by omega)]; omega
  have t2 : Int.tmod (p : Int) 8 = (r : Int) := by rw [Int.tmod_eq_emod_of_nonneg (by omega)]; omega
  have t3 : (8 : Int) * (r : Int) = (s : Int) := by omega
  have q1 : IntKind.i64.wrap (d : Int) = (d : Int) := by rw [IntKind.wrap_i64]; omega
  have q2 : IntKind.i64.wrap (r : Int) = (r : Int) := by rw [IntKind.wrap_i64]; omega
  have q3 : IntKind.i64.wrap (s : Int) = (s : Int) := by rw [IntKind.wrap_i64]; omega
  have q4 : IntKind.u64.wrap (x : Int) = (x : Int) := by rw [IntKind.wrap_u64]; omega
  have q5 : min s 64 = s := by omega
  have dI : (d : Int) < 25 := by omega
  have dN : d < 25 := by omega
  have sI : (0 : Int) ≤ (s : Int) := by omega
  have ca := (h.1 d dN).1
  have fa := (h.1 d dN).2
  have ev := lay_val f p x
  rw [← ed, ← er, ← es] at ev
  obtain ⟨z, ez⟩ : ∃ z, iv (layF f p x) d = z := ⟨_, rfl⟩
  rw [ez] at ev
  have HK : Hid (Spo (w.setCell ⟨b, d, none⟩ (.int .u64 z)).drew b (layF f p x) q ∧ Only b w (w.setCell ⟨b, d, none⟩ (.int .u64 z)).drew) := by
    refine ⟨⟨((h.1.set d z dN).drew).ext ?_, ?_, ?_⟩, ((Only.refl b w).set d _).drew⟩
    · intro i hi
      by_cases e : i = d
      · rw [if_pos e, e, ez]
      · rw [if_neg e, iv, iv, layF, if_neg (by omega)]
    · show (w.setCell _ _).cell? _ = _
      rw [World.cell?_setCell_other _ _ _ _ (by intro e; injection e with _ e _; omega)]; exact h.2.1
    · show (w.setCell _ _).frozen? _ = _
      rw [World.frozen?_setCell]; exact h.2.2
  generalize iv f d = y at ca ev
  clear ed er es ez h hp hx
  go_enter Tryd.func15, Tryd.ntmps15
  go_region
  go_end0
  exact ⟨rfl, HK.out⟩
end Go.Proofs.YtbjijbgjnammhaaDoor
