/- What the law of rows keeps: the word, the bytes laid; strings out of bytes; bytes that are lent. -/
import Derived.Test.YtlemnjhdnciddaaGmr
import Derived.Test.YtlemnjhdnciddaaGmb
import Derived.Laws.BytesString
namespace Go.Proofs.Ytlemnjhdnciddaa
open Go.RowKit
def textB (u : Nat → Nat) (n : Nat) : ByteArray := ((List.range n).map fun i => (u i : Int)).foldl (fun r m => r.push (UInt8.ofNat m.toNat)) ByteArray.empty
theorem conv_by (W : World) (v : Value) (n : Nat) (u : Nat → Nat) (h : By W v n u) : (convert 31 9 v).run Try.prog W = .ok (.string (textB u n)) W := by
  obtain ⟨ad, cap, rfl, _, _, hc⟩ := h
  rw [run_convert_bytes_string W _ _ _ _ _ _ Try.underlying31 Try.underlying5 Try.underlying9]
  rcases ad with _ | ad
  · have hn0 : n = 0 := Classical.byContradiction fun h => by obtain ⟨_, _, h', _⟩ := hc (by omega); cases h'
    subst hn0
    simp [Conv.bytesToString, textB]
  · have hl : (loadCells ad n).run Try.prog W = .ok (((List.range n).map fun i => (u i : Int)).map (Value.int .u8)).toArray W := by
      have hh := run_loadCells_list (P := Try.prog) W ad (((List.range n).map fun i => (u i : Int)).map (Value.int .u8)) (fun j v hv => by
        have hj : j < n := by have := (List.getElem?_eq_some_iff.1 hv).1; simpa using this
        obtain ⟨g, o, e, hc2⟩ := hc (by omega)
        obtain rfl := Option.some.inj e
        rw [Addr.add_mid, hc2 j hj]
        simp [hj] at hv
        rw [← hv])
      simpa using hh
    rw [run_bytesToString W ad n cap _ hl]
    rfl
theorem conv_nil (W : World) : (convert 31 9 (.slice none 0 0)).run Try.prog W = .ok (.string (textB (fun _ => 0) 0)) W := conv_by W _ 0 _ ⟨none, 0, rfl, by omega, by omega, fun h => absurd h (by omega)⟩
theorem owns_emptyC (w : World) : (w.alloc (.cells #[] 5)).ownsRow w.heap.size 5 1 (.slice (some ⟨w.heap.size, 0, none⟩) 0 0) 0 [] :=
  ⟨rfl, Or.inr ⟨w.heap.size, 0, #[], rfl, Nat.le_refl _, heap_new w _, by simp, by simp, by simp⟩⟩
theorem By.own {W : World} {B n : Nat} {v : Value} {u : Nat → Nat} (h : W.ownsRow B 5 1 v n (bD u n)) (hn : n ≤ 1152921504606846976) : By W v n u := by
  by_cases h0 : n = 0
  · subst h0
    obtain ⟨ad, c, rfl⟩ := owns_any h
    exact ⟨ad, c, rfl, by omega, by omega, fun h => absurd h (by omega)⟩
  · obtain ⟨g, c, rfl, _, hc⟩ := owns_slice (by omega) h
    exact ⟨_, c, rfl, hc, hn, fun _ => ⟨g, 0, rfl, fun i hi => by rw [Nat.zero_add, h.cellAt i (by omega), bD_at u n i hi]⟩⟩
/-- append([]byte{}, w...) -/
theorem wp_copyB {o : Oper} {a : Act} {z : World} {K : Act → World → Prop} {Q : Exit → Act → World → Prop} (s x : Operand) (ho : o.op = .call { callee := .builtin .append, args := #[s, x], argTypes := #[31, 31] }) (hs : a.eval s = .slice (some ⟨z.heap.size, 0, none⟩) 0 0) (g T c : Nat) (u : Nat → Nat) (hx : a.eval x = .slice (some ⟨g, 0, none⟩) T c) (hu : ByC z g 0 T u) (hT : T ≤ 70000)
    (h : ∀ v' w', By w' v' T u → Below z.heap.size z w' → K (a.put o.dst v') w') : o.wp Try.prog a (z.alloc (.cells #[] 5)) K Q := by
  obtain ⟨i0, hi, hz0, hz1, hz2⟩ := info_partsB Try.info8
  have hb : Below z.heap.size z (z.alloc (.cells #[] 5)) := (Below.refl _ _).alloc (Nat.le_refl _) _
  refine wp_append_own _ s x 31 ho z.heap.size 5 i0 (.int .u8 0) 1 1 Try.underlying31 hi hz0 hz1 hz2 rfl (by decide) _ 0 [] hs (owns_emptyC z) ⟨g, 0, none⟩ T c (bD u T) hx (by rw [bD_len]; omega) (fun j y hy => ?_) (fun y hy => ?_) (by unfold maxLen; omega) (by omega) hb.size (fun v' w' q1 q2 _ => ?_)
  · have hj : j < T := by have h9 := (List.getElem?_eq_some_iff.1 hy).1; rwa [bD_len] at h9
    rw [bD_at _ _ _ hj] at hy
    obtain rfl := Option.some.inj hy
    rw [Addr.add_mid]
    exact (hu.past hb) j hj
  · obtain ⟨i, _, rfl⟩ := List.mem_map.1 hy
    rfl
  · rw [Nat.zero_add, List.nil_append] at q1
    exact h v' w' (By.own q1 (by omega)) (Below.grown hb q2 hb.size (fun q h => by have := (owns_emptyC z).lt q h; exact this.1))
/-- the word's box, and the row of bytes that is written over -/
structure MR (w W : World) (a0 a1 a2 a3 : Int) (bx g T : Nat) (u : Nat → Nat) : Prop where
  z : Bz w a0 a1 a2 a3 bx W
  row : ByC W g 0 T u
  fz : ∀ j, j < T → W.frozen? ⟨g, j, none⟩ = false
  lt : g < W.heap.size
  ge : w.heap.size ≤ g
  ne : bx ≠ g
theorem MR.past {w W W' : World} {a0 a1 a2 a3 : Int} {bx g T : Nat} {u : Nat → Nat} (h : MR w W a0 a1 a2 a3 bx g T u) (k : Below W.heap.size W W') : MR w W' a0 a1 a2 a3 bx g T u :=
  ⟨h.z.past k, h.row.past k, fun j hj => (k.frozen (p := ⟨g, j, none⟩) h.lt).trans (h.fz j hj), Nat.lt_of_lt_of_le h.lt k.size, h.ge, h.ne⟩
theorem MR.drew {w W : World} {a0 a1 a2 a3 : Int} {bx g T : Nat} {u : Nat → Nat} (h : MR w W a0 a1 a2 a3 bx g T u) : MR w W.drew a0 a1 a2 a3 bx g T u := h.past ((Below.refl _ _).drew)
theorem MR.by {w W : World} {a0 a1 a2 a3 : Int} {bx g T K c : Nat} {u : Nat → Nat} (h : MR w W a0 a1 a2 a3 bx g T u) (hK : K ≤ T) (hc : K ≤ c) (h7 : K ≤ 70000) : By W (.slice (some ⟨g, 0, none⟩) K c) K u := ⟨_, c, rfl, hc, by omega, fun _ => ⟨g, 0, rfl, fun i hi => h.row i (by omega)⟩⟩
theorem MR.set {w W : World} {a0 a1 a2 a3 : Int} {bx g T : Nat} {u : Nat → Nat} (h : MR w W a0 a1 a2 a3 bx g T u) (i x : Nat) (hi : i < T) : MR w (W.setCell ⟨g, i, none⟩ (.int .u8 (x : Int))) a0 a1 a2 a3 bx g T (fun j => if j = i then x else u j) := by
  have hc := h.row i hi
  rw [Nat.zero_add] at hc
  refine ⟨?_, fun j hj => ?_, fun j hj => by rw [World.frozen?_setCell]; exact h.fz j hj, by simpa [World.setCell] using h.lt, h.ge, h.ne⟩
  · obtain ⟨⟨c0, c1, c2, c3, _⟩, hb⟩ := h.z
    have off : ∀ j, (W.setCell ⟨g, i, none⟩ (.int .u8 (x : Int))).cell? ⟨bx, j, none⟩ = W.cell? ⟨bx, j, none⟩ := fun j => World.cell?_setCell_other _ _ _ _ (by intro e; injection e with e1 _ _; exact h.ne e1.symm)
    exact ⟨⟨(off 0).trans c0, (off 1).trans c1, (off 2).trans c2, (off 3).trans c3, trivial⟩, hb.setCell h.ge _⟩
  · rw [Nat.zero_add]
    by_cases e : j = i
    · subst e; simp; exact World.cell?_setCell_same _ _ _ hc
    · rw [set_off _ e]; simp [e]; have := h.row j hj; rwa [Nat.zero_add] at this
theorem xor_byte (x y : Int) : ∃ z : Nat, bits .xor .u8 x y = (z : Int) ∧ z < 256 := by
  refine ⟨(bits .xor .u8 x y).toNat, ?_, ?_⟩
  · have : 0 ≤ bits .xor .u8 x y := by unfold bits; rw [IntKind.wrap_u8]; omega
    omega
  · have : bits .xor .u8 x y < 256 := by unfold bits; rw [IntKind.wrap_u8]; omega
    have : 0 ≤ bits .xor .u8 x y := by unfold bits; rw [IntKind.wrap_u8]; omega
    omega
end Go.Proofs.Ytlemnjhdnciddaa
