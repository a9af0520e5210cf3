/- Containers that may be: what follows of Check; how many bytes there are. -/
import Derived.Test.YtndhabhlajldeaaBkj
import Derived.Test.YtndhabhlajldeaaBkk
namespace Go.Proofs.Ytndhabhlajldeaa
open Go.RowKit
/-- not too great for the laws -/
def Small (c : Con) : Prop := c.ts.length + c.cs.length + c.ss.length + c.d.length + c.cs.flatten.length + c.ss.flatten.length ≤ 16777216
theorem chkT_ok : ∀ (l : List Ty) (i : Nat), chkT i l = 0 → ∀ t ∈ l, TyOk t
  | [], _, _ => fun t ht => by cases ht
  | x :: l, i, h => by
    unfold chkT at h
    split at h
    · exact absurd h (by decide)
    · rename_i hb
      intro t ht
      rcases List.mem_cons.1 ht with rfl | ht
      · have h0 : okIn i t.1 = true := by
          cases e : okIn i t.1
          · exact absurd (by unfold tyBad; rw [if_pos e]; omega) hb
          · rfl
        have h1 : okOut i t.2.1 = true := by
          cases e : okOut i t.2.1
          · exact absurd (by unfold tyBad; rw [if_neg (by rw [h0]; decide), if_pos e]; omega) hb
          · rfl
        have h2 : okMost t.2.2 = true := by
          cases e : okMost t.2.2
          · exact absurd (by unfold tyBad; rw [if_neg (by rw [h0]; decide), if_neg (by rw [h1]; decide), if_pos e]; omega) hb
          · rfl
        unfold okIn at h0
        unfold okOut at h1
        unfold okMost at h2
        simp at h0 h1 h2
        unfold TyOk
        omega
      · exact chkT_ok l (i + 1) h t ht
theorem chkP_ok (m : Nat) : ∀ l : List (List Nat), chkP m l = 0 → ∀ x ∈ l, 0 < x.length ∧ x.length ≤ m
  | [], _ => fun x hx => by cases hx
  | y :: l, h => by
    unfold chkP at h
    split at h
    · exact absurd h (by decide)
    · split at h
      · exact absurd h (by decide)
      · intro x hx
        rcases List.mem_cons.1 hx with rfl | hx
        · omega
        · exact chkP_ok m l h x hx
/-- what Check asks -/
structure May (c : Con) : Prop where
  n1 : 0 < c.cs.length
  n2 : c.cs.length ≤ 1024
  nt : c.ts.length = c.cs.length
  pc : chkP 65535 c.cs = 0
  ns : c.ss.length ≤ 256
  ps : chkP 4294967295 c.ss = 0
  z1 : c.n ≤ 65535
  z2 : (c.d.length : Int) ≤ c.n
  ty : chkT 0 c.ts = 0
theorem chk_may {c : Con} (h : chk c = 0) : May c := by
  unfold chk at h
  split at h
  · exact absurd h (by decide)
  rename_i h1
  split at h
  · exact absurd h (by decide)
  rename_i h2
  split at h
  · exact absurd h (by assumption)
  rename_i h3
  split at h
  · exact absurd h (by decide)
  rename_i h4
  split at h
  · exact absurd h (by assumption)
  rename_i h5
  split at h
  · exact absurd h (by decide)
  rename_i h6
  split at h
  · exact absurd h (by decide)
  rename_i h7
  exact ⟨by omega, by omega, by omega, by simpa using h3, by omega, by simpa using h5, by omega, by omega, h⟩
theorem may_chk {c : Con} (h : May c) : chk c = 0 := by
  have := h.n1; have := h.n2; have := h.nt; have := h.ns; have := h.z1; have := h.z2
  unfold chk
  rw [if_neg (by omega), if_neg (by omega), if_neg (by rw [h.pc]; simp), if_neg (by omega), if_neg (by rw [h.ps]; simp), if_neg (by omega), if_neg (by omega)]
  exact h.ty
theorem sum_lns : ∀ l : List (List Nat), sumL (lns l) = l.flatten.length
  | [] => rfl
  | x :: l => by rw [lns, List.map_cons, sumL_cons, List.flatten_cons, List.length_append, ← sum_lns l]; rfl
theorem hd_len (cs ss : List Nat) (n : Nat) : (hd cs ss n).length = 13 + 2 * cs.length + (if ss.length = 0 then 0 else 3 + 4 * ss.length) := by
  unfold hd
  split
  · simp only [List.length_append, List.length_cons, List.length_nil, dig_len, flat_len]; omega
  · simp only [List.length_append, List.length_cons, List.length_nil, dig_len, flat_len]; omega
theorem lns_len (l : List (List Nat)) : (lns l).length = l.length := by simp [lns]
theorem ser_len {c : Con} (h : May c) : (ser c).length = (hd (lns c.cs) (lns c.ss) c.n.toNat).length + (4 * (lns c.cs).length + sumL (lns c.cs) + sumL (lns c.ss)) + c.d.length := by
  unfold ser
  simp only [List.length_append, tys_len, sum_lns, lns_len, h.nt]
  omega
theorem ser_small {c : Con} (h : May c) (hs : Small c) : (ser c).length ≤ 67108864 := by
  rw [ser_len h, hd_len, sum_lns, sum_lns, lns_len, lns_len]
  unfold Small at hs
  have := h.n2
  have := h.ns
  split <;> omega
theorem lns_lt {c : Con} (hs : Small c) : (∀ x ∈ lns c.cs, x < 18446744073709551616) ∧ ∀ x ∈ lns c.ss, x < 18446744073709551616 := by
  have key : ∀ (l : List (List Nat)) (x : Nat), x ∈ lns l → x ≤ l.flatten.length := by
    intro l x hx
    obtain ⟨y, hy, rfl⟩ := List.mem_map.1 hx
    exact (List.sublist_flatten_of_mem hy).length_le
  unfold Small at hs
  exact ⟨fun x hx => by have := key _ x hx; omega, fun x hx => by have := key _ x hx; omega⟩
theorem App.nil_below {B : Nat} {t : TypeId} {s : Nat} {W W' : World} {v' : Value} {n c : Nat} {cs : List Value} (h : App B t s W W' (.slice none 0 c) v' n cs) : Below W.heap.size W W' := ⟨h.but.os, h.but.tape, h.but.output, h.but.size, fun k hk => h.but.block k hk fun e => by cases e⟩
theorem make0 (W : World) (M : Nat) (hM : M ≤ 140737488355328) : ∃ W1, Sem.run Try.prog (Instr.makeSlice 22 (.int .i64 0) (.int .i64 (M : Int))) W = .ok (.slice (some ⟨W.heap.size, 0, none⟩) 0 M) W1 ∧ W1.ownsRow W.heap.size 5 1 (.slice (some ⟨W.heap.size, 0, none⟩) 0 M) 0 (bV []) ∧ Below W.heap.size W W1 := by
  obtain ⟨i0, hi0, hz0, hz1, hz2⟩ := info_parts Try.info8
  have h := run_make (P := Try.prog) W 22 5 i0 (.int .u8 0) Try.underlying22 hi0 hz0 .i64 .i64 0 (M : Int) (by omega) (by omega) (by rw [hz2]; omega) (by omega)
  rw [hz1, Int.toNat_natCast, Nat.mul_one] at h
  refine ⟨_, h, ⟨rfl, Or.inr ⟨W.heap.size, M, madeCells (Value.int .u8 0).cells M, rfl, Nat.le_refl _, heap_alloc_new W _, Nat.zero_le _, by unfold maxLen; omega, by rw [size_madeCells]; omega, by simp [bV]⟩⟩, below_alloc _ _⟩
end Go.Proofs.Ytndhabhlajldeaa
