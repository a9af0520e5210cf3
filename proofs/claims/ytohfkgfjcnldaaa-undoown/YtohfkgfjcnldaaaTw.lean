/- The document's table: New, Marks, place, Get; append of a part of a list. -/
import Derived.Test.YtohfkgfjcnldaaaTs
import Derived.Laws.MakeOwn
import Derived.Laws.AppendOwnNone
namespace Go.Proofs.Ytohfkgfjcnldaaa
open Go.RowKit Go.Shelf
/-- v is a list of these pairs in a block of its own, or nil -/
def PrL (W : World) (v : Value) (l : List (Int × Int)) : Prop := W.ownsRow 0 62 2 v l.length (rowsD l)
theorem PrL.form {W : World} {v : Value} {l : List (Int × Int)} (h : PrL W v l) : ∃ ad cap, v = .slice ad l.length cap := by
  rcases h.2 with ⟨rfl, e⟩ | ⟨g, c, cur, rfl, _⟩
  · exact ⟨none, 0, by rw [e]⟩
  · exact ⟨_, _, rfl⟩
theorem PrL.at {W : World} {ad : Option Addr} {n cap : Nat} {l : List (Int × Int)} (h : PrL W (.slice ad n cap) l) {i : Nat} {p : Int × Int} (hi : l[i]? = some p) : ∃ g, ad = some ⟨g, 0, none⟩ ∧ W.cell? ⟨g, i * 2, none⟩ = some (.int .i64 p.1) ∧ W.cell? ⟨g, i * 2 + 1, none⟩ = some (.int .i64 p.2) := by
  obtain ⟨h1, h2⟩ := rowsD_get l i p hi
  obtain ⟨g, e1, c1, _⟩ := row_cell h h1
  obtain ⟨g', e2, c2, _⟩ := row_cell h h2
  obtain rfl : g = g' := by rw [e1] at e2; injection e2 with e2; injection e2
  exact ⟨g, e1, c1, c2⟩
/-- where a key stands, or would -/
def plc (l : List (Int × Int)) (k : Int) : Nat := (l.takeWhile fun p => decide (p.1 < k)).length
theorem plc_le (l : List (Int × Int)) (k : Int) : plc l k ≤ l.length := by unfold plc; exact (List.takeWhile_sublist _).length_le
theorem plc_lt : ∀ (l : List (Int × Int)) (k : Int) (i : Nat), i < plc l k → (atL l i).1 < k
  | [], k, i, h => by unfold plc at h; simp at h
  | p :: l, k, i, h => by
    unfold plc at h
    rw [List.takeWhile_cons] at h
    split at h
    · rename_i hp
      cases i with
      | zero => simpa [atL] using hp
      | succ i =>
        have := plc_lt l k i (by unfold plc; simpa using h)
        simpa [atL] using this
    · simp at h
theorem plc_ge : ∀ (l : List (Int × Int)) (k : Int), plc l k < l.length → ¬ (atL l (plc l k)).1 < k
  | [], k, h => by simp [plc] at h
  | p :: l, k, h => by
    by_cases hp : p.1 < k
    · have e : plc (p :: l) k = plc l k + 1 := by unfold plc; rw [List.takeWhile_cons, if_pos (by simpa using hp)]; rfl
      rw [e] at h ⊢
      have := plc_ge l k (by simpa using h)
      simpa [atL] using this
    · have e : plc (p :: l) k = 0 := by unfold plc; rw [List.takeWhile_cons, if_neg (by simpa using hp)]; rfl
      rw [e]
      simpa [atL] using hp
set_option maxHeartbeats 1000000 in
theorem place_some (w : World) (g cap : Nat) (l : List (Int × Int)) (k : Int) (h : PrL w (.slice (some ⟨g, 0, none⟩) l.length cap) l) (hl : l.length < 549755813888) : Calls Try.prog 62 #[.slice (some ⟨g, 0, none⟩) l.length cap, .int .i64 k] w fun e w' => e = .returned (.int .i64 (plc l k : Int)) ∧ w' = w := by
  have H0 : Hid (PrL w (.slice (some ⟨g, 0, none⟩) l.length cap) l) := h
  obtain ⟨n, en⟩ : ∃ n, l.length = n := ⟨_, rfl⟩
  have EN : Hid (l.length = n) := en
  have nX : (n : Int) < 549755813888 := by omega
  have PL : Hid (plc l k ≤ n) := by rw [← en]; exact plc_le l k
  rw [en]
  clear h hl en
  go_enter Try.func62, Try.ntmps62
  go_wp2
  go_loopw [5] (fun s wr => ∃ i : Nat, s = .int .i64 (i : Int) ∧ i ≤ plc l k ∧ wr = w) (fun s _ => n - (intOf s).toNat)
  case atStart => exact ⟨0, rfl, Nat.zero_le _, rfl⟩
  case round =>
    obtain ⟨i, rfl, hi, hw⟩ := hrel
    subst hw
    by_cases h1 : i < n
    · have iI : (i : Int) < (n : Int) := by omega
      obtain ⟨g', e, c0, _⟩ := H0.out.at (atL_get (L := l) (i := i) (by rw [EN.out]; exact h1))
      injection e with e
      injection e with e
      subst e
      by_cases h2 : i < plc l k
      · have c1 : (atL l i).1 < k := plc_lt l k i h2
        have HI : Hid (i + 1 ≤ plc l k) := h2
        clear h2
        generalize (atL l i).1 = z at c0 c1
        go_wp2
        go_roundw
        case rel => exact ⟨i + 1, by go_num, HI.out, trivial⟩
        case measure => simp [intOf]; omega
      · have ei : i = plc l k := by omega
        have c1 : ¬ (atL l i).1 < k := by rw [ei]; exact plc_ge l k (by rw [EN.out, ← ei]; exact h1)
        have EI : Hid (i = plc l k) := ei
        clear h2 ei hi
        generalize (atL l i).1 = z at c0 c1
        go_wp2
        go_ret
        rw [EI.out]
        exact ⟨rfl, rfl⟩
    · have iI : ¬ (i : Int) < (n : Int) := by omega
      have EI : Hid (i = plc l k) := by have := PL.out; unfold Hid; omega
      clear h1 hi
      go_wp2
      go_ret
      rw [EI.out]
      exact ⟨rfl, rfl⟩
set_option maxHeartbeats 1000000 in
theorem place_none (w : World) (ad : Option Addr) (cap : Nat) (k : Int) : Calls Try.prog 62 #[.slice ad 0 cap, .int .i64 k] w fun e w' => e = .returned (.int .i64 0) ∧ w' = w := by
  go_enter Try.func62, Try.ntmps62
  go_wp2
  refine wp_loop_rounds 1 ?_
  rw [rounds_succ]
  go_wp2
  go_ret
  exact ⟨rfl, rfl⟩
theorem place_is (w : World) (ad : Option Addr) (cap : Nat) (l : List (Int × Int)) (k : Int) (h : PrL w (.slice ad l.length cap) l) (hl : l.length < 549755813888) : Calls Try.prog 62 #[.slice ad l.length cap, .int .i64 k] w fun e w' => e = .returned (.int .i64 (plc l k : Int)) ∧ w' = w := by
  by_cases e : l.length = 0
  · obtain rfl := List.eq_nil_of_length_eq_zero e
    exact place_none w ad cap k
  · obtain ⟨g, rfl, _⟩ := h.at (atL_get (L := l) (i := 0) (by omega))
    exact place_some w g cap l k h hl
end Go.Proofs.Ytohfkgfjcnldaaa
