/- Package undo: New, Len, Marks, isMark, Get. -/
import Derived.Test.YtohfkgfjcnldaaaTb
namespace Go.Proofs.Ytohfkgfjcnldaaa
open Go.RowKit
theorem Tab0.c0 {W : World} {n : Nat} {b pm : Nat} {ra : Option Addr} {rc : Nat} {ba : Option Addr} {bc : Nat} {ma : Option Addr} {mc : Nat} {m : Int → Option Nat} {L : List (Int × Int)} {U : List Value} {M : List Nat} (h : Tab0 W b pm ra rc ba bc ma mc n m L U M) : W.cell? ⟨b, 0, none⟩ = some (.slice ra L.length rc) := h.box.cell 0
theorem Tab0.c1 {W : World} {n : Nat} {b pm : Nat} {ra : Option Addr} {rc : Nat} {ba : Option Addr} {bc : Nat} {ma : Option Addr} {mc : Nat} {m : Int → Option Nat} {L : List (Int × Int)} {U : List Value} {M : List Nat} (h : Tab0 W b pm ra rc ba bc ma mc n m L U M) : W.cell? ⟨b, 1, none⟩ = some (.map (some pm)) := h.box.cell 1
theorem Tab0.c2 {W : World} {n : Nat} {b pm : Nat} {ra : Option Addr} {rc : Nat} {ba : Option Addr} {bc : Nat} {ma : Option Addr} {mc : Nat} {m : Int → Option Nat} {L : List (Int × Int)} {U : List Value} {M : List Nat} (h : Tab0 W b pm ra rc ba bc ma mc n m L U M) : W.cell? ⟨b, 2, none⟩ = some (.slice ba U.length bc) := h.box.cell 2
theorem Tab0.c3 {W : World} {n : Nat} {b pm : Nat} {ra : Option Addr} {rc : Nat} {ba : Option Addr} {bc : Nat} {ma : Option Addr} {mc : Nat} {m : Int → Option Nat} {L : List (Int × Int)} {U : List Value} {M : List Nat} (h : Tab0 W b pm ra rc ba bc ma mc n m L U M) : W.cell? ⟨b, 3, none⟩ = some (.slice ma M.length mc) := h.box.cell 3
theorem Tab0.fr {W : World} {n : Nat} {b pm : Nat} {ra : Option Addr} {rc : Nat} {ba : Option Addr} {bc : Nat} {ma : Option Addr} {mc : Nat} {m : Int → Option Nat} {L : List (Int × Int)} {U : List Value} {M : List Nat} (h : Tab0 W b pm ra rc ba bc ma mc n m L U M) (j : Nat) : W.frozen? ⟨b, j, none⟩ = false := h.box.frozen j
theorem row_cell {W : World} {e : TypeId} {size n cap k : Nat} {ad : Option Addr} {xs : List Value} (h : W.ownsRow 0 e size (.slice ad n cap) k xs) {j : Nat} {u : Value} (hj : xs[j]? = some u) : ∃ g, ad = some ⟨g, 0, none⟩ ∧ W.cell? ⟨g, j, none⟩ = some u ∧ W.frozen? ⟨g, j, none⟩ = false := by
  cases ad with
  | none =>
    rcases h.2 with ⟨_, rfl⟩ | ⟨g, c, cur, e1, _⟩
    · have := h.1
      rw [Nat.zero_mul] at this
      rw [List.eq_nil_of_length_eq_zero this] at hj
      cases hj
    · cases e1
  | some a =>
    obtain ⟨e1, rfl, cur, h2, h3, h4, h5, h6⟩ := owns_row_some h
    refine ⟨a.block, congrArg some e1, ?_, by simp [World.frozen?, h2]⟩
    have hc := h.cells (g := a.block) rfl j u hj
    have e2 : (⟨a.block, 0, none⟩ : Addr).add j = ⟨a.block, j, none⟩ := by
      unfold Addr.add
      by_cases e : j = 0
      · subst e; rfl
      · simp [e]
    rwa [e2] at hc
theorem Tab0.row {W : World} {n : Nat} {b pm : Nat} {ra : Option Addr} {rc : Nat} {ba : Option Addr} {bc : Nat} {ma : Option Addr} {mc : Nat} {m : Int → Option Nat} {L : List (Int × Int)} {U : List Value} {M : List Nat} (h : Tab0 W b pm ra rc ba bc ma mc n m L U M) {i : Nat} {p : Int × Int} (hi : L[i]? = some p) : ∃ g, ra = some ⟨g, 0, none⟩ ∧ W.cell? ⟨g, i * 2, none⟩ = some (.int .i64 p.1) ∧ W.cell? ⟨g, i * 2 + 1, none⟩ = some (.int .i64 p.2) ∧ W.frozen? ⟨g, i * 2, none⟩ = false ∧ W.frozen? ⟨g, i * 2 + 1, none⟩ = false := by
  obtain ⟨h1, h2⟩ := rowsD_get L i p hi
  obtain ⟨g, e1, c1, f1⟩ := row_cell h.rows h1
  obtain ⟨g', e2, c2, f2⟩ := row_cell h.rows h2
  obtain rfl : g = g' := by rw [e1] at e2; injection e2 with e2; injection e2
  exact ⟨g, e1, c1, c2, f1, f2⟩
theorem new_is (w : World) : Calls Try.prog 37 #[] w fun e w' => e = .returned (.pointer (some ⟨w.heap.size + 1, 0, none⟩)) ∧ Tab w' (w.heap.size + 1) w.heap.size none 0 none 0 none 0 (fun _ => none) [] [] [] ∧ Below w.heap.size w w' := by
  have hmm := @run_makeMap Try.prog
  go_enter Try.func37, Try.ntmps37
  go_wp2
  go_ret
  refine ⟨by simp, ?_, ((Below.refl _ w).alloc (Nat.le_refl _) _).alloc (by simp) _⟩
  have e1 : (w.alloc (.map #[] 0)).heap.size = w.heap.size + 1 := by simp
  have h1 := CBox.new (w.alloc (.map #[] 0)) 109 [.slice none 0 0, .map (some w.heap.size), .slice none 0 0, .slice none 0 0]
  rw [e1] at h1
  refine ⟨⟨h1, World.ownsRow_nil _ _ _ _, World.ownsRow_nil _ _ _ _, World.ownsRow_nil _ _ _ _, ?_⟩, fun k i => by simp, fun p hp => by cases hp⟩
  exact (PM.new w).block (Below.heap_alloc _ _ _ (by simp))
theorem len_is (w : World) (b pm : Nat) (ra : Option Addr) (rc : Nat) (ba : Option Addr) (bc : Nat) (ma : Option Addr) (mc : Nat) (m : Int → Option Nat) (L : List (Int × Int)) (U : List Value) (M : List Nat) (h : Tab w b pm ra rc ba bc ma mc m L U M) : Calls Try.prog 48 #[.pointer (some ⟨b, 0, none⟩)] w fun e w' => e = .returned (.int .i64 (L.length : Int)) ∧ w' = w := by
  have c0 := h.c0
  clear h
  generalize L.length = n at *
  go_enter Try.func48, Try.ntmps48
  go_wp2
  go_ret
  exact ⟨rfl, rfl⟩
theorem marks_is (w : World) (b pm : Nat) (ra : Option Addr) (rc : Nat) (ba : Option Addr) (bc : Nat) (ma : Option Addr) (mc : Nat) (m : Int → Option Nat) (L : List (Int × Int)) (U : List Value) (M : List Nat) (h : Tab w b pm ra rc ba bc ma mc m L U M) : Calls Try.prog 41 #[.pointer (some ⟨b, 0, none⟩)] w fun e w' => e = .returned (.int .i64 (M.length : Int)) ∧ w' = w := by
  have c0 := h.c3
  clear h
  generalize M.length = n at *
  go_enter Try.func41, Try.ntmps41
  go_wp2
  go_ret
  exact ⟨rfl, rfl⟩
theorem isMark_is (w : World) (b pm : Nat) (ra : Option Addr) (rc : Nat) (ba : Option Addr) (bc : Nat) (ma : Option Addr) (mc : Nat) (m : Int → Option Nat) (L : List (Int × Int)) (U : List Value) (M : List Nat) (h : Tab w b pm ra rc ba bc ma mc m L U M) (k : Int) : Calls Try.prog 76 #[.pointer (some ⟨b, 0, none⟩), .int .i64 k] w fun e w' => e = .returned (.bool (decide (0 ≤ k ∧ k < (M.length : Int)))) ∧ w' = w := by
  have c0 := h.c3
  clear h
  generalize M.length = n at *
  by_cases g0 : 0 ≤ k
  · by_cases g1 : k < (n : Int)
    · rw [decide_eq_true ⟨g0, g1⟩]
      go_enter Try.func76, Try.ntmps76
      go_wp2
      go_ret
      exact ⟨rfl, rfl⟩
    · rw [decide_eq_false (fun h => g1 h.2)]
      go_enter Try.func76, Try.ntmps76
      go_wp2
      go_ret
      exact ⟨rfl, rfl⟩
  · rw [decide_eq_false (fun h => g0 h.1)]
    go_enter Try.func76, Try.ntmps76
    go_wp2
    go_ret
    exact ⟨rfl, rfl⟩
/-- the value of a key -/
def valL (m : Int → Option Nat) (L : List (Int × Int)) (k : Int) : Int := match m k with
  | none => 0
  | some i => (L[i]?.map Prod.snd).getD 0
theorem get_is (w : World) (b pm : Nat) (ra : Option Addr) (rc : Nat) (ba : Option Addr) (bc : Nat) (ma : Option Addr) (mc : Nat) (m : Int → Option Nat) (L : List (Int × Int)) (U : List Value) (M : List Nat) (h : Tab w b pm ra rc ba bc ma mc m L U M) (k : Int) (hk : I64 k) (hL : L.length < 1099511627776) : Calls Try.prog 44 #[.pointer (some ⟨b, 0, none⟩), .int .i64 k] w fun e w' => e = .returned (.tuple #[.int .i64 (valL m L k), .bool (m k).isSome]) ∧ w' = w := by
  have c0 := h.c0
  have c1 := h.c1
  have hl := h.pl.look k hk
  cases e : m k with
  | none =>
    have hv : valL m L k = 0 := by unfold valL; rw [e]
    rw [e] at hl
    rw [hv]
    clear hv
    simp only [Option.getD_none, Option.isSome_none] at hl
    clear h e
    generalize L.length = n at *
    go_enter Try.func44, Try.ntmps44
    go_wp2
    go_ret2
    exact ⟨rfl, rfl⟩
  | some i =>
    rw [e] at hl
    simp only [Option.getD_some, Option.isSome_some] at hl
    have hi := (h.ix k i).1 e
    cases e2 : L[i]? with
    | none => rw [e2] at hi; cases hi
    | some p =>
      have hv : valL m L k = p.2 := by unfold valL; rw [e]; simp [e2]
      rw [hv]
      obtain ⟨g, rfl, d0, d1, f0, f1⟩ := h.row e2
      have hlt : i < L.length := by rw [List.getElem?_eq_some_iff] at e2; exact e2.1
      have iI : (i : Int) < (L.length : Int) := by omega
      have iX : (i : Int) ≤ 1099511627776 := by omega
      clear h e e2 hi hlt f0 f1 d0 hv
      generalize L.length = n at *
      generalize p.2 = y at *
      go_enter Try.func44, Try.ntmps44
      go_wp2
      go_ret2
      exact ⟨rfl, rfl⟩
end Go.Proofs.Ytohfkgfjcnldaaa
