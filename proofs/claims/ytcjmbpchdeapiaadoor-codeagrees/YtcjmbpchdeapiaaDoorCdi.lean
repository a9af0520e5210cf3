/- Package code: the places at which instructions begin. -/
import Derived.Test.YtcjmbpchdeapiaaDoorCdc
namespace Go.Proofs.YtcjmbpchdeapiaaDoor
open Go.RowKit
/-- how many immediate bytes the instruction at A has -/
def immA (b : Nat → Nat) (A : Nat) : Nat := immN (immT (b A)) (b (A + 1))
/-- does an instruction stand at A? -/
def okA (b : Nat → Nat) (L A : Nat) : Bool := decide (A < L) && (isOp (b A) && decide (A + 1 + immA b A ≤ L))
def nxA (b : Nat → Nat) (A : Nat) : Nat := A + 1 + immA b A
def posA (b : Nat → Nat) : Nat → Nat
  | 0 => 0
  | k + 1 => nxA b (posA b k)
/-- the first k instructions stand -/
def UptoA (b : Nat → Nat) (L k : Nat) : Prop := ∀ j, j < k → okA b L (posA b j) = true
theorem okA_parts {b : Nat → Nat} {L A : Nat} (h : okA b L A = true) : A < L ∧ isOp (b A) = true ∧ A + 1 + immA b A ≤ L := by
  unfold okA at h
  rw [Bool.and_eq_true, Bool.and_eq_true, decide_eq_true_eq, decide_eq_true_eq] at h
  exact h
theorem okA_mk {b : Nat → Nat} {L A : Nat} (h1 : A < L) (h2 : isOp (b A) = true) (h3 : A + 1 + immA b A ≤ L) : okA b L A = true := by
  unfold okA
  rw [Bool.and_eq_true, Bool.and_eq_true, decide_eq_true_eq, decide_eq_true_eq]
  exact ⟨h1, h2, h3⟩
theorem uptoA_zero (b : Nat → Nat) (L : Nat) : UptoA b L 0 := fun j hj => by omega
theorem UptoA.succ {b : Nat → Nat} {L k : Nat} (h : UptoA b L k) (hk : okA b L (posA b k) = true) : UptoA b L (k + 1) := fun j hj => by
  by_cases e : j = k
  · subst e; exact hk
  · exact h j (by omega)
theorem UptoA.le {b : Nat → Nat} {L k m : Nat} (h : UptoA b L k) (hm : m ≤ k) : UptoA b L m := fun j hj => h j (by omega)
theorem nxA_gt (b : Nat → Nat) (A : Nat) : A + 1 ≤ nxA b A := by unfold nxA; omega
theorem posA_ge (b : Nat → Nat) : ∀ k, k ≤ posA b k
  | 0 => Nat.le_refl _
  | k + 1 => by have := posA_ge b k; have := nxA_gt b (posA b k); simp only [posA]; omega
theorem posA_lt (b : Nat → Nat) (j : Nat) : ∀ k, j < k → posA b j < posA b k
  | 0, h => by omega
  | k + 1, h => by
    have h2 := nxA_gt b (posA b k)
    simp only [posA]
    by_cases e : j = k
    · subst e; omega
    · have := posA_lt b j k (by omega); omega
theorem UptoA.le_len {b : Nat → Nat} {L k : Nat} (h : UptoA b L k) : posA b k ≤ L := by
  cases k with
  | zero => exact Nat.zero_le _
  | succ k => have := (okA_parts (h k (by omega))).2.2; simp only [posA, nxA]; exact this
theorem UptoA.count {b : Nat → Nat} {L k : Nat} (h : UptoA b L k) : k ≤ L := Nat.le_trans (posA_ge b k) h.le_len
/-- as many as stand -/
def FullA (b : Nat → Nat) (L k : Nat) : Prop := UptoA b L k ∧ okA b L (posA b k) = false
theorem fullA_one {b : Nat → Nat} {L k m : Nat} (h : FullA b L k) (h2 : FullA b L m) : k = m := by
  rcases Nat.lt_trichotomy k m with h3 | h3 | h3
  · have := h2.1 k h3; rw [h.2] at this; cases this
  · exact h3
  · have := h.1 m h3; rw [h2.2] at this; cases this
theorem uptoA_le_full {b : Nat → Nat} {L k m : Nat} (h : UptoA b L m) (h2 : FullA b L k) : m ≤ k := by
  rcases Nat.lt_or_ge k m with h3 | h3
  · have := h k h3; rw [h2.2] at this; cases this
  · exact h3
theorem fullA_ex (b : Nat → Nat) (L : Nat) : ∃ k, FullA b L k := by
  have key : ∀ d k, d + k = L + 1 → UptoA b L k → ∃ m, FullA b L m := by
    intro d
    induction d with
    | zero => intro k e h; have := h.count; omega
    | succ d ih =>
      intro k e h
      cases ho : okA b L (posA b k) with
      | false => exact ⟨k, h, ho⟩
      | true => exact ih (k + 1) (by omega) (h.succ ho)
  exact key (L + 1) 0 (by omega) (uptoA_zero b L)
/-- an instruction of a section as a value: its place, and the block of its immediate bytes -/
def insV (b : Nat → Nat) (x : Nat × Nat) : Value := .agg #[.int .i64 (x.1 : Int), .int .i64 (b x.1 : Int), .slice (some ⟨x.2, 0, none⟩) (immA b x.1) (immA b x.1), .int .i64 (nxA b x.1 : Int)]
/-- these are the first instructions -/
def FitA (b : Nat → Nat) (xs : List (Nat × Nat × Nat)) : Prop := xs.map Prod.fst = (List.range xs.length).map (posA b)
theorem fitA_nil (b : Nat → Nat) : FitA b [] := rfl
theorem FitA.snoc {b : Nat → Nat} {xs : List (Nat × Nat × Nat)} {x : Nat × Nat × Nat} (h : FitA b xs) (hx : x.1 = posA b xs.length) : FitA b (xs ++ [x]) := by
  unfold FitA at h ⊢
  rw [List.map_append, h, List.length_append, List.length_singleton, List.range_succ, List.map_append]
  simp [hx]
theorem FitA.get {b : Nat → Nat} {xs : List (Nat × Nat × Nat)} (h : FitA b xs) {j : Nat} {x : Nat × Nat × Nat} (hx : xs[j]? = some x) : x.1 = posA b j := by
  have hj := (List.getElem?_eq_some_iff.1 hx).1
  have e := congrArg (fun l => l[j]?) h
  simp only [List.getElem?_map, hx, Option.map_some] at e
  rw [List.getElem?_eq_getElem (by simpa using hj)] at e
  simpa using e
/-- an instruction that comes: its place, the block of its immediate bytes, a block that the function that is ranged over reads behind the round -/
def insX (b : Nat → Nat) (x : Nat × Nat × Nat) : Value := insV b (x.1, x.2.1)
/-- how an instruction comes: its immediate bytes lie in a new block -/
def ComeA (b : Nat → Nat) (L : Nat) (pre : List (Nat × Nat × Nat)) (x : Nat × Nat × Nat) (W0 W1 : World) : Prop :=
  Below W0.heap.size W0 W1 ∧ UptoA b L (pre.length + 1) ∧ FitA b pre ∧ x.1 = posA b pre.length ∧ (W0.heap.size ≤ x.2.1 ∧ x.2.1 < x.2.2 ∧ x.2.2 < W1.heap.size) ∧ InsB W1 x.2.1 (immA b x.1) (fun j => b (x.1 + 1 + j))
/-- what One answers at a place where none stands -/
def errA (b : Nat → Nat) (L A : Nat) : Int := if L ≤ A then 1 else if isOp (b A) = true then 61 else 60
theorem one_no (w : World) (v : Value) (L : Nat) (b : Nat → Nat) (A : Nat) (hN : Nms w) (hv : BytesOf w v L b) (hL : L ≤ 1000000) (h : okA b L A = false) : Calls Tryd.prog 21 #[v, .int .i64 (A : Int)] w fun e w' => e = .returned (.tuple #[insZ, .int .i64 (errA b L A)]) ∧ Below w.heap.size w w' := by
  unfold errA
  by_cases h1 : L ≤ A
  · rw [if_pos h1]; exact one_arg w v L b A hv (Or.inr (by omega))
  · rw [if_neg h1]
    cases h2 : isOp (b A) with
    | true =>
      rw [if_pos rfl]
      refine one_imm w v L b A hN hv hL (by omega) h2 ?_
      refine Nat.lt_of_not_le fun h3 => ?_
      rw [okA_mk (by omega) h2 h3] at h; cases h
    | false => rw [if_neg (by decide)]; exact one_op w v L b A hN hv hL (by omega) h2
theorem one_yes (w : World) (v : Value) (L : Nat) (b : Nat → Nat) (A : Nat) (hN : Nms w) (hv : BytesOf w v L b) (hcp : ∀ ad cap, v = .slice ad L cap → L ≤ cap) (hL : L ≤ 1000000) (h : okA b L A = true) : Calls Tryd.prog 21 #[v, .int .i64 (A : Int)] w fun e w' => ∃ q, w.heap.size ≤ q ∧ q < w'.heap.size ∧
    e = .returned (.tuple #[insV b (A, q), .int .i64 0]) ∧ Below w.heap.size w w' ∧ InsB w' q (immA b A) (fun j => b (A + 1 + j)) := by
  obtain ⟨h1, h2, h3⟩ := okA_parts h
  exact one_ok w v L b A hN hv hcp hL h1 h2 h3
end Go.Proofs.YtcjmbpchdeapiaaDoor
