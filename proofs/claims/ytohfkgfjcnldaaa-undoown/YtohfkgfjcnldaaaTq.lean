/- Package undo: Back, Forget. -/
import Derived.Test.YtohfkgfjcnldaaaTp
namespace Go.Proofs.Ytohfkgfjcnldaaa
open Go.RowKit Go.Shelf
attribute [local go_sem] Oper.semAt_some
def u0 : Un := ⟨0, 0, (0, 0), 0, 0, 0⟩
def vL (V : List Un) (i : Nat) : Un := V[i]?.getD u0
theorem vL_mem {V : List Un} {i : Nat} (h : i < V.length) : vL V i ∈ V := by
  unfold vL
  rw [List.getElem?_eq_getElem h]
  exact List.getElem_mem h
/-- the rows when the last j changes are taken back -/
def stB (V : List Un) (L : List (Int × Int)) : Nat → List (Int × Int)
  | 0 => L
  | j + 1 => apU (vL V (V.length - 1 - j)) (stB V L j)
/-- all changes can be taken back -/
def OkB (V : List Un) (L : List (Int × Int)) : Prop := ∀ j, j < V.length → okU (vL V (V.length - 1 - j)) (stB V L j)
theorem apU_len (u : Un) (L : List (Int × Int)) : (apU u L).length ≤ L.length + 1 := by
  unfold apU
  split
  · rw [remL_len]; omega
  · split
    · rw [List.length_set]; omega
    · rw [insL_len]; omega
theorem stB_len (V : List Un) (L : List (Int × Int)) : ∀ j, (stB V L j).length ≤ L.length + j
  | 0 => Nat.le_refl _
  | j + 1 => by have := stB_len V L j; have := apU_len (vL V (V.length - 1 - j)) (stB V L j); unfold stB; omega
theorem vL_app {V : List Un} {u : Un} {j : Nat} (hj : j < V.length) : vL (V ++ [u]) ((V ++ [u]).length - 1 - (j + 1)) = vL V (V.length - 1 - j) := by
  unfold vL
  rw [List.length_append, List.length_singleton, Nat.add_sub_cancel, show V.length - (j + 1) = V.length - 1 - j by omega, List.getElem?_append_left (by omega)]
theorem vL_end {V : List Un} {u : Un} : vL (V ++ [u]) ((V ++ [u]).length - 1 - 0) = u := by unfold vL; simp
theorem stB_noted {V : List Un} {L L' : List (Int × Int)} {u : Un} (h : apU u L' = L) : ∀ j, j ≤ V.length → stB (V ++ [u]) L' (j + 1) = stB V L j
  | 0, _ => by
    show apU (vL (V ++ [u]) ((V ++ [u]).length - 1 - 0)) L' = L
    rw [vL_end, h]
  | j + 1, hj => by
    show apU (vL (V ++ [u]) ((V ++ [u]).length - 1 - (j + 1))) (stB (V ++ [u]) L' (j + 1)) = apU (vL V (V.length - 1 - j)) (stB V L j)
    rw [vL_app (by omega), stB_noted h j (by omega)]
theorem OkB.noted {V : List Un} {L L' : List (Int × Int)} {u : Un} (h : OkB V L) (ho : okU u L') (ha : apU u L' = L) : OkB (V ++ [u]) L' := by
  intro j hj
  cases j with
  | zero => rw [vL_end]; exact ho
  | succ j =>
    rw [List.length_append, List.length_singleton] at hj
    rw [vL_app (by omega), stB_noted ha j (by omega)]
    exact h j (by omega)
theorem vL_take {V : List Un} {f j : Nat} (hf : f ≤ V.length) (hj : j < f) : vL (V.take f) ((V.take f).length - 1 - j) = vL V (V.length - 1 - (V.length - f + j)) := by
  unfold vL
  rw [List.length_take, Nat.min_eq_left hf, List.getElem?_take_of_lt (by omega), show V.length - 1 - (V.length - f + j) = f - 1 - j by omega]
theorem stB_take {V : List Un} {L : List (Int × Int)} {f : Nat} (hf : f ≤ V.length) : ∀ j, j ≤ f → stB (V.take f) (stB V L (V.length - f)) j = stB V L (V.length - f + j)
  | 0, _ => rfl
  | j + 1, hj => by
    show apU (vL (V.take f) ((V.take f).length - 1 - j)) (stB (V.take f) (stB V L (V.length - f)) j) = apU (vL V (V.length - 1 - (V.length - f + j))) (stB V L (V.length - f + j))
    rw [vL_take hf (by omega), stB_take hf j (by omega)]
theorem OkB.take {V : List Un} {L : List (Int × Int)} {f : Nat} (h : OkB V L) (hf : f ≤ V.length) : OkB (V.take f) (stB V L (V.length - f)) := by
  intro j hj
  rw [List.length_take, Nat.min_eq_left hf] at hj
  rw [vL_take hf hj, stB_take hf j (by omega)]
  exact h _ (by omega)
theorem slice_tail {e t : TypeId} {size : Nat} (ht : Try.prog.underlying t = some (.slice e)) (he : Try.prog.elem t = e) (hs : ∀ W, (sizeOf e).run Try.prog W = .ok size W) {W : World} {ad : Option Addr} {n cap : Nat} {xs : List Value} (h : W.ownsRow 0 e size (.slice ad n cap) n xs) (f : Nat) (hf : f ≤ n) :
    ∃ a1 c1 g, (∀ W', (Instr.slice t (.slice ad n cap) (some (.int .i64 (f : Int))) none none).run Try.prog W' = .ok (.slice a1 (n - f) c1) W') ∧ (0 < n - f → a1 = some ⟨g, f * size, none⟩ ∧ ad = some ⟨g, 0, none⟩) := by
  have ht' : Try.prog.underlying t = some (.slice (Try.prog.elem t)) := by rw [he]; exact ht
  have hsl : ∀ W', (Instr.slice t (.slice ad n cap) (some (.int .i64 (f : Int))) none none).run Try.prog W' = .ok (sliced ad f n cap size) W' := fun W' => by
    have h9 := run_slice_l (P := Try.prog) W' t ad n cap ht' .i64 (f : Int) (by omega) (by omega)
    rw [he, hs, Result.andThen_ok, Int.toNat_natCast] at h9
    exact h9
  by_cases hd : 0 < n - f
  · cases ad with
    | none =>
      rcases h.2 with ⟨_, rfl⟩ | ⟨g, c, cur, e1, _⟩
      · omega
      · cases e1
    | some a =>
      obtain ⟨e1, _, cur, h2, h3, _⟩ := owns_row_some h
      have ea1 : (⟨a.block, 0, none⟩ : Addr).add (f * size) = ⟨a.block, f * size, none⟩ := by
        unfold Addr.add
        by_cases e : f * size = 0
        · rw [e]; rfl
        · simp [e]
      refine ⟨some ⟨a.block, f * size, none⟩, cap - f, a.block, fun W' => ?_, fun _ => ⟨rfl, congrArg some e1⟩⟩
      rw [hsl, e1]
      unfold sliced
      rw [if_neg (by omega), Option.map_some, ea1]
  · exact ⟨_, _, 0, hsl, fun h => absurd h hd⟩
/-- blocks that are no cells may be turned, from B on -/
theorem tab_own {B b pm : Nat} {ra : Option Addr} {rc : Nat} {ba : Option Addr} {bc : Nat} {ma : Option Addr} {mc : Nat} {m : Int → Option Nat} {L : List (Int × Int)} {U : List Value} {M : List Nat} {X Y : World} {row : Option Nat} (h : Tab X b pm ra rc ba bc ma mc m L U M) (hp : pm < B) (hg : X.grownBy Y row) (hr : ∀ r, row = some r → B ≤ r ∧ ∃ o : Obj, X.heap[r]? = some o ∧ o.isCells = false) : But (fun k => row = some k) X Y ∧ ∀ j, TS b pm ra ba ma j → ¬ row = some j := by
  refine ⟨grown_but hg (fun k e => e), fun j hj e => ?_⟩
  obtain ⟨h1, o, ho, hc⟩ := hr j e
  have cells : ∀ {e' : TypeId} {size n cap k : Nat} {ad : Option Addr} {xs : List Value}, X.ownsRow 0 e' size (.slice ad n cap) k xs → Own ad j → False := fun hR hO => by
    obtain ⟨a, rfl, rfl⟩ := hO
    obtain ⟨_, _, cur, h2, _⟩ := owns_row_some hR
    rw [h2] at ho
    cases ho
    cases hc
  rcases hj with rfl | rfl | hj | hj | hj
  · rw [show X.heap[j]? = _ from h.box] at ho
    cases ho
    cases hc
  · omega
  · exact cells h.rows hj
  · exact cells h.backs hj
  · exact cells h.marks hj
theorem box_own {B t : TypeId} {l : List Value} {X : World} {row : Option Nat} (h : CBox X B t l) (hr : ∀ r, row = some r → ∃ o : Obj, X.heap[r]? = some o ∧ o.isCells = false) : ¬ row = some B := fun e => by
  obtain ⟨o, ho, hc⟩ := hr B e
  rw [show X.heap[B]? = _ from h] at ho
  cases ho
  cases hc
end Go.Proofs.Ytohfkgfjcnldaaa
