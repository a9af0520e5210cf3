/- Package undo: tables, and the calls that take changes back. -/
import Derived.Test.YtohfkgfjcnldaaaTj
namespace Go.Proofs.Ytohfkgfjcnldaaa
open Go.RowKit
theorem insT (w : World) (b pm : Nat) (ra : Option Addr) (rc : Nat) (ba : Option Addr) (bc : Nat) (ma : Option Addr) (mc : Nat) (m : Int → Option Nat) (L : List (Int × Int)) (U : List Value) (M : List Nat) (h : Tab w b pm ra rc ba bc ma mc m L U M) (i : Nat) (r : Int × Int) (hi : i ≤ L.length) (hr : m r.1 = none) (kr : I64 r.1) (hL : L.length < 549755813888) :
    Calls Try.prog 70 #[.pointer (some ⟨b, 0, none⟩), .int .i64 (i : Int), .agg #[.int .i64 r.1, .int .i64 r.2]] w fun e w' => e = .returned (.tuple #[]) ∧ ∃ ra' rc' m', Tab w' b pm ra' rc' ba bc ma mc m' (insL L i r) U M ∧ But (TS b pm ra ba ma) w w' ∧ Grown (TS b pm ra ba ma) (TS b pm ra' ba ma) w := by
  have hp : (L ++ [r])[i]? = some (atL (L ++ [r]) i) := atL_get (by simp; omega)
  have kp : I64 (atL (L ++ [r]) i).1 := by
    by_cases e : i < L.length
    · rw [app_at_lt L r e]; exact h.keys _ (atL_mem e)
    · obtain rfl : i = L.length := by omega
      rw [app_at_end]; exact kr
  refine (insert_is w b pm ra rc ba bc ma mc L.length m L U M h.toTab0 i _ r hp kp kr hL (by omega)).mono ?_
  rintro e w' ⟨rfl, ra', rc', h1, h2, h3⟩
  refine ⟨rfl, ra', rc', _, ⟨?_, ix_ins h.ix i r hi hr, keys_ins h.keys i r hi kr⟩, h2, h3⟩
  have hs : stepN (stepN L.length m r.1) (upd m r.1 (some i)) (atL (L ++ [r]) i).1 = (insL L i r).length := by
    rw [insL_len]
    unfold stepN
    rw [hr]
    have e1 : (upd m r.1 (some i) (atL (L ++ [r]) i).1).isSome = true := by
      by_cases e : i < L.length
      · rw [app_at_lt L r e]
        unfold upd
        split
        · rfl
        · rw [h.ix.key e]; rfl
      · obtain rfl : i = L.length := by omega
        rw [app_at_end, upd_same]; rfl
    rw [e1]
    rfl
  rw [← hs]
  exact h1
theorem remT (w : World) (b pm : Nat) (ra : Option Addr) (rc : Nat) (ba : Option Addr) (bc : Nat) (ma : Option Addr) (mc : Nat) (m : Int → Option Nat) (L : List (Int × Int)) (U : List Value) (M : List Nat) (h : Tab w b pm ra rc ba bc ma mc m L U M) (i : Nat) (hi : i < L.length) (hL : L.length < 549755813888) :
    Calls Try.prog 73 #[.pointer (some ⟨b, 0, none⟩), .int .i64 (i : Int)] w fun e w' => e = .returned (.agg #[.int .i64 (atL L i).1, .int .i64 (atL L i).2]) ∧ ∃ m', Tab w' b pm ra rc ba bc ma mc m' (remL L i) U M ∧ But (TS b pm ra ba ma) w w' := by
  obtain ⟨lt, hlt⟩ : ∃ lt, L.length = lt + 1 := ⟨L.length - 1, by omega⟩
  refine (remove_is w b pm ra rc ba bc ma mc L.length m L U M h.toTab0 i lt hlt _ _ (atL_get hi) (atL_get (by omega)) (h.keys _ (atL_mem hi)) (h.keys _ (atL_mem (by omega))) hL (by omega)).mono ?_
  rintro e w' ⟨rfl, h1, h2⟩
  refine ⟨rfl, _, ⟨?_, ix_rem h.ix i lt hlt hi, keys_rem h.keys i hi⟩, h2⟩
  have hs : stepN (stepN L.length m (atL L lt).1) (upd m (atL L lt).1 (some i)) (atL L i).1 - 1 = (remL L i).length := by
    rw [remL_len]
    unfold stepN
    rw [h.ix.key (i := lt) (by omega)]
    have e1 : (upd m (atL L lt).1 (some i) (atL L i).1).isSome = true := by
      unfold upd
      split
      · rfl
      · rw [h.ix.key hi]; rfl
    rw [e1]
    rfl
  have hl : remL L i = (swapL L i lt (atL L i) (atL L lt)).take lt := by unfold remL; rw [hlt, Nat.add_sub_cancel]
  rw [← hs, hl]
  exact h1
/-- a call that takes a change back: which one, its place, its row, and where its captured variables lie -/
structure Un where
  kd : Nat
  at_ : Nat
  r : Int × Int
  x : Nat
  y : Nat
  z : Nat
def uv (u : Un) : Value := if u.kd = 0 then .func (.func 72) #[] #[.pointer (some ⟨u.x, 0, none⟩), .pointer (some ⟨u.y, 0, none⟩)] else if u.kd = 1 then .func (.func 74) #[] #[.pointer (some ⟨u.z, 0, none⟩), .pointer (some ⟨u.x, 0, none⟩), .pointer (some ⟨u.y, 0, none⟩)] else .func (.func 75) #[] #[.pointer (some ⟨u.x, 0, none⟩), .pointer (some ⟨u.y, 0, none⟩), .pointer (some ⟨u.z, 0, none⟩)]
structure UnOk (W : World) (b : Nat) (S : Nat → Prop) (u : Un) : Prop where
  cx : CBox W u.x 24 [.pointer (some ⟨b, 0, none⟩)]
  cy : CBox W u.y 3 [.int .i64 (u.at_ : Int)]
  cz : u.kd ≠ 0 → CBox W u.z 112 [.int .i64 u.r.1, .int .i64 u.r.2]
  nx : ¬ S u.x
  ny : ¬ S u.y
  nz : u.kd ≠ 0 → ¬ S u.z
theorem UnOk.but {S S' : Nat → Prop} {W W' : World} {b : Nat} {u : Un} (h : UnOk W b S u) (hB : But S W W') (hG : Grown S S' W) : UnOk W' b S' u := by
  have go : ∀ k, k < W.heap.size → ¬ S k → ¬ S' k := fun k hk hn e => by
    rcases hG k e with h1 | h1
    · exact hn h1
    · omega
  exact ⟨h.cx.but hB h.nx, h.cy.but hB h.ny, fun e => (h.cz e).but hB (h.nz e), go _ h.cx.lt h.nx, go _ h.cy.lt h.ny, fun e => go _ (h.cz e).lt (h.nz e)⟩
theorem UnOk.kept {S T : Nat → Prop} {W W' : World} {b : Nat} {u : Un} (h : UnOk W b S u) (hB : But T W W') (hT : ∀ k, T k → ¬ (k = u.x ∨ k = u.y ∨ (u.kd ≠ 0 ∧ k = u.z))) : UnOk W' b S u :=
  ⟨h.cx.but hB (fun e => hT _ e (Or.inl rfl)), h.cy.but hB (fun e => hT _ e (Or.inr (Or.inl rfl))), fun e => (h.cz e).but hB (fun e2 => hT _ e2 (Or.inr (Or.inr ⟨e, rfl⟩))), h.nx, h.ny, h.nz⟩
/-- what a call that takes back makes of the rows -/
def apU (u : Un) (L : List (Int × Int)) : List (Int × Int) := if u.kd = 0 then remL L u.at_ else if u.kd = 1 then L.set u.at_ u.r else insL L u.at_ u.r
def okU (u : Un) (L : List (Int × Int)) : Prop := if u.kd = 0 then u.at_ < L.length else if u.kd = 1 then u.at_ < L.length ∧ (atL L u.at_).1 = u.r.1 ∧ I64 u.r.1 else u.at_ ≤ L.length ∧ (∀ j, j < L.length → (atL L j).1 ≠ u.r.1) ∧ I64 u.r.1
/-- calls that take back, the newest first, that can be made one behind the other -/
def Ch : List Un → List (Int × Int) → Prop
  | [], _ => True
  | u :: R, L => okU u L ∧ Ch R (apU u L)
theorem ins_rem (L : List (Int × Int)) (i : Nat) (hi : i < L.length) : insL (remL L i) i (atL L i) = L := by
  apply List.ext_getElem?
  intro k
  rw [insL_at _ _ _ (by rw [remL_len]; omega), remL_len]
  by_cases e : k = L.length - 1
  · rw [if_pos e]
    subst e
    by_cases e2 : i = L.length - 1
    · have : atL (remL L i ++ [atL L i]) i = atL L i := by
        have h9 := app_at_end (remL L i) (atL L i)
        rw [remL_len, ← e2] at h9
        exact h9
      rw [this, e2]
      exact (atL_get (by omega)).symm
    · rw [app_at_lt _ _ (by rw [remL_len]; omega)]
      have : atL (remL L i) i = atL L (L.length - 1) := by
        unfold atL
        rw [remL_at L i hi, if_pos (by omega), if_pos rfl]
        rfl
      rw [this]
      exact (atL_get (by omega)).symm
  · rw [if_neg e]
    by_cases e2 : k = i
    · rw [if_pos e2, e2]
      exact (atL_get hi).symm
    · rw [if_neg e2, remL_at L i hi]
      by_cases e3 : k < L.length - 1
      · rw [if_pos e3, if_neg e2]
      · rw [if_neg e3, List.getElem?_eq_none (by omega)]
theorem rem_app (L : List (Int × Int)) (r : Int × Int) : remL (insL L L.length r) L.length = L := by
  apply List.ext_getElem?
  intro k
  rw [remL_at _ _ (by rw [insL_len]; omega), insL_len, Nat.add_sub_cancel]
  by_cases e : k < L.length
  · rw [if_pos e, if_neg (by omega), insL_at _ _ _ (Nat.le_refl _), if_neg (by omega), if_neg (by omega)]
  · rw [if_neg e, List.getElem?_eq_none (by omega)]
theorem set_set (L : List (Int × Int)) (i : Nat) (r : Int × Int) (hi : i < L.length) : (L.set i r).set i (atL L i) = L := by
  apply List.ext_getElem?
  intro k
  by_cases e : k = i
  · subst e
    rw [List.getElem?_set_self (by rw [List.length_set]; exact hi), atL_get hi]
  · rw [List.getElem?_set_ne (Ne.symm e), List.getElem?_set_ne (Ne.symm e)]
theorem atL_set_same (L : List (Int × Int)) (i : Nat) (r : Int × Int) (hi : i < L.length) : atL (L.set i r) i = r := by unfold atL; rw [List.getElem?_set_self hi]; rfl
/-- block b is a table, its blocks S -/
def TabU (W : World) (b : Nat) (S : Nat → Prop) (L : List (Int × Int)) (V : List Un) (M : List Nat) : Prop :=
  ∃ pm ra rc ba bc ma mc m, Tab W b pm ra rc ba bc ma mc m L (V.map uv) M ∧ S = TS b pm ra ba ma ∧ ∀ u ∈ V, UnOk W b S u
theorem TabU.lt {W : World} {b : Nat} {S : Nat → Prop} {L : List (Int × Int)} {V : List Un} {M : List Nat} (h : TabU W b S L V M) (j : Nat) (hj : S j) : j < W.heap.size := by
  obtain ⟨pm, ra, rc, ba, bc, ma, mc, m, h1, rfl, _⟩ := h
  exact h1.toTab0.lt j hj
theorem TabU.own {W : World} {b : Nat} {S : Nat → Prop} {L : List (Int × Int)} {V : List Un} {M : List Nat} (h : TabU W b S L V M) : S b := by
  obtain ⟨pm, ra, rc, ba, bc, ma, mc, m, h1, rfl, _⟩ := h
  exact Or.inl rfl
/-- blocks that a table's calls read -/
def UB (V : List Un) (k : Nat) : Prop := ∃ u ∈ V, k = u.x ∨ k = u.y ∨ (u.kd ≠ 0 ∧ k = u.z)
theorem TabU.but {S T : Nat → Prop} {W W' : World} {b : Nat} {L : List (Int × Int)} {V : List Un} {M : List Nat} (h : TabU W b S L V M) (hB : But T W W') (hs : ∀ j, S j → ¬ T j) (hu : ∀ j, UB V j → ¬ T j) : TabU W' b S L V M := by
  obtain ⟨pm, ra, rc, ba, bc, ma, mc, m, h1, rfl, h2⟩ := h
  exact ⟨pm, ra, rc, ba, bc, ma, mc, m, h1.but hB hs, rfl, fun u hm => (h2 u hm).kept hB (fun k hk e => hu k ⟨u, hm, e⟩ hk)⟩
theorem TabU.past {S : Nat → Prop} {W W' : World} {b : Nat} {L : List (Int × Int)} {V : List Un} {M : List Nat} (h : TabU W b S L V M) (k : Below W.heap.size W W') : TabU W' b S L V M := h.but (below_but (S := fun _ => False) k) (fun _ _ => id) (fun _ _ => id)
end Go.Proofs.Ytohfkgfjcnldaaa
