/- SpongePlays: three sponges, and what each has taken. -/
import Derived.Test.YteggikojfkmbkaaDoorVq
import Derived.Test.YteggikojfkmbkaaDoorVn
import Derived.Test.YteggikojfkmbkaaDoorKcc
import Derived.Test.YteggikojfkmbkaaDoorAps
namespace Go.Proofs.YteggikojfkmbkaaDoor
open Go.RowKit
def upd {α : Type} (f : Nat → α) (k : Nat) (x : α) (n : Nat) : α := if n = k then x else f n
theorem upd_same {α : Type} (f : Nat → α) (k : Nat) (x : α) : upd f k x k = x := if_pos rfl
theorem upd_ne {α : Type} (f : Nat → α) (k n : Nat) (x : α) (h : n ≠ k) : upd f k x n = f n := if_neg h
theorem set3 {α : Type} (f : Nat → α) (k : Nat) (x : α) (hk : k < 3) : [f 0, f 1, f 2].set k x = [upd f k x 0, upd f k x 1, upd f k x 2] := by
  have h : k = 0 ∨ k = 1 ∨ k = 2 := by omega
  rcases h with rfl | rfl | rfl <;> rfl
theorem get3 {α : Type} (f : Nat → α) (k : Nat) (hk : k < 3) : [f 0, f 1, f 2][k]? = some (f k) := by
  have h : k = 0 ∨ k = 1 ∨ k = 2 := by omega
  rcases h with rfl | rfl | rfl <;> rfl
theorem rows_ne {W : World} {b1 b2 s1 s2 k1 k2 : Nat} {e1 e2 : TypeId} {v1 v2 : Value} {l1 l2 : List Value} (h1 : W.ownsRow b1 e1 s1 v1 k1 l1) (h2 : W.ownsRow b2 e2 s2 v2 k2 l2) (he : e1 ≠ e2) (q : Nat) (hq : v1.ownBlock = some q) : v2.ownBlock ≠ some q := fun e => by
  rcases h1.2 with ⟨rfl, _⟩ | ⟨g, c, cur, rfl, _, a3, _⟩
  · simp [Value.ownBlock] at hq
  · rcases h2.2 with ⟨rfl, _⟩ | ⟨g', c', cur', rfl, _, b3, _⟩
    · simp [Value.ownBlock] at e
    · simp only [Value.ownBlock, Option.some.injEq] at hq e
      subst hq e
      rw [a3] at b3; cases b3; exact he rfl
theorem row_pastP {w w' : World} {B n s : Nat} {T : TypeId} {v : Value} {xs : List Value} (h : w.ownsRow B T s v n xs) (k : Below w.heap.size w w') : w'.ownsRow B T s v n xs :=
  h.kept (row := none) ⟨k.os, k.tape, k.output, k.size, fun i hi _ => k.block i hi⟩ (by cases hv : v.ownBlock <;> simp)
theorem Only.grownB {g : Nat} {w w' : World} (h : Only g w w') : w.grownBy w' (some g) := ⟨h.os, h.tape, h.output, h.size, fun k hk hne => h.block k hk (fun e => hne (by rw [e]))⟩
theorem spo_row {W : World} {b B n p : Nat} {f : KSt} {e : TypeId} {v : Value} {xs : List Value} (hs : Spo W b f p) (hr : W.ownsRow B e 1 v n xs) (hn : n ≠ 0) (hx : ∀ z, xs[0]? ≠ some (.int .u64 z)) : v.ownBlock ≠ some b := fun e2 => by
  rcases id hr.2 with ⟨rfl, _⟩ | ⟨g, c, cur, rfl, _⟩
  · simp [Value.ownBlock] at e2
  · simp only [Value.ownBlock, Option.some.injEq] at e2
    subst e2
    have h1 := hr.cellAt 0 (by omega)
    rw [(hs.1 0 (by omega)).1] at h1
    exact hx _ h1.symm
theorem Spo.grown {W W' : World} {b p : Nat} {f : KSt} {row : Option Nat} (h : Spo W b f p) (hg : W.grownBy W' row) (hne : row ≠ some b) : Spo W' b f p := by
  have hb : W'.heap[b]? = W.heap[b]? := hg.block b h.lt (fun e => hne e.symm)
  refine ⟨fun i hi => ⟨(World.cell?_of_block (w := W) (a := ⟨b, i, none⟩) hb).trans (h.1 i hi).1, (World.frozen?_of_block (w := W) (a := ⟨b, i, none⟩) hb).trans (h.1 i hi).2⟩, (World.cell?_of_block (w := W) (a := ⟨b, 25, none⟩) hb).trans h.2.1, (World.frozen?_of_block (w := W) (a := ⟨b, 25, none⟩) hb).trans h.2.2⟩
def ptr (b : Nat) : Value := .pointer (some ⟨b, 0, none⟩)
def AB (l : List Nat) : KSt × Nat := absL (zeroK, 0) l
theorem AB_lt (l : List Nat) : (AB l).2 < 136 := absL_lt l (by decide)
theorem AB_app (l m : List Nat) : absL (AB l) m = AB (l ++ m) := by unfold AB absL; rw [List.foldl_append]
/-- three sponges that have taken sk, and the lists tk of what they shall have taken -/
structure PL (w : World) (gl cl gt ct : Nat) (sb : Nat → Nat) (sk tk : Nat → List Nat) (tv : Nat → Value) (W : World) : Prop where
  bel : Below w.heap.size w W
  row : W.ownsRow w.heap.size 42 1 (.slice (some ⟨gl, 0, none⟩) 3 cl) 3 [ptr (sb 0), ptr (sb 1), ptr (sb 2)]
  tak : W.ownsRow w.heap.size 29 1 (.slice (some ⟨gt, 0, none⟩) 3 ct) 3 [tv 0, tv 1, tv 2]
  spo : ∀ j, j < 3 → Spo W (sb j) (AB (sk j)).1 (AB (sk j)).2 ∧ w.heap.size ≤ sb j
  sne : ∀ i j, i < 3 → j < 3 → i ≠ j → sb i ≠ sb j
  own : ∀ j, j < 3 → W.ownsRow w.heap.size 5 1 (tv j) (tk j).length (bytesL (tk j)) ∧ (tv j = .slice none 0 0 ∨ tk j ≠ [])
  tne : ∀ i j, i < 3 → j < 3 → i ≠ j → ∀ q, (tv i).ownBlock = some q → (tv j).ownBlock ≠ some q
section
variable {w : World} {gl cl gt ct : Nat} {sb : Nat → Nat} {sk tk : Nat → List Nat} {tv : Nat → Value} {W W' : World}
theorem PL.past (h : PL w gl cl gt ct sb sk tk tv W) (k : Below W.heap.size W W') : PL w gl cl gt ct sb sk tk tv W' :=
  ⟨h.bel.trans (k.mono h.bel.size), row_pastP h.row k, row_pastP h.tak k, fun j hj => ⟨(h.spo j hj).1.below k (h.spo j hj).1.lt, (h.spo j hj).2⟩, h.sne, fun j hj => ⟨row_pastP (h.own j hj).1 k, (h.own j hj).2⟩, h.tne⟩
theorem PL.glne (h : PL w gl cl gt ct sb sk tk tv W) {j : Nat} (hj : j < 3) : gl ≠ sb j := fun e => spo_row (h.spo j hj).1 h.row (by omega) (fun z e2 => by simp [ptr] at e2) (by rw [← e]; rfl)
theorem PL.gtne (h : PL w gl cl gt ct sb sk tk tv W) {j : Nat} (hj : j < 3) : gt ≠ sb j := fun e => by
  have hc := h.tak.cellAt 0 (by omega)
  rw [e, ((h.spo j hj).1.1 0 (by omega)).1] at hc
  have h0 := (h.own 0 (by omega)).1.2
  rcases h0 with ⟨h0, _⟩ | ⟨g, c, cur, h0, _⟩ <;> (rw [h0] at hc; simp at hc)
theorem PL.tvne (h : PL w gl cl gt ct sb sk tk tv W) {i j : Nat} (hi : i < 3) (hj : j < 3) : (tv i).ownBlock ≠ some (sb j) := by
  rcases (h.own i hi).2 with e | e
  · rw [e]; simp [Value.ownBlock]
  · refine spo_row (h.spo j hj).1 (h.own i hi).1 (fun e2 => e (List.length_eq_zero_iff.1 e2)) (fun z e2 => ?_)
    obtain ⟨_, e3⟩ := bytesL_at (tk i) 0 _ e2
    cases e3
theorem PL.only (h : PL w gl cl gt ct sb sk tk tv W) {k : Nat} (hk : k < 3) (ho : Only (sb k) W W') {l : List Nat} (hs : Spo W' (sb k) (AB l).1 (AB l).2) : PL w gl cl gt ct sb (upd sk k l) tk tv W' := by
  have hg := ho.grownB
  refine ⟨h.bel.trans (ho.below (h.spo k hk).2 h.bel.size), h.row.kept hg (Or.inr (by simp only [Value.ownBlock, ne_eq, Option.some.injEq]; exact h.glne hk)), h.tak.kept hg (Or.inr (by simp only [Value.ownBlock, ne_eq, Option.some.injEq]; exact h.gtne hk)), fun j hj => ?_, h.sne, fun j hj => ⟨(h.own j hj).1.kept hg (Or.inr (h.tvne hj hk)), (h.own j hj).2⟩, h.tne⟩
  by_cases e : j = k
  · subst e; rw [upd_same]; exact ⟨hs, (h.spo j hj).2⟩
  · rw [upd_ne _ _ _ _ e]; exact ⟨(h.spo j hj).1.only ho (h.sne j k hj hk e), (h.spo j hj).2⟩
theorem PL.wipe (h : PL w gl cl gt ct sb sk tk tv W) {g : Nat} (ho : Only g W W') (hw : w.heap.size ≤ g) (n1 : gl ≠ g) (n2 : gt ≠ g) (n3 : ∀ j, j < 3 → sb j ≠ g) (n4 : ∀ j, j < 3 → (tv j).ownBlock ≠ some g) : PL w gl cl gt ct sb sk tk tv W' := by
  have hg := ho.grownB
  exact ⟨h.bel.trans (ho.below hw h.bel.size), h.row.kept hg (Or.inr (by simp only [Value.ownBlock, ne_eq, Option.some.injEq]; exact n1)), h.tak.kept hg (Or.inr (by simp only [Value.ownBlock, ne_eq, Option.some.injEq]; exact n2)), fun j hj => ⟨(h.spo j hj).1.only ho (n3 j hj), (h.spo j hj).2⟩, h.sne, fun j hj => ⟨(h.own j hj).1.kept hg (Or.inr (n4 j hj)), (h.own j hj).2⟩, h.tne⟩
theorem Spo.setO {b p c o : Nat} {f : KSt} {x : Value} (h : Spo W b f p) (hc : c ≠ b) : Spo (W.setCell ⟨c, o, none⟩ x) b f p :=
  ⟨h.1.set_other _ _ hc, by rw [World.cell?_setCell_other _ _ _ _ (by intro e; injection e with e1 _ _; exact hc e1)]; exact h.2.1, by rw [World.frozen?_setCell]; exact h.2.2⟩
/-- the list of what was taken is written at one place -/
theorem PL.setT (h : PL w gl cl gt ct sb sk tk tv W) {k : Nat} (hk : k < 3) (v' : Value) (m : List Nat) (ho : W.ownsRow w.heap.size 5 1 v' m.length (bytesL m)) (hv : v' = .slice none 0 0 ∨ m ≠ []) (hne : ∀ j, j < 3 → j ≠ k → ∀ q, v'.ownBlock = some q → (tv j).ownBlock ≠ some q) : PL w gl cl gt ct sb sk (upd tk k m) (upd tv k v') (W.setCell ⟨gt, k, none⟩ v') := by
  have hgt := (h.tak.lt gt rfl).1
  refine ⟨h.bel.setCell hgt _, ownsRow_setCell_other h.row (fun e => rows_ne h.row h.tak (by decide) gl rfl (by simp only [Value.ownBlock, Option.some.injEq] at e ⊢; exact e.symm)) _, ?_, fun j hj => ⟨(h.spo j hj).1.setO (h.gtne hj), (h.spo j hj).2⟩, h.sne, fun j hj => ?_, fun i j hi hj hij q hq => ?_⟩
  · rw [← set3 tv k v' hk]; exact (h.tak.stored k v').1
  · by_cases e : j = k
    · subst e; rw [upd_same, upd_same]
      exact ⟨ownsRow_setCell_other ho (fun e => rows_ne ho h.tak (by decide) gt e rfl) _, hv⟩
    · rw [upd_ne _ _ _ _ e, upd_ne _ _ _ _ e]
      exact ⟨ownsRow_setCell_other (h.own j hj).1 (fun e => rows_ne (h.own j hj).1 h.tak (by decide) gt e rfl) _, (h.own j hj).2⟩
  · by_cases e : i = k
    · subst e; rw [upd_same] at hq; rw [upd_ne _ _ _ _ (fun e2 => hij e2.symm)]; exact hne j hj (fun e2 => hij e2.symm) q hq
    · rw [upd_ne _ _ _ _ e] at hq
      by_cases e2 : j = k
      · subst e2; rw [upd_same]; exact fun e3 => hne i hi e q e3 hq
      · rw [upd_ne _ _ _ _ e2]; exact h.tne i j hi hj hij q hq
theorem PL.clear (h : PL w gl cl gt ct sb sk tk tv W) {k : Nat} (hk : k < 3) : PL w gl cl gt ct sb sk (upd tk k []) (upd tv k (.slice none 0 0)) (W.setCell ⟨gt, k, none⟩ (.slice none 0 0)) :=
  h.setT hk _ [] (World.ownsRow_nil _ _ _ _) (Or.inl rfl) (fun j _ _ q hq => by simp [Value.ownBlock] at hq)
theorem Grew.grown {w w' : World} {v v' : Value} {k : Nat} (h : Grew w w' v v' k) : w.grownBy w' v.ownBlock := by
  rcases h with ⟨h1, _⟩ | ⟨h1, _⟩
  · exact h1
  · exact ⟨h1.os, h1.tape, h1.output, h1.size, fun k hk _ => h1.block k hk (by simp)⟩
/-- more was taken, and is written down -/
theorem PL.take (h : PL w gl cl gt ct sb sk tk tv W) {k : Nat} (hk : k < 3) {v' : Value} {B : List Nat} {c : Nat} (ho : W'.ownsRow w.heap.size 5 1 v' ((tk k).length + B.length) (bytesL (tk k) ++ bytesL B)) (hn : v' = .slice none 0 0 ↔ tv k = .slice none 0 0 ∧ B.length = 0) (hG : Grew W W' (tv k) v' c) : PL w gl cl gt ct sb sk (upd tk k (tk k ++ B)) (upd tv k v') (W'.setCell ⟨gt, k, none⟩ v') := by
  have hg := hG.grown
  have keep : ∀ {e : TypeId} {s n : Nat} {v : Value} {xs : List Value}, W.ownsRow w.heap.size e s v n xs → (∀ q, v.ownBlock = some q → (tv k).ownBlock ≠ some q) → W'.ownsRow w.heap.size e s v n xs := fun {e s n v xs} hr hne => by
    refine hr.kept hg ?_
    cases hv : v.ownBlock with
    | none => exact Or.inl rfl
    | some q => exact Or.inr (fun e2 => hne q hv e2.symm)
  have ok := (h.own k hk).1
  have hbel : Below w.heap.size w W' := Below.grown h.bel hg h.bel.size (fun q hq => (ok.lt q hq).1)
  have hrow := keep h.row (fun q hq => rows_ne h.row ok (by decide) q hq)
  have htak := keep h.tak (fun q hq => rows_ne h.tak ok (by decide) q hq)
  have hspo : ∀ j, j < 3 → Spo W' (sb j) (AB (sk j)).1 (AB (sk j)).2 ∧ w.heap.size ≤ sb j := fun j hj => ⟨(h.spo j hj).1.grown hg (h.tvne hk hj), (h.spo j hj).2⟩
  have hown : ∀ j, j < 3 → j ≠ k → W'.ownsRow w.heap.size 5 1 (tv j) (tk j).length (bytesL (tk j)) := fun j hj hjk => keep (h.own j hj).1 (fun q hq => h.tne j k hj hk hjk q hq)
  have hfresh : ∀ j, j < 3 → j ≠ k → ∀ q, v'.ownBlock = some q → (tv j).ownBlock ≠ some q := fun j hj hjk q hq e => by
    rcases hG with ⟨_, h2, _⟩ | ⟨_, c', h2⟩
    · exact h.tne j k hj hk hjk q e (by rw [← h2]; exact hq)
    · rw [h2] at hq; simp only [Value.ownBlock, Option.some.injEq] at hq
      have := ((h.own j hj).1.lt q e).2
      omega
  have hl : (tk k).length + B.length = (tk k ++ B).length := by rw [List.length_append]
  rw [hl, ← bytesL_app] at ho
  have hgt := (htak.lt gt rfl).1
  refine ⟨hbel.setCell hgt _, ownsRow_setCell_other hrow (fun e => rows_ne hrow htak (by decide) gl rfl (by simp only [Value.ownBlock, Option.some.injEq] at e ⊢; exact e.symm)) _, ?_, fun j hj => ⟨(hspo j hj).1.setO (h.gtne hj), (hspo j hj).2⟩, h.sne, fun j hj => ?_, fun i j hi hj hij q hq => ?_⟩
  · rw [← set3 tv k v' hk]; exact (htak.stored k v').1
  · by_cases e : j = k
    · subst e; rw [upd_same, upd_same]
      refine ⟨ownsRow_setCell_other ho (fun e => rows_ne ho htak (by decide) gt e rfl) _, ?_⟩
      by_cases e3 : tk j ++ B = []
      · left
        rw [List.append_eq_nil_iff] at e3
        refine hn.2 ⟨?_, by rw [e3.2]; rfl⟩
        rcases (h.own j hj).2 with e4 | e4
        · exact e4
        · exact absurd e3.1 e4
      · exact Or.inr e3
    · rw [upd_ne _ _ _ _ e, upd_ne _ _ _ _ e]
      exact ⟨ownsRow_setCell_other (hown j hj e) (fun e2 => rows_ne (hown j hj e) htak (by decide) gt e2 rfl) _, (h.own j hj).2⟩
  · by_cases e : i = k
    · subst e; rw [upd_same] at hq; rw [upd_ne _ _ _ _ (fun e2 => hij e2.symm)]; exact hfresh j hj (fun e2 => hij e2.symm) q hq
    · rw [upd_ne _ _ _ _ e] at hq
      by_cases e2 : j = k
      · subst e2; rw [upd_same]; exact fun e3 => hfresh i hi e q e3 hq
      · rw [upd_ne _ _ _ _ e2]; exact h.tne i j hi hj hij q hq
/-- a new sponge takes a place -/
theorem PL.renew (h : PL w gl cl gt ct sb sk tk tv W) {k : Nat} (hk : k < 3) (hB : Below W.heap.size W W') (hs : Spo W' W.heap.size zeroK 0) : PL w gl cl gt ct (upd sb k W.heap.size) (upd sk k []) tk tv (W'.setCell ⟨gl, k, none⟩ (ptr W.heap.size)) := by
  have h' := h.past hB
  have hgl := (h'.row.lt gl rfl).1
  have hglW := (h.row.lt gl rfl).2
  refine ⟨h'.bel.setCell hgl _, ?_, ownsRow_setCell_other h'.tak (fun e => rows_ne h'.row h'.tak (by decide) gl rfl e) _, fun j hj => ?_, fun i j hi hj hij => ?_, fun j hj => ⟨ownsRow_setCell_other (h'.own j hj).1 (fun e => rows_ne (h'.own j hj).1 h'.row (by decide) gl e rfl) _, (h'.own j hj).2⟩, h'.tne⟩
  · have := (h'.row.stored k (ptr W.heap.size)).1
    rw [set3 (fun j => ptr (sb j)) k _ hk] at this
    have e : ∀ j, upd (fun j => ptr (sb j)) k (ptr W.heap.size) j = ptr (upd sb k W.heap.size j) := fun j => by unfold upd; split <;> rfl
    rw [e, e, e] at this; exact this
  · by_cases e : j = k
    · subst e; rw [upd_same, upd_same]; exact ⟨hs.setO (by omega), h.bel.size⟩
    · rw [upd_ne _ _ _ _ e, upd_ne _ _ _ _ e]; exact ⟨(h'.spo j hj).1.setO (h.glne hj), (h'.spo j hj).2⟩
  · by_cases e : i = k
    · subst e; rw [upd_same, upd_ne _ _ _ _ (fun e2 => hij e2.symm)]; have := (h.spo j hj).1.lt; omega
    · rw [upd_ne _ _ _ _ e]
      by_cases e2 : j = k
      · subst e2; rw [upd_same]; have := (h.spo i hi).1.lt; omega
      · rw [upd_ne _ _ _ _ e2]; exact h.sne i j hi hj hij
end
end Go.Proofs.YteggikojfkmbkaaDoor
