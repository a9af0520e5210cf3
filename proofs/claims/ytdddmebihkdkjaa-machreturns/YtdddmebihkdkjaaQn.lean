/- New pairs; that a stack is awake. -/
import Derived.Test.YtdddmebihkdkjaaQm
namespace Go.Proofs.Ytdddmebihkdkjaa
open Go.RowKit
theorem loadSide {W : World} {a b c : Nat} (h0 : W.cell? ⟨a, 0, none⟩ = some (.pointer (some ⟨b, 0, none⟩))) (h1 : W.cell? ⟨a, 1, none⟩ = some (.pointer (some ⟨c, 0, none⟩))) : (loadVar 26 ⟨a, 0, none⟩).run Try.prog W = .ok (sideV b c) W :=
  run_loadVar_mid W a 0 26 [.pointer (some ⟨b, 0, none⟩), .pointer (some ⟨c, 0, none⟩)] _ (fun j v hv => by
    have hj : j < 2 := by have := (List.getElem?_eq_some_iff.1 hv).1; simpa using this
    obtain rfl | rfl : j = 0 ∨ j = 1 := by omega
    · simp at hv; subst hv; exact h0
    · simp at hv; subst hv; exact h1) Try.underlying26 rfl (by kernel_rfl)
/-- what a new pair is -/
def NewPair (w w' : World) (v : Value) : Prop := ∃ b c, v = sideV b c ∧ Two w' b c ring0 0 ∧ w.heap.size ≤ b ∧ w.heap.size ≤ c ∧ Below w.heap.size w w'
set_option maxHeartbeats 1000000 in
set_option maxRecDepth 100000 in
theorem pair_is (w : World) : Calls Try.prog 9 #[] w fun e w' => ∃ v, e = .returned v ∧ NewPair w w' v := by
  obtain ⟨ob, eo⟩ : ∃ ob, ob = Obj.cells #[.pointer none, .pointer none] 26 := ⟨_, rfl⟩
  have c0 : (w.alloc ob).cell? ⟨w.heap.size, 0, none⟩ = some (.pointer none) ∧ (w.alloc ob).cell? ⟨w.heap.size, 1, none⟩ = some (.pointer none) ∧ (w.alloc ob).frozen? ⟨w.heap.size, 0, none⟩ = false ∧ (w.alloc ob).frozen? ⟨w.heap.size, 1, none⟩ = false := by
    rw [eo]; simp [World.cell?_alloc_at, World.frozen?_alloc_at]
  have B0 : Below w.heap.size w (w.alloc ob) := (Below.refl _ _).alloc (Nat.le_refl _) ob
  have sz : (w.alloc ob).heap.size = w.heap.size + 1 := by simp
  have H0 : Hid ((w.alloc ob).cell? ⟨w.heap.size, 0, none⟩ = some (.pointer none) ∧ (w.alloc ob).cell? ⟨w.heap.size, 1, none⟩ = some (.pointer none) ∧ (w.alloc ob).frozen? ⟨w.heap.size, 0, none⟩ = false ∧ (w.alloc ob).frozen? ⟨w.heap.size, 1, none⟩ = false) := c0
  have HB : Hid (Below w.heap.size w (w.alloc ob) ∧ (w.alloc ob).heap.size = w.heap.size + 1) := ⟨B0, sz⟩
  clear c0 B0 sz
  go_enter Try.func9, Try.ntmps9
  go_upto_region 1 with fail
  rw [← eo]
  clear eo
  generalize w.alloc ob = v at H0 HB ⊢
  go_wp2_with (first | (go_at_call 25; refine (newStack_is _).mono ?_; rintro e v1 ⟨rfl, hN⟩; (have N1 : Hid (NewStk v v1 0 4096) := hN); clear hN) | (go_at_call 41; refine (newStackR_is _).mono ?_; rintro e v2 ⟨rfl, hN⟩; (have N2 : Hid (NewStk v1 v2 1 0) := hN); clear hN; (have BB : Below v.heap.size v v2 := N1.out.bel.trans (N2.out.bel.mono N1.out.bel.size)); (have hl : w.heap.size < v.heap.size := by (have := HB.out.2; omega)); (have d0 := (BB.cell (p := ⟨w.heap.size, 0, none⟩) hl).trans H0.out.1); (have d1 := (BB.cell (p := ⟨w.heap.size, 1, none⟩) hl).trans H0.out.2.1); (have e0 := (BB.frozen (p := ⟨w.heap.size, 0, none⟩) hl).trans H0.out.2.2.1); (have e1 := (BB.frozen (p := ⟨w.heap.size, 1, none⟩) hl).trans H0.out.2.2.2); (have HH : Hid (Below v.heap.size v v2) := BB); clear BB hl))
  obtain ⟨g, eg⟩ : ∃ g, g = w.heap.size := ⟨_, rfl⟩
  have hg : g < v.heap.size := by rw [eg]; have := HB.out.2; omega
  have o1 : Only g v2 ((v2.setCell ⟨w.heap.size, 0, none⟩ (.pointer (some ⟨v.heap.size, 0, none⟩))).setCell ⟨w.heap.size, 1, none⟩ (.pointer (some ⟨v1.heap.size, 0, none⟩))) := by
    rw [← eg]; exact ((Only.refl g v2).set _ _).set _ _
  refine bodyPost_ret (v := sideV v.heap.size v1.heap.size) ?_ rfl ⟨_, rfl, v.heap.size, v1.heap.size, rfl, ⟨(N1.out.st.past N2.out.bel).only o1 (by omega), N2.out.st.only o1 (by have := N1.out.bel.size; omega), by have := N1.out.siz; omega⟩, HB.out.1.size, by have := N1.out.siz; have := HB.out.2; omega, ?_⟩
  · refine results_c Try.results9 _ _ _ ⟨w.heap.size, 0, none⟩ rfl (loadSide ?_ ?_)
    · rw [set_off _ (by omega)]; exact World.cell?_setCell_same _ _ _ d0
    · exact World.cell?_setCell_same _ _ _ ((set_off _ (by omega)).trans d1)
  · refine (HB.out.1.trans (HH.out.mono HB.out.1.size)).trans (o1.below (by omega) ?_)
    have := HH.out.size; have := HB.out.1.size; omega
/-- a struct or array built out of parts, as a whole -/
theorem wpList_build {ops : Array Oper} {rest : List Oper} {op : Oper} {a : Act} {w : World} {Q : Exit → Act → World → Prop} (T : TypeId) (parts : Array (Nat × Operand)) (vals : Array (Nat × Value)) (L : List Value) (hgd : op.guard = none) (ho : op.op = .build T parts)
    (hv : parts.map (fun p => (p.1, a.eval p.2)) = vals) (hT : ∀ w, (Instr.build T vals).run Try.prog w = .ok (.agg L.toArray) w)
    (h : wpList Try.prog ops Q rest (a.put op.dst (.agg L.toArray)) w) : wpList Try.prog ops Q (op :: rest) a w := by
  refine wpList_plain hgd fun K hK => ?_
  unfold Oper.wp execOp
  simp only [ho, Sem.run_bind, Sem.run_pure, Result.andThen_ok, hv, hT]
  exact hK _ _ h
/-- 'x := a struct': a new block, and the value laid into it -/
theorem new_store {ops : Array Oper} {rest : List Oper} {op1 op2 : Oper} {a : Act} {w : World} {Q : Exit → Act → World → Prop} (T : TypeId) (L Z : List Value) (hZ : ∀ w, (zeroValue T).run Try.prog w = .ok (.agg Z.toArray) w) (hl : Z.length = L.length) (hsz : (Try.prog.info? T).map (·.size) = some L.length) (hone : ∀ v ∈ L, v.oneCell' = true)
    (h1 : op1.guard = none) (o1 : op1.op = .alloc T) (t : Tmp) (d1 : op1.dst = some t) (h2 : op2.guard = none) (y : Operand) (o2 : op2.op = .store T (.tmp t) y) (d2 : op2.dst = none)
    (hx : (a.put (some t) (.pointer (some ⟨w.heap.size, 0, none⟩))).eval (.tmp t) = .pointer (some ⟨w.heap.size, 0, none⟩)) (hy : (a.put (some t) (.pointer (some ⟨w.heap.size, 0, none⟩))).eval y = .agg L.toArray)
    (h : ∀ W, Below w.heap.size w W → W.heap.size = w.heap.size + 1 → (∀ j v, L[j]? = some v → W.cell? ⟨w.heap.size, j, none⟩ = some v ∧ W.frozen? ⟨w.heap.size, j, none⟩ = false) → wpList Try.prog ops Q rest (a.put (some t) (.pointer (some ⟨w.heap.size, 0, none⟩))) W) : wpList Try.prog ops Q (op1 :: op2 :: rest) a w := by
  refine wpList_plain h1 fun K hK => ?_
  unfold Oper.wp execOp
  simp only [o1, Sem.run_bind, Instr.alloc, hZ, newVar, newRow, run_newObj_alloc, Sem.run_pure, Result.andThen_ok, Value.cells]
  refine hK _ _ ?_
  rw [d1]
  have hc : ∀ j, j < L.length → (∃ u, (w.alloc (.cells Z.toArray T)).cell? ⟨w.heap.size, j, none⟩ = some u) ∧ (w.alloc (.cells Z.toArray T)).frozen? ⟨w.heap.size, j, none⟩ = false := fun j hj => by
    rw [World.cell?_alloc_at _ _ _ _ rfl]
    exact ⟨⟨Z[j], by rw [List.getElem?_toArray, List.getElem?_eq_getElem]⟩, by simp [World.frozen?_alloc_at]⟩
  refine wpList_store_mid h2 T _ y o2 w.heap.size 0 L.toArray hx hy (fun j hj => ?_) (by rw [List.size_toArray]; exact hsz) (all_oneCell_toArray hone) ?_
  · rw [List.size_toArray] at hj
    obtain ⟨⟨u, hu⟩, hf⟩ := hc j hj
    rw [Nat.zero_add, hu]; exact ⟨rfl, hf⟩
  rw [d2]
  refine h _ ?_ ?_ fun j v hv => ?_
  · exact ((Only.refl w.heap.size (w.alloc (.cells Z.toArray T))).sets _ _).below (Nat.le_refl _) (by simp) |> fun q => ((Below.refl _ _).alloc (Nat.le_refl _) _).trans q
  · have : ∀ (vs : List Value) (o : Nat) (W : World), (W.setCells w.heap.size o vs).heap.size = W.heap.size := by
      intro vs
      induction vs with
      | nil => intro o W; rfl
      | cons x r ih => intro o W; rw [World.setCells, ih, World.size_setCell]
    rw [this]; simp
  · have hj := (List.getElem?_eq_some_iff.1 hv).1
    have h9 := World.cell?_setCells_in w.heap.size L 0 (w.alloc (.cells Z.toArray T)) (fun j hj => by rw [Nat.zero_add]; obtain ⟨⟨u, hu⟩, _⟩ := hc j hj; rw [hu]; rfl) j hj
    rw [Nat.zero_add] at h9
    exact ⟨by rw [h9, ← hv, List.getElem?_eq_getElem hj], by rw [World.frozen?_setCells]; exact (hc j hj).2⟩
def kdT : Nat → Int
  | 0 => 1
  | 1 => 7
  | 2 => 5
  | 3 => 4
  | 4 => 10
  | 5 => 11
  | 6 => 12
  | 7 => 2
  | 8 => 8
  | _ => 0
def nT : Nat → Int
  | 0 => 0
  | 1 => 0
  | 2 => 1
  | 3 => 2
  | 4 => 2
  | 5 => 1
  | 6 => 0
  | 7 => 0
  | 8 => 0
  | _ => 0
def mT : Nat → Int
  | 0 => 0
  | 1 => 0
  | 2 => 0
  | 3 => 0
  | 4 => 0
  | 5 => 3
  | 6 => 0
  | 7 => 0
  | 8 => 0
  | _ => 0
def xT : Nat → Int
  | 0 => 5
  | 1 => 6
  | 2 => 0
  | 3 => 0
  | 4 => 0
  | 5 => 0
  | 6 => 0
  | 7 => 0
  | 8 => 0
  | _ => 0
def nnT : Nat → Int
  | 0 => 0
  | 1 => 1
  | 2 => 2
  | 3 => 2
  | 4 => 3
  | 5 => 4
  | 6 => 4
  | 7 => 4
  | 8 => 3
  | 9 => 2
  | _ => 0
def rowO (k : Nat) : List Value := [.int .i64 (kdT k), .bool false, .int .i64 (nT k), .int .i64 (mT k), .int .i64 0, .int .u64 (xT k), .int .u64 0, .int .u64 0, .int .u64 0, .int .u64 0, .int .u64 0, .int .u64 0, .int .u64 0, .slice none 0 0]
def tabL : List Value := ([.int .i64 1, .bool false, .int .i64 0, .int .i64 0, .int .i64 0, .int .u64 5, .int .u64 0, .int .u64 0, .int .u64 0, .int .u64 0, .int .u64 0, .int .u64 0, .int .u64 0, .slice none 0 0] : List Value) ++ ([.int .i64 7, .bool false, .int .i64 0, .int .i64 0, .int .i64 0, .int .u64 6, .int .u64 0, .int .u64 0, .int .u64 0, .int .u64 0, .int .u64 0, .int .u64 0, .int .u64 0, .slice none 0 0] : List Value) ++ ([.int .i64 5, .bool false, .int .i64 1, .int .i64 0, .int .i64 0, .int .u64 0, .int .u64 0, .int .u64 0, .int .u64 0, .int .u64 0, .int .u64 0, .int .u64 0, .int .u64 0, .slice none 0 0] : List Value) ++ ([.int .i64 4, .bool false, .int .i64 2, .int .i64 0, .int .i64 0, .int .u64 0, .int .u64 0, .int .u64 0, .int .u64 0, .int .u64 0, .int .u64 0, .int .u64 0, .int .u64 0, .slice none 0 0] : List Value) ++ ([.int .i64 10, .bool false, .int .i64 2, .int .i64 0, .int .i64 0, .int .u64 0, .int .u64 0, .int .u64 0, .int .u64 0, .int .u64 0, .int .u64 0, .int .u64 0, .int .u64 0, .slice none 0 0] : List Value) ++ ([.int .i64 11, .bool false, .int .i64 1, .int .i64 3, .int .i64 0, .int .u64 0, .int .u64 0, .int .u64 0, .int .u64 0, .int .u64 0, .int .u64 0, .int .u64 0, .int .u64 0, .slice none 0 0] : List Value) ++ ([.int .i64 12, .bool false, .int .i64 0, .int .i64 0, .int .i64 0, .int .u64 0, .int .u64 0, .int .u64 0, .int .u64 0, .int .u64 0, .int .u64 0, .int .u64 0, .int .u64 0, .slice none 0 0] : List Value) ++ ([.int .i64 2, .bool false, .int .i64 0, .int .i64 0, .int .i64 0, .int .u64 0, .int .u64 0, .int .u64 0, .int .u64 0, .int .u64 0, .int .u64 0, .int .u64 0, .int .u64 0, .slice none 0 0] : List Value) ++ ([.int .i64 8, .bool false, .int .i64 0, .int .i64 0, .int .i64 0, .int .u64 0, .int .u64 0, .int .u64 0, .int .u64 0, .int .u64 0, .int .u64 0, .int .u64 0, .int .u64 0, .slice none 0 0] : List Value)
def tabZ : List Value := ([.int .i64 0, .bool false, .int .i64 0, .int .i64 0, .int .i64 0, .int .u64 0, .int .u64 0, .int .u64 0, .int .u64 0, .int .u64 0, .int .u64 0, .int .u64 0, .int .u64 0, .slice none 0 0] : List Value) ++ ([.int .i64 0, .bool false, .int .i64 0, .int .i64 0, .int .i64 0, .int .u64 0, .int .u64 0, .int .u64 0, .int .u64 0, .int .u64 0, .int .u64 0, .int .u64 0, .int .u64 0, .slice none 0 0] : List Value) ++ ([.int .i64 0, .bool false, .int .i64 0, .int .i64 0, .int .i64 0, .int .u64 0, .int .u64 0, .int .u64 0, .int .u64 0, .int .u64 0, .int .u64 0, .int .u64 0, .int .u64 0, .slice none 0 0] : List Value) ++ ([.int .i64 0, .bool false, .int .i64 0, .int .i64 0, .int .i64 0, .int .u64 0, .int .u64 0, .int .u64 0, .int .u64 0, .int .u64 0, .int .u64 0, .int .u64 0, .int .u64 0, .slice none 0 0] : List Value) ++ ([.int .i64 0, .bool false, .int .i64 0, .int .i64 0, .int .i64 0, .int .u64 0, .int .u64 0, .int .u64 0, .int .u64 0, .int .u64 0, .int .u64 0, .int .u64 0, .int .u64 0, .slice none 0 0] : List Value) ++ ([.int .i64 0, .bool false, .int .i64 0, .int .i64 0, .int .i64 0, .int .u64 0, .int .u64 0, .int .u64 0, .int .u64 0, .int .u64 0, .int .u64 0, .int .u64 0, .int .u64 0, .slice none 0 0] : List Value) ++ ([.int .i64 0, .bool false, .int .i64 0, .int .i64 0, .int .i64 0, .int .u64 0, .int .u64 0, .int .u64 0, .int .u64 0, .int .u64 0, .int .u64 0, .int .u64 0, .int .u64 0, .slice none 0 0] : List Value) ++ ([.int .i64 0, .bool false, .int .i64 0, .int .i64 0, .int .i64 0, .int .u64 0, .int .u64 0, .int .u64 0, .int .u64 0, .int .u64 0, .int .u64 0, .int .u64 0, .int .u64 0, .slice none 0 0] : List Value) ++ ([.int .i64 0, .bool false, .int .i64 0, .int .i64 0, .int .i64 0, .int .u64 0, .int .u64 0, .int .u64 0, .int .u64 0, .int .u64 0, .int .u64 0, .int .u64 0, .int .u64 0, .slice none 0 0] : List Value)
def tabV : Array (Nat × Value) := #[(0, .agg #[.int .i64 1, .bool false, .int .i64 0, .int .i64 0, .int .i64 0, .int .u64 5, .int .u64 0, .int .u64 0, .int .u64 0, .int .u64 0, .int .u64 0, .int .u64 0, .int .u64 0, .slice none 0 0]), (1, .agg #[.int .i64 7, .bool false, .int .i64 0, .int .i64 0, .int .i64 0, .int .u64 6, .int .u64 0, .int .u64 0, .int .u64 0, .int .u64 0, .int .u64 0, .int .u64 0, .int .u64 0, .slice none 0 0]), (2, .agg #[.int .i64 5, .bool false, .int .i64 1, .int .i64 0, .int .i64 0, .int .u64 0, .int .u64 0, .int .u64 0, .int .u64 0, .int .u64 0, .int .u64 0, .int .u64 0, .int .u64 0, .slice none 0 0]), (3, .agg #[.int .i64 4, .bool false, .int .i64 2, .int .i64 0, .int .i64 0, .int .u64 0, .int .u64 0, .int .u64 0, .int .u64 0, .int .u64 0, .int .u64 0, .int .u64 0, .int .u64 0, .slice none 0 0]), (4, .agg #[.int .i64 10, .bool false, .int .i64 2, .int .i64 0, .int .i64 0, .int .u64 0, .int .u64 0, .int .u64 0, .int .u64 0, .int .u64 0, .int .u64 0, .int .u64 0, .int .u64 0, .slice none 0 0]), (5, .agg #[.int .i64 11, .bool false, .int .i64 1, .int .i64 3, .int .i64 0, .int .u64 0, .int .u64 0, .int .u64 0, .int .u64 0, .int .u64 0, .int .u64 0, .int .u64 0, .int .u64 0, .slice none 0 0]), (6, .agg #[.int .i64 12, .bool false, .int .i64 0, .int .i64 0, .int .i64 0, .int .u64 0, .int .u64 0, .int .u64 0, .int .u64 0, .int .u64 0, .int .u64 0, .int .u64 0, .int .u64 0, .slice none 0 0]), (7, .agg #[.int .i64 2, .bool false, .int .i64 0, .int .i64 0, .int .i64 0, .int .u64 0, .int .u64 0, .int .u64 0, .int .u64 0, .int .u64 0, .int .u64 0, .int .u64 0, .int .u64 0, .slice none 0 0]), (8, .agg #[.int .i64 8, .bool false, .int .i64 0, .int .i64 0, .int .i64 0, .int .u64 0, .int .u64 0, .int .u64 0, .int .u64 0, .int .u64 0, .int .u64 0, .int .u64 0, .int .u64 0, .slice none 0 0])]
theorem tab_build (w : World) : (Instr.build 74 tabV).run Try.prog w = .ok (.agg tabL.toArray) w := by kernel_rfl
theorem tab_zero (w : World) : (zeroValue 74).run Try.prog w = .ok (.agg tabZ.toArray) w := by kernel_rfl
theorem tab_at (k j : Nat) (hk : k < 9) (v : Value) (h : (rowO k)[j]? = some v) : tabL[k * 14 + j]? = some v := by
  have hj : j < 14 := by have := (List.getElem?_eq_some_iff.1 h).1; simpa [rowO] using this
  rw [← h]
  obtain rfl | rfl | rfl | rfl | rfl | rfl | rfl | rfl | rfl : k = 0 ∨ k = 1 ∨ k = 2 ∨ k = 3 ∨ k = 4 ∨ k = 5 ∨ k = 6 ∨ k = 7 ∨ k = 8 := by omega
  all_goals
    obtain rfl | rfl | rfl | rfl | rfl | rfl | rfl | rfl | rfl | rfl | rfl | rfl | rfl | rfl : j = 0 ∨ j = 1 ∨ j = 2 ∨ j = 3 ∨ j = 4 ∨ j = 5 ∨ j = 6 ∨ j = 7 ∨ j = 8 ∨ j = 9 ∨ j = 10 ∨ j = 11 ∨ j = 12 ∨ j = 13 := by omega
    all_goals rfl
theorem nx_at (k : Nat) (hk : k < 9) : nx (kdT k) (nnT k) (nT k) = nnT (k + 1) ∧ ¬ (kdT k = 13 ∨ kdT k = 14 ∨ kdT k = 15) ∧ nnT k ≤ 4 ∧ 0 ≤ nnT k := by
  obtain rfl | rfl | rfl | rfl | rfl | rfl | rfl | rfl | rfl : k = 0 ∨ k = 1 ∨ k = 2 ∨ k = 3 ∨ k = 4 ∨ k = 5 ∨ k = 6 ∨ k = 7 ∨ k = 8 := by omega
  all_goals decide
theorem tabL_one : ∀ v ∈ tabL, v.oneCell' = true := by
  have h : tabL.all (·.oneCell') = true := by rfl
  exact List.all_eq_true.1 h
/-- while the steps are done -/
structure AW (w W : World) (sb fb b c : Nat) (f : Ring) (n : Int) : Prop where
  two : Two W b c f n
  p0 : W.cell? ⟨sb, 0, none⟩ = some (.pointer (some ⟨b, 0, none⟩))
  p1 : W.cell? ⟨sb, 1, none⟩ = some (.pointer (some ⟨c, 0, none⟩))
  tb : ∀ k, k < 9 → ∀ j v, (rowO k)[j]? = some v → W.cell? ⟨fb, k * 14 + j, none⟩ = some v
  ap : (sb ≠ b ∧ sb ≠ c) ∧ (fb ≠ b ∧ fb ≠ c) ∧ w.heap.size ≤ b ∧ w.heap.size ≤ c
  bel : Below w.heap.size w W
theorem AW.step {w W W' : World} {sb fb b c : Nat} {f f' : Ring} {n n' : Int} (h : AW w W sb fb b c f n) (k : But (BC b c) W W') (t : Two W' b c f' n') : AW w W' sb fb b c f' n' := by
  have hs : ¬ BC b c sb := fun e => e.elim h.ap.1.1 h.ap.1.2
  have hf : ¬ BC b c fb := fun e => e.elim h.ap.2.1.1 h.ap.2.1.2
  refine ⟨t, (k.cell (p := ⟨sb, 0, none⟩) (World.block_lt_of_cell? W _ h.p0) hs).trans h.p0, (k.cell (p := ⟨sb, 1, none⟩) (World.block_lt_of_cell? W _ h.p1) hs).trans h.p1, fun q hq j v hv => ?_, h.ap, h.bel.trans (k.below (fun i hi => by rcases hi with rfl | rfl; exact h.ap.2.2.1; exact h.ap.2.2.2) h.bel.size)⟩
  have := h.tb q hq j v hv
  exact (k.cell (p := ⟨fb, _, none⟩) (World.block_lt_of_cell? W _ this) hf).trans this
theorem AW.past {w W W' : World} {sb fb b c : Nat} {f : Ring} {n : Int} (h : AW w W sb fb b c f n) (k : Below W.heap.size W W') : AW w W' sb fb b c f n := h.step (below_but k) (h.two.past k)
set_option maxHeartbeats 2000000 in
set_option maxRecDepth 100000 in
theorem awake_is (w : World) : Calls Try.prog 12 #[] w fun e w' => e = .returned (.bool true) ∧ Below w.heap.size w w' := by
  go_enter Try.func12, Try.ntmps12
  go_upto_region 2 with (go_at_call 9; refine (pair_is _).mono ?_; rintro e v ⟨_, rfl, b, c, rfl, hT, hb, hc, hB⟩; (have T1 : Hid (Two v b c ring0 0 ∧ w.heap.size ≤ b ∧ w.heap.size ≤ c ∧ Below w.heap.size w v) := ⟨hT, hb, hc, hB⟩); clear hT hb hc hB; unfold sideV)
  have T2 : Hid (Two (v.alloc (sideO b c)) b c ring0 0 ∧ (v.alloc (sideO b c)).cell? ⟨v.heap.size, 0, none⟩ = some (.pointer (some ⟨b, 0, none⟩)) ∧ (v.alloc (sideO b c)).cell? ⟨v.heap.size, 1, none⟩ = some (.pointer (some ⟨c, 0, none⟩)) ∧ (v.heap.size ≠ b ∧ v.heap.size ≠ c) ∧ (w.heap.size ≤ b ∧ w.heap.size ≤ c) ∧ Below w.heap.size w (v.alloc (sideO b c))) := by
    have l1 := T1.out.1.s.lt
    have l2 := T1.out.1.r.lt
    refine ⟨T1.out.1.past ((Below.refl _ _).alloc (Nat.le_refl _) _), ?_, ?_, ⟨by omega, by omega⟩, ⟨T1.out.2.1, T1.out.2.2.1⟩, T1.out.2.2.2.alloc T1.out.2.2.2.size _⟩
    all_goals (unfold sideO; rw [World.cell?_alloc_at _ _ _ _ rfl]; rfl)
  clear T1
  change Code.wp _ _ _ _ (v.alloc (sideO b c))
  generalize v.alloc (sideO b c) = v1 at T2 ⊢
  generalize v.heap.size = sb at T2 ⊢
  have p0 := T2.out.2.1
  go_upto_region 5 with (first | (refine wpList_build 74 _ tabV tabL rfl rfl (by kernel_rfl) tab_build ?_) | (refine new_store 74 tabL tabZ tab_zero rfl (by kernel_rfl) tabL_one rfl rfl _ rfl rfl _ rfl rfl rfl rfl ?_; intro v2 hB hsz hcl; (have T3 : Hid (AW w v2 sb v1.heap.size b c ring0 0) := ⟨T2.out.1.past hB, (hB.cell (p := ⟨sb, 0, none⟩) (World.block_lt_of_cell? v1 _ T2.out.2.1)).trans T2.out.2.1, (hB.cell (p := ⟨sb, 1, none⟩) (World.block_lt_of_cell? v1 _ T2.out.2.2.1)).trans T2.out.2.2.1, fun k hk j u hu => (hcl _ _ (tab_at k j hk u hu)).1, ⟨T2.out.2.2.2.1, ⟨fun e => absurd T2.out.1.s.lt (by rw [← e]; exact Nat.lt_irrefl _), fun e => absurd T2.out.1.r.lt (by rw [← e]; exact Nat.lt_irrefl _)⟩, T2.out.2.2.2.2.1⟩, T2.out.2.2.2.2.2.trans (hB.mono T2.out.2.2.2.2.2.size)⟩); clear hB hsz hcl T2 p0))
  generalize v1.heap.size = fb at T3 ⊢
  go_wp2
  go_loopw [3] (fun si wr => ∃ (k : Nat) (f : Ring), k ≤ 9 ∧ si = .int .i64 (k : Int) ∧ AW w wr sb fb b c f (nnT k)) (fun si _ => 9 - (intOf si).toNat)
  case atStart => exact ⟨0, ring0, by omega, rfl, T3.out⟩
  case round =>
    obtain ⟨k, f, hk, rfl, hA⟩ := hrel
    have A0 : Hid (AW w wr sb fb b c f (nnT k)) := hA
    clear hA
    by_cases hk9 : k < 9
    · have kI : (k : Int) < 9 := by omega
      obtain ⟨q1, q2, q3, q4⟩ := nx_at k hk9
      have NX : Hid (nx (kdT k) (nnT k) (nT k) = nnT (k + 1) ∧ ¬ (kdT k = 13 ∨ kdT k = 14 ∨ kdT k = 15)) := ⟨q1, q2⟩
      have ST : Hid (∀ W, Two W b c f (nnT k) → Calls Try.prog 10 #[sideV b c, opV (kdT k) false (nT k) (mT k) 0 ⟨xT k, 0, 0, 0⟩ w0 (.slice none 0 0)] W fun e w' => e = .returned (.bool true) ∧ Stepped W w' b c (kdT k) (nnT k) (nT k)) := fun W hW => stacked_any W b c f (nnT k) hW (by omega) (by omega) _ _ _ _ _ _ _ _
      clear q1 q2 q3 q4
      go_upto_region 8 with fail
      have A1 : Hid (AW w wr.drew sb fb b c f (nnT k)) := A0.out.past ((Below.refl _ _).drew)
      refine wp_region_held_drew (S := fun V' => (V'.cell? ⟨sb, 0, none⟩ = some (.pointer (some ⟨b, 0, none⟩)) ∧ V'.cell? ⟨sb, 1, none⟩ = some (.pointer (some ⟨c, 0, none⟩))) ∧ ∀ k, k < 9 → ∀ j v, (rowO k)[j]? = some v → V'.cell? ⟨fb, k * 14 + j, none⟩ = some v) (by kernel_rfl) ⟨⟨A1.out.p0, A1.out.p1⟩, A1.out.tb⟩ (fun hHeld => ?_)
      generalize wr.drew = z0 at hHeld A1 ⊢
      clear A0
      refine wpAnyH_take (i := 0) (v := sideV b c) ov0 (by kernel_rfl) (by kernel_rfl) (by kernel_rfl) (fun _ _ _ h => h) (Or.inl ⟨by rfl, fun V' hS => ?_⟩) hHeld ?_
      · have q0 := hS.1.1
        have q1 := hS.1.2
        unfold sideV
        go_simp
      simp only [Act.put, List.setIfInBounds_toArray, List.set_cons_zero, List.set_cons_succ]
      refine wpAnyH_take (i := 1) (v := .int .i64 (k : Int)) ov1 (by kernel_rfl) (by kernel_rfl) (by kernel_rfl) (fun _ _ _ h => h) (Or.inl ⟨by rfl, fun V' hS => ?_⟩) hHeld ?_
      · go_simp
      simp only [Act.put, List.setIfInBounds_toArray, List.set_cons_zero, List.set_cons_succ]
      refine wpAnyH_take (i := 2) (v := .pointer (some ⟨fb, k * 14, none⟩)) ov2 (by kernel_rfl) (by kernel_rfl) (by kernel_rfl) (fun _ _ _ h => h) (Or.inl ⟨by rfl, fun V' hS => ?_⟩) hHeld ?_
      · go_simp
      simp only [Act.put, List.setIfInBounds_toArray, List.set_cons_zero, List.set_cons_succ]
      refine wpAnyH_take (i := 3) (v := opV (kdT k) false (nT k) (mT k) 0 ⟨xT k, 0, 0, 0⟩ w0 (.slice none 0 0)) ov3 (by kernel_rfl) (by kernel_rfl) (by kernel_rfl) (fun _ _ _ h => h) (Or.inl ⟨by rfl, fun V' hS => ?_⟩) hHeld ?_
      · have c0 : V'.cell? ⟨fb, k * 14, none⟩ = some (.int .i64 (kdT k)) := hS.2 k hk9 0 _ rfl
        have c1 : V'.cell? ⟨fb, k * 14 + 1, none⟩ = some (.bool false) := hS.2 k hk9 1 _ rfl
        have c2 : V'.cell? ⟨fb, k * 14 + 2, none⟩ = some (.int .i64 (nT k)) := hS.2 k hk9 2 _ rfl
        have c3 : V'.cell? ⟨fb, k * 14 + 3, none⟩ = some (.int .i64 (mT k)) := hS.2 k hk9 3 _ rfl
        have c4 : V'.cell? ⟨fb, k * 14 + 4, none⟩ = some (.int .i64 0) := hS.2 k hk9 4 _ rfl
        have c5 : V'.cell? ⟨fb, k * 14 + 5, none⟩ = some (.int .u64 (xT k)) := hS.2 k hk9 5 _ rfl
        have c6 : V'.cell? ⟨fb, k * 14 + 6, none⟩ = some (.int .u64 0) := hS.2 k hk9 6 _ rfl
        have c7 : V'.cell? ⟨fb, k * 14 + 7, none⟩ = some (.int .u64 0) := hS.2 k hk9 7 _ rfl
        have c8 : V'.cell? ⟨fb, k * 14 + 8, none⟩ = some (.int .u64 0) := hS.2 k hk9 8 _ rfl
        have c9 : V'.cell? ⟨fb, k * 14 + 9, none⟩ = some (.int .u64 0) := hS.2 k hk9 9 _ rfl
        have c10 : V'.cell? ⟨fb, k * 14 + 10, none⟩ = some (.int .u64 0) := hS.2 k hk9 10 _ rfl
        have c11 : V'.cell? ⟨fb, k * 14 + 11, none⟩ = some (.int .u64 0) := hS.2 k hk9 11 _ rfl
        have c12 : V'.cell? ⟨fb, k * 14 + 12, none⟩ = some (.int .u64 0) := hS.2 k hk9 12 _ rfl
        have c13 : V'.cell? ⟨fb, k * 14 + 13, none⟩ = some (.slice none 0 0) := hS.2 k hk9 13 _ rfl
        unfold opV w0
        go_simp
      simp only [Act.put, List.setIfInBounds_toArray, List.set_cons_zero, List.set_cons_succ]
      refine wpAnyH_ready (rs := [4]) (by kernel_rfl) (by simp) ?_
      refine AllReadyH.cons ov4 (fun K hK => ?_) AllReadyH.nil
      rw [if_pos (by rfl)]
      go_simp
      refine (ST.out z0 A1.out.two).mono ?_
      rintro e v3 ⟨rfl, ⟨f', n', h1, h2, h3, h4⟩, h5⟩
      have hn' : n' = nnT (k + 1) := h2.elim (fun e => e.trans NX.out.1) (fun e => absurd e NX.out.2)
      rw [hn'] at h1
      have A2 : Hid (AW w v3 sb fb b c f' (nnT (k + 1))) := A1.out.step h5 h1
      clear h1 h2 h3 h4 h5 hn'
      (try go_wp2_with fail)
      refine hK.out _ _ ⟨⟨A2.out.p0, A2.out.p1⟩, A2.out.tb⟩ (fun _ => ?_)
      clear hK K
      (try simp only [Act.put, List.setIfInBounds_toArray, List.set_cons_zero, List.set_cons_succ])
      refine wpAnyH_take (i := 5) (v := .bool false) ov5 (by kernel_rfl) (by kernel_rfl) (by kernel_rfl) (fun _ _ _ h => h) (Or.inl ⟨by rfl, fun V' hS => ?_⟩) ⟨⟨A2.out.p0, A2.out.p1⟩, A2.out.tb⟩ ?_
      · go_simp
      simp only [Act.put, List.setIfInBounds_toArray, List.set_cons_zero, List.set_cons_succ]
      refine wpAnyH_done (by kernel_rfl) ?_ _
      go_wp2
      go_roundw
      case rel => exact ⟨k + 1, f', by omega, by simp, A2.out⟩
      case measure => simp [intOf]; omega
    · obtain rfl : k = 9 := by omega
      have p1 := A0.out.p1
      have LR : Hid (Calls Try.prog 49 #[.pointer (some ⟨c, 0, none⟩)] wr fun e w' => e = .returned (.int .i64 2) ∧ w' = wr) := lenR_is wr c f 2 A0.out.two.r
      go_wp2_with (go_at_call 49; refine (LR.out).mono ?_; rintro e w' ⟨rfl, hw⟩; (have hw2 := hw.symm); clear hw LR; subst hw2)
      go_ret
      exact ⟨rfl, A0.out.bel⟩
end Go.Proofs.Ytdddmebihkdkjaa
