/- A step of the law, whatever its kind; a new pair; that a memory does something. -/
import Derived.Test.YtlemnjhdnciddaaGpc
import Derived.Test.YtlemnjhdnciddaaGpe
namespace Go.Proofs.Ytlemnjhdnciddaa
open Go.RowKit
def nxN (kd : Int) (n : Nat) (N : Int) : Nat := if kd = 3 then grN n N else n
theorem paged_is (w : World) (b c : Nat) (S : Nat → Prop) (n : Nat) (u : Nat → Nat) (h : PQ w b c S n u n u) (tw : Bool) (N M P : Int) (X Y : W4) (vB : Value) (mB : Nat) (t : Nat → Nat) (hB : Lent w S vB mB t) (hN : N ≤ 9223372036854775807) (hM : M ≤ 9223372036854775807) (hP : P ≤ 9223372036854775807) (hX : IsW (V X.a X.b X.c X.d) X.a X.b X.c X.d) (hY : IsW (V Y.a Y.b Y.c Y.d) Y.a Y.b Y.c Y.d) (kd : Int) : Calls Try.prog 11 #[pageV b c, opV kd tw N M P X Y vB] w fun e w' => e = .returned (.bool true) ∧ PgAfter w w' b c S (nxN kd n N) := by
  unfold nxN
  by_cases e1 : kd = 1
  · subst e1
    rw [if_neg (by omega)]
    exact paged1 w b c S n u h tw N M P X Y vB mB t hB hN hM hP hX hY
  by_cases e2 : kd = 2
  · subst e2
    rw [if_neg (by omega)]
    exact paged2 w b c S n u h tw N M P X Y vB mB t hB hN hM hP hX hY
  by_cases e3 : kd = 3
  · subst e3
    rw [if_pos rfl]
    exact paged3 w b c S n u h tw N M P X Y vB mB t hB hN hM hP hX hY
  by_cases e4 : kd = 4
  · subst e4
    rw [if_neg (by omega)]
    exact paged4 w b c S n u h tw N M P X Y vB mB t hB hN hM hP hX hY
  by_cases e5 : kd = 5
  · subst e5
    rw [if_neg (by omega)]
    exact paged5 w b c S n u h tw N M P X Y vB mB t hB hN hM hP hX hY
  by_cases e6 : kd = 6
  · subst e6
    rw [if_neg (by omega)]
    exact paged6 w b c S n u h tw N M P X Y vB mB t hB hN hM hP hX hY
  by_cases e7 : kd = 7
  · subst e7
    rw [if_neg (by omega)]
    exact paged7 w b c S n u h tw N M P X Y vB mB t hB hN hM hP hX hY
  by_cases e8 : kd = 8
  · subst e8
    rw [if_neg (by omega)]
    exact paged8 w b c S n u h tw N M P X Y vB mB t hB hN hM hP hX hY
  by_cases e9 : kd = 9
  · subst e9
    rw [if_neg (by omega)]
    exact paged9 w b c S n u h tw N M P X Y vB mB t hB hN hM hP hX hY
  rw [if_neg e3]
  exact paged0 w b c S n u h tw N M P X Y vB mB t hB hN hM hP hX hY kd (fun j h1 h2 => by simp; omega)
theorem loadPage {W : World} {a b c : Nat} (h0 : W.cell? ⟨a, 0, none⟩ = some (.pointer (some ⟨b, 0, none⟩))) (h1 : W.cell? ⟨a, 1, none⟩ = some (.pointer (some ⟨c, 0, none⟩))) : (loadVar 26 ⟨a, 0, none⟩).run Try.prog W = .ok (pageV b c) W :=
  run_loadVar_mid W a 0 26 [.pointer (some ⟨b, 0, none⟩), .pointer (some ⟨c, 0, none⟩)] _ (fun j v hv => by
    have hj : j < 2 := by have := (List.getElem?_eq_some_iff.1 hv).1; simpa using this
    obtain rfl | rfl : j = 0 ∨ j = 1 := by omega
    · simp at hv; subst hv; exact h0
    · simp at hv; subst hv; exact h1) Try.underlying26 rfl (by kernel_rfl)
/-- what a new pair is -/
def NewPage (w w' : World) (v : Value) : Prop := ∃ b c S, v = pageV b c ∧ PQ w' b c S 0 (fun _ => 0) 0 (fun _ => 0) ∧ (∀ k, S k → w.heap.size ≤ k) ∧ Below w.heap.size w w'
theorem Mem.only {W W' : World} {b B q n cap : Nat} {ad : Option Addr} {u : Nat → Nat} (h : Mem W b B ad n cap u) (k : Only q W W') (hq : ∀ j, OwnB b ad j → j ≠ q) : Mem W' b B ad n cap u := h.but (S := fun j => j = q) ⟨k.os, k.tape, k.output, k.size, k.block⟩ hq
set_option maxHeartbeats 1000000 in
set_option maxRecDepth 100000 in
theorem blank_is (w : World) : Calls Try.prog 10 #[] w fun e w' => ∃ v, e = .returned v ∧ NewPage w w' v := by
  obtain ⟨ob, eo⟩ : ∃ ob, ob = Obj.cells #[.pointer none, .pointer none] 26 := ⟨_, rfl⟩
  have c0 : (w.alloc ob).cell? ⟨w.heap.size, 0, none⟩ = some (.pointer none) ∧ (w.alloc ob).cell? ⟨w.heap.size, 1, none⟩ = some (.pointer none) ∧ (w.alloc ob).frozen? ⟨w.heap.size, 0, none⟩ = false ∧ (w.alloc ob).frozen? ⟨w.heap.size, 1, none⟩ = false := by
    rw [eo]; simp [World.cell?_alloc_at, World.frozen?_alloc_at]
  have B0 : Below w.heap.size w (w.alloc ob) := (Below.refl _ _).alloc (Nat.le_refl _) ob
  have sz : (w.alloc ob).heap.size = w.heap.size + 1 := by simp
  have H0 : Hid ((w.alloc ob).cell? ⟨w.heap.size, 0, none⟩ = some (.pointer none) ∧ (w.alloc ob).cell? ⟨w.heap.size, 1, none⟩ = some (.pointer none) ∧ (w.alloc ob).frozen? ⟨w.heap.size, 0, none⟩ = false ∧ (w.alloc ob).frozen? ⟨w.heap.size, 1, none⟩ = false) := c0
  have HB : Hid (Below w.heap.size w (w.alloc ob) ∧ (w.alloc ob).heap.size = w.heap.size + 1) := ⟨B0, sz⟩
  clear c0 B0 sz
  go_enter Try.func10, Try.ntmps10
  go_upto_region 1 with fail
  rw [← eo]
  clear eo
  generalize w.alloc ob = v at H0 HB ⊢
  go_wp2_with fail
  refine (newMemory_is _).mono ?_
  rintro e v1 ⟨rfl, hm1, hB1⟩
  have N1 : Hid (Mem v1 v.heap.size v1.heap.size none 0 0 (fun _ => 0) ∧ Below v.heap.size v v1) := ⟨hm1, hB1⟩
  clear hm1 hB1
  go_wp2_with fail
  refine (newMemoryR_is _).mono ?_
  rintro e v2 ⟨rfl, hm2, hB2⟩
  have N2 : Hid (Mem v2 v1.heap.size v2.heap.size none 0 0 (fun _ => 0) ∧ Below v1.heap.size v1 v2) := ⟨hm2, hB2⟩
  clear hm2 hB2
  have hl : w.heap.size < v.heap.size := by have := HB.out.2; omega
  have BB : Below v.heap.size v v2 := N1.out.2.trans (N2.out.2.mono N1.out.2.size)
  have d0 := (BB.cell (p := ⟨w.heap.size, 0, none⟩) hl).trans H0.out.1
  have d1 := (BB.cell (p := ⟨w.heap.size, 1, none⟩) hl).trans H0.out.2.1
  have f0 := (BB.frozen (p := ⟨w.heap.size, 0, none⟩) hl).trans H0.out.2.2.1
  have f1 := (BB.frozen (p := ⟨w.heap.size, 1, none⟩) hl).trans H0.out.2.2.2
  have HH : Hid (Below v.heap.size v v2) := BB
  clear BB
  obtain ⟨bm, ebm⟩ : ∃ bm, v.heap.size = bm := ⟨_, rfl⟩
  obtain ⟨bc, ebc⟩ : ∃ bc, v1.heap.size = bc := ⟨_, rfl⟩
  have NN : Hid (Mem v2 bm v1.heap.size none 0 0 (fun _ => 0) ∧ Mem v2 bc v2.heap.size none 0 0 (fun _ => 0) ∧ w.heap.size < bm ∧ bm < bc ∧ Below w.heap.size w v2) := ⟨by rw [← ebm]; exact N1.out.1.past N2.out.2, by rw [← ebc]; exact N2.out.1, by omega, by have := N1.out.1.lt; omega, HB.out.1.trans (HH.out.mono HB.out.1.size)⟩
  rw [ebm, ebc]
  clear ebm ebc N1 N2 HH HB H0 hl
  go_wp2
  obtain ⟨g, eg⟩ : ∃ g, g = w.heap.size := ⟨_, rfl⟩
  have o1 : Only g v2 ((v2.setCell ⟨w.heap.size, 0, none⟩ (.pointer (some ⟨bm, 0, none⟩))).setCell ⟨w.heap.size, 1, none⟩ (.pointer (some ⟨bc, 0, none⟩))) := by
    rw [← eg]; exact ((Only.refl g v2).set _ _).set _ _
  have s1 : ∀ j k, OwnB k none j → j = k := fun j k h => by
    rcases h with h | ⟨a, e, _⟩
    · exact h
    · cases e
  refine bodyPost_ret (v := pageV bm bc) ?_ rfl ⟨_, rfl, bm, bc, fun k => OwnB bm none k ∨ OwnB bc none k, rfl, ⟨_, none, 0, _, none, 0, NN.out.1.only o1 (fun j hj => by have := s1 j _ hj; have := NN.out.2.2.1; omega), NN.out.2.1.only o1 (fun j hj => by have := s1 j _ hj; have := NN.out.2.2.1; have := NN.out.2.2.2.1; omega), fun k h1 h2 => by have := s1 k _ h1; have := s1 k _ h2; have := NN.out.2.2.2.1; omega, fun k => Iff.rfl, fun _ => (by decide : (0 : Nat) < 256), fun _ => (by decide : (0 : Nat) < 256)⟩, fun k hk => ?_, ?_⟩
  · refine results_cellB Try.results10 _ _ _ ⟨w.heap.size, 0, none⟩ rfl (loadPage ?_ ?_)
    · rw [set_off _ (by omega)]; exact World.cell?_setCell_same _ _ _ d0
    · exact World.cell?_setCell_same _ _ _ ((set_off _ (by omega)).trans d1)
  · rcases hk with h | h
    · have := s1 k _ h; have := NN.out.2.2.1; omega
    · have := s1 k _ h; have := NN.out.2.2.1; have := NN.out.2.2.2.1; omega
  · exact NN.out.2.2.2.2.trans (o1.below (by omega) NN.out.2.2.2.2.size)
/-- a struct or array built out of parts, as a whole -/
theorem wpList_build {ops : Array Oper} {rest : List Oper} {op : Oper} {a : Act} {w : World} {Q : Exit → Act → World → Prop} (T : TypeId) (parts : Array (Nat × Operand)) (vals : Array (Nat × Value)) (L : List Value) (hgd : op.guard = none) (ho : op.op = .build T parts)
    (hv : parts.map (fun p => (p.1, a.eval p.2)) = vals) (hT : ∀ w, (Instr.build T vals).run Try.prog w = .ok (.agg L.toArray) w)
    (h : wpList Try.prog ops Q rest (a.put op.dst (.agg L.toArray)) w) : wpList Try.prog ops Q (op :: rest) a w := by
  refine wpList_plain hgd fun K hK => ?_
  unfold Oper.wp execOp
  simp only [ho, Sem.run_bind, Sem.run_pure, Result.andThen_ok, hv, hT]
  exact hK _ _ h
/-- 'x := a struct': a new block, and the value laid into it -/
theorem new_store {ops : Array Oper} {rest : List Oper} {op1 op2 : Oper} {a : Act} {w : World} {Q : Exit → Act → World → Prop} (T : TypeId) (L Z : List Value) (hZ : ∀ w, (zeroValue T).run Try.prog w = .ok (.agg Z.toArray) w) (hl : Z.length = L.length) (hsz : (Try.prog.info? T).map (·.size) = some L.length) (hone : ∀ v ∈ L, v.oneCell' = true)
    (h1 : op1.guard = none) (o1 : op1.op = .alloc T) (t : Tmp) (d1 : op1.dst = some t) (h2 : op2.guard = none) (y : Operand) (o2 : op2.op = .store T (.tmp t) y) (d2 : op2.dst = none)
    (hx : (a.put (some t) (.pointer (some ⟨w.heap.size, 0, none⟩))).eval (.tmp t) = .pointer (some ⟨w.heap.size, 0, none⟩)) (hy : (a.put (some t) (.pointer (some ⟨w.heap.size, 0, none⟩))).eval y = .agg L.toArray)
    (h : ∀ W, Below w.heap.size w W → W.heap.size = w.heap.size + 1 → (∀ j v, L[j]? = some v → W.cell? ⟨w.heap.size, j, none⟩ = some v ∧ W.frozen? ⟨w.heap.size, j, none⟩ = false) → wpList Try.prog ops Q rest (a.put (some t) (.pointer (some ⟨w.heap.size, 0, none⟩))) W) : wpList Try.prog ops Q (op1 :: op2 :: rest) a w := by
  refine wpList_plain h1 fun K hK => ?_
  unfold Oper.wp execOp
  simp only [o1, Sem.run_bind, Instr.alloc, hZ, newVar, newRow, run_newObj_alloc, Sem.run_pure, Result.andThen_ok, Value.cells]
  refine hK _ _ ?_
  rw [d1]
  have hc : ∀ j, j < L.length → (∃ u, (w.alloc (.cells Z.toArray T)).cell? ⟨w.heap.size, j, none⟩ = some u) ∧ (w.alloc (.cells Z.toArray T)).frozen? ⟨w.heap.size, j, none⟩ = false := fun j hj => by
    rw [World.cell?_alloc_at _ _ _ _ rfl]
    exact ⟨⟨Z[j], by rw [List.getElem?_toArray, List.getElem?_eq_getElem]⟩, by simp [World.frozen?_alloc_at]⟩
  refine wpList_store_mid h2 T _ y o2 w.heap.size 0 L.toArray hx hy (fun j hj => ?_) (by rw [List.size_toArray]; exact hsz) (all_oneCell_toArray hone) ?_
  · rw [List.size_toArray] at hj
    obtain ⟨⟨u, hu⟩, hf⟩ := hc j hj
    rw [Nat.zero_add, hu]; exact ⟨rfl, hf⟩
  rw [d2]
  refine h _ ?_ ?_ fun j v hv => ?_
  · exact ((Only.refl w.heap.size (w.alloc (.cells Z.toArray T))).sets _ _).below (Nat.le_refl _) (by simp) |> fun q => ((Below.refl _ _).alloc (Nat.le_refl _) _).trans q
  · have : ∀ (vs : List Value) (o : Nat) (W : World), (W.setCells w.heap.size o vs).heap.size = W.heap.size := by
      intro vs
      induction vs with
      | nil => intro o W; rfl
      | cons x r ih => intro o W; rw [World.setCells, ih, World.size_setCell]
    rw [this]; simp
  · have hj := (List.getElem?_eq_some_iff.1 hv).1
    have h9 := World.cell?_setCells_in w.heap.size L 0 (w.alloc (.cells Z.toArray T)) (fun j hj => by rw [Nat.zero_add]; obtain ⟨⟨u, hu⟩, _⟩ := hc j hj; rw [hu]; rfl) j hj
    rw [Nat.zero_add] at h9
    exact ⟨by rw [h9, ← hv, List.getElem?_eq_getElem hj], by rw [World.frozen?_setCells]; exact (hc j hj).2⟩
def kdT : Nat → Int
  | 0 => 3
  | 1 => 5
  | 2 => 9
  | 3 => 4
  | 4 => 7
  | 5 => 1
  | _ => 0
def nT : Nat → Int
  | 0 => 1
  | 1 => 0
  | 2 => 1
  | 3 => 0
  | 4 => 1
  | 5 => 0
  | _ => 0
def mT : Nat → Int
  | 0 => 0
  | 1 => 0
  | 2 => 30
  | 3 => 0
  | 4 => 2
  | 5 => 0
  | _ => 0
def pT : Nat → Int
  | 0 => 0
  | 1 => 0
  | 2 => 2
  | 3 => 0
  | 4 => 0
  | 5 => 0
  | _ => 0
def xT : Nat → Int
  | 0 => 0
  | 1 => 258
  | 2 => 0
  | 3 => 0
  | 4 => 0
  | 5 => 0
  | _ => 0
def nnT : Nat → Nat
  | 0 => 0
  | _ => 32
def rowO (k : Nat) : List Value := [.int .i64 (kdT k), .bool false, .int .i64 (nT k), .int .i64 (mT k), .int .i64 (pT k), .int .u64 (xT k), .int .u64 0, .int .u64 0, .int .u64 0, .int .u64 0, .int .u64 0, .int .u64 0, .int .u64 0, .slice none 0 0]
def tabL : List Value := ([.int .i64 3, .bool false, .int .i64 1, .int .i64 0, .int .i64 0, .int .u64 0, .int .u64 0, .int .u64 0, .int .u64 0, .int .u64 0, .int .u64 0, .int .u64 0, .int .u64 0, .slice none 0 0] : List Value) ++ ([.int .i64 5, .bool false, .int .i64 0, .int .i64 0, .int .i64 0, .int .u64 258, .int .u64 0, .int .u64 0, .int .u64 0, .int .u64 0, .int .u64 0, .int .u64 0, .int .u64 0, .slice none 0 0] : List Value) ++ ([.int .i64 9, .bool false, .int .i64 1, .int .i64 30, .int .i64 2, .int .u64 0, .int .u64 0, .int .u64 0, .int .u64 0, .int .u64 0, .int .u64 0, .int .u64 0, .int .u64 0, .slice none 0 0] : List Value) ++ ([.int .i64 4, .bool false, .int .i64 0, .int .i64 0, .int .i64 0, .int .u64 0, .int .u64 0, .int .u64 0, .int .u64 0, .int .u64 0, .int .u64 0, .int .u64 0, .int .u64 0, .slice none 0 0] : List Value) ++ ([.int .i64 7, .bool false, .int .i64 1, .int .i64 2, .int .i64 0, .int .u64 0, .int .u64 0, .int .u64 0, .int .u64 0, .int .u64 0, .int .u64 0, .int .u64 0, .int .u64 0, .slice none 0 0] : List Value) ++ ([.int .i64 1, .bool false, .int .i64 0, .int .i64 0, .int .i64 0, .int .u64 0, .int .u64 0, .int .u64 0, .int .u64 0, .int .u64 0, .int .u64 0, .int .u64 0, .int .u64 0, .slice none 0 0] : List Value)
def tabZ : List Value := ([.int .i64 0, .bool false, .int .i64 0, .int .i64 0, .int .i64 0, .int .u64 0, .int .u64 0, .int .u64 0, .int .u64 0, .int .u64 0, .int .u64 0, .int .u64 0, .int .u64 0, .slice none 0 0] : List Value) ++ ([.int .i64 0, .bool false, .int .i64 0, .int .i64 0, .int .i64 0, .int .u64 0, .int .u64 0, .int .u64 0, .int .u64 0, .int .u64 0, .int .u64 0, .int .u64 0, .int .u64 0, .slice none 0 0] : List Value) ++ ([.int .i64 0, .bool false, .int .i64 0, .int .i64 0, .int .i64 0, .int .u64 0, .int .u64 0, .int .u64 0, .int .u64 0, .int .u64 0, .int .u64 0, .int .u64 0, .int .u64 0, .slice none 0 0] : List Value) ++ ([.int .i64 0, .bool false, .int .i64 0, .int .i64 0, .int .i64 0, .int .u64 0, .int .u64 0, .int .u64 0, .int .u64 0, .int .u64 0, .int .u64 0, .int .u64 0, .int .u64 0, .slice none 0 0] : List Value) ++ ([.int .i64 0, .bool false, .int .i64 0, .int .i64 0, .int .i64 0, .int .u64 0, .int .u64 0, .int .u64 0, .int .u64 0, .int .u64 0, .int .u64 0, .int .u64 0, .int .u64 0, .slice none 0 0] : List Value) ++ ([.int .i64 0, .bool false, .int .i64 0, .int .i64 0, .int .i64 0, .int .u64 0, .int .u64 0, .int .u64 0, .int .u64 0, .int .u64 0, .int .u64 0, .int .u64 0, .int .u64 0, .slice none 0 0] : List Value)
def tabV : Array (Nat × Value) := #[(0, .agg #[.int .i64 3, .bool false, .int .i64 1, .int .i64 0, .int .i64 0, .int .u64 0, .int .u64 0, .int .u64 0, .int .u64 0, .int .u64 0, .int .u64 0, .int .u64 0, .int .u64 0, .slice none 0 0]), (1, .agg #[.int .i64 5, .bool false, .int .i64 0, .int .i64 0, .int .i64 0, .int .u64 258, .int .u64 0, .int .u64 0, .int .u64 0, .int .u64 0, .int .u64 0, .int .u64 0, .int .u64 0, .slice none 0 0]), (2, .agg #[.int .i64 9, .bool false, .int .i64 1, .int .i64 30, .int .i64 2, .int .u64 0, .int .u64 0, .int .u64 0, .int .u64 0, .int .u64 0, .int .u64 0, .int .u64 0, .int .u64 0, .slice none 0 0]), (3, .agg #[.int .i64 4, .bool false, .int .i64 0, .int .i64 0, .int .i64 0, .int .u64 0, .int .u64 0, .int .u64 0, .int .u64 0, .int .u64 0, .int .u64 0, .int .u64 0, .int .u64 0, .slice none 0 0]), (4, .agg #[.int .i64 7, .bool false, .int .i64 1, .int .i64 2, .int .i64 0, .int .u64 0, .int .u64 0, .int .u64 0, .int .u64 0, .int .u64 0, .int .u64 0, .int .u64 0, .int .u64 0, .slice none 0 0]), (5, .agg #[.int .i64 1, .bool false, .int .i64 0, .int .i64 0, .int .i64 0, .int .u64 0, .int .u64 0, .int .u64 0, .int .u64 0, .int .u64 0, .int .u64 0, .int .u64 0, .int .u64 0, .slice none 0 0])]
theorem tab_build (w : World) : (Instr.build 78 tabV).run Try.prog w = .ok (.agg tabL.toArray) w := by kernel_rfl
theorem tab_zero (w : World) : (zeroValue 78).run Try.prog w = .ok (.agg tabZ.toArray) w := by kernel_rfl
theorem tab_at (k j : Nat) (hk : k < 6) (v : Value) (h : (rowO k)[j]? = some v) : tabL[k * 14 + j]? = some v := by
  have hj : j < 14 := by have := (List.getElem?_eq_some_iff.1 h).1; simpa [rowO] using this
  rw [← h]
  obtain rfl | rfl | rfl | rfl | rfl | rfl : k = 0 ∨ k = 1 ∨ k = 2 ∨ k = 3 ∨ k = 4 ∨ k = 5 := by omega
  all_goals
    obtain rfl | rfl | rfl | rfl | rfl | rfl | rfl | rfl | rfl | rfl | rfl | rfl | rfl | rfl : j = 0 ∨ j = 1 ∨ j = 2 ∨ j = 3 ∨ j = 4 ∨ j = 5 ∨ j = 6 ∨ j = 7 ∨ j = 8 ∨ j = 9 ∨ j = 10 ∨ j = 11 ∨ j = 12 ∨ j = 13 := by omega
    all_goals rfl
theorem nx_at (k : Nat) (hk : k < 6) : nxN (kdT k) (nnT k) (nT k) = nnT (k + 1) ∧ nT k ≤ 30 ∧ mT k ≤ 30 ∧ pT k ≤ 30 ∧ (0 ≤ xT k ∧ xT k ≤ 300) := by
  obtain rfl | rfl | rfl | rfl | rfl | rfl : k = 0 ∨ k = 1 ∨ k = 2 ∨ k = 3 ∨ k = 4 ∨ k = 5 := by omega
  all_goals decide
theorem tabL_one : ∀ v ∈ tabL, v.oneCell' = true := by
  have h : tabL.all (·.oneCell') = true := by rfl
  exact List.all_eq_true.1 h
/-- while the steps are done -/
structure AW (w W : World) (sb fb b c : Nat) (n : Nat) : Prop where
  pq : ∃ S u, PQ W b c S n u n u ∧ (∀ k, S k → w.heap.size ≤ k) ∧ ¬ S sb ∧ ¬ S fb
  p0 : W.cell? ⟨sb, 0, none⟩ = some (.pointer (some ⟨b, 0, none⟩))
  p1 : W.cell? ⟨sb, 1, none⟩ = some (.pointer (some ⟨c, 0, none⟩))
  tb : ∀ k, k < 6 → ∀ j v, (rowO k)[j]? = some v → W.cell? ⟨fb, k * 14 + j, none⟩ = some v
  bel : Below w.heap.size w W
theorem AW.step {w W W' : World} {sb fb b c n n' : Nat} {S : Nat → Prop} (h : AW w W sb fb b c n) (h2 : ∀ k, S k → w.heap.size ≤ k) (h3 : ¬ S sb) (h4 : ¬ S fb) (k : PgAfter W W' b c S n') : AW w W' sb fb b c n' := by
  obtain ⟨S', u', k1, k2, k3⟩ := k
  have l1 := World.block_lt_of_cell? W _ h.p0
  have l2 : fb < W.heap.size := World.block_lt_of_cell? W _ (h.tb 0 (by omega) 0 _ rfl)
  have l1' : sb < W.heap.size := l1
  have out : ∀ q, ¬ S q → q < W.heap.size → ¬ S' q := fun q a1 a2 a3 => by
    rcases k3 q a3 with e | e
    · exact a1 e
    · omega
  refine ⟨⟨S', u', k1, fun q hq => ?_, out _ h3 l1, out _ h4 l2⟩, (k2.cell (p := ⟨sb, 0, none⟩) l1 h3).trans h.p0, (k2.cell (p := ⟨sb, 1, none⟩) l1 h3).trans h.p1, fun q hq j v hv => ?_, h.bel.trans (k2.below h2 h.bel.size)⟩
  · rcases k3 q hq with e | e
    · exact h2 q e
    · exact Nat.le_trans h.bel.size e
  · have := h.tb q hq j v hv
    exact (k2.cell (p := ⟨fb, _, none⟩) l2 h4).trans this
theorem AW.past {w W W' : World} {sb fb b c n : Nat} (h : AW w W sb fb b c n) (k : Below W.heap.size W W') : AW w W' sb fb b c n := by
  obtain ⟨S, u, h1, h2, h3, h4⟩ := h.pq
  exact h.step h2 h3 h4 ⟨S, u, h1.past k, below_but k, fun q hq => Or.inl hq⟩
theorem lent_none (W : World) (S : Nat → Prop) : Lent W S (.slice none 0 0) 0 (fun _ => 0) := ⟨⟨none, 0, rfl, Nat.le_refl _, by omega, fun h => absurd h (by omega)⟩, fun _ => (by decide : (0 : Nat) < 256), fun q _ h => by cases h⟩
def w00 : W4 := ⟨0, 0, 0, 0⟩
theorem isW_00 : IsW (V w00.a w00.b w00.c w00.d) w00.a w00.b w00.c w00.d := isW_0.self
set_option maxHeartbeats 2000000 in
set_option maxRecDepth 100000 in
theorem wrote_is (w : World) : Calls Try.prog 14 #[] w fun e w' => e = .returned (.bool true) ∧ Below w.heap.size w w' := by
  go_enter Try.func14, Try.ntmps14
  go_upto_region 2 with (go_at_call 10; refine (blank_is _).mono ?_; rintro e v ⟨_, rfl, b, c, S0, rfl, hT, hs, hB⟩; (have T1 : Hid (PQ v b c S0 0 (fun _ => 0) 0 (fun _ => 0) ∧ (∀ k, S0 k → w.heap.size ≤ k) ∧ Below w.heap.size w v) := ⟨hT, hs, hB⟩); clear hT hs hB; unfold pageV)
  have T2 : Hid (PQ (v.alloc (pageO b c)) b c S0 0 (fun _ => 0) 0 (fun _ => 0) ∧ (v.alloc (pageO b c)).cell? ⟨v.heap.size, 0, none⟩ = some (.pointer (some ⟨b, 0, none⟩)) ∧ (v.alloc (pageO b c)).cell? ⟨v.heap.size, 1, none⟩ = some (.pointer (some ⟨c, 0, none⟩)) ∧ ¬ S0 v.heap.size ∧ (∀ k, S0 k → w.heap.size ≤ k) ∧ Below w.heap.size w (v.alloc (pageO b c))) := by
    refine ⟨T1.out.1.past ((Below.refl _ _).alloc (Nat.le_refl _) _), ?_, ?_, fun e => ?_, T1.out.2.1, T1.out.2.2.alloc T1.out.2.2.size _⟩
    · unfold pageO; rw [World.cell?_alloc_at _ _ _ _ rfl]; rfl
    · unfold pageO; rw [World.cell?_alloc_at _ _ _ _ rfl]; rfl
    · have := T1.out.1.lt _ e; omega
  clear T1
  change Code.wp _ _ _ _ (v.alloc (pageO b c))
  generalize v.alloc (pageO b c) = v1 at T2 ⊢
  generalize v.heap.size = sb at T2 ⊢
  have p0 := T2.out.2.1
  go_upto_region 5 with (first | (refine wpList_build 78 _ tabV tabL rfl rfl (by kernel_rfl) tab_build ?_) | (refine new_store 78 tabL tabZ tab_zero rfl (by kernel_rfl) tabL_one rfl rfl _ rfl rfl _ rfl rfl rfl rfl ?_; intro v2 hB hsz hcl; (have T3 : Hid (AW w v2 sb v1.heap.size b c 0) := ⟨⟨S0, _, T2.out.1.past hB, T2.out.2.2.2.2.1, T2.out.2.2.2.1, fun e => absurd (T2.out.1.lt _ e) (Nat.lt_irrefl _)⟩, (hB.cell (p := ⟨sb, 0, none⟩) (World.block_lt_of_cell? v1 _ T2.out.2.1)).trans T2.out.2.1, (hB.cell (p := ⟨sb, 1, none⟩) (World.block_lt_of_cell? v1 _ T2.out.2.2.1)).trans T2.out.2.2.1, fun k hk j u hu => (hcl _ _ (tab_at k j hk u hu)).1, T2.out.2.2.2.2.2.trans (hB.mono T2.out.2.2.2.2.2.size)⟩); clear hB hsz hcl T2 p0))
  generalize v1.heap.size = fb at T3 ⊢
  go_wp2
  go_loopw [3] (fun si wr => ∃ k : Nat, k ≤ 6 ∧ si = .int .i64 (k : Int) ∧ AW w wr sb fb b c (nnT k)) (fun si _ => 6 - (intOf si).toNat)
  case atStart => exact ⟨0, by omega, rfl, T3.out⟩
  case round =>
    obtain ⟨k, hk, rfl, hA⟩ := hrel
    have A0 : Hid (AW w wr sb fb b c (nnT k)) := hA
    clear hA
    by_cases hk9 : k < 6
    · have kI : (k : Int) < 6 := by omega
      obtain ⟨q1, q2, q3, q4, q5⟩ := nx_at k hk9
      obtain ⟨S, u, hP, hS2, hS3, hS4⟩ := (A0.out.past ((Below.refl _ _).drew)).pq
      have PP : Hid (PQ wr.drew b c S (nnT k) u (nnT k) u ∧ (∀ k, S k → w.heap.size ≤ k) ∧ ¬ S sb ∧ ¬ S fb) := ⟨hP, hS2, hS3, hS4⟩
      have ST : Hid (∀ W, PQ W b c S (nnT k) u (nnT k) u → Calls Try.prog 11 #[pageV b c, opV (kdT k) false (nT k) (mT k) (pT k) ⟨xT k, 0, 0, 0⟩ w00 (.slice none 0 0)] W fun e w' => e = .returned (.bool true) ∧ PgAfter W w' b c S (nnT (k + 1))) := fun W hW => by
        rw [← q1]
        exact paged_is W b c S (nnT k) u hW false (nT k) (mT k) (pT k) ⟨xT k, 0, 0, 0⟩ w00 (.slice none 0 0) 0 (fun _ => 0) (lent_none W S) (by omega) (by omega) (by omega) (isW_lit (xT k) q5.1 (by omega)).self isW_00 (kdT k)
      clear q1 q2 q3 q4 q5 hP hS2 hS3 hS4
      go_upto_region 8 with fail
      have A1 : Hid (AW w wr.drew sb fb b c (nnT k)) := A0.out.past ((Below.refl _ _).drew)
      refine wp_region_held_drew (S := fun V' => (V'.cell? ⟨sb, 0, none⟩ = some (.pointer (some ⟨b, 0, none⟩)) ∧ V'.cell? ⟨sb, 1, none⟩ = some (.pointer (some ⟨c, 0, none⟩))) ∧ ∀ k, k < 6 → ∀ j v, (rowO k)[j]? = some v → V'.cell? ⟨fb, k * 14 + j, none⟩ = some v) (by kernel_rfl) ⟨⟨A1.out.p0, A1.out.p1⟩, A1.out.tb⟩ (fun hHeld => ?_)
      generalize wr.drew = z0 at hHeld A1 PP ⊢
      clear A0
      refine wpAnyH_take (i := 0) (v := pageV b c) ov0 (by kernel_rfl) (by kernel_rfl) (by kernel_rfl) (fun _ _ _ h => h) (Or.inl ⟨by rfl, fun V' hS => ?_⟩) hHeld ?_
      · have q0 := hS.1.1
        have q1 := hS.1.2
        unfold pageV
        go_simp
      simp only [Act.put, List.setIfInBounds_toArray, List.set_cons_zero, List.set_cons_succ]
      refine wpAnyH_take (i := 1) (v := .int .i64 (k : Int)) ov1 (by kernel_rfl) (by kernel_rfl) (by kernel_rfl) (fun _ _ _ h => h) (Or.inl ⟨by rfl, fun V' hS => ?_⟩) hHeld ?_
      · go_simp
      simp only [Act.put, List.setIfInBounds_toArray, List.set_cons_zero, List.set_cons_succ]
      refine wpAnyH_take (i := 2) (v := .pointer (some ⟨fb, k * 14, none⟩)) ov2 (by kernel_rfl) (by kernel_rfl) (by kernel_rfl) (fun _ _ _ h => h) (Or.inl ⟨by rfl, fun V' hS => ?_⟩) hHeld ?_
      · go_simp
      simp only [Act.put, List.setIfInBounds_toArray, List.set_cons_zero, List.set_cons_succ]
      refine wpAnyH_take (i := 3) (v := opV (kdT k) false (nT k) (mT k) (pT k) ⟨xT k, 0, 0, 0⟩ w00 (.slice none 0 0)) ov3 (by kernel_rfl) (by kernel_rfl) (by kernel_rfl) (fun _ _ _ h => h) (Or.inl ⟨by rfl, fun V' hS => ?_⟩) hHeld ?_
      · have c0 : V'.cell? ⟨fb, k * 14, none⟩ = some (.int .i64 (kdT k)) := hS.2 k hk9 0 _ rfl
        have c1 : V'.cell? ⟨fb, k * 14 + 1, none⟩ = some (.bool false) := hS.2 k hk9 1 _ rfl
        have c2 : V'.cell? ⟨fb, k * 14 + 2, none⟩ = some (.int .i64 (nT k)) := hS.2 k hk9 2 _ rfl
        have c3 : V'.cell? ⟨fb, k * 14 + 3, none⟩ = some (.int .i64 (mT k)) := hS.2 k hk9 3 _ rfl
        have c4 : V'.cell? ⟨fb, k * 14 + 4, none⟩ = some (.int .i64 (pT k)) := hS.2 k hk9 4 _ rfl
        have c5 : V'.cell? ⟨fb, k * 14 + 5, none⟩ = some (.int .u64 (xT k)) := hS.2 k hk9 5 _ rfl
        have c6 : V'.cell? ⟨fb, k * 14 + 6, none⟩ = some (.int .u64 0) := hS.2 k hk9 6 _ rfl
        have c7 : V'.cell? ⟨fb, k * 14 + 7, none⟩ = some (.int .u64 0) := hS.2 k hk9 7 _ rfl
        have c8 : V'.cell? ⟨fb, k * 14 + 8, none⟩ = some (.int .u64 0) := hS.2 k hk9 8 _ rfl
        have c9 : V'.cell? ⟨fb, k * 14 + 9, none⟩ = some (.int .u64 0) := hS.2 k hk9 9 _ rfl
        have c10 : V'.cell? ⟨fb, k * 14 + 10, none⟩ = some (.int .u64 0) := hS.2 k hk9 10 _ rfl
        have c11 : V'.cell? ⟨fb, k * 14 + 11, none⟩ = some (.int .u64 0) := hS.2 k hk9 11 _ rfl
        have c12 : V'.cell? ⟨fb, k * 14 + 12, none⟩ = some (.int .u64 0) := hS.2 k hk9 12 _ rfl
        have c13 : V'.cell? ⟨fb, k * 14 + 13, none⟩ = some (.slice none 0 0) := hS.2 k hk9 13 _ rfl
        unfold opV w00
        go_simp
      simp only [Act.put, List.setIfInBounds_toArray, List.set_cons_zero, List.set_cons_succ]
      refine wpAnyH_ready (rs := [4]) (by kernel_rfl) (by simp) ?_
      refine AllReadyH.cons ov4 (fun K hK => ?_) AllReadyH.nil
      rw [if_pos (by rfl)]
      go_simp
      refine (ST.out z0 PP.out.1).mono ?_
      rintro e v3 ⟨rfl, h1⟩
      have A2 : Hid (AW w v3 sb fb b c (nnT (k + 1))) := A1.out.step PP.out.2.1 PP.out.2.2.1 PP.out.2.2.2 h1
      clear h1
      (try go_wp2_with fail)
      refine hK.out _ _ ⟨⟨A2.out.p0, A2.out.p1⟩, A2.out.tb⟩ (fun _ => ?_)
      clear hK K
      (try simp only [Act.put, List.setIfInBounds_toArray, List.set_cons_zero, List.set_cons_succ])
      refine wpAnyH_take (i := 5) (v := .bool false) ov5 (by kernel_rfl) (by kernel_rfl) (by kernel_rfl) (fun _ _ _ h => h) (Or.inl ⟨by rfl, fun V' hS => ?_⟩) ⟨⟨A2.out.p0, A2.out.p1⟩, A2.out.tb⟩ ?_
      · go_simp
      simp only [Act.put, List.setIfInBounds_toArray, List.set_cons_zero, List.set_cons_succ]
      refine wpAnyH_done (by kernel_rfl) ?_ _
      go_wp2
      go_roundw
      case rel => exact ⟨k + 1, by omega, by simp, A2.out⟩
      case measure => simp [intOf]; omega
    · obtain rfl : k = 6 := by omega
      have p1 := A0.out.p1
      have LR : Hid (Calls Try.prog 13 #[.pointer (some ⟨c, 0, none⟩)] wr fun e w' => e = .returned (.int .i64 32) ∧ w' = wr) := by
        obtain ⟨S, u, hP, _⟩ := A0.out.pq
        obtain ⟨Bz, z, cz, hM, _⟩ := hP.callR
        exact lenR_is wr c Bz z 32 cz u hM
      go_wp2_with (go_at_call 13; refine (LR.out).mono ?_; rintro e w' ⟨rfl, hw⟩; (have hw2 := hw.symm); clear hw LR; subst hw2)
      go_ret
      exact ⟨rfl, A0.out.bel⟩
end Go.Proofs.Ytlemnjhdnciddaa
