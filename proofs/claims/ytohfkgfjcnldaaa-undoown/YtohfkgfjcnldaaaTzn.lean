/- step, awake. -/
import Derived.Test.YtohfkgfjcnldaaaTzm
namespace Go.Proofs.Ytohfkgfjcnldaaa
open Go.RowKit Go.Shelf
/-- what a step makes of a table -/
def nxA (kd k v : Int) (A : List (Int × Int)) (H : List (List (Int × Int))) : List (Int × Int) := if kd = 1 then setRL A k v else if kd = 2 then delA A k else if kd = 4 then bkA A H k else A
def nxH (kd k : Int) (A : List (Int × Int)) (H : List (List (Int × Int))) : List (List (Int × Int)) := if kd = 3 then H ++ [A] else if kd = 4 then bkH H k else if kd = 5 then bkH H k else H
theorem moved_is (w : World) (ow : Nat → Nat) (s b c N : Nat) (A : List (Int × Int)) (H : List (List (Int × Int))) (h : SD w ow s b c N A H) (hs : 0 < s) (hN : N + 2 < 274877906944) (kd : Int) (two : Bool) (k v : Int) (hk : I64 k) : Calls Try.prog 17 #[.agg #[.pointer (some ⟨b, 0, none⟩), .pointer (some ⟨c, 0, none⟩)], .agg #[.int .i64 kd, .bool two, .int .i64 k, .int .i64 v]] w fun e w' => e = .returned (.bool true) ∧ ∃ ow', SD w' ow' s b c (N + 2) (nxA kd k v A H) (nxH kd k A H) ∧ Mo (Ps s) ow ow' w w' := by
  by_cases h1 : kd = 1
  · subst h1; exact moved1 w ow s b c N A H h hs hN two k v hk
  by_cases h2 : kd = 2
  · subst h2; exact moved2 w ow s b c N A H h hs hN two k v hk
  by_cases h3 : kd = 3
  · subst h3; exact moved3 w ow s b c N A H h hs hN two k v hk
  by_cases h4 : kd = 4
  · subst h4; exact moved4 w ow s b c N A H h hs hN two k v hk
  by_cases h5 : kd = 5
  · subst h5; exact moved5 w ow s b c N A H h hs hN two k v hk
  unfold nxA nxH
  rw [if_neg h1, if_neg h2, if_neg h4, if_neg h3, if_neg h4, if_neg h5]
  exact moved0 w ow s b c N A H h hs hN kd h1 h2 h3 h4 h5 two k v hk
theorem asked_is (w : World) (ow : Nat → Nat) (s b c N : Nat) (A : List (Int × Int)) (H : List (List (Int × Int))) (h : SD w ow s b c N A H) (hN : N + 2 < 274877906944) (kd : Int) (two : Bool) (k v : Int) (hk : I64 k) : Calls Try.prog 56 #[.agg #[.pointer (some ⟨b, 0, none⟩), .pointer (some ⟨c, 0, none⟩)], .agg #[.int .i64 kd, .bool two, .int .i64 k, .int .i64 v]] w fun e w' => e = .returned (.bool true) ∧ Below w.heap.size w w' := by
  by_cases h1 : kd = 6
  · subst h1; exact asked6 w ow s b c N A H h hN two k v hk
  by_cases h2 : kd = 7
  · subst h2; exact asked7 w ow s b c N A H h hN two k v hk
  by_cases h3 : kd = 8
  · subst h3; exact asked8 w ow s b c N A H h hN two k v hk
  exact asked0 w ow s b c N A H h hN kd h1 h2 h3 two k v hk
set_option maxHeartbeats 2000000 in
set_option maxRecDepth 100000 in
theorem step_is (w : World) (ow : Nat → Nat) (s b c N : Nat) (A : List (Int × Int)) (H : List (List (Int × Int))) (h : SD w ow s b c N A H) (hs : 0 < s) (hN : N + 2 < 274877906944) (kd : Int) (two : Bool) (k v : Int) (hk : I64 k) : Calls Try.prog 15 #[.agg #[.pointer (some ⟨b, 0, none⟩), .pointer (some ⟨c, 0, none⟩)], .agg #[.int .i64 kd, .bool two, .int .i64 k, .int .i64 v]] w fun e w' => e = .returned (.bool true) ∧ ∃ ow', SD w' ow' s b c (N + 2) (nxA kd k v A H) (nxH kd k A H) ∧ Mo (Ps s) ow ow' w w' := by
  obtain ⟨K0, M0⟩ := LU.start h kd two k v
  generalize grow ow w.heap.size 0 = o0 at K0 M0
  have S0 : Hid (SD ((w.alloc (.cells #[.pointer (some ⟨b, 0, none⟩), .pointer (some ⟨c, 0, none⟩)] 27)).alloc (.cells #[.int .i64 kd, .bool two, .int .i64 k, .int .i64 v] 30)) o0 s b c N A H) := ⟨K0.t, K0.r⟩
  have HK : Hid (0 < s ∧ N + 2 < 274877906944 ∧ I64 k) := ⟨hs, hN, hk⟩
  replace K0 := hide K0
  replace M0 := hide M0
  clear h hs hN hk
  go_enter Try.func15, Try.ntmps15
  go_upto_region 1 with fail
  change Code.wp _ _ _ _ ((w.alloc (.cells #[.pointer (some ⟨b, 0, none⟩), .pointer (some ⟨c, 0, none⟩)] 27)).alloc (.cells #[.int .i64 kd, .bool two, .int .i64 k, .int .i64 v] 30))
  generalize (w.alloc (.cells #[.pointer (some ⟨b, 0, none⟩), .pointer (some ⟨c, 0, none⟩)] 27)).alloc (.cells #[.int .i64 kd, .bool two, .int .i64 k, .int .i64 v] 30) = w0 at K0 M0 S0 ⊢
  generalize w.heap.size + 1 = ob at K0 ⊢
  generalize w.heap.size = sb at K0 ⊢
  obtain ⟨⟨p0, p1⟩, k0, k1, k2, k3⟩ := K0.out.bo
  clear K0
  by_cases h5 : kd ≤ 5
  · go_wp2_with (go_at_call 17; refine (moved_is w0 o0 s b c N A H S0.out HK.out.1 HK.out.2.1 kd two k v HK.out.2.2).mono ?_; rintro e w' ⟨rfl, o1, h1, h2⟩)
    go_ret
    exact ⟨rfl, o1, h1, M0.out.trans h2⟩
  · have NX : Hid (nxA kd k v A H = A ∧ nxH kd k A H = H) := by
      unfold nxA nxH
      rw [if_neg (by omega), if_neg (by omega), if_neg (by omega), if_neg (by omega), if_neg (by omega), if_neg (by omega)]
      exact ⟨rfl, rfl⟩
    go_wp2_with (go_at_call 56; refine (asked_is w0 o0 s b c N A H S0.out HK.out.2.1 kd two k v HK.out.2.2).mono ?_; rintro e w' ⟨rfl, hB⟩)
    go_ret
    rw [NX.out.1, NX.out.2]
    exact ⟨rfl, _, (S0.out.past (i := 0) hB).mono (by omega), M0.out.trans (Mo.below hB)⟩
theorem But.sets {S : Nat → Prop} {w : World} {b : Nat} (hb : S b ∨ w.heap.size ≤ b) : ∀ (vs : List Value) (o : Nat) {w' : World}, But S w w' → But S w (w'.setCells b o vs)
  | [], _, _, h => h
  | x :: r, o, w', h => by
    rw [World.setCells]
    exact But.sets hb r (o + 1) (h.setCell ⟨b, o, none⟩ x hb)
theorem wpList_build {ops : Array Oper} {rest : List Oper} {op : Oper} {a : Act} {w : World} {Q : Exit → Act → World → Prop} (T : TypeId) (parts : Array (Nat × Operand)) (vals : Array (Nat × Value)) (L : List Value) (hgd : op.guard = none) (ho : op.op = .build T parts)
    (hv : parts.map (fun p => (p.1, a.eval p.2)) = vals) (hT : ∀ w, (Instr.build T vals).run Try.prog w = .ok (.agg L.toArray) w)
    (h : wpList Try.prog ops Q rest (a.put op.dst (.agg L.toArray)) w) : wpList Try.prog ops Q (op :: rest) a w := by
  refine wpList_plain hgd fun K hK => ?_
  unfold Oper.wp execOp
  simp only [ho, Sem.run_bind, Sem.run_pure, Result.andThen_ok, hv, hT]
  exact hK _ _ h
/-- 'x := a struct': a new block, and the value laid into it -/
theorem new_store {ops : Array Oper} {rest : List Oper} {op1 op2 : Oper} {a : Act} {w : World} {Q : Exit → Act → World → Prop} (T : TypeId) (L Z : List Value) (hZ : ∀ w, (zeroValue T).run Try.prog w = .ok (.agg Z.toArray) w) (hl : Z.length = L.length) (hsz : (Try.prog.info? T).map (·.size) = some L.length) (hone : ∀ v ∈ L, v.oneCell' = true)
    (h1 : op1.guard = none) (o1 : op1.op = .alloc T) (t : Tmp) (d1 : op1.dst = some t) (h2 : op2.guard = none) (y : Operand) (o2 : op2.op = .store T (.tmp t) y) (d2 : op2.dst = none)
    (hx : (a.put (some t) (.pointer (some ⟨w.heap.size, 0, none⟩))).eval (.tmp t) = .pointer (some ⟨w.heap.size, 0, none⟩)) (hy : (a.put (some t) (.pointer (some ⟨w.heap.size, 0, none⟩))).eval y = .agg L.toArray)
    (h : ∀ W, Below w.heap.size w W → (∀ j v, L[j]? = some v → W.cell? ⟨w.heap.size, j, none⟩ = some v) → wpList Try.prog ops Q rest (a.put (some t) (.pointer (some ⟨w.heap.size, 0, none⟩))) W) : wpList Try.prog ops Q (op1 :: op2 :: rest) a w := by
  refine wpList_plain h1 fun K hK => ?_
  unfold Oper.wp execOp
  simp only [o1, Sem.run_bind, Instr.alloc, hZ, newVar, newRow, run_newObj_alloc, Sem.run_pure, Result.andThen_ok, Value.cells]
  refine hK _ _ ?_
  rw [d1]
  have hc : ∀ j, j < L.length → (∃ u, (w.alloc (.cells Z.toArray T)).cell? ⟨w.heap.size, j, none⟩ = some u) ∧ (w.alloc (.cells Z.toArray T)).frozen? ⟨w.heap.size, j, none⟩ = false := fun j hj => by
    rw [World.cell?_alloc_at _ _ _ _ rfl]
    exact ⟨⟨Z[j], by rw [List.getElem?_toArray, List.getElem?_eq_getElem]⟩, by simp [World.frozen?_alloc_at]⟩
  refine wpList_store_mid h2 T _ y o2 w.heap.size 0 L.toArray hx hy (fun j hj => ?_) (by rw [List.size_toArray]; exact hsz) (all_oneCell_toArray hone) ?_
  · rw [List.size_toArray] at hj
    obtain ⟨⟨u, hu⟩, hf⟩ := hc j hj
    rw [Nat.zero_add, hu]; exact ⟨rfl, hf⟩
  rw [d2]
  refine h _ ?_ fun j v hv => ?_
  · have := But.sets (S := fun _ => False) (w := w) (b := w.heap.size) (Or.inr (Nat.le_refl _)) L 0 ((But.refl _ w).alloc (.cells Z.toArray T))
    exact But.below this (fun _ e => e.elim) (Nat.le_refl _)
  · have hj := (List.getElem?_eq_some_iff.1 hv).1
    have h9 := World.cell?_setCells_in w.heap.size L 0 (w.alloc (.cells Z.toArray T)) (fun j hj => by rw [Nat.zero_add]; obtain ⟨⟨u, hu⟩, _⟩ := hc j hj; rw [hu]; rfl) j hj
    rw [Nat.zero_add] at h9
    rw [h9, ← hv, List.getElem?_eq_getElem hj]
def kdT : Nat → Int
  | 0 => 1
  | 1 => 3
  | 2 => 1
  | 3 => 1
  | 4 => 7
  | 5 => 4
  | 6 => 6
  | 7 => 7
  | 8 => 8
  | _ => 0
def kT : Nat → Int
  | 0 => 1
  | 1 => 0
  | 2 => 1
  | 3 => 0
  | 4 => 0
  | 5 => 0
  | 6 => 1
  | 7 => 0
  | 8 => 0
  | _ => 0
def vT : Nat → Int
  | 0 => 10
  | 1 => 0
  | 2 => 11
  | 3 => 5
  | 4 => 0
  | 5 => 0
  | 6 => 0
  | 7 => 0
  | 8 => 0
  | _ => 0
def aT : Nat → List (Int × Int)
  | 0 => []
  | 1 => [(1, 10)]
  | 2 => [(1, 10)]
  | 3 => [(1, 11)]
  | 4 => [(0, 5), (1, 11)]
  | 5 => [(0, 5), (1, 11)]
  | _ => [(1, 10)]
def hT : Nat → List (List (Int × Int))
  | 0 => []
  | 1 => []
  | 2 => [[(1, 10)]]
  | 3 => [[(1, 10)]]
  | 4 => [[(1, 10)]]
  | 5 => [[(1, 10)]]
  | _ => []
def rowO (k : Nat) : List Value := [.int .i64 (kdT k), .bool false, .int .i64 (kT k), .int .i64 (vT k)]
def tabL : List Value := ([.int .i64 1, .bool false, .int .i64 1, .int .i64 10] : List Value) ++ ([.int .i64 3, .bool false, .int .i64 0, .int .i64 0] : List Value) ++ ([.int .i64 1, .bool false, .int .i64 1, .int .i64 11] : List Value) ++ ([.int .i64 1, .bool false, .int .i64 0, .int .i64 5] : List Value) ++ ([.int .i64 7, .bool false, .int .i64 0, .int .i64 0] : List Value) ++ ([.int .i64 4, .bool false, .int .i64 0, .int .i64 0] : List Value) ++ ([.int .i64 6, .bool false, .int .i64 1, .int .i64 0] : List Value) ++ ([.int .i64 7, .bool false, .int .i64 0, .int .i64 0] : List Value) ++ ([.int .i64 8, .bool false, .int .i64 0, .int .i64 0] : List Value)
def tabZ : List Value := ([.int .i64 0, .bool false, .int .i64 0, .int .i64 0] : List Value) ++ ([.int .i64 0, .bool false, .int .i64 0, .int .i64 0] : List Value) ++ ([.int .i64 0, .bool false, .int .i64 0, .int .i64 0] : List Value) ++ ([.int .i64 0, .bool false, .int .i64 0, .int .i64 0] : List Value) ++ ([.int .i64 0, .bool false, .int .i64 0, .int .i64 0] : List Value) ++ ([.int .i64 0, .bool false, .int .i64 0, .int .i64 0] : List Value) ++ ([.int .i64 0, .bool false, .int .i64 0, .int .i64 0] : List Value) ++ ([.int .i64 0, .bool false, .int .i64 0, .int .i64 0] : List Value) ++ ([.int .i64 0, .bool false, .int .i64 0, .int .i64 0] : List Value)
def tabV : Array (Nat × Value) := #[(0, .agg #[.int .i64 1, .bool false, .int .i64 1, .int .i64 10]), (1, .agg #[.int .i64 3, .bool false, .int .i64 0, .int .i64 0]), (2, .agg #[.int .i64 1, .bool false, .int .i64 1, .int .i64 11]), (3, .agg #[.int .i64 1, .bool false, .int .i64 0, .int .i64 5]), (4, .agg #[.int .i64 7, .bool false, .int .i64 0, .int .i64 0]), (5, .agg #[.int .i64 4, .bool false, .int .i64 0, .int .i64 0]), (6, .agg #[.int .i64 6, .bool false, .int .i64 1, .int .i64 0]), (7, .agg #[.int .i64 7, .bool false, .int .i64 0, .int .i64 0]), (8, .agg #[.int .i64 8, .bool false, .int .i64 0, .int .i64 0])]
theorem tab_build (w : World) : (Instr.build 83 tabV).run Try.prog w = .ok (.agg tabL.toArray) w := by kernel_rfl
theorem tab_zero (w : World) : (zeroValue 83).run Try.prog w = .ok (.agg tabZ.toArray) w := by kernel_rfl
theorem tab_at (k j : Nat) (hk : k < 9) (v : Value) (h : (rowO k)[j]? = some v) : tabL[k * 4 + j]? = some v := by
  have hj : j < 4 := by have := (List.getElem?_eq_some_iff.1 h).1; simpa [rowO] using this
  rw [← h]
  obtain rfl | rfl | rfl | rfl | rfl | rfl | rfl | rfl | rfl : k = 0 ∨ k = 1 ∨ k = 2 ∨ k = 3 ∨ k = 4 ∨ k = 5 ∨ k = 6 ∨ k = 7 ∨ k = 8 := by omega
  all_goals
    obtain rfl | rfl | rfl | rfl : j = 0 ∨ j = 1 ∨ j = 2 ∨ j = 3 := by omega
    all_goals rfl
theorem nx_at (k : Nat) (hk : k < 9) : nxA (kdT k) (kT k) (vT k) (aT k) (hT k) = aT (k + 1) ∧ nxH (kdT k) (kT k) (aT k) (hT k) = hT (k + 1) ∧ I64 (kT k) := by
  obtain rfl | rfl | rfl | rfl | rfl | rfl | rfl | rfl | rfl : k = 0 ∨ k = 1 ∨ k = 2 ∨ k = 3 ∨ k = 4 ∨ k = 5 ∨ k = 6 ∨ k = 7 ∨ k = 8 := by omega
  all_goals (refine ⟨by decide, by decide, ?_⟩; unfold I64; decide)
theorem tabL_one : ∀ v ∈ tabL, v.oneCell' = true := by
  have h : tabL.all (·.oneCell') = true := by rfl
  exact List.all_eq_true.1 h
/-- while the steps are done -/
structure AW (w W : World) (sb fb b c k : Nat) : Prop where
  ex : ∃ ow, SD W ow 1 b c (2 * k) (aT k) (hT k) ∧ ow sb = 0 ∧ ow fb = 0 ∧ (∀ x, x < w.heap.size → ow x = 0) ∧ fb < W.heap.size
  sB : CBox W sb 27 [.pointer (some ⟨b, 0, none⟩), .pointer (some ⟨c, 0, none⟩)]
  tb : ∀ k, k < 9 → ∀ j v, (rowO k)[j]? = some v → W.cell? ⟨fb, k * 4 + j, none⟩ = some v
  bel : Below w.heap.size w W
theorem AW.step {w W W' : World} {sb fb b c k : Nat} (h6 : CBox W sb 27 [.pointer (some ⟨b, 0, none⟩), .pointer (some ⟨c, 0, none⟩)]) (h7 : ∀ k, k < 9 → ∀ j v, (rowO k)[j]? = some v → W.cell? ⟨fb, k * 4 + j, none⟩ = some v) (h8 : Below w.heap.size w W) (hk : k < 9) (ow ow' : Nat → Nat) (h2 : ow sb = 0) (h3 : ow fb = 0) (h4 : ∀ x, x < w.heap.size → ow x = 0) (h5 : fb < W.heap.size) (g1 : SD W' ow' 1 b c (2 * k + 2) (nxA (kdT k) (kT k) (vT k) (aT k) (hT k)) (nxH (kdT k) (kT k) (aT k) (hT k))) (g2 : Mo (Ps 1) ow ow' W W') : AW w W' sb fb b c (k + 1) := by
  obtain ⟨e1, e2, _⟩ := nx_at k hk
  rw [e1, e2] at g1
  have n0 : ¬ Ps 1 0 := by unfold Ps; omega
  obtain ⟨s1, s2⟩ := g2.box h6 (by rw [h2]; exact n0)
  obtain ⟨l1, l2⟩ := g2.low h4 n0 h8.size
  refine ⟨⟨ow', g1, s2.trans h2, (g2.eq fb h5).trans h3, l2, Nat.lt_of_lt_of_le h5 g2.but.size⟩, s1, fun q hq j v hv => ?_, h8.trans l1⟩
  have := h7 q hq j v hv
  exact (g2.but.cell (p := ⟨fb, _, none⟩) h5 (fun e => n0 (h3 ▸ e.1))).trans this
theorem AW.drew {w W : World} {sb fb b c k : Nat} (h : AW w W sb fb b c k) : AW w W.drew sb fb b c k := by
  obtain ⟨⟨ow, h1, h2, h3, h4, h5⟩, h6, h7, h8⟩ := h
  have m : Mo (fun _ => False) ow ow W W.drew := ⟨(But.refl _ _).drew, fun _ _ => rfl⟩
  exact ⟨⟨ow, h1.mo m id id, h2, h3, h4, h5⟩, h6, h7, h8.drew⟩
set_option maxHeartbeats 2000000 in
set_option maxRecDepth 100000 in
theorem awake_is (w : World) : Calls Try.prog 13 #[] w fun e w' => e = .returned (.bool true) ∧ Below w.heap.size w w' := by
  go_enter Try.func13, Try.ntmps13
  go_upto_region 2 with (go_at_call 14; refine (made_is _ (fun _ => 0) 1 0 (by omega)).mono ?_; rintro e v ⟨b, c, o1, rfl, hT, hB, hE⟩; (have T1 : Hid (SD v o1 1 b c 0 [] [] ∧ Below w.heap.size w v ∧ ∀ x, x < w.heap.size → o1 x = 0) := ⟨hT, hB, hE⟩); clear hT hB hE)
  have T2 : Hid (SD (v.alloc (.cells #[.pointer (some ⟨b, 0, none⟩), .pointer (some ⟨c, 0, none⟩)] 27)) (grow o1 v.heap.size 0) 1 b c 0 [] [] ∧ CBox (v.alloc (.cells #[.pointer (some ⟨b, 0, none⟩), .pointer (some ⟨c, 0, none⟩)] 27)) v.heap.size 27 [.pointer (some ⟨b, 0, none⟩), .pointer (some ⟨c, 0, none⟩)] ∧ (grow o1 v.heap.size 0) v.heap.size = 0 ∧ (∀ x, x < w.heap.size → grow o1 v.heap.size 0 x = 0) ∧ Below w.heap.size w (v.alloc (.cells #[.pointer (some ⟨b, 0, none⟩), .pointer (some ⟨c, 0, none⟩)] 27))) := by
    have hz := T1.out.2.1.size
    exact ⟨T1.out.1.past ((Below.refl _ _).alloc (Nat.le_refl _) _), CBox.new v _ [_, _], grow_ge (Nat.le_refl _), fun x hx => by rw [grow_lt (by omega)]; exact T1.out.2.2 x hx, T1.out.2.1.alloc hz _⟩
  clear T1
  change Code.wp _ _ _ _ (v.alloc (.cells #[.pointer (some ⟨b, 0, none⟩), .pointer (some ⟨c, 0, none⟩)] 27))
  generalize v.alloc (.cells #[.pointer (some ⟨b, 0, none⟩), .pointer (some ⟨c, 0, none⟩)] 27) = v1 at T2 ⊢
  generalize grow o1 v.heap.size 0 = o2 at T2
  generalize v.heap.size = sb at T2 ⊢
  have p0 := T2.out.2.1.cell 0
  change v1.cell? ⟨sb, 0, none⟩ = some (.pointer (some ⟨b, 0, none⟩)) at p0
  go_upto_region 5 with (first | (refine wpList_build 83 _ tabV tabL rfl rfl (by kernel_rfl) tab_build ?_) | (refine new_store 83 tabL tabZ tab_zero rfl (by kernel_rfl) tabL_one rfl rfl _ rfl rfl _ rfl rfl rfl rfl ?_; intro v2 hB hcl; (have T3 : Hid (AW w v2 sb v1.heap.size b c 0) := ⟨⟨grow o2 v1.heap.size 0, T2.out.1.past hB, (grow_lt T2.out.2.1.lt).trans T2.out.2.2.1, grow_ge (Nat.le_refl _), fun x hx => (grow_lt (Nat.lt_of_lt_of_le hx T2.out.2.2.2.2.size)).trans (T2.out.2.2.2.1 x hx), World.block_lt_of_cell? v2 _ (hcl 0 _ rfl)⟩, T2.out.2.1.but (below_but (S := fun _ => False) hB) id, fun k hk j u hu => hcl _ _ (tab_at k j hk u hu), T2.out.2.2.2.2.trans (hB.mono T2.out.2.2.2.2.size)⟩); clear hB hcl T2 p0))
  generalize v1.heap.size = fb at T3 ⊢
  go_wp2
  go_loopw [3] (fun si wr => ∃ (k : Nat), k ≤ 9 ∧ si = .int .i64 (k : Int) ∧ AW w wr sb fb b c k) (fun si _ => 9 - (intOf si).toNat)
  case atStart => exact ⟨0, by omega, rfl, T3.out⟩
  case round =>
    obtain ⟨k, hk, rfl, hA⟩ := hrel
    have A0 : Hid (AW w wr sb fb b c k) := hA
    clear hA T3
    by_cases hk9 : k < 9
    · have kI : (k : Int) < 9 := by omega
      have ST : Hid (∀ W, AW w W sb fb b c k → Calls Try.prog 15 #[.agg #[.pointer (some ⟨b, 0, none⟩), .pointer (some ⟨c, 0, none⟩)], .agg #[.int .i64 (kdT k), .bool false, .int .i64 (kT k), .int .i64 (vT k)]] W fun e w' => e = .returned (.bool true) ∧ AW w w' sb fb b c (k + 1)) := fun W hW => by
        obtain ⟨ow, h1, h2, h3, h4, h5⟩ := hW.ex
        refine (step_is W ow 1 b c (2 * k) (aT k) (hT k) h1 (by omega) (by omega) (kdT k) false (kT k) (vT k) (nx_at k hk9).2.2).mono ?_
        rintro e w' ⟨rfl, o9, q1, q2⟩
        exact ⟨rfl, AW.step hW.sB hW.tb hW.bel hk9 ow o9 h2 h3 h4 h5 q1 q2⟩
      go_upto_region 8 with fail
      have A1 : Hid (AW w wr.drew sb fb b c k) := A0.out.drew
      refine wp_region_held_drew (S := fun V' => (V'.cell? ⟨sb, 0, none⟩ = some (.pointer (some ⟨b, 0, none⟩)) ∧ V'.cell? ⟨sb, 1, none⟩ = some (.pointer (some ⟨c, 0, none⟩))) ∧ ∀ k, k < 9 → ∀ j v, (rowO k)[j]? = some v → V'.cell? ⟨fb, k * 4 + j, none⟩ = some v) (by kernel_rfl) ⟨⟨A1.out.sB.cell 0, A1.out.sB.cell 1⟩, A1.out.tb⟩ (fun hHeld => ?_)
      generalize wr.drew = z0 at hHeld A1 ⊢
      clear A0
      refine wpAnyH_take (i := 0) (v := .agg #[.pointer (some ⟨b, 0, none⟩), .pointer (some ⟨c, 0, none⟩)]) ov0 (by kernel_rfl) (by kernel_rfl) (by kernel_rfl) (fun _ _ _ h => h) (Or.inl ⟨by rfl, fun V' hS => ?_⟩) hHeld ?_
      · have q0 := hS.1.1
        have q1 := hS.1.2
        go_simp
      simp only [Act.put, List.setIfInBounds_toArray, List.set_cons_zero, List.set_cons_succ]
      refine wpAnyH_take (i := 1) (v := .int .i64 (k : Int)) ov1 (by kernel_rfl) (by kernel_rfl) (by kernel_rfl) (fun _ _ _ h => h) (Or.inl ⟨by rfl, fun V' hS => ?_⟩) hHeld ?_
      · go_simp
      simp only [Act.put, List.setIfInBounds_toArray, List.set_cons_zero, List.set_cons_succ]
      refine wpAnyH_take (i := 2) (v := .pointer (some ⟨fb, k * 4, none⟩)) ov2 (by kernel_rfl) (by kernel_rfl) (by kernel_rfl) (fun _ _ _ h => h) (Or.inl ⟨by rfl, fun V' hS => ?_⟩) hHeld ?_
      · go_simp
      simp only [Act.put, List.setIfInBounds_toArray, List.set_cons_zero, List.set_cons_succ]
      refine wpAnyH_take (i := 3) (v := .agg #[.int .i64 (kdT k), .bool false, .int .i64 (kT k), .int .i64 (vT k)]) ov3 (by kernel_rfl) (by kernel_rfl) (by kernel_rfl) (fun _ _ _ h => h) (Or.inl ⟨by rfl, fun V' hS => ?_⟩) hHeld ?_
      · have c0 : V'.cell? ⟨fb, k * 4, none⟩ = some (.int .i64 (kdT k)) := hS.2 k hk9 0 _ rfl
        have c1 : V'.cell? ⟨fb, k * 4 + 1, none⟩ = some (.bool false) := hS.2 k hk9 1 _ rfl
        have c2 : V'.cell? ⟨fb, k * 4 + 2, none⟩ = some (.int .i64 (kT k)) := hS.2 k hk9 2 _ rfl
        have c3 : V'.cell? ⟨fb, k * 4 + 3, none⟩ = some (.int .i64 (vT k)) := hS.2 k hk9 3 _ rfl
        go_simp
      simp only [Act.put, List.setIfInBounds_toArray, List.set_cons_zero, List.set_cons_succ]
      refine wpAnyH_ready (rs := [4]) (by kernel_rfl) (by simp) ?_
      refine AllReadyH.cons ov4 (fun K hK => ?_) AllReadyH.nil
      rw [if_pos (by rfl)]
      go_simp
      refine (ST.out z0 A1.out).mono ?_
      rintro e v3 ⟨rfl, h1⟩
      have A2 : Hid (AW w v3 sb fb b c (k + 1)) := h1
      clear h1
      (try go_wp2_with fail)
      refine hK.out _ _ ⟨⟨A2.out.sB.cell 0, A2.out.sB.cell 1⟩, A2.out.tb⟩ (fun _ => ?_)
      clear hK K
      (try simp only [Act.put, List.setIfInBounds_toArray, List.set_cons_zero, List.set_cons_succ])
      refine wpAnyH_take (i := 5) (v := .bool false) ov5 (by kernel_rfl) (by kernel_rfl) (by kernel_rfl) (fun _ _ _ h => h) (Or.inl ⟨by rfl, fun V' hS => ?_⟩) ⟨⟨A2.out.sB.cell 0, A2.out.sB.cell 1⟩, A2.out.tb⟩ ?_
      · go_simp
      simp only [Act.put, List.setIfInBounds_toArray, List.set_cons_zero, List.set_cons_succ]
      refine wpAnyH_done (by kernel_rfl) ?_ _
      go_wp2
      go_roundw
      case rel => exact ⟨k + 1, by omega, by simp, A2.out⟩
      case measure => simp [intOf]; omega
    · obtain rfl : k = 9 := by omega
      have p1 : wr.cell? ⟨sb, 1, none⟩ = some (.pointer (some ⟨c, 0, none⟩)) := A0.out.sB.cell 1
      obtain ⟨ow, h1, _⟩ := A0.out.ex
      obtain ⟨lv, oa, oc, OV, h2, _⟩ := h1.r.ex
      obtain ⟨la, lc, rfl⟩ := h2.cur.form
      have p2 : wr.cell? ⟨c, 0, none⟩ = some (.slice la 1 lc) := h2.box.cell 0
      clear h1 h2
      go_wp2
      go_ret
      exact ⟨rfl, A0.out.bel⟩
end Go.Proofs.Ytohfkgfjcnldaaa
