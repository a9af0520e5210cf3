/- vouchtop's may: true just if the container may be. -/
import Derived.Test.YtndhabhlajldeaaMy6
namespace Go.Proofs.Ytndhabhlajldeaa
open Go.RowKit
theorem chkTT_num : ∀ (l : List Ty) (i : Nat), chkT i l = 0 → ∀ t ∈ l, (0 ≤ t.1 ∧ t.1 ≤ 127) ∧ (0 ≤ t.2.1 ∧ t.2.1 ≤ 128) ∧ (0 ≤ t.2.2 ∧ t.2.2 ≤ 1023)
  | [], _, _ => fun t ht => by cases ht
  | x :: l, i, h => by
    unfold chkT at h
    split at h
    · exact absurd h (by decide)
    · rename_i hb
      intro t ht
      rcases List.mem_cons.1 ht with rfl | ht
      · have h0 : okIn i t.1 = true := by
          cases e : okIn i t.1
          · exact absurd (by unfold tyBad; rw [if_pos e]; omega) hb
          · rfl
        have h1 : okOut i t.2.1 = true := by
          cases e : okOut i t.2.1
          · exact absurd (by unfold tyBad; rw [if_neg (by rw [h0]; decide), if_pos e]; omega) hb
          · rfl
        have h2 : okMost t.2.2 = true := by
          cases e : okMost t.2.2
          · exact absurd (by unfold tyBad; rw [if_neg (by rw [h0]; decide), if_neg (by rw [h1]; decide), if_pos e]; omega) hb
          · rfl
        unfold okIn at h0
        unfold okOut at h1
        unfold okMost at h2
        simp at h0 h1 h2
        omega
      · exact chkTT_num l (i + 1) h t ht
theorem chkTT_first {x : Ty} {l : List Ty} (h : chkT 0 (x :: l) = 0) : x.1 = 0 ∧ x.2.1 = 128 := by
  unfold chkT at h
  split at h
  · exact absurd h (by decide)
  · rename_i hb
    have h0 : okIn 0 x.1 = true := by
      cases e : okIn 0 x.1
      · exact absurd (by unfold tyBad; rw [if_pos e]; omega) hb
      · rfl
    have h1 : okOut 0 x.2.1 = true := by
      cases e : okOut 0 x.2.1
      · exact absurd (by unfold tyBad; rw [if_neg (by rw [h0]; decide), if_pos e]; omega) hb
      · rfl
    unfold okIn at h0
    unfold okOut at h1
    simp at h0 h1
    omega
theorem chkPP_of (m : Nat) : ∀ l : List (List Nat), (∀ x ∈ l, 0 < x.length ∧ x.length ≤ m) → chkP m l = 0
  | [], _ => rfl
  | y :: l, h => by
    have h1 := h y (List.mem_cons_self ..)
    unfold chkP
    rw [if_neg (by omega), if_neg (by omega)]
    exact chkPP_of m l fun x hx => h x (List.mem_cons_of_mem _ hx)
def TyNm (t : Ty) : Prop := (0 ≤ t.1 ∧ t.1 ≤ 127) ∧ (0 ≤ t.2.1 ∧ t.2.1 ≤ 128) ∧ (0 ≤ t.2.2 ∧ t.2.2 ≤ 1023)
theorem tyBad_good {i : Nat} {t : Ty} (h : TyNm t) (h0 : i = 0 → t.1 = 0 ∧ t.2.1 = 128) : tyBad i t = 3 := by
  unfold TyNm at h
  refine tyBad_of ?_ ?_ ?_
  · unfold okIn
    by_cases e : i = 0
    · simp [(h0 e).1]
    · simp; omega
  · unfold okOut
    by_cases e : i = 0
    · simp [(h0 e).2]
    · simp; omega
  · unfold okMost
    simp; omega
theorem chkTT_of : ∀ (l : List Ty) (i : Nat), (∀ t ∈ l, TyNm t) → (i = 0 → ∀ t, l[0]? = some t → t.1 = 0 ∧ t.2.1 = 128) → chkT i l = 0
  | [], _, _, _ => rfl
  | y :: l, i, h, h0 => by
    unfold chkT
    rw [tyBad_good (h y (List.mem_cons_self ..)) (fun e => h0 e y rfl), if_neg (by omega)]
    exact chkTT_of l (i + 1) (fun x hx => h x (List.mem_cons_of_mem _ hx)) (fun e => absurd e (by omega))
theorem all_up {α : Type} {l : List α} {p : α → Prop} (h : ∀ j, j < l.length → ∀ x, l[j]? = some x → p x) : ∀ x ∈ l, p x := fun x hx => by
  obtain ⟨j, hj, e⟩ := List.getElem_of_mem hx
  exact h j hj x (by rw [List.getElem?_eq_getElem hj, e])
theorem up_step {α : Type} {l : List α} {p : α → Prop} {k : Nat} (h : ∀ j, j < k → ∀ x, l[j]? = some x → p x) {y : α} (hy : l[k]? = some y) (hp : p y) : ∀ j, j < k + 1 → ∀ x, l[j]? = some x → p x := fun j hj x hx => by
  by_cases e : j = k
  · subst e
    rw [hy] at hx
    cases hx
    exact hp
  · exact h j (by omega) x hx
theorem may_nums {c : Con} (m : May c) : 0 < c.cs.length ∧ c.cs.length ≤ 1024 ∧ c.ts.length = c.cs.length ∧ c.ss.length ≤ 256 ∧ (c.d.length : Int) ≤ c.n ∧ c.n ≤ 65535 := ⟨m.n1, m.n2, m.nt, m.ns, m.z2, m.z1⟩
theorem may_round {c : Con} (m : May c) {k : Nat} {x : List Nat} {t1 t2 t3 : Int} (hx : c.cs[k]? = some x) (ht : c.ts[k]? = some (t1, t2, t3)) : 0 < x.length ∧ x.length ≤ 65535 ∧ 0 ≤ t1 ∧ t1 ≤ 127 ∧ 0 ≤ t2 ∧ t2 ≤ 128 ∧ 0 ≤ t3 ∧ t3 ≤ 1023 ∧ (k = 0 → t1 = 0 ∧ t2 = 128) := by
  have h1 := chkP_ok 65535 c.cs m.pc _ (List.mem_of_getElem? hx)
  obtain ⟨⟨n1, n2⟩, ⟨n3, n4⟩, n5, n6⟩ := chkTT_num c.ts 0 m.ty _ (List.mem_of_getElem? ht)
  refine ⟨h1.1, h1.2, n1, n2, n3, n4, n5, n6, fun e => ?_⟩
  subst e
  have h9 := m.ty
  cases hc : c.ts with
  | nil => rw [hc] at ht; cases ht
  | cons y l =>
    rw [hc] at ht h9
    injection ht with ht
    subst ht
    exact chkTT_first h9
theorem may_sub {c : Con} (m : May c) {k : Nat} {x : List Nat} (hx : c.ss[k]? = some x) : 0 < x.length := (chkP_ok _ c.ss m.ps _ (List.mem_of_getElem? hx)).1
/-- what may answers -/
def MayQ (c : Con) (e : Ending) : Prop := ∃ r : Bool, e = .returned (.bool r) ∧ (r = true ↔ May c)
set_option maxHeartbeats 40000000 in
set_option maxRecDepth 100000 in
theorem topmay_is {P : Nat → Prop} (w : World) (v : Value) (c : Con) (h : CW P w v c) (hsm : Small c) : Calls Try.prog 53 #[v] w fun e w' => MayQ c e ∧ Below w.heap.size w w' := by
  obtain ⟨tv, cv, sv, dv, rfl, h1, h2, h3, h4⟩ := h
  obtain ⟨ta, tc, rfl, _, l1⟩ := h1.len
  obtain ⟨ca, cc, rfl, _, l2⟩ := h2.len
  obtain ⟨sa, sc, rfl, _, l3⟩ := h3.len
  obtain ⟨da, dc, rfl, _, _⟩ := h4.len
  have b1 := below_alloc w (.cells #[.slice ta c.ts.length tc, .slice ca c.cs.length cc, .slice sa c.ss.length sc, .slice da c.d.length dc, .int .i64 c.n] 28)
  have HX : Hid (CBox (w.alloc (.cells #[.slice ta c.ts.length tc, .slice ca c.cs.length cc, .slice sa c.ss.length sc, .slice da c.d.length dc, .int .i64 c.n] 28)) w.heap.size 28 [.slice ta c.ts.length tc, .slice ca c.cs.length cc, .slice sa c.ss.length sc, .slice da c.d.length dc, .int .i64 c.n] ∧ Below w.heap.size w (w.alloc (.cells #[.slice ta c.ts.length tc, .slice ca c.cs.length cc, .slice sa c.ss.length sc, .slice da c.d.length dc, .int .i64 c.n] 28))) := ⟨CBox.new w _ [_, _, _, _, _], b1⟩
  have HT : Hid (TL P w (.slice ta c.ts.length tc) c.ts) := h1
  have HC : Hid (PL P w (.slice ca c.cs.length cc) c.cs) := h2
  have HS : Hid (PL P w (.slice sa c.ss.length sc) c.ss) := h3
  have HSM : Hid (Small c) := hsm
  clear h1 h2 h3 h4 b1 hsm l1 l2 l3
  go_enter Try.func53, Try.ntmps53
  go_upto_region 1 with fail
  generalize hbx : w.heap.size = bx at HX ⊢
  have GB : Hid (w.heap.size = bx) := hbx
  clear hbx
  generalize w.alloc _ = W0 at HX ⊢
  have a1 : W0.cell? ⟨bx, 1, none⟩ = some (.slice ca c.cs.length cc) := HX.out.1.cell 1
  go_upto_region 2 with fail
  clear a1
  by_cases e0 : (c.cs.length : Int) < 1
  · as_aux_lemma =>
    have Z0 : Hid ((c.cs.length : Int) < 1) := e0
    clear e0
    refine wp_region_lit ?_
    refine lst_val (v := .int .i64 (c.cs.length : Int)) (by kernel_rfl) ?_ ?_
    · go_simp
    simp only [Act.put, List.setIfInBounds_toArray, List.set_cons_zero, List.set_cons_succ]
    refine lst_val (v := .bool true) (by kernel_rfl) ?_ ?_
    · have z9 := Z0.out
      go_simp
    simp only [Act.put, List.setIfInBounds_toArray, List.set_cons_zero, List.set_cons_succ]
    go_wp2
    go_ret
    exact ⟨⟨false, rfl, fun e => (by cases e), fun hm => (by have z9 := Z0.out; have m9 := may_nums hm; omega)⟩, by rw [GB.out]; exact HX.out.2⟩
  have Z0 : Hid (¬ ((c.cs.length : Int) < 1)) := e0
  clear e0
  by_cases e1 : (1024 : Int) < (c.cs.length : Int)
  · as_aux_lemma =>
    have Z1 : Hid ((1024 : Int) < (c.cs.length : Int)) := e1
    clear e1
    refine wp_region_lit ?_
    refine lst_val (v := .int .i64 (c.cs.length : Int)) (by kernel_rfl) ?_ ?_
    · go_simp
    simp only [Act.put, List.setIfInBounds_toArray, List.set_cons_zero, List.set_cons_succ]
    refine lst_val (v := .bool false) (by kernel_rfl) ?_ ?_
    · have z9 := Z0.out
      go_simp
    simp only [Act.put, List.setIfInBounds_toArray, List.set_cons_zero, List.set_cons_succ]
    refine lst_val (v := .bool false) (by kernel_rfl) ?_ ?_
    · go_simp
    simp only [Act.put, List.setIfInBounds_toArray, List.set_cons_zero, List.set_cons_succ]
    refine lst_val (v := .int .i64 (c.cs.length : Int)) (by kernel_rfl) ?_ ?_
    · go_simp
    simp only [Act.put, List.setIfInBounds_toArray, List.set_cons_zero, List.set_cons_succ]
    refine lst_val (v := .bool true) (by kernel_rfl) ?_ ?_
    · have z9 := Z1.out
      go_simp
    simp only [Act.put, List.setIfInBounds_toArray, List.set_cons_zero, List.set_cons_succ]
    go_wp2
    go_ret
    exact ⟨⟨false, rfl, fun e => (by cases e), fun hm => (by have z9 := Z1.out; have m9 := may_nums hm; omega)⟩, by rw [GB.out]; exact HX.out.2⟩
  have Z1 : Hid (¬ ((1024 : Int) < (c.cs.length : Int))) := e1
  clear e1
  by_cases e2 : (c.ts.length : Int) ≠ (c.cs.length : Int)
  · as_aux_lemma =>
    have Z2 : Hid ((c.ts.length : Int) ≠ (c.cs.length : Int)) := e2
    have q2 : ((c.ts.length : Int) != (c.cs.length : Int)) = true := by simpa using e2
    clear e2
    refine wp_region_lit ?_
    refine lst_val (v := .int .i64 (c.cs.length : Int)) (by kernel_rfl) ?_ ?_
    · go_simp
    simp only [Act.put, List.setIfInBounds_toArray, List.set_cons_zero, List.set_cons_succ]
    refine lst_val (v := .bool false) (by kernel_rfl) ?_ ?_
    · have z9 := Z0.out
      go_simp
    simp only [Act.put, List.setIfInBounds_toArray, List.set_cons_zero, List.set_cons_succ]
    refine lst_val (v := .bool false) (by kernel_rfl) ?_ ?_
    · go_simp
    simp only [Act.put, List.setIfInBounds_toArray, List.set_cons_zero, List.set_cons_succ]
    refine lst_val (v := .int .i64 (c.cs.length : Int)) (by kernel_rfl) ?_ ?_
    · go_simp
    simp only [Act.put, List.setIfInBounds_toArray, List.set_cons_zero, List.set_cons_succ]
    refine lst_val (v := .bool false) (by kernel_rfl) ?_ ?_
    · have z9 := Z1.out
      go_simp
    simp only [Act.put, List.setIfInBounds_toArray, List.set_cons_zero, List.set_cons_succ]
    refine lst_val (v := .bool false) (by kernel_rfl) ?_ ?_
    · go_simp
    simp only [Act.put, List.setIfInBounds_toArray, List.set_cons_zero, List.set_cons_succ]
    refine lst_val (v := .bool false) (by kernel_rfl) ?_ ?_
    · go_simp
    simp only [Act.put, List.setIfInBounds_toArray, List.set_cons_zero, List.set_cons_succ]
    refine lst_val (v := .pointer (some ⟨bx, 0, none⟩)) (by kernel_rfl) ?_ ?_
    · go_simp
    simp only [Act.put, List.setIfInBounds_toArray, List.set_cons_zero, List.set_cons_succ]
    refine lst_val (v := .slice ta c.ts.length tc) (by kernel_rfl) ?_ ?_
    · have c0 := HX.out.1.cell 0
      go_simp
    simp only [Act.put, List.setIfInBounds_toArray, List.set_cons_zero, List.set_cons_succ]
    refine lst_val (v := .int .i64 (c.ts.length : Int)) (by kernel_rfl) ?_ ?_
    · go_simp
    simp only [Act.put, List.setIfInBounds_toArray, List.set_cons_zero, List.set_cons_succ]
    refine lst_val (v := .int .i64 (c.cs.length : Int)) (by kernel_rfl) ?_ ?_
    · go_simp
    simp only [Act.put, List.setIfInBounds_toArray, List.set_cons_zero, List.set_cons_succ]
    refine lst_val (v := .bool true) (by kernel_rfl) ?_ ?_
    · have z9 := Z2.out
      go_simp
    simp only [Act.put, List.setIfInBounds_toArray, List.set_cons_zero, List.set_cons_succ]
    go_wp2
    go_ret
    exact ⟨⟨false, rfl, fun e => (by cases e), fun hm => (by have z9 := Z2.out; have m9 := may_nums hm; omega)⟩, by rw [GB.out]; exact HX.out.2⟩
  have Z2 : Hid (¬ ((c.ts.length : Int) ≠ (c.cs.length : Int))) := e2
  have q2 : ((c.ts.length : Int) != (c.cs.length : Int)) = false := by simpa using e2
  clear e2
  by_cases e3 : (256 : Int) < (c.ss.length : Int)
  · as_aux_lemma =>
    have Z3 : Hid ((256 : Int) < (c.ss.length : Int)) := e3
    clear e3
    refine wp_region_lit ?_
    refine lst_val (v := .int .i64 (c.cs.length : Int)) (by kernel_rfl) ?_ ?_
    · go_simp
    simp only [Act.put, List.setIfInBounds_toArray, List.set_cons_zero, List.set_cons_succ]
    refine lst_val (v := .bool false) (by kernel_rfl) ?_ ?_
    · have z9 := Z0.out
      go_simp
    simp only [Act.put, List.setIfInBounds_toArray, List.set_cons_zero, List.set_cons_succ]
    refine lst_val (v := .bool false) (by kernel_rfl) ?_ ?_
    · go_simp
    simp only [Act.put, List.setIfInBounds_toArray, List.set_cons_zero, List.set_cons_succ]
    refine lst_val (v := .int .i64 (c.cs.length : Int)) (by kernel_rfl) ?_ ?_
    · go_simp
    simp only [Act.put, List.setIfInBounds_toArray, List.set_cons_zero, List.set_cons_succ]
    refine lst_val (v := .bool false) (by kernel_rfl) ?_ ?_
    · have z9 := Z1.out
      go_simp
    simp only [Act.put, List.setIfInBounds_toArray, List.set_cons_zero, List.set_cons_succ]
    refine lst_val (v := .bool false) (by kernel_rfl) ?_ ?_
    · go_simp
    simp only [Act.put, List.setIfInBounds_toArray, List.set_cons_zero, List.set_cons_succ]
    refine lst_val (v := .bool false) (by kernel_rfl) ?_ ?_
    · go_simp
    simp only [Act.put, List.setIfInBounds_toArray, List.set_cons_zero, List.set_cons_succ]
    refine lst_val (v := .pointer (some ⟨bx, 0, none⟩)) (by kernel_rfl) ?_ ?_
    · go_simp
    simp only [Act.put, List.setIfInBounds_toArray, List.set_cons_zero, List.set_cons_succ]
    refine lst_val (v := .slice ta c.ts.length tc) (by kernel_rfl) ?_ ?_
    · have c0 := HX.out.1.cell 0
      go_simp
    simp only [Act.put, List.setIfInBounds_toArray, List.set_cons_zero, List.set_cons_succ]
    refine lst_val (v := .int .i64 (c.ts.length : Int)) (by kernel_rfl) ?_ ?_
    · go_simp
    simp only [Act.put, List.setIfInBounds_toArray, List.set_cons_zero, List.set_cons_succ]
    refine lst_val (v := .int .i64 (c.cs.length : Int)) (by kernel_rfl) ?_ ?_
    · go_simp
    simp only [Act.put, List.setIfInBounds_toArray, List.set_cons_zero, List.set_cons_succ]
    refine lst_val (v := .bool false) (by kernel_rfl) ?_ ?_
    · have z9 := Z2.out
      go_simp
    simp only [Act.put, List.setIfInBounds_toArray, List.set_cons_zero, List.set_cons_succ]
    refine lst_val (v := .bool false) (by kernel_rfl) ?_ ?_
    · go_simp
    simp only [Act.put, List.setIfInBounds_toArray, List.set_cons_zero, List.set_cons_succ]
    refine lst_val (v := .bool false) (by kernel_rfl) ?_ ?_
    · go_simp
    simp only [Act.put, List.setIfInBounds_toArray, List.set_cons_zero, List.set_cons_succ]
    refine lst_val (v := .pointer (some ⟨bx, 2, none⟩)) (by kernel_rfl) ?_ ?_
    · go_simp
    simp only [Act.put, List.setIfInBounds_toArray, List.set_cons_zero, List.set_cons_succ]
    refine lst_val (v := .slice sa c.ss.length sc) (by kernel_rfl) ?_ ?_
    · have c0 := HX.out.1.cell 2
      go_simp
    simp only [Act.put, List.setIfInBounds_toArray, List.set_cons_zero, List.set_cons_succ]
    refine lst_val (v := .int .i64 (c.ss.length : Int)) (by kernel_rfl) ?_ ?_
    · go_simp
    simp only [Act.put, List.setIfInBounds_toArray, List.set_cons_zero, List.set_cons_succ]
    refine lst_val (v := .bool true) (by kernel_rfl) ?_ ?_
    · have z9 := Z3.out
      go_simp
    simp only [Act.put, List.setIfInBounds_toArray, List.set_cons_zero, List.set_cons_succ]
    go_wp2
    go_ret
    exact ⟨⟨false, rfl, fun e => (by cases e), fun hm => (by have z9 := Z3.out; have m9 := may_nums hm; omega)⟩, by rw [GB.out]; exact HX.out.2⟩
  have Z3 : Hid (¬ ((256 : Int) < (c.ss.length : Int))) := e3
  clear e3
  by_cases e4 : c.n < (c.d.length : Int)
  · as_aux_lemma =>
    have Z4 : Hid (c.n < (c.d.length : Int)) := e4
    clear e4
    refine wp_region_lit ?_
    refine lst_val (v := .int .i64 (c.cs.length : Int)) (by kernel_rfl) ?_ ?_
    · go_simp
    simp only [Act.put, List.setIfInBounds_toArray, List.set_cons_zero, List.set_cons_succ]
    refine lst_val (v := .bool false) (by kernel_rfl) ?_ ?_
    · have z9 := Z0.out
      go_simp
    simp only [Act.put, List.setIfInBounds_toArray, List.set_cons_zero, List.set_cons_succ]
    refine lst_val (v := .bool false) (by kernel_rfl) ?_ ?_
    · go_simp
    simp only [Act.put, List.setIfInBounds_toArray, List.set_cons_zero, List.set_cons_succ]
    refine lst_val (v := .int .i64 (c.cs.length : Int)) (by kernel_rfl) ?_ ?_
    · go_simp
    simp only [Act.put, List.setIfInBounds_toArray, List.set_cons_zero, List.set_cons_succ]
    refine lst_val (v := .bool false) (by kernel_rfl) ?_ ?_
    · have z9 := Z1.out
      go_simp
    simp only [Act.put, List.setIfInBounds_toArray, List.set_cons_zero, List.set_cons_succ]
    refine lst_val (v := .bool false) (by kernel_rfl) ?_ ?_
    · go_simp
    simp only [Act.put, List.setIfInBounds_toArray, List.set_cons_zero, List.set_cons_succ]
    refine lst_val (v := .bool false) (by kernel_rfl) ?_ ?_
    · go_simp
    simp only [Act.put, List.setIfInBounds_toArray, List.set_cons_zero, List.set_cons_succ]
    refine lst_val (v := .pointer (some ⟨bx, 0, none⟩)) (by kernel_rfl) ?_ ?_
    · go_simp
    simp only [Act.put, List.setIfInBounds_toArray, List.set_cons_zero, List.set_cons_succ]
    refine lst_val (v := .slice ta c.ts.length tc) (by kernel_rfl) ?_ ?_
    · have c0 := HX.out.1.cell 0
      go_simp
    simp only [Act.put, List.setIfInBounds_toArray, List.set_cons_zero, List.set_cons_succ]
    refine lst_val (v := .int .i64 (c.ts.length : Int)) (by kernel_rfl) ?_ ?_
    · go_simp
    simp only [Act.put, List.setIfInBounds_toArray, List.set_cons_zero, List.set_cons_succ]
    refine lst_val (v := .int .i64 (c.cs.length : Int)) (by kernel_rfl) ?_ ?_
    · go_simp
    simp only [Act.put, List.setIfInBounds_toArray, List.set_cons_zero, List.set_cons_succ]
    refine lst_val (v := .bool false) (by kernel_rfl) ?_ ?_
    · have z9 := Z2.out
      go_simp
    simp only [Act.put, List.setIfInBounds_toArray, List.set_cons_zero, List.set_cons_succ]
    refine lst_val (v := .bool false) (by kernel_rfl) ?_ ?_
    · go_simp
    simp only [Act.put, List.setIfInBounds_toArray, List.set_cons_zero, List.set_cons_succ]
    refine lst_val (v := .bool false) (by kernel_rfl) ?_ ?_
    · go_simp
    simp only [Act.put, List.setIfInBounds_toArray, List.set_cons_zero, List.set_cons_succ]
    refine lst_val (v := .pointer (some ⟨bx, 2, none⟩)) (by kernel_rfl) ?_ ?_
    · go_simp
    simp only [Act.put, List.setIfInBounds_toArray, List.set_cons_zero, List.set_cons_succ]
    refine lst_val (v := .slice sa c.ss.length sc) (by kernel_rfl) ?_ ?_
    · have c0 := HX.out.1.cell 2
      go_simp
    simp only [Act.put, List.setIfInBounds_toArray, List.set_cons_zero, List.set_cons_succ]
    refine lst_val (v := .int .i64 (c.ss.length : Int)) (by kernel_rfl) ?_ ?_
    · go_simp
    simp only [Act.put, List.setIfInBounds_toArray, List.set_cons_zero, List.set_cons_succ]
    refine lst_val (v := .bool false) (by kernel_rfl) ?_ ?_
    · have z9 := Z3.out
      go_simp
    simp only [Act.put, List.setIfInBounds_toArray, List.set_cons_zero, List.set_cons_succ]
    refine lst_val (v := .bool false) (by kernel_rfl) ?_ ?_
    · go_simp
    simp only [Act.put, List.setIfInBounds_toArray, List.set_cons_zero, List.set_cons_succ]
    refine lst_val (v := .bool false) (by kernel_rfl) ?_ ?_
    · go_simp
    simp only [Act.put, List.setIfInBounds_toArray, List.set_cons_zero, List.set_cons_succ]
    refine lst_val (v := .pointer (some ⟨bx, 4, none⟩)) (by kernel_rfl) ?_ ?_
    · go_simp
    simp only [Act.put, List.setIfInBounds_toArray, List.set_cons_zero, List.set_cons_succ]
    refine lst_val (v := .int .i64 c.n) (by kernel_rfl) ?_ ?_
    · have c0 := HX.out.1.cell 4
      go_simp
    simp only [Act.put, List.setIfInBounds_toArray, List.set_cons_zero, List.set_cons_succ]
    refine lst_val (v := .pointer (some ⟨bx, 3, none⟩)) (by kernel_rfl) ?_ ?_
    · go_simp
    simp only [Act.put, List.setIfInBounds_toArray, List.set_cons_zero, List.set_cons_succ]
    refine lst_val (v := .slice da c.d.length dc) (by kernel_rfl) ?_ ?_
    · have c0 := HX.out.1.cell 3
      go_simp
    simp only [Act.put, List.setIfInBounds_toArray, List.set_cons_zero, List.set_cons_succ]
    refine lst_val (v := .int .i64 (c.d.length : Int)) (by kernel_rfl) ?_ ?_
    · go_simp
    simp only [Act.put, List.setIfInBounds_toArray, List.set_cons_zero, List.set_cons_succ]
    refine lst_val (v := .bool true) (by kernel_rfl) ?_ ?_
    · have z9 := Z4.out
      go_simp
    simp only [Act.put, List.setIfInBounds_toArray, List.set_cons_zero, List.set_cons_succ]
    go_wp2
    go_ret
    exact ⟨⟨false, rfl, fun e => (by cases e), fun hm => (by have z9 := Z4.out; have m9 := may_nums hm; omega)⟩, by rw [GB.out]; exact HX.out.2⟩
  have Z4 : Hid (¬ (c.n < (c.d.length : Int))) := e4
  clear e4
  by_cases e5 : (65535 : Int) < c.n
  · as_aux_lemma =>
    have Z5 : Hid ((65535 : Int) < c.n) := e5
    clear e5
    refine wp_region_lit ?_
    refine lst_val (v := .int .i64 (c.cs.length : Int)) (by kernel_rfl) ?_ ?_
    · go_simp
    simp only [Act.put, List.setIfInBounds_toArray, List.set_cons_zero, List.set_cons_succ]
    refine lst_val (v := .bool false) (by kernel_rfl) ?_ ?_
    · have z9 := Z0.out
      go_simp
    simp only [Act.put, List.setIfInBounds_toArray, List.set_cons_zero, List.set_cons_succ]
    refine lst_val (v := .bool false) (by kernel_rfl) ?_ ?_
    · go_simp
    simp only [Act.put, List.setIfInBounds_toArray, List.set_cons_zero, List.set_cons_succ]
    refine lst_val (v := .int .i64 (c.cs.length : Int)) (by kernel_rfl) ?_ ?_
    · go_simp
    simp only [Act.put, List.setIfInBounds_toArray, List.set_cons_zero, List.set_cons_succ]
    refine lst_val (v := .bool false) (by kernel_rfl) ?_ ?_
    · have z9 := Z1.out
      go_simp
    simp only [Act.put, List.setIfInBounds_toArray, List.set_cons_zero, List.set_cons_succ]
    refine lst_val (v := .bool false) (by kernel_rfl) ?_ ?_
    · go_simp
    simp only [Act.put, List.setIfInBounds_toArray, List.set_cons_zero, List.set_cons_succ]
    refine lst_val (v := .bool false) (by kernel_rfl) ?_ ?_
    · go_simp
    simp only [Act.put, List.setIfInBounds_toArray, List.set_cons_zero, List.set_cons_succ]
    refine lst_val (v := .pointer (some ⟨bx, 0, none⟩)) (by kernel_rfl) ?_ ?_
    · go_simp
    simp only [Act.put, List.setIfInBounds_toArray, List.set_cons_zero, List.set_cons_succ]
    refine lst_val (v := .slice ta c.ts.length tc) (by kernel_rfl) ?_ ?_
    · have c0 := HX.out.1.cell 0
      go_simp
    simp only [Act.put, List.setIfInBounds_toArray, List.set_cons_zero, List.set_cons_succ]
    refine lst_val (v := .int .i64 (c.ts.length : Int)) (by kernel_rfl) ?_ ?_
    · go_simp
    simp only [Act.put, List.setIfInBounds_toArray, List.set_cons_zero, List.set_cons_succ]
    refine lst_val (v := .int .i64 (c.cs.length : Int)) (by kernel_rfl) ?_ ?_
    · go_simp
    simp only [Act.put, List.setIfInBounds_toArray, List.set_cons_zero, List.set_cons_succ]
    refine lst_val (v := .bool false) (by kernel_rfl) ?_ ?_
    · have z9 := Z2.out
      go_simp
    simp only [Act.put, List.setIfInBounds_toArray, List.set_cons_zero, List.set_cons_succ]
    refine lst_val (v := .bool false) (by kernel_rfl) ?_ ?_
    · go_simp
    simp only [Act.put, List.setIfInBounds_toArray, List.set_cons_zero, List.set_cons_succ]
    refine lst_val (v := .bool false) (by kernel_rfl) ?_ ?_
    · go_simp
    simp only [Act.put, List.setIfInBounds_toArray, List.set_cons_zero, List.set_cons_succ]
    refine lst_val (v := .pointer (some ⟨bx, 2, none⟩)) (by kernel_rfl) ?_ ?_
    · go_simp
    simp only [Act.put, List.setIfInBounds_toArray, List.set_cons_zero, List.set_cons_succ]
    refine lst_val (v := .slice sa c.ss.length sc) (by kernel_rfl) ?_ ?_
    · have c0 := HX.out.1.cell 2
      go_simp
    simp only [Act.put, List.setIfInBounds_toArray, List.set_cons_zero, List.set_cons_succ]
    refine lst_val (v := .int .i64 (c.ss.length : Int)) (by kernel_rfl) ?_ ?_
    · go_simp
    simp only [Act.put, List.setIfInBounds_toArray, List.set_cons_zero, List.set_cons_succ]
    refine lst_val (v := .bool false) (by kernel_rfl) ?_ ?_
    · have z9 := Z3.out
      go_simp
    simp only [Act.put, List.setIfInBounds_toArray, List.set_cons_zero, List.set_cons_succ]
    refine lst_val (v := .bool false) (by kernel_rfl) ?_ ?_
    · go_simp
    simp only [Act.put, List.setIfInBounds_toArray, List.set_cons_zero, List.set_cons_succ]
    refine lst_val (v := .bool false) (by kernel_rfl) ?_ ?_
    · go_simp
    simp only [Act.put, List.setIfInBounds_toArray, List.set_cons_zero, List.set_cons_succ]
    refine lst_val (v := .pointer (some ⟨bx, 4, none⟩)) (by kernel_rfl) ?_ ?_
    · go_simp
    simp only [Act.put, List.setIfInBounds_toArray, List.set_cons_zero, List.set_cons_succ]
    refine lst_val (v := .int .i64 c.n) (by kernel_rfl) ?_ ?_
    · have c0 := HX.out.1.cell 4
      go_simp
    simp only [Act.put, List.setIfInBounds_toArray, List.set_cons_zero, List.set_cons_succ]
    refine lst_val (v := .pointer (some ⟨bx, 3, none⟩)) (by kernel_rfl) ?_ ?_
    · go_simp
    simp only [Act.put, List.setIfInBounds_toArray, List.set_cons_zero, List.set_cons_succ]
    refine lst_val (v := .slice da c.d.length dc) (by kernel_rfl) ?_ ?_
    · have c0 := HX.out.1.cell 3
      go_simp
    simp only [Act.put, List.setIfInBounds_toArray, List.set_cons_zero, List.set_cons_succ]
    refine lst_val (v := .int .i64 (c.d.length : Int)) (by kernel_rfl) ?_ ?_
    · go_simp
    simp only [Act.put, List.setIfInBounds_toArray, List.set_cons_zero, List.set_cons_succ]
    refine lst_val (v := .bool false) (by kernel_rfl) ?_ ?_
    · have z9 := Z4.out
      go_simp
    simp only [Act.put, List.setIfInBounds_toArray, List.set_cons_zero, List.set_cons_succ]
    refine lst_val (v := .bool false) (by kernel_rfl) ?_ ?_
    · go_simp
    simp only [Act.put, List.setIfInBounds_toArray, List.set_cons_zero, List.set_cons_succ]
    refine lst_val (v := .bool false) (by kernel_rfl) ?_ ?_
    · go_simp
    simp only [Act.put, List.setIfInBounds_toArray, List.set_cons_zero, List.set_cons_succ]
    refine lst_val (v := .pointer (some ⟨bx, 4, none⟩)) (by kernel_rfl) ?_ ?_
    · go_simp
    simp only [Act.put, List.setIfInBounds_toArray, List.set_cons_zero, List.set_cons_succ]
    refine lst_val (v := .int .i64 c.n) (by kernel_rfl) ?_ ?_
    · have c0 := HX.out.1.cell 4
      go_simp
    simp only [Act.put, List.setIfInBounds_toArray, List.set_cons_zero, List.set_cons_succ]
    refine lst_val (v := .bool true) (by kernel_rfl) ?_ ?_
    · have z9 := Z5.out
      go_simp
    simp only [Act.put, List.setIfInBounds_toArray, List.set_cons_zero, List.set_cons_succ]
    go_wp2
    go_ret
    exact ⟨⟨false, rfl, fun e => (by cases e), fun hm => (by have z9 := Z5.out; have m9 := may_nums hm; omega)⟩, by rw [GB.out]; exact HX.out.2⟩
  have Z5 : Hid (¬ ((65535 : Int) < c.n)) := e5
  clear e5
  refine wp_region_lit ?_
  refine lst_val (v := .int .i64 (c.cs.length : Int)) (by kernel_rfl) ?_ ?_
  · go_simp
  simp only [Act.put, List.setIfInBounds_toArray, List.set_cons_zero, List.set_cons_succ]
  refine lst_val (v := .bool false) (by kernel_rfl) ?_ ?_
  · have z9 := Z0.out
    go_simp
  simp only [Act.put, List.setIfInBounds_toArray, List.set_cons_zero, List.set_cons_succ]
  refine lst_val (v := .bool false) (by kernel_rfl) ?_ ?_
  · go_simp
  simp only [Act.put, List.setIfInBounds_toArray, List.set_cons_zero, List.set_cons_succ]
  refine lst_val (v := .int .i64 (c.cs.length : Int)) (by kernel_rfl) ?_ ?_
  · go_simp
  simp only [Act.put, List.setIfInBounds_toArray, List.set_cons_zero, List.set_cons_succ]
  refine lst_val (v := .bool false) (by kernel_rfl) ?_ ?_
  · have z9 := Z1.out
    go_simp
  simp only [Act.put, List.setIfInBounds_toArray, List.set_cons_zero, List.set_cons_succ]
  refine lst_val (v := .bool false) (by kernel_rfl) ?_ ?_
  · go_simp
  simp only [Act.put, List.setIfInBounds_toArray, List.set_cons_zero, List.set_cons_succ]
  refine lst_val (v := .bool false) (by kernel_rfl) ?_ ?_
  · go_simp
  simp only [Act.put, List.setIfInBounds_toArray, List.set_cons_zero, List.set_cons_succ]
  refine lst_val (v := .pointer (some ⟨bx, 0, none⟩)) (by kernel_rfl) ?_ ?_
  · go_simp
  simp only [Act.put, List.setIfInBounds_toArray, List.set_cons_zero, List.set_cons_succ]
  refine lst_val (v := .slice ta c.ts.length tc) (by kernel_rfl) ?_ ?_
  · have c0 := HX.out.1.cell 0
    go_simp
  simp only [Act.put, List.setIfInBounds_toArray, List.set_cons_zero, List.set_cons_succ]
  refine lst_val (v := .int .i64 (c.ts.length : Int)) (by kernel_rfl) ?_ ?_
  · go_simp
  simp only [Act.put, List.setIfInBounds_toArray, List.set_cons_zero, List.set_cons_succ]
  refine lst_val (v := .int .i64 (c.cs.length : Int)) (by kernel_rfl) ?_ ?_
  · go_simp
  simp only [Act.put, List.setIfInBounds_toArray, List.set_cons_zero, List.set_cons_succ]
  refine lst_val (v := .bool false) (by kernel_rfl) ?_ ?_
  · have z9 := Z2.out
    go_simp
  simp only [Act.put, List.setIfInBounds_toArray, List.set_cons_zero, List.set_cons_succ]
  refine lst_val (v := .bool false) (by kernel_rfl) ?_ ?_
  · go_simp
  simp only [Act.put, List.setIfInBounds_toArray, List.set_cons_zero, List.set_cons_succ]
  refine lst_val (v := .bool false) (by kernel_rfl) ?_ ?_
  · go_simp
  simp only [Act.put, List.setIfInBounds_toArray, List.set_cons_zero, List.set_cons_succ]
  refine lst_val (v := .pointer (some ⟨bx, 2, none⟩)) (by kernel_rfl) ?_ ?_
  · go_simp
  simp only [Act.put, List.setIfInBounds_toArray, List.set_cons_zero, List.set_cons_succ]
  refine lst_val (v := .slice sa c.ss.length sc) (by kernel_rfl) ?_ ?_
  · have c0 := HX.out.1.cell 2
    go_simp
  simp only [Act.put, List.setIfInBounds_toArray, List.set_cons_zero, List.set_cons_succ]
  refine lst_val (v := .int .i64 (c.ss.length : Int)) (by kernel_rfl) ?_ ?_
  · go_simp
  simp only [Act.put, List.setIfInBounds_toArray, List.set_cons_zero, List.set_cons_succ]
  refine lst_val (v := .bool false) (by kernel_rfl) ?_ ?_
  · have z9 := Z3.out
    go_simp
  simp only [Act.put, List.setIfInBounds_toArray, List.set_cons_zero, List.set_cons_succ]
  refine lst_val (v := .bool false) (by kernel_rfl) ?_ ?_
  · go_simp
  simp only [Act.put, List.setIfInBounds_toArray, List.set_cons_zero, List.set_cons_succ]
  refine lst_val (v := .bool false) (by kernel_rfl) ?_ ?_
  · go_simp
  simp only [Act.put, List.setIfInBounds_toArray, List.set_cons_zero, List.set_cons_succ]
  refine lst_val (v := .pointer (some ⟨bx, 4, none⟩)) (by kernel_rfl) ?_ ?_
  · go_simp
  simp only [Act.put, List.setIfInBounds_toArray, List.set_cons_zero, List.set_cons_succ]
  refine lst_val (v := .int .i64 c.n) (by kernel_rfl) ?_ ?_
  · have c0 := HX.out.1.cell 4
    go_simp
  simp only [Act.put, List.setIfInBounds_toArray, List.set_cons_zero, List.set_cons_succ]
  refine lst_val (v := .pointer (some ⟨bx, 3, none⟩)) (by kernel_rfl) ?_ ?_
  · go_simp
  simp only [Act.put, List.setIfInBounds_toArray, List.set_cons_zero, List.set_cons_succ]
  refine lst_val (v := .slice da c.d.length dc) (by kernel_rfl) ?_ ?_
  · have c0 := HX.out.1.cell 3
    go_simp
  simp only [Act.put, List.setIfInBounds_toArray, List.set_cons_zero, List.set_cons_succ]
  refine lst_val (v := .int .i64 (c.d.length : Int)) (by kernel_rfl) ?_ ?_
  · go_simp
  simp only [Act.put, List.setIfInBounds_toArray, List.set_cons_zero, List.set_cons_succ]
  refine lst_val (v := .bool false) (by kernel_rfl) ?_ ?_
  · have z9 := Z4.out
    go_simp
  simp only [Act.put, List.setIfInBounds_toArray, List.set_cons_zero, List.set_cons_succ]
  refine lst_val (v := .bool false) (by kernel_rfl) ?_ ?_
  · go_simp
  simp only [Act.put, List.setIfInBounds_toArray, List.set_cons_zero, List.set_cons_succ]
  refine lst_val (v := .bool false) (by kernel_rfl) ?_ ?_
  · go_simp
  simp only [Act.put, List.setIfInBounds_toArray, List.set_cons_zero, List.set_cons_succ]
  refine lst_val (v := .pointer (some ⟨bx, 4, none⟩)) (by kernel_rfl) ?_ ?_
  · go_simp
  simp only [Act.put, List.setIfInBounds_toArray, List.set_cons_zero, List.set_cons_succ]
  refine lst_val (v := .int .i64 c.n) (by kernel_rfl) ?_ ?_
  · have c0 := HX.out.1.cell 4
    go_simp
  simp only [Act.put, List.setIfInBounds_toArray, List.set_cons_zero, List.set_cons_succ]
  refine lst_val (v := .bool false) (by kernel_rfl) ?_ ?_
  · have z9 := Z5.out
    go_simp
  simp only [Act.put, List.setIfInBounds_toArray, List.set_cons_zero, List.set_cons_succ]
  refine lst_val (v := .bool false) (by kernel_rfl) ?_ ?_
  · go_simp
  simp only [Act.put, List.setIfInBounds_toArray, List.set_cons_zero, List.set_cons_succ]
  refine wpList_nil ?_
  have F1 : Hid (0 < c.cs.length ∧ c.cs.length ≤ 1024 ∧ c.ts.length = c.cs.length ∧ c.ss.length ≤ 256 ∧ (c.d.length : Int) ≤ c.n ∧ c.n ≤ 65535) := by have e0 := Z0.out; have e1 := Z1.out; have e2 := Z2.out; have e3 := Z3.out; have e4 := Z4.out; have e5 := Z5.out; unfold Hid; omega
  clear q2 Z0 Z1 Z2 Z3 Z4 Z5
  go_wp2
  go_loopw [4] (fun s4 wr => ∃ k : Nat, s4 = .int .i64 (k : Int) ∧ k ≤ c.cs.length ∧ ((∀ j, j < k → ∀ x, c.cs[j]? = some x → 0 < x.length ∧ x.length ≤ 65535) ∧ ∀ j, j < k → ∀ t, c.ts[j]? = some t → TyNm t ∧ (j = 0 → t.1 = 0 ∧ t.2.1 = 128)) ∧ CBox wr bx 28 [.slice ta c.ts.length tc, .slice ca c.cs.length cc, .slice sa c.ss.length sc, .slice da c.d.length dc, .int .i64 c.n] ∧ Below bx w wr) (fun s4 _ => c.cs.length - (intOf s4).toNat)
  case atStart => exact ⟨0, rfl, by omega, ⟨fun j hj => absurd hj (by omega), fun j hj => absurd hj (by omega)⟩, HX.out⟩
  case round =>
    obtain ⟨k, rfl, hk, hq, hX⟩ := hrel
    clear HX
    have HX : Hid (CBox wr bx 28 [.slice ta c.ts.length tc, .slice ca c.cs.length cc, .slice sa c.ss.length sc, .slice da c.d.length dc, .int .i64 c.n] ∧ Below bx w wr) := hX
    have HQ : Hid ((∀ j, j < k → ∀ x, c.cs[j]? = some x → 0 < x.length ∧ x.length ≤ 65535) ∧ ∀ j, j < k → ∀ t, c.ts[j]? = some t → TyNm t ∧ (j = 0 → t.1 = 0 ∧ t.2.1 = 128)) := hq
    clear hX hq
    by_cases e : k = c.cs.length
    · have q1 : ¬ (k : Int) < (c.cs.length : Int) := by omega
      have HQ9 : Hid ((∀ j, j < c.cs.length → ∀ x, c.cs[j]? = some x → 0 < x.length ∧ x.length ≤ 65535) ∧ ∀ j, j < c.ts.length → ∀ t, c.ts[j]? = some t → TyNm t ∧ (j = 0 → t.1 = 0 ∧ t.2.1 = 128)) := by
        have h9 := HQ.out
        rw [e] at h9
        have h8 := F1.out.2.2.1
        unfold Hid
        rw [h8]
        exact h9
      clear e hk HQ
      have HQ : Hid _ := HQ9
      clear HQ9
      go_wp2
      go_loopw [6] (fun s6 wq => ∃ k : Nat, s6 = .int .i64 (k : Int) ∧ k ≤ c.ss.length ∧ (∀ j, j < k → ∀ x, c.ss[j]? = some x → 0 < x.length ∧ x.length ≤ 4294967295) ∧ wq = wr) (fun s6 _ => c.ss.length - (intOf s6).toNat)
      case atStart => exact ⟨0, rfl, by omega, fun j hj => absurd hj (by omega), rfl⟩
      case round =>
        obtain ⟨k, rfl, hk, hz, hw⟩ := hrel
        have hw2 := hw.symm
        clear hw
        subst hw2
        have HZ : Hid (∀ j, j < k → ∀ x, c.ss[j]? = some x → 0 < x.length ∧ x.length ≤ 4294967295) := hz
        clear hz
        have a2 : wr.cell? ⟨bx, 2, none⟩ = some (.slice sa c.ss.length sc) := HX.out.1.cell 2
        by_cases e : k = c.ss.length
        · have q1 : ¬ (k : Int) < (c.ss.length : Int) := by omega
          have HZ9 : Hid (∀ j, j < c.ss.length → ∀ x, c.ss[j]? = some x → 0 < x.length ∧ x.length ≤ 4294967295) := by
            have h9 := HZ.out
            rw [e] at h9
            exact h9
          have HMY : Hid (May c) := ⟨F1.out.1, F1.out.2.1, F1.out.2.2.1, chkPP_of _ _ (all_up HQ.out.1), F1.out.2.2.2.1, chkPP_of _ _ (all_up HZ9.out), F1.out.2.2.2.2.2, F1.out.2.2.2.2.1, chkTT_of _ _ (all_up (fun j hj t ht => (HQ.out.2 j hj t ht).1)) (fun _ t ht => (HQ.out.2 0 (by have := F1.out; omega) t ht).2 rfl)⟩
          clear HZ HZ9 HQ e hk
          go_wp2
          go_ret
          exact ⟨⟨true, rfl, fun _ => HMY.out, fun _ => rfl⟩, by rw [GB.out]; exact HX.out.2⟩
        · have kn : k < c.ss.length := by omega
          have NT : Hid (k < c.ss.length) := kn
          have knI : (k : Int) < (c.ss.length : Int) := by omega
          have kB : (k : Int) < 1152921504606846976 := by have := F1.out; omega
          obtain ⟨x, hx⟩ : ∃ x, c.ss[k]? = some x := ⟨c.ss[k]'kn, List.getElem?_eq_getElem _⟩
          have HXL : Hid (c.ss[k]? = some x) := hx
          have HXM : Hid (x.length ≤ 4294967295) := by have h1 := (List.sublist_flatten_of_mem (List.mem_of_getElem? hx)).length_le; have h2 := HSM.out; unfold Small at h2; unfold Hid; omega
          obtain ⟨g2, a2', u, eg, hcell, hb⟩ := HS.out.get hx
          subst eg
          obtain ⟨xa, xc, rfl, _, _⟩ := hb.len
          obtain ⟨m, hm⟩ : ∃ m, m = x.length := ⟨_, rfl⟩
          have HM : Hid (m = x.length) := hm
          rw [← hm] at hcell
          have PX : Hid (wr.cell? ⟨g2, a2' + k, none⟩ = some (.slice xa m xc)) := ((HX.out.2.cell (p := ⟨g2, a2' + k, none⟩) (by rw [← GB.out]; exact World.block_lt_of_cell? w _ hcell)).trans hcell)
          clear hx hcell hb e hm
          go_upto_region 13 with fail
          clear a2
          by_cases e0 : (m : Int) < 1
          · as_aux_lemma =>
            have Z0 : Hid ((m : Int) < 1) := e0
            clear e0
            have m0 : m = 0 := by have := Z0.out; omega
            have HM0 : Hid (x.length = 0) := by have := HM.out; unfold Hid; omega
            clear Z0 HM
            subst m0
            have px := PX.out
            have a2 : wr.cell? ⟨bx, 2, none⟩ = some (.slice (some ⟨g2, a2', none⟩) c.ss.length sc) := HX.out.1.cell 2
            go_wp2
            go_ret
            exact ⟨⟨false, rfl, fun e => (by cases e), fun hm => (by have z9 := HM0.out; have m9 := may_sub hm HXL.out; omega)⟩, by rw [GB.out]; exact HX.out.2⟩
          have Z0 : Hid (¬ ((m : Int) < 1)) := e0
          clear e0
          refine wp_region_lit ?_
          refine lst_val (v := .pointer (some ⟨bx, 2, none⟩)) (by kernel_rfl) ?_ ?_
          · go_simp
          simp only [Act.put, List.setIfInBounds_toArray, List.set_cons_zero, List.set_cons_succ]
          refine lst_val (v := .slice (some ⟨g2, a2', none⟩) c.ss.length sc) (by kernel_rfl) ?_ ?_
          · have c0 := HX.out.1.cell 2
            go_simp
          simp only [Act.put, List.setIfInBounds_toArray, List.set_cons_zero, List.set_cons_succ]
          refine lst_val (v := .int .i64 (k : Int)) (by kernel_rfl) ?_ ?_
          · go_simp
          simp only [Act.put, List.setIfInBounds_toArray, List.set_cons_zero, List.set_cons_succ]
          refine lst_val (v := .pointer (some ⟨g2, a2' + k, none⟩)) (by kernel_rfl) ?_ ?_
          · go_simp
          simp only [Act.put, List.setIfInBounds_toArray, List.set_cons_zero, List.set_cons_succ]
          refine lst_val (v := .slice xa m xc) (by kernel_rfl) ?_ ?_
          · have c0 := PX.out
            go_simp
          simp only [Act.put, List.setIfInBounds_toArray, List.set_cons_zero, List.set_cons_succ]
          refine lst_val (v := .int .i64 (m : Int)) (by kernel_rfl) ?_ ?_
          · go_simp
          simp only [Act.put, List.setIfInBounds_toArray, List.set_cons_zero, List.set_cons_succ]
          refine lst_val (v := .bool false) (by kernel_rfl) ?_ ?_
          · have z9 := Z0.out
            go_simp
          simp only [Act.put, List.setIfInBounds_toArray, List.set_cons_zero, List.set_cons_succ]
          refine wpList_nil ?_
          have Q9 : Hid (∀ j, j < k + 1 → ∀ x, c.ss[j]? = some x → 0 < x.length ∧ x.length ≤ 4294967295) := up_step HZ.out HXL.out (by have := HM.out; have := Z0.out; have := HXM.out; omega)
          clear Z0 PX HXL HZ HM HXM
          go_wp2
          go_roundw
          case rel => exact ⟨k + 1, by first | rfl | go_num, by have := NT.out; omega, Q9.out, by first | rfl | trivial⟩
          case measure => (simp [intOf]; have := NT.out; omega)
    · have kn : k < c.cs.length := by omega
      have NT : Hid (k < c.cs.length) := kn
      have knI : (k : Int) < (c.cs.length : Int) := by omega
      have ktn : k < c.ts.length := by have := F1.out; omega
      have ktI : (k : Int) < (c.ts.length : Int) := by omega
      have kB : (k : Int) < 1152921504606846976 := by have := F1.out; omega
      obtain ⟨x, hx⟩ : ∃ x, c.cs[k]? = some x := ⟨c.cs[k]'kn, List.getElem?_eq_getElem _⟩
      have PB : Hid (∀ {p : Addr} {u : Value}, w.cell? p = some u → wr.cell? p = some u) := fun {p u} hp => ((HX.out.2.cell (p := p) (by rw [← GB.out]; exact World.block_lt_of_cell? w _ hp)).trans hp)
      obtain ⟨g2, a2, u, eg, hcell, hb⟩ := HC.out.get hx
      subst eg
      obtain ⟨xa, xc, rfl, _, _⟩ := hb.len
      obtain ⟨m, hm⟩ : ∃ m, m = x.length := ⟨_, rfl⟩
      have HM : Hid (m = x.length) := hm
      rw [← hm] at hcell
      obtain ⟨⟨t1, t2, t3⟩, hl⟩ : ∃ t, c.ts[k]? = some t := ⟨c.ts[k]'ktn, List.getElem?_eq_getElem _⟩
      have HXL : Hid (c.cs[k]? = some x ∧ c.ts[k]? = some (t1, t2, t3)) := ⟨hx, hl⟩
      obtain ⟨g, a, eg, d0, d1, d2⟩ := HT.out.get hl
      subst eg
      have a0 : wr.cell? ⟨bx, 0, none⟩ = some (.slice (some ⟨g, a, none⟩) c.ts.length tc) := HX.out.1.cell 0
      have f0 := PB.out d0
      have f1 := PB.out d1
      have f2 := PB.out d2
      have HY : Hid (CBox (wr.alloc (.cells #[.int .i64 t1, .int .i64 t2, .int .i64 t3] 77)) bx 28 [.slice (some ⟨g, a, none⟩) c.ts.length tc, .slice (some ⟨g2, a2, none⟩) c.cs.length cc, .slice sa c.ss.length sc, .slice da c.d.length dc, .int .i64 c.n] ∧ Below bx w (wr.alloc (.cells #[.int .i64 t1, .int .i64 t2, .int .i64 t3] 77)) ∧ CBox (wr.alloc (.cells #[.int .i64 t1, .int .i64 t2, .int .i64 t3] 77)) wr.heap.size 77 [.int .i64 t1, .int .i64 t2, .int .i64 t3]) := ⟨HX.out.1.past (below_alloc _ _), HX.out.2.trans ((below_alloc _ _).mono (by have := HX.out.2.size; have := GB.out; omega)), CBox.new _ _ [_, _, _]⟩
      have PX : Hid ((wr.alloc (.cells #[.int .i64 t1, .int .i64 t2, .int .i64 t3] 77)).cell? ⟨g2, a2 + k, none⟩ = some (.slice xa m xc)) := ((below_alloc wr (.cells #[.int .i64 t1, .int .i64 t2, .int .i64 t3] 77)).cell (p := ⟨g2, a2 + k, none⟩) (World.block_lt_of_cell? wr _ (PB.out hcell))).trans (PB.out hcell)
      clear hx hl d0 d1 d2 hcell hb PB e hm
      go_upto_region 8 with fail
      clear f0 f1 f2 a0 HX
      generalize wr.alloc _ = W1 at HY PX ⊢
      generalize wr.heap.size = bt at HY ⊢
      by_cases e0 : (m : Int) < 1
      · as_aux_lemma =>
        have Z0 : Hid ((m : Int) < 1) := e0
        clear e0
        have m0 : m = 0 := by have := Z0.out; omega
        have HM0 : Hid (x.length = 0) := by have := HM.out; unfold Hid; omega
        clear Z0 HM
        subst m0
        have px := PX.out
        have a1 : W1.cell? ⟨bx, 1, none⟩ = some (.slice (some ⟨g2, a2, none⟩) c.cs.length cc) := HY.out.1.cell 1
        go_wp2
        go_ret
        exact ⟨⟨false, rfl, fun e => (by cases e), fun hm => (by have z9 := HM0.out; have m9 := may_round hm HXL.out.1 HXL.out.2; omega)⟩, by rw [GB.out]; exact HY.out.2.1⟩
      have Z0 : Hid (¬ ((m : Int) < 1)) := e0
      clear e0
      by_cases e1 : (65535 : Int) < (m : Int)
      · as_aux_lemma =>
        have Z1 : Hid ((65535 : Int) < (m : Int)) := e1
        clear e1
        refine wp_region_lit ?_
        refine lst_val (v := .pointer (some ⟨bx, 1, none⟩)) (by kernel_rfl) ?_ ?_
        · go_simp
        simp only [Act.put, List.setIfInBounds_toArray, List.set_cons_zero, List.set_cons_succ]
        refine lst_val (v := .slice (some ⟨g2, a2, none⟩) c.cs.length cc) (by kernel_rfl) ?_ ?_
        · have c0 := HY.out.1.cell 1
          go_simp
        simp only [Act.put, List.setIfInBounds_toArray, List.set_cons_zero, List.set_cons_succ]
        refine lst_val (v := .int .i64 (k : Int)) (by kernel_rfl) ?_ ?_
        · go_simp
        simp only [Act.put, List.setIfInBounds_toArray, List.set_cons_zero, List.set_cons_succ]
        refine lst_val (v := .pointer (some ⟨g2, a2 + k, none⟩)) (by kernel_rfl) ?_ ?_
        · go_simp
        simp only [Act.put, List.setIfInBounds_toArray, List.set_cons_zero, List.set_cons_succ]
        refine lst_val (v := .slice xa m xc) (by kernel_rfl) ?_ ?_
        · have c0 := PX.out
          go_simp
        simp only [Act.put, List.setIfInBounds_toArray, List.set_cons_zero, List.set_cons_succ]
        refine lst_val (v := .int .i64 (m : Int)) (by kernel_rfl) ?_ ?_
        · go_simp
        simp only [Act.put, List.setIfInBounds_toArray, List.set_cons_zero, List.set_cons_succ]
        refine lst_val (v := .bool false) (by kernel_rfl) ?_ ?_
        · have z9 := Z0.out
          go_simp
        simp only [Act.put, List.setIfInBounds_toArray, List.set_cons_zero, List.set_cons_succ]
        refine lst_val (v := .bool false) (by kernel_rfl) ?_ ?_
        · go_simp
        simp only [Act.put, List.setIfInBounds_toArray, List.set_cons_zero, List.set_cons_succ]
        refine lst_val (v := .pointer (some ⟨bx, 1, none⟩)) (by kernel_rfl) ?_ ?_
        · go_simp
        simp only [Act.put, List.setIfInBounds_toArray, List.set_cons_zero, List.set_cons_succ]
        refine lst_val (v := .slice (some ⟨g2, a2, none⟩) c.cs.length cc) (by kernel_rfl) ?_ ?_
        · have c0 := HY.out.1.cell 1
          go_simp
        simp only [Act.put, List.setIfInBounds_toArray, List.set_cons_zero, List.set_cons_succ]
        refine lst_val (v := .int .i64 (k : Int)) (by kernel_rfl) ?_ ?_
        · go_simp
        simp only [Act.put, List.setIfInBounds_toArray, List.set_cons_zero, List.set_cons_succ]
        refine lst_val (v := .pointer (some ⟨g2, a2 + k, none⟩)) (by kernel_rfl) ?_ ?_
        · go_simp
        simp only [Act.put, List.setIfInBounds_toArray, List.set_cons_zero, List.set_cons_succ]
        refine lst_val (v := .slice xa m xc) (by kernel_rfl) ?_ ?_
        · have c0 := PX.out
          go_simp
        simp only [Act.put, List.setIfInBounds_toArray, List.set_cons_zero, List.set_cons_succ]
        refine lst_val (v := .int .i64 (m : Int)) (by kernel_rfl) ?_ ?_
        · go_simp
        simp only [Act.put, List.setIfInBounds_toArray, List.set_cons_zero, List.set_cons_succ]
        refine lst_val (v := .bool true) (by kernel_rfl) ?_ ?_
        · have z9 := Z1.out
          go_simp
        simp only [Act.put, List.setIfInBounds_toArray, List.set_cons_zero, List.set_cons_succ]
        go_wp2
        go_ret
        exact ⟨⟨false, rfl, fun e => (by cases e), fun hm => (by have z9 := Z1.out; have hm9 := HM.out; have m9 := may_round hm HXL.out.1 HXL.out.2; omega)⟩, by rw [GB.out]; exact HY.out.2.1⟩
      have Z1 : Hid (¬ ((65535 : Int) < (m : Int))) := e1
      clear e1
      by_cases e2 : t1 < 0
      · as_aux_lemma =>
        have Z2 : Hid (t1 < 0) := e2
        clear e2
        refine wp_region_lit ?_
        refine lst_val (v := .pointer (some ⟨bx, 1, none⟩)) (by kernel_rfl) ?_ ?_
        · go_simp
        simp only [Act.put, List.setIfInBounds_toArray, List.set_cons_zero, List.set_cons_succ]
        refine lst_val (v := .slice (some ⟨g2, a2, none⟩) c.cs.length cc) (by kernel_rfl) ?_ ?_
        · have c0 := HY.out.1.cell 1
          go_simp
        simp only [Act.put, List.setIfInBounds_toArray, List.set_cons_zero, List.set_cons_succ]
        refine lst_val (v := .int .i64 (k : Int)) (by kernel_rfl) ?_ ?_
        · go_simp
        simp only [Act.put, List.setIfInBounds_toArray, List.set_cons_zero, List.set_cons_succ]
        refine lst_val (v := .pointer (some ⟨g2, a2 + k, none⟩)) (by kernel_rfl) ?_ ?_
        · go_simp
        simp only [Act.put, List.setIfInBounds_toArray, List.set_cons_zero, List.set_cons_succ]
        refine lst_val (v := .slice xa m xc) (by kernel_rfl) ?_ ?_
        · have c0 := PX.out
          go_simp
        simp only [Act.put, List.setIfInBounds_toArray, List.set_cons_zero, List.set_cons_succ]
        refine lst_val (v := .int .i64 (m : Int)) (by kernel_rfl) ?_ ?_
        · go_simp
        simp only [Act.put, List.setIfInBounds_toArray, List.set_cons_zero, List.set_cons_succ]
        refine lst_val (v := .bool false) (by kernel_rfl) ?_ ?_
        · have z9 := Z0.out
          go_simp
        simp only [Act.put, List.setIfInBounds_toArray, List.set_cons_zero, List.set_cons_succ]
        refine lst_val (v := .bool false) (by kernel_rfl) ?_ ?_
        · go_simp
        simp only [Act.put, List.setIfInBounds_toArray, List.set_cons_zero, List.set_cons_succ]
        refine lst_val (v := .pointer (some ⟨bx, 1, none⟩)) (by kernel_rfl) ?_ ?_
        · go_simp
        simp only [Act.put, List.setIfInBounds_toArray, List.set_cons_zero, List.set_cons_succ]
        refine lst_val (v := .slice (some ⟨g2, a2, none⟩) c.cs.length cc) (by kernel_rfl) ?_ ?_
        · have c0 := HY.out.1.cell 1
          go_simp
        simp only [Act.put, List.setIfInBounds_toArray, List.set_cons_zero, List.set_cons_succ]
        refine lst_val (v := .int .i64 (k : Int)) (by kernel_rfl) ?_ ?_
        · go_simp
        simp only [Act.put, List.setIfInBounds_toArray, List.set_cons_zero, List.set_cons_succ]
        refine lst_val (v := .pointer (some ⟨g2, a2 + k, none⟩)) (by kernel_rfl) ?_ ?_
        · go_simp
        simp only [Act.put, List.setIfInBounds_toArray, List.set_cons_zero, List.set_cons_succ]
        refine lst_val (v := .slice xa m xc) (by kernel_rfl) ?_ ?_
        · have c0 := PX.out
          go_simp
        simp only [Act.put, List.setIfInBounds_toArray, List.set_cons_zero, List.set_cons_succ]
        refine lst_val (v := .int .i64 (m : Int)) (by kernel_rfl) ?_ ?_
        · go_simp
        simp only [Act.put, List.setIfInBounds_toArray, List.set_cons_zero, List.set_cons_succ]
        refine lst_val (v := .bool false) (by kernel_rfl) ?_ ?_
        · have z9 := Z1.out
          go_simp
        simp only [Act.put, List.setIfInBounds_toArray, List.set_cons_zero, List.set_cons_succ]
        refine lst_val (v := .bool false) (by kernel_rfl) ?_ ?_
        · go_simp
        simp only [Act.put, List.setIfInBounds_toArray, List.set_cons_zero, List.set_cons_succ]
        refine lst_val (v := .bool false) (by kernel_rfl) ?_ ?_
        · go_simp
        simp only [Act.put, List.setIfInBounds_toArray, List.set_cons_zero, List.set_cons_succ]
        refine lst_val (v := .pointer (some ⟨bt, 0, none⟩)) (by kernel_rfl) ?_ ?_
        · go_simp
        simp only [Act.put, List.setIfInBounds_toArray, List.set_cons_zero, List.set_cons_succ]
        refine lst_val (v := .int .i64 t1) (by kernel_rfl) ?_ ?_
        · have c0 := HY.out.2.2.cell 0
          go_simp
        simp only [Act.put, List.setIfInBounds_toArray, List.set_cons_zero, List.set_cons_succ]
        refine lst_val (v := .bool true) (by kernel_rfl) ?_ ?_
        · have z9 := Z2.out
          go_simp
        simp only [Act.put, List.setIfInBounds_toArray, List.set_cons_zero, List.set_cons_succ]
        go_wp2
        go_ret
        exact ⟨⟨false, rfl, fun e => (by cases e), fun hm => (by have z9 := Z2.out; have hm9 := HM.out; have m9 := may_round hm HXL.out.1 HXL.out.2; omega)⟩, by rw [GB.out]; exact HY.out.2.1⟩
      have Z2 : Hid (¬ (t1 < 0)) := e2
      clear e2
      by_cases e3 : (127 : Int) < t1
      · as_aux_lemma =>
        have Z3 : Hid ((127 : Int) < t1) := e3
        clear e3
        refine wp_region_lit ?_
        refine lst_val (v := .pointer (some ⟨bx, 1, none⟩)) (by kernel_rfl) ?_ ?_
        · go_simp
        simp only [Act.put, List.setIfInBounds_toArray, List.set_cons_zero, List.set_cons_succ]
        refine lst_val (v := .slice (some ⟨g2, a2, none⟩) c.cs.length cc) (by kernel_rfl) ?_ ?_
        · have c0 := HY.out.1.cell 1
          go_simp
        simp only [Act.put, List.setIfInBounds_toArray, List.set_cons_zero, List.set_cons_succ]
        refine lst_val (v := .int .i64 (k : Int)) (by kernel_rfl) ?_ ?_
        · go_simp
        simp only [Act.put, List.setIfInBounds_toArray, List.set_cons_zero, List.set_cons_succ]
        refine lst_val (v := .pointer (some ⟨g2, a2 + k, none⟩)) (by kernel_rfl) ?_ ?_
        · go_simp
        simp only [Act.put, List.setIfInBounds_toArray, List.set_cons_zero, List.set_cons_succ]
        refine lst_val (v := .slice xa m xc) (by kernel_rfl) ?_ ?_
        · have c0 := PX.out
          go_simp
        simp only [Act.put, List.setIfInBounds_toArray, List.set_cons_zero, List.set_cons_succ]
        refine lst_val (v := .int .i64 (m : Int)) (by kernel_rfl) ?_ ?_
        · go_simp
        simp only [Act.put, List.setIfInBounds_toArray, List.set_cons_zero, List.set_cons_succ]
        refine lst_val (v := .bool false) (by kernel_rfl) ?_ ?_
        · have z9 := Z0.out
          go_simp
        simp only [Act.put, List.setIfInBounds_toArray, List.set_cons_zero, List.set_cons_succ]
        refine lst_val (v := .bool false) (by kernel_rfl) ?_ ?_
        · go_simp
        simp only [Act.put, List.setIfInBounds_toArray, List.set_cons_zero, List.set_cons_succ]
        refine lst_val (v := .pointer (some ⟨bx, 1, none⟩)) (by kernel_rfl) ?_ ?_
        · go_simp
        simp only [Act.put, List.setIfInBounds_toArray, List.set_cons_zero, List.set_cons_succ]
        refine lst_val (v := .slice (some ⟨g2, a2, none⟩) c.cs.length cc) (by kernel_rfl) ?_ ?_
        · have c0 := HY.out.1.cell 1
          go_simp
        simp only [Act.put, List.setIfInBounds_toArray, List.set_cons_zero, List.set_cons_succ]
        refine lst_val (v := .int .i64 (k : Int)) (by kernel_rfl) ?_ ?_
        · go_simp
        simp only [Act.put, List.setIfInBounds_toArray, List.set_cons_zero, List.set_cons_succ]
        refine lst_val (v := .pointer (some ⟨g2, a2 + k, none⟩)) (by kernel_rfl) ?_ ?_
        · go_simp
        simp only [Act.put, List.setIfInBounds_toArray, List.set_cons_zero, List.set_cons_succ]
        refine lst_val (v := .slice xa m xc) (by kernel_rfl) ?_ ?_
        · have c0 := PX.out
          go_simp
        simp only [Act.put, List.setIfInBounds_toArray, List.set_cons_zero, List.set_cons_succ]
        refine lst_val (v := .int .i64 (m : Int)) (by kernel_rfl) ?_ ?_
        · go_simp
        simp only [Act.put, List.setIfInBounds_toArray, List.set_cons_zero, List.set_cons_succ]
        refine lst_val (v := .bool false) (by kernel_rfl) ?_ ?_
        · have z9 := Z1.out
          go_simp
        simp only [Act.put, List.setIfInBounds_toArray, List.set_cons_zero, List.set_cons_succ]
        refine lst_val (v := .bool false) (by kernel_rfl) ?_ ?_
        · go_simp
        simp only [Act.put, List.setIfInBounds_toArray, List.set_cons_zero, List.set_cons_succ]
        refine lst_val (v := .bool false) (by kernel_rfl) ?_ ?_
        · go_simp
        simp only [Act.put, List.setIfInBounds_toArray, List.set_cons_zero, List.set_cons_succ]
        refine lst_val (v := .pointer (some ⟨bt, 0, none⟩)) (by kernel_rfl) ?_ ?_
        · go_simp
        simp only [Act.put, List.setIfInBounds_toArray, List.set_cons_zero, List.set_cons_succ]
        refine lst_val (v := .int .i64 t1) (by kernel_rfl) ?_ ?_
        · have c0 := HY.out.2.2.cell 0
          go_simp
        simp only [Act.put, List.setIfInBounds_toArray, List.set_cons_zero, List.set_cons_succ]
        refine lst_val (v := .bool false) (by kernel_rfl) ?_ ?_
        · have z9 := Z2.out
          go_simp
        simp only [Act.put, List.setIfInBounds_toArray, List.set_cons_zero, List.set_cons_succ]
        refine lst_val (v := .bool false) (by kernel_rfl) ?_ ?_
        · go_simp
        simp only [Act.put, List.setIfInBounds_toArray, List.set_cons_zero, List.set_cons_succ]
        refine lst_val (v := .bool false) (by kernel_rfl) ?_ ?_
        · go_simp
        simp only [Act.put, List.setIfInBounds_toArray, List.set_cons_zero, List.set_cons_succ]
        refine lst_val (v := .pointer (some ⟨bt, 0, none⟩)) (by kernel_rfl) ?_ ?_
        · go_simp
        simp only [Act.put, List.setIfInBounds_toArray, List.set_cons_zero, List.set_cons_succ]
        refine lst_val (v := .int .i64 t1) (by kernel_rfl) ?_ ?_
        · have c0 := HY.out.2.2.cell 0
          go_simp
        simp only [Act.put, List.setIfInBounds_toArray, List.set_cons_zero, List.set_cons_succ]
        refine lst_val (v := .bool true) (by kernel_rfl) ?_ ?_
        · have z9 := Z3.out
          go_simp
        simp only [Act.put, List.setIfInBounds_toArray, List.set_cons_zero, List.set_cons_succ]
        go_wp2
        go_ret
        exact ⟨⟨false, rfl, fun e => (by cases e), fun hm => (by have z9 := Z3.out; have hm9 := HM.out; have m9 := may_round hm HXL.out.1 HXL.out.2; omega)⟩, by rw [GB.out]; exact HY.out.2.1⟩
      have Z3 : Hid (¬ ((127 : Int) < t1)) := e3
      clear e3
      by_cases e4 : t2 < 0
      · as_aux_lemma =>
        have Z4 : Hid (t2 < 0) := e4
        clear e4
        refine wp_region_lit ?_
        refine lst_val (v := .pointer (some ⟨bx, 1, none⟩)) (by kernel_rfl) ?_ ?_
        · go_simp
        simp only [Act.put, List.setIfInBounds_toArray, List.set_cons_zero, List.set_cons_succ]
        refine lst_val (v := .slice (some ⟨g2, a2, none⟩) c.cs.length cc) (by kernel_rfl) ?_ ?_
        · have c0 := HY.out.1.cell 1
          go_simp
        simp only [Act.put, List.setIfInBounds_toArray, List.set_cons_zero, List.set_cons_succ]
        refine lst_val (v := .int .i64 (k : Int)) (by kernel_rfl) ?_ ?_
        · go_simp
        simp only [Act.put, List.setIfInBounds_toArray, List.set_cons_zero, List.set_cons_succ]
        refine lst_val (v := .pointer (some ⟨g2, a2 + k, none⟩)) (by kernel_rfl) ?_ ?_
        · go_simp
        simp only [Act.put, List.setIfInBounds_toArray, List.set_cons_zero, List.set_cons_succ]
        refine lst_val (v := .slice xa m xc) (by kernel_rfl) ?_ ?_
        · have c0 := PX.out
          go_simp
        simp only [Act.put, List.setIfInBounds_toArray, List.set_cons_zero, List.set_cons_succ]
        refine lst_val (v := .int .i64 (m : Int)) (by kernel_rfl) ?_ ?_
        · go_simp
        simp only [Act.put, List.setIfInBounds_toArray, List.set_cons_zero, List.set_cons_succ]
        refine lst_val (v := .bool false) (by kernel_rfl) ?_ ?_
        · have z9 := Z0.out
          go_simp
        simp only [Act.put, List.setIfInBounds_toArray, List.set_cons_zero, List.set_cons_succ]
        refine lst_val (v := .bool false) (by kernel_rfl) ?_ ?_
        · go_simp
        simp only [Act.put, List.setIfInBounds_toArray, List.set_cons_zero, List.set_cons_succ]
        refine lst_val (v := .pointer (some ⟨bx, 1, none⟩)) (by kernel_rfl) ?_ ?_
        · go_simp
        simp only [Act.put, List.setIfInBounds_toArray, List.set_cons_zero, List.set_cons_succ]
        refine lst_val (v := .slice (some ⟨g2, a2, none⟩) c.cs.length cc) (by kernel_rfl) ?_ ?_
        · have c0 := HY.out.1.cell 1
          go_simp
        simp only [Act.put, List.setIfInBounds_toArray, List.set_cons_zero, List.set_cons_succ]
        refine lst_val (v := .int .i64 (k : Int)) (by kernel_rfl) ?_ ?_
        · go_simp
        simp only [Act.put, List.setIfInBounds_toArray, List.set_cons_zero, List.set_cons_succ]
        refine lst_val (v := .pointer (some ⟨g2, a2 + k, none⟩)) (by kernel_rfl) ?_ ?_
        · go_simp
        simp only [Act.put, List.setIfInBounds_toArray, List.set_cons_zero, List.set_cons_succ]
        refine lst_val (v := .slice xa m xc) (by kernel_rfl) ?_ ?_
        · have c0 := PX.out
          go_simp
        simp only [Act.put, List.setIfInBounds_toArray, List.set_cons_zero, List.set_cons_succ]
        refine lst_val (v := .int .i64 (m : Int)) (by kernel_rfl) ?_ ?_
        · go_simp
        simp only [Act.put, List.setIfInBounds_toArray, List.set_cons_zero, List.set_cons_succ]
        refine lst_val (v := .bool false) (by kernel_rfl) ?_ ?_
        · have z9 := Z1.out
          go_simp
        simp only [Act.put, List.setIfInBounds_toArray, List.set_cons_zero, List.set_cons_succ]
        refine lst_val (v := .bool false) (by kernel_rfl) ?_ ?_
        · go_simp
        simp only [Act.put, List.setIfInBounds_toArray, List.set_cons_zero, List.set_cons_succ]
        refine lst_val (v := .bool false) (by kernel_rfl) ?_ ?_
        · go_simp
        simp only [Act.put, List.setIfInBounds_toArray, List.set_cons_zero, List.set_cons_succ]
        refine lst_val (v := .pointer (some ⟨bt, 0, none⟩)) (by kernel_rfl) ?_ ?_
        · go_simp
        simp only [Act.put, List.setIfInBounds_toArray, List.set_cons_zero, List.set_cons_succ]
        refine lst_val (v := .int .i64 t1) (by kernel_rfl) ?_ ?_
        · have c0 := HY.out.2.2.cell 0
          go_simp
        simp only [Act.put, List.setIfInBounds_toArray, List.set_cons_zero, List.set_cons_succ]
        refine lst_val (v := .bool false) (by kernel_rfl) ?_ ?_
        · have z9 := Z2.out
          go_simp
        simp only [Act.put, List.setIfInBounds_toArray, List.set_cons_zero, List.set_cons_succ]
        refine lst_val (v := .bool false) (by kernel_rfl) ?_ ?_
        · go_simp
        simp only [Act.put, List.setIfInBounds_toArray, List.set_cons_zero, List.set_cons_succ]
        refine lst_val (v := .bool false) (by kernel_rfl) ?_ ?_
        · go_simp
        simp only [Act.put, List.setIfInBounds_toArray, List.set_cons_zero, List.set_cons_succ]
        refine lst_val (v := .pointer (some ⟨bt, 0, none⟩)) (by kernel_rfl) ?_ ?_
        · go_simp
        simp only [Act.put, List.setIfInBounds_toArray, List.set_cons_zero, List.set_cons_succ]
        refine lst_val (v := .int .i64 t1) (by kernel_rfl) ?_ ?_
        · have c0 := HY.out.2.2.cell 0
          go_simp
        simp only [Act.put, List.setIfInBounds_toArray, List.set_cons_zero, List.set_cons_succ]
        refine lst_val (v := .bool false) (by kernel_rfl) ?_ ?_
        · have z9 := Z3.out
          go_simp
        simp only [Act.put, List.setIfInBounds_toArray, List.set_cons_zero, List.set_cons_succ]
        refine lst_val (v := .bool false) (by kernel_rfl) ?_ ?_
        · go_simp
        simp only [Act.put, List.setIfInBounds_toArray, List.set_cons_zero, List.set_cons_succ]
        refine lst_val (v := .bool false) (by kernel_rfl) ?_ ?_
        · go_simp
        simp only [Act.put, List.setIfInBounds_toArray, List.set_cons_zero, List.set_cons_succ]
        refine lst_val (v := .pointer (some ⟨bt, 1, none⟩)) (by kernel_rfl) ?_ ?_
        · go_simp
        simp only [Act.put, List.setIfInBounds_toArray, List.set_cons_zero, List.set_cons_succ]
        refine lst_val (v := .int .i64 t2) (by kernel_rfl) ?_ ?_
        · have c0 := HY.out.2.2.cell 1
          go_simp
        simp only [Act.put, List.setIfInBounds_toArray, List.set_cons_zero, List.set_cons_succ]
        refine lst_val (v := .bool true) (by kernel_rfl) ?_ ?_
        · have z9 := Z4.out
          go_simp
        simp only [Act.put, List.setIfInBounds_toArray, List.set_cons_zero, List.set_cons_succ]
        go_wp2
        go_ret
        exact ⟨⟨false, rfl, fun e => (by cases e), fun hm => (by have z9 := Z4.out; have hm9 := HM.out; have m9 := may_round hm HXL.out.1 HXL.out.2; omega)⟩, by rw [GB.out]; exact HY.out.2.1⟩
      have Z4 : Hid (¬ (t2 < 0)) := e4
      clear e4
      by_cases e5 : (128 : Int) < t2
      · as_aux_lemma =>
        have Z5 : Hid ((128 : Int) < t2) := e5
        clear e5
        refine wp_region_lit ?_
        refine lst_val (v := .pointer (some ⟨bx, 1, none⟩)) (by kernel_rfl) ?_ ?_
        · go_simp
        simp only [Act.put, List.setIfInBounds_toArray, List.set_cons_zero, List.set_cons_succ]
        refine lst_val (v := .slice (some ⟨g2, a2, none⟩) c.cs.length cc) (by kernel_rfl) ?_ ?_
        · have c0 := HY.out.1.cell 1
          go_simp
        simp only [Act.put, List.setIfInBounds_toArray, List.set_cons_zero, List.set_cons_succ]
        refine lst_val (v := .int .i64 (k : Int)) (by kernel_rfl) ?_ ?_
        · go_simp
        simp only [Act.put, List.setIfInBounds_toArray, List.set_cons_zero, List.set_cons_succ]
        refine lst_val (v := .pointer (some ⟨g2, a2 + k, none⟩)) (by kernel_rfl) ?_ ?_
        · go_simp
        simp only [Act.put, List.setIfInBounds_toArray, List.set_cons_zero, List.set_cons_succ]
        refine lst_val (v := .slice xa m xc) (by kernel_rfl) ?_ ?_
        · have c0 := PX.out
          go_simp
        simp only [Act.put, List.setIfInBounds_toArray, List.set_cons_zero, List.set_cons_succ]
        refine lst_val (v := .int .i64 (m : Int)) (by kernel_rfl) ?_ ?_
        · go_simp
        simp only [Act.put, List.setIfInBounds_toArray, List.set_cons_zero, List.set_cons_succ]
        refine lst_val (v := .bool false) (by kernel_rfl) ?_ ?_
        · have z9 := Z0.out
          go_simp
        simp only [Act.put, List.setIfInBounds_toArray, List.set_cons_zero, List.set_cons_succ]
        refine lst_val (v := .bool false) (by kernel_rfl) ?_ ?_
        · go_simp
        simp only [Act.put, List.setIfInBounds_toArray, List.set_cons_zero, List.set_cons_succ]
        refine lst_val (v := .pointer (some ⟨bx, 1, none⟩)) (by kernel_rfl) ?_ ?_
        · go_simp
        simp only [Act.put, List.setIfInBounds_toArray, List.set_cons_zero, List.set_cons_succ]
        refine lst_val (v := .slice (some ⟨g2, a2, none⟩) c.cs.length cc) (by kernel_rfl) ?_ ?_
        · have c0 := HY.out.1.cell 1
          go_simp
        simp only [Act.put, List.setIfInBounds_toArray, List.set_cons_zero, List.set_cons_succ]
        refine lst_val (v := .int .i64 (k : Int)) (by kernel_rfl) ?_ ?_
        · go_simp
        simp only [Act.put, List.setIfInBounds_toArray, List.set_cons_zero, List.set_cons_succ]
        refine lst_val (v := .pointer (some ⟨g2, a2 + k, none⟩)) (by kernel_rfl) ?_ ?_
        · go_simp
        simp only [Act.put, List.setIfInBounds_toArray, List.set_cons_zero, List.set_cons_succ]
        refine lst_val (v := .slice xa m xc) (by kernel_rfl) ?_ ?_
        · have c0 := PX.out
          go_simp
        simp only [Act.put, List.setIfInBounds_toArray, List.set_cons_zero, List.set_cons_succ]
        refine lst_val (v := .int .i64 (m : Int)) (by kernel_rfl) ?_ ?_
        · go_simp
        simp only [Act.put, List.setIfInBounds_toArray, List.set_cons_zero, List.set_cons_succ]
        refine lst_val (v := .bool false) (by kernel_rfl) ?_ ?_
        · have z9 := Z1.out
          go_simp
        simp only [Act.put, List.setIfInBounds_toArray, List.set_cons_zero, List.set_cons_succ]
        refine lst_val (v := .bool false) (by kernel_rfl) ?_ ?_
        · go_simp
        simp only [Act.put, List.setIfInBounds_toArray, List.set_cons_zero, List.set_cons_succ]
        refine lst_val (v := .bool false) (by kernel_rfl) ?_ ?_
        · go_simp
        simp only [Act.put, List.setIfInBounds_toArray, List.set_cons_zero, List.set_cons_succ]
        refine lst_val (v := .pointer (some ⟨bt, 0, none⟩)) (by kernel_rfl) ?_ ?_
        · go_simp
        simp only [Act.put, List.setIfInBounds_toArray, List.set_cons_zero, List.set_cons_succ]
        refine lst_val (v := .int .i64 t1) (by kernel_rfl) ?_ ?_
        · have c0 := HY.out.2.2.cell 0
          go_simp
        simp only [Act.put, List.setIfInBounds_toArray, List.set_cons_zero, List.set_cons_succ]
        refine lst_val (v := .bool false) (by kernel_rfl) ?_ ?_
        · have z9 := Z2.out
          go_simp
        simp only [Act.put, List.setIfInBounds_toArray, List.set_cons_zero, List.set_cons_succ]
        refine lst_val (v := .bool false) (by kernel_rfl) ?_ ?_
        · go_simp
        simp only [Act.put, List.setIfInBounds_toArray, List.set_cons_zero, List.set_cons_succ]
        refine lst_val (v := .bool false) (by kernel_rfl) ?_ ?_
        · go_simp
        simp only [Act.put, List.setIfInBounds_toArray, List.set_cons_zero, List.set_cons_succ]
        refine lst_val (v := .pointer (some ⟨bt, 0, none⟩)) (by kernel_rfl) ?_ ?_
        · go_simp
        simp only [Act.put, List.setIfInBounds_toArray, List.set_cons_zero, List.set_cons_succ]
        refine lst_val (v := .int .i64 t1) (by kernel_rfl) ?_ ?_
        · have c0 := HY.out.2.2.cell 0
          go_simp
        simp only [Act.put, List.setIfInBounds_toArray, List.set_cons_zero, List.set_cons_succ]
        refine lst_val (v := .bool false) (by kernel_rfl) ?_ ?_
        · have z9 := Z3.out
          go_simp
        simp only [Act.put, List.setIfInBounds_toArray, List.set_cons_zero, List.set_cons_succ]
        refine lst_val (v := .bool false) (by kernel_rfl) ?_ ?_
        · go_simp
        simp only [Act.put, List.setIfInBounds_toArray, List.set_cons_zero, List.set_cons_succ]
        refine lst_val (v := .bool false) (by kernel_rfl) ?_ ?_
        · go_simp
        simp only [Act.put, List.setIfInBounds_toArray, List.set_cons_zero, List.set_cons_succ]
        refine lst_val (v := .pointer (some ⟨bt, 1, none⟩)) (by kernel_rfl) ?_ ?_
        · go_simp
        simp only [Act.put, List.setIfInBounds_toArray, List.set_cons_zero, List.set_cons_succ]
        refine lst_val (v := .int .i64 t2) (by kernel_rfl) ?_ ?_
        · have c0 := HY.out.2.2.cell 1
          go_simp
        simp only [Act.put, List.setIfInBounds_toArray, List.set_cons_zero, List.set_cons_succ]
        refine lst_val (v := .bool false) (by kernel_rfl) ?_ ?_
        · have z9 := Z4.out
          go_simp
        simp only [Act.put, List.setIfInBounds_toArray, List.set_cons_zero, List.set_cons_succ]
        refine lst_val (v := .bool false) (by kernel_rfl) ?_ ?_
        · go_simp
        simp only [Act.put, List.setIfInBounds_toArray, List.set_cons_zero, List.set_cons_succ]
        refine lst_val (v := .bool false) (by kernel_rfl) ?_ ?_
        · go_simp
        simp only [Act.put, List.setIfInBounds_toArray, List.set_cons_zero, List.set_cons_succ]
        refine lst_val (v := .pointer (some ⟨bt, 1, none⟩)) (by kernel_rfl) ?_ ?_
        · go_simp
        simp only [Act.put, List.setIfInBounds_toArray, List.set_cons_zero, List.set_cons_succ]
        refine lst_val (v := .int .i64 t2) (by kernel_rfl) ?_ ?_
        · have c0 := HY.out.2.2.cell 1
          go_simp
        simp only [Act.put, List.setIfInBounds_toArray, List.set_cons_zero, List.set_cons_succ]
        refine lst_val (v := .bool true) (by kernel_rfl) ?_ ?_
        · have z9 := Z5.out
          go_simp
        simp only [Act.put, List.setIfInBounds_toArray, List.set_cons_zero, List.set_cons_succ]
        go_wp2
        go_ret
        exact ⟨⟨false, rfl, fun e => (by cases e), fun hm => (by have z9 := Z5.out; have hm9 := HM.out; have m9 := may_round hm HXL.out.1 HXL.out.2; omega)⟩, by rw [GB.out]; exact HY.out.2.1⟩
      have Z5 : Hid (¬ ((128 : Int) < t2)) := e5
      clear e5
      by_cases e6 : t3 < 0
      · as_aux_lemma =>
        have Z6 : Hid (t3 < 0) := e6
        clear e6
        refine wp_region_lit ?_
        refine lst_val (v := .pointer (some ⟨bx, 1, none⟩)) (by kernel_rfl) ?_ ?_
        · go_simp
        simp only [Act.put, List.setIfInBounds_toArray, List.set_cons_zero, List.set_cons_succ]
        refine lst_val (v := .slice (some ⟨g2, a2, none⟩) c.cs.length cc) (by kernel_rfl) ?_ ?_
        · have c0 := HY.out.1.cell 1
          go_simp
        simp only [Act.put, List.setIfInBounds_toArray, List.set_cons_zero, List.set_cons_succ]
        refine lst_val (v := .int .i64 (k : Int)) (by kernel_rfl) ?_ ?_
        · go_simp
        simp only [Act.put, List.setIfInBounds_toArray, List.set_cons_zero, List.set_cons_succ]
        refine lst_val (v := .pointer (some ⟨g2, a2 + k, none⟩)) (by kernel_rfl) ?_ ?_
        · go_simp
        simp only [Act.put, List.setIfInBounds_toArray, List.set_cons_zero, List.set_cons_succ]
        refine lst_val (v := .slice xa m xc) (by kernel_rfl) ?_ ?_
        · have c0 := PX.out
          go_simp
        simp only [Act.put, List.setIfInBounds_toArray, List.set_cons_zero, List.set_cons_succ]
        refine lst_val (v := .int .i64 (m : Int)) (by kernel_rfl) ?_ ?_
        · go_simp
        simp only [Act.put, List.setIfInBounds_toArray, List.set_cons_zero, List.set_cons_succ]
        refine lst_val (v := .bool false) (by kernel_rfl) ?_ ?_
        · have z9 := Z0.out
          go_simp
        simp only [Act.put, List.setIfInBounds_toArray, List.set_cons_zero, List.set_cons_succ]
        refine lst_val (v := .bool false) (by kernel_rfl) ?_ ?_
        · go_simp
        simp only [Act.put, List.setIfInBounds_toArray, List.set_cons_zero, List.set_cons_succ]
        refine lst_val (v := .pointer (some ⟨bx, 1, none⟩)) (by kernel_rfl) ?_ ?_
        · go_simp
        simp only [Act.put, List.setIfInBounds_toArray, List.set_cons_zero, List.set_cons_succ]
        refine lst_val (v := .slice (some ⟨g2, a2, none⟩) c.cs.length cc) (by kernel_rfl) ?_ ?_
        · have c0 := HY.out.1.cell 1
          go_simp
        simp only [Act.put, List.setIfInBounds_toArray, List.set_cons_zero, List.set_cons_succ]
        refine lst_val (v := .int .i64 (k : Int)) (by kernel_rfl) ?_ ?_
        · go_simp
        simp only [Act.put, List.setIfInBounds_toArray, List.set_cons_zero, List.set_cons_succ]
        refine lst_val (v := .pointer (some ⟨g2, a2 + k, none⟩)) (by kernel_rfl) ?_ ?_
        · go_simp
        simp only [Act.put, List.setIfInBounds_toArray, List.set_cons_zero, List.set_cons_succ]
        refine lst_val (v := .slice xa m xc) (by kernel_rfl) ?_ ?_
        · have c0 := PX.out
          go_simp
        simp only [Act.put, List.setIfInBounds_toArray, List.set_cons_zero, List.set_cons_succ]
        refine lst_val (v := .int .i64 (m : Int)) (by kernel_rfl) ?_ ?_
        · go_simp
        simp only [Act.put, List.setIfInBounds_toArray, List.set_cons_zero, List.set_cons_succ]
        refine lst_val (v := .bool false) (by kernel_rfl) ?_ ?_
        · have z9 := Z1.out
          go_simp
        simp only [Act.put, List.setIfInBounds_toArray, List.set_cons_zero, List.set_cons_succ]
        refine lst_val (v := .bool false) (by kernel_rfl) ?_ ?_
        · go_simp
        simp only [Act.put, List.setIfInBounds_toArray, List.set_cons_zero, List.set_cons_succ]
        refine lst_val (v := .bool false) (by kernel_rfl) ?_ ?_
        · go_simp
        simp only [Act.put, List.setIfInBounds_toArray, List.set_cons_zero, List.set_cons_succ]
        refine lst_val (v := .pointer (some ⟨bt, 0, none⟩)) (by kernel_rfl) ?_ ?_
        · go_simp
        simp only [Act.put, List.setIfInBounds_toArray, List.set_cons_zero, List.set_cons_succ]
        refine lst_val (v := .int .i64 t1) (by kernel_rfl) ?_ ?_
        · have c0 := HY.out.2.2.cell 0
          go_simp
        simp only [Act.put, List.setIfInBounds_toArray, List.set_cons_zero, List.set_cons_succ]
        refine lst_val (v := .bool false) (by kernel_rfl) ?_ ?_
        · have z9 := Z2.out
          go_simp
        simp only [Act.put, List.setIfInBounds_toArray, List.set_cons_zero, List.set_cons_succ]
        refine lst_val (v := .bool false) (by kernel_rfl) ?_ ?_
        · go_simp
        simp only [Act.put, List.setIfInBounds_toArray, List.set_cons_zero, List.set_cons_succ]
        refine lst_val (v := .bool false) (by kernel_rfl) ?_ ?_
        · go_simp
        simp only [Act.put, List.setIfInBounds_toArray, List.set_cons_zero, List.set_cons_succ]
        refine lst_val (v := .pointer (some ⟨bt, 0, none⟩)) (by kernel_rfl) ?_ ?_
        · go_simp
        simp only [Act.put, List.setIfInBounds_toArray, List.set_cons_zero, List.set_cons_succ]
        refine lst_val (v := .int .i64 t1) (by kernel_rfl) ?_ ?_
        · have c0 := HY.out.2.2.cell 0
          go_simp
        simp only [Act.put, List.setIfInBounds_toArray, List.set_cons_zero, List.set_cons_succ]
        refine lst_val (v := .bool false) (by kernel_rfl) ?_ ?_
        · have z9 := Z3.out
          go_simp
        simp only [Act.put, List.setIfInBounds_toArray, List.set_cons_zero, List.set_cons_succ]
        refine lst_val (v := .bool false) (by kernel_rfl) ?_ ?_
        · go_simp
        simp only [Act.put, List.setIfInBounds_toArray, List.set_cons_zero, List.set_cons_succ]
        refine lst_val (v := .bool false) (by kernel_rfl) ?_ ?_
        · go_simp
        simp only [Act.put, List.setIfInBounds_toArray, List.set_cons_zero, List.set_cons_succ]
        refine lst_val (v := .pointer (some ⟨bt, 1, none⟩)) (by kernel_rfl) ?_ ?_
        · go_simp
        simp only [Act.put, List.setIfInBounds_toArray, List.set_cons_zero, List.set_cons_succ]
        refine lst_val (v := .int .i64 t2) (by kernel_rfl) ?_ ?_
        · have c0 := HY.out.2.2.cell 1
          go_simp
        simp only [Act.put, List.setIfInBounds_toArray, List.set_cons_zero, List.set_cons_succ]
        refine lst_val (v := .bool false) (by kernel_rfl) ?_ ?_
        · have z9 := Z4.out
          go_simp
        simp only [Act.put, List.setIfInBounds_toArray, List.set_cons_zero, List.set_cons_succ]
        refine lst_val (v := .bool false) (by kernel_rfl) ?_ ?_
        · go_simp
        simp only [Act.put, List.setIfInBounds_toArray, List.set_cons_zero, List.set_cons_succ]
        refine lst_val (v := .bool false) (by kernel_rfl) ?_ ?_
        · go_simp
        simp only [Act.put, List.setIfInBounds_toArray, List.set_cons_zero, List.set_cons_succ]
        refine lst_val (v := .pointer (some ⟨bt, 1, none⟩)) (by kernel_rfl) ?_ ?_
        · go_simp
        simp only [Act.put, List.setIfInBounds_toArray, List.set_cons_zero, List.set_cons_succ]
        refine lst_val (v := .int .i64 t2) (by kernel_rfl) ?_ ?_
        · have c0 := HY.out.2.2.cell 1
          go_simp
        simp only [Act.put, List.setIfInBounds_toArray, List.set_cons_zero, List.set_cons_succ]
        refine lst_val (v := .bool false) (by kernel_rfl) ?_ ?_
        · have z9 := Z5.out
          go_simp
        simp only [Act.put, List.setIfInBounds_toArray, List.set_cons_zero, List.set_cons_succ]
        refine lst_val (v := .bool false) (by kernel_rfl) ?_ ?_
        · go_simp
        simp only [Act.put, List.setIfInBounds_toArray, List.set_cons_zero, List.set_cons_succ]
        refine lst_val (v := .bool false) (by kernel_rfl) ?_ ?_
        · go_simp
        simp only [Act.put, List.setIfInBounds_toArray, List.set_cons_zero, List.set_cons_succ]
        refine lst_val (v := .pointer (some ⟨bt, 2, none⟩)) (by kernel_rfl) ?_ ?_
        · go_simp
        simp only [Act.put, List.setIfInBounds_toArray, List.set_cons_zero, List.set_cons_succ]
        refine lst_val (v := .int .i64 t3) (by kernel_rfl) ?_ ?_
        · have c0 := HY.out.2.2.cell 2
          go_simp
        simp only [Act.put, List.setIfInBounds_toArray, List.set_cons_zero, List.set_cons_succ]
        refine lst_val (v := .bool true) (by kernel_rfl) ?_ ?_
        · have z9 := Z6.out
          go_simp
        simp only [Act.put, List.setIfInBounds_toArray, List.set_cons_zero, List.set_cons_succ]
        go_wp2
        go_ret
        exact ⟨⟨false, rfl, fun e => (by cases e), fun hm => (by have z9 := Z6.out; have hm9 := HM.out; have m9 := may_round hm HXL.out.1 HXL.out.2; omega)⟩, by rw [GB.out]; exact HY.out.2.1⟩
      have Z6 : Hid (¬ (t3 < 0)) := e6
      clear e6
      by_cases e7 : (1023 : Int) < t3
      · as_aux_lemma =>
        have Z7 : Hid ((1023 : Int) < t3) := e7
        clear e7
        refine wp_region_lit ?_
        refine lst_val (v := .pointer (some ⟨bx, 1, none⟩)) (by kernel_rfl) ?_ ?_
        · go_simp
        simp only [Act.put, List.setIfInBounds_toArray, List.set_cons_zero, List.set_cons_succ]
        refine lst_val (v := .slice (some ⟨g2, a2, none⟩) c.cs.length cc) (by kernel_rfl) ?_ ?_
        · have c0 := HY.out.1.cell 1
          go_simp
        simp only [Act.put, List.setIfInBounds_toArray, List.set_cons_zero, List.set_cons_succ]
        refine lst_val (v := .int .i64 (k : Int)) (by kernel_rfl) ?_ ?_
        · go_simp
        simp only [Act.put, List.setIfInBounds_toArray, List.set_cons_zero, List.set_cons_succ]
        refine lst_val (v := .pointer (some ⟨g2, a2 + k, none⟩)) (by kernel_rfl) ?_ ?_
        · go_simp
        simp only [Act.put, List.setIfInBounds_toArray, List.set_cons_zero, List.set_cons_succ]
        refine lst_val (v := .slice xa m xc) (by kernel_rfl) ?_ ?_
        · have c0 := PX.out
          go_simp
        simp only [Act.put, List.setIfInBounds_toArray, List.set_cons_zero, List.set_cons_succ]
        refine lst_val (v := .int .i64 (m : Int)) (by kernel_rfl) ?_ ?_
        · go_simp
        simp only [Act.put, List.setIfInBounds_toArray, List.set_cons_zero, List.set_cons_succ]
        refine lst_val (v := .bool false) (by kernel_rfl) ?_ ?_
        · have z9 := Z0.out
          go_simp
        simp only [Act.put, List.setIfInBounds_toArray, List.set_cons_zero, List.set_cons_succ]
        refine lst_val (v := .bool false) (by kernel_rfl) ?_ ?_
        · go_simp
        simp only [Act.put, List.setIfInBounds_toArray, List.set_cons_zero, List.set_cons_succ]
        refine lst_val (v := .pointer (some ⟨bx, 1, none⟩)) (by kernel_rfl) ?_ ?_
        · go_simp
        simp only [Act.put, List.setIfInBounds_toArray, List.set_cons_zero, List.set_cons_succ]
        refine lst_val (v := .slice (some ⟨g2, a2, none⟩) c.cs.length cc) (by kernel_rfl) ?_ ?_
        · have c0 := HY.out.1.cell 1
          go_simp
        simp only [Act.put, List.setIfInBounds_toArray, List.set_cons_zero, List.set_cons_succ]
        refine lst_val (v := .int .i64 (k : Int)) (by kernel_rfl) ?_ ?_
        · go_simp
        simp only [Act.put, List.setIfInBounds_toArray, List.set_cons_zero, List.set_cons_succ]
        refine lst_val (v := .pointer (some ⟨g2, a2 + k, none⟩)) (by kernel_rfl) ?_ ?_
        · go_simp
        simp only [Act.put, List.setIfInBounds_toArray, List.set_cons_zero, List.set_cons_succ]
        refine lst_val (v := .slice xa m xc) (by kernel_rfl) ?_ ?_
        · have c0 := PX.out
          go_simp
        simp only [Act.put, List.setIfInBounds_toArray, List.set_cons_zero, List.set_cons_succ]
        refine lst_val (v := .int .i64 (m : Int)) (by kernel_rfl) ?_ ?_
        · go_simp
        simp only [Act.put, List.setIfInBounds_toArray, List.set_cons_zero, List.set_cons_succ]
        refine lst_val (v := .bool false) (by kernel_rfl) ?_ ?_
        · have z9 := Z1.out
          go_simp
        simp only [Act.put, List.setIfInBounds_toArray, List.set_cons_zero, List.set_cons_succ]
        refine lst_val (v := .bool false) (by kernel_rfl) ?_ ?_
        · go_simp
        simp only [Act.put, List.setIfInBounds_toArray, List.set_cons_zero, List.set_cons_succ]
        refine lst_val (v := .bool false) (by kernel_rfl) ?_ ?_
        · go_simp
        simp only [Act.put, List.setIfInBounds_toArray, List.set_cons_zero, List.set_cons_succ]
        refine lst_val (v := .pointer (some ⟨bt, 0, none⟩)) (by kernel_rfl) ?_ ?_
        · go_simp
        simp only [Act.put, List.setIfInBounds_toArray, List.set_cons_zero, List.set_cons_succ]
        refine lst_val (v := .int .i64 t1) (by kernel_rfl) ?_ ?_
        · have c0 := HY.out.2.2.cell 0
          go_simp
        simp only [Act.put, List.setIfInBounds_toArray, List.set_cons_zero, List.set_cons_succ]
        refine lst_val (v := .bool false) (by kernel_rfl) ?_ ?_
        · have z9 := Z2.out
          go_simp
        simp only [Act.put, List.setIfInBounds_toArray, List.set_cons_zero, List.set_cons_succ]
        refine lst_val (v := .bool false) (by kernel_rfl) ?_ ?_
        · go_simp
        simp only [Act.put, List.setIfInBounds_toArray, List.set_cons_zero, List.set_cons_succ]
        refine lst_val (v := .bool false) (by kernel_rfl) ?_ ?_
        · go_simp
        simp only [Act.put, List.setIfInBounds_toArray, List.set_cons_zero, List.set_cons_succ]
        refine lst_val (v := .pointer (some ⟨bt, 0, none⟩)) (by kernel_rfl) ?_ ?_
        · go_simp
        simp only [Act.put, List.setIfInBounds_toArray, List.set_cons_zero, List.set_cons_succ]
        refine lst_val (v := .int .i64 t1) (by kernel_rfl) ?_ ?_
        · have c0 := HY.out.2.2.cell 0
          go_simp
        simp only [Act.put, List.setIfInBounds_toArray, List.set_cons_zero, List.set_cons_succ]
        refine lst_val (v := .bool false) (by kernel_rfl) ?_ ?_
        · have z9 := Z3.out
          go_simp
        simp only [Act.put, List.setIfInBounds_toArray, List.set_cons_zero, List.set_cons_succ]
        refine lst_val (v := .bool false) (by kernel_rfl) ?_ ?_
        · go_simp
        simp only [Act.put, List.setIfInBounds_toArray, List.set_cons_zero, List.set_cons_succ]
        refine lst_val (v := .bool false) (by kernel_rfl) ?_ ?_
        · go_simp
        simp only [Act.put, List.setIfInBounds_toArray, List.set_cons_zero, List.set_cons_succ]
        refine lst_val (v := .pointer (some ⟨bt, 1, none⟩)) (by kernel_rfl) ?_ ?_
        · go_simp
        simp only [Act.put, List.setIfInBounds_toArray, List.set_cons_zero, List.set_cons_succ]
        refine lst_val (v := .int .i64 t2) (by kernel_rfl) ?_ ?_
        · have c0 := HY.out.2.2.cell 1
          go_simp
        simp only [Act.put, List.setIfInBounds_toArray, List.set_cons_zero, List.set_cons_succ]
        refine lst_val (v := .bool false) (by kernel_rfl) ?_ ?_
        · have z9 := Z4.out
          go_simp
        simp only [Act.put, List.setIfInBounds_toArray, List.set_cons_zero, List.set_cons_succ]
        refine lst_val (v := .bool false) (by kernel_rfl) ?_ ?_
        · go_simp
        simp only [Act.put, List.setIfInBounds_toArray, List.set_cons_zero, List.set_cons_succ]
        refine lst_val (v := .bool false) (by kernel_rfl) ?_ ?_
        · go_simp
        simp only [Act.put, List.setIfInBounds_toArray, List.set_cons_zero, List.set_cons_succ]
        refine lst_val (v := .pointer (some ⟨bt, 1, none⟩)) (by kernel_rfl) ?_ ?_
        · go_simp
        simp only [Act.put, List.setIfInBounds_toArray, List.set_cons_zero, List.set_cons_succ]
        refine lst_val (v := .int .i64 t2) (by kernel_rfl) ?_ ?_
        · have c0 := HY.out.2.2.cell 1
          go_simp
        simp only [Act.put, List.setIfInBounds_toArray, List.set_cons_zero, List.set_cons_succ]
        refine lst_val (v := .bool false) (by kernel_rfl) ?_ ?_
        · have z9 := Z5.out
          go_simp
        simp only [Act.put, List.setIfInBounds_toArray, List.set_cons_zero, List.set_cons_succ]
        refine lst_val (v := .bool false) (by kernel_rfl) ?_ ?_
        · go_simp
        simp only [Act.put, List.setIfInBounds_toArray, List.set_cons_zero, List.set_cons_succ]
        refine lst_val (v := .bool false) (by kernel_rfl) ?_ ?_
        · go_simp
        simp only [Act.put, List.setIfInBounds_toArray, List.set_cons_zero, List.set_cons_succ]
        refine lst_val (v := .pointer (some ⟨bt, 2, none⟩)) (by kernel_rfl) ?_ ?_
        · go_simp
        simp only [Act.put, List.setIfInBounds_toArray, List.set_cons_zero, List.set_cons_succ]
        refine lst_val (v := .int .i64 t3) (by kernel_rfl) ?_ ?_
        · have c0 := HY.out.2.2.cell 2
          go_simp
        simp only [Act.put, List.setIfInBounds_toArray, List.set_cons_zero, List.set_cons_succ]
        refine lst_val (v := .bool false) (by kernel_rfl) ?_ ?_
        · have z9 := Z6.out
          go_simp
        simp only [Act.put, List.setIfInBounds_toArray, List.set_cons_zero, List.set_cons_succ]
        refine lst_val (v := .bool false) (by kernel_rfl) ?_ ?_
        · go_simp
        simp only [Act.put, List.setIfInBounds_toArray, List.set_cons_zero, List.set_cons_succ]
        refine lst_val (v := .bool false) (by kernel_rfl) ?_ ?_
        · go_simp
        simp only [Act.put, List.setIfInBounds_toArray, List.set_cons_zero, List.set_cons_succ]
        refine lst_val (v := .pointer (some ⟨bt, 2, none⟩)) (by kernel_rfl) ?_ ?_
        · go_simp
        simp only [Act.put, List.setIfInBounds_toArray, List.set_cons_zero, List.set_cons_succ]
        refine lst_val (v := .int .i64 t3) (by kernel_rfl) ?_ ?_
        · have c0 := HY.out.2.2.cell 2
          go_simp
        simp only [Act.put, List.setIfInBounds_toArray, List.set_cons_zero, List.set_cons_succ]
        refine lst_val (v := .bool true) (by kernel_rfl) ?_ ?_
        · have z9 := Z7.out
          go_simp
        simp only [Act.put, List.setIfInBounds_toArray, List.set_cons_zero, List.set_cons_succ]
        go_wp2
        go_ret
        exact ⟨⟨false, rfl, fun e => (by cases e), fun hm => (by have z9 := Z7.out; have hm9 := HM.out; have m9 := may_round hm HXL.out.1 HXL.out.2; omega)⟩, by rw [GB.out]; exact HY.out.2.1⟩
      have Z7 : Hid (¬ ((1023 : Int) < t3)) := e7
      clear e7
      by_cases ek : k = 0
      · have q8 : ((k : Int) == 0) = true := by simp; omega
        have HK0 : Hid (k = 0) := ek
        clear ek
        by_cases e8 : t1 ≠ 0
        · as_aux_lemma =>
          have Z8 : Hid (t1 ≠ 0) := e8
          have q9 : (t1 != 0) = true := by simpa using e8
          clear e8
          refine wp_region_lit ?_
          refine lst_val (v := .pointer (some ⟨bx, 1, none⟩)) (by kernel_rfl) ?_ ?_
          · go_simp
          simp only [Act.put, List.setIfInBounds_toArray, List.set_cons_zero, List.set_cons_succ]
          refine lst_val (v := .slice (some ⟨g2, a2, none⟩) c.cs.length cc) (by kernel_rfl) ?_ ?_
          · have c0 := HY.out.1.cell 1
            go_simp
          simp only [Act.put, List.setIfInBounds_toArray, List.set_cons_zero, List.set_cons_succ]
          refine lst_val (v := .int .i64 (k : Int)) (by kernel_rfl) ?_ ?_
          · go_simp
          simp only [Act.put, List.setIfInBounds_toArray, List.set_cons_zero, List.set_cons_succ]
          refine lst_val (v := .pointer (some ⟨g2, a2 + k, none⟩)) (by kernel_rfl) ?_ ?_
          · go_simp
          simp only [Act.put, List.setIfInBounds_toArray, List.set_cons_zero, List.set_cons_succ]
          refine lst_val (v := .slice xa m xc) (by kernel_rfl) ?_ ?_
          · have c0 := PX.out
            go_simp
          simp only [Act.put, List.setIfInBounds_toArray, List.set_cons_zero, List.set_cons_succ]
          refine lst_val (v := .int .i64 (m : Int)) (by kernel_rfl) ?_ ?_
          · go_simp
          simp only [Act.put, List.setIfInBounds_toArray, List.set_cons_zero, List.set_cons_succ]
          refine lst_val (v := .bool false) (by kernel_rfl) ?_ ?_
          · have z9 := Z0.out
            go_simp
          simp only [Act.put, List.setIfInBounds_toArray, List.set_cons_zero, List.set_cons_succ]
          refine lst_val (v := .bool false) (by kernel_rfl) ?_ ?_
          · go_simp
          simp only [Act.put, List.setIfInBounds_toArray, List.set_cons_zero, List.set_cons_succ]
          refine lst_val (v := .pointer (some ⟨bx, 1, none⟩)) (by kernel_rfl) ?_ ?_
          · go_simp
          simp only [Act.put, List.setIfInBounds_toArray, List.set_cons_zero, List.set_cons_succ]
          refine lst_val (v := .slice (some ⟨g2, a2, none⟩) c.cs.length cc) (by kernel_rfl) ?_ ?_
          · have c0 := HY.out.1.cell 1
            go_simp
          simp only [Act.put, List.setIfInBounds_toArray, List.set_cons_zero, List.set_cons_succ]
          refine lst_val (v := .int .i64 (k : Int)) (by kernel_rfl) ?_ ?_
          · go_simp
          simp only [Act.put, List.setIfInBounds_toArray, List.set_cons_zero, List.set_cons_succ]
          refine lst_val (v := .pointer (some ⟨g2, a2 + k, none⟩)) (by kernel_rfl) ?_ ?_
          · go_simp
          simp only [Act.put, List.setIfInBounds_toArray, List.set_cons_zero, List.set_cons_succ]
          refine lst_val (v := .slice xa m xc) (by kernel_rfl) ?_ ?_
          · have c0 := PX.out
            go_simp
          simp only [Act.put, List.setIfInBounds_toArray, List.set_cons_zero, List.set_cons_succ]
          refine lst_val (v := .int .i64 (m : Int)) (by kernel_rfl) ?_ ?_
          · go_simp
          simp only [Act.put, List.setIfInBounds_toArray, List.set_cons_zero, List.set_cons_succ]
          refine lst_val (v := .bool false) (by kernel_rfl) ?_ ?_
          · have z9 := Z1.out
            go_simp
          simp only [Act.put, List.setIfInBounds_toArray, List.set_cons_zero, List.set_cons_succ]
          refine lst_val (v := .bool false) (by kernel_rfl) ?_ ?_
          · go_simp
          simp only [Act.put, List.setIfInBounds_toArray, List.set_cons_zero, List.set_cons_succ]
          refine lst_val (v := .bool false) (by kernel_rfl) ?_ ?_
          · go_simp
          simp only [Act.put, List.setIfInBounds_toArray, List.set_cons_zero, List.set_cons_succ]
          refine lst_val (v := .pointer (some ⟨bt, 0, none⟩)) (by kernel_rfl) ?_ ?_
          · go_simp
          simp only [Act.put, List.setIfInBounds_toArray, List.set_cons_zero, List.set_cons_succ]
          refine lst_val (v := .int .i64 t1) (by kernel_rfl) ?_ ?_
          · have c0 := HY.out.2.2.cell 0
            go_simp
          simp only [Act.put, List.setIfInBounds_toArray, List.set_cons_zero, List.set_cons_succ]
          refine lst_val (v := .bool false) (by kernel_rfl) ?_ ?_
          · have z9 := Z2.out
            go_simp
          simp only [Act.put, List.setIfInBounds_toArray, List.set_cons_zero, List.set_cons_succ]
          refine lst_val (v := .bool false) (by kernel_rfl) ?_ ?_
          · go_simp
          simp only [Act.put, List.setIfInBounds_toArray, List.set_cons_zero, List.set_cons_succ]
          refine lst_val (v := .bool false) (by kernel_rfl) ?_ ?_
          · go_simp
          simp only [Act.put, List.setIfInBounds_toArray, List.set_cons_zero, List.set_cons_succ]
          refine lst_val (v := .pointer (some ⟨bt, 0, none⟩)) (by kernel_rfl) ?_ ?_
          · go_simp
          simp only [Act.put, List.setIfInBounds_toArray, List.set_cons_zero, List.set_cons_succ]
          refine lst_val (v := .int .i64 t1) (by kernel_rfl) ?_ ?_
          · have c0 := HY.out.2.2.cell 0
            go_simp
          simp only [Act.put, List.setIfInBounds_toArray, List.set_cons_zero, List.set_cons_succ]
          refine lst_val (v := .bool false) (by kernel_rfl) ?_ ?_
          · have z9 := Z3.out
            go_simp
          simp only [Act.put, List.setIfInBounds_toArray, List.set_cons_zero, List.set_cons_succ]
          refine lst_val (v := .bool false) (by kernel_rfl) ?_ ?_
          · go_simp
          simp only [Act.put, List.setIfInBounds_toArray, List.set_cons_zero, List.set_cons_succ]
          refine lst_val (v := .bool false) (by kernel_rfl) ?_ ?_
          · go_simp
          simp only [Act.put, List.setIfInBounds_toArray, List.set_cons_zero, List.set_cons_succ]
          refine lst_val (v := .pointer (some ⟨bt, 1, none⟩)) (by kernel_rfl) ?_ ?_
          · go_simp
          simp only [Act.put, List.setIfInBounds_toArray, List.set_cons_zero, List.set_cons_succ]
          refine lst_val (v := .int .i64 t2) (by kernel_rfl) ?_ ?_
          · have c0 := HY.out.2.2.cell 1
            go_simp
          simp only [Act.put, List.setIfInBounds_toArray, List.set_cons_zero, List.set_cons_succ]
          refine lst_val (v := .bool false) (by kernel_rfl) ?_ ?_
          · have z9 := Z4.out
            go_simp
          simp only [Act.put, List.setIfInBounds_toArray, List.set_cons_zero, List.set_cons_succ]
          refine lst_val (v := .bool false) (by kernel_rfl) ?_ ?_
          · go_simp
          simp only [Act.put, List.setIfInBounds_toArray, List.set_cons_zero, List.set_cons_succ]
          refine lst_val (v := .bool false) (by kernel_rfl) ?_ ?_
          · go_simp
          simp only [Act.put, List.setIfInBounds_toArray, List.set_cons_zero, List.set_cons_succ]
          refine lst_val (v := .pointer (some ⟨bt, 1, none⟩)) (by kernel_rfl) ?_ ?_
          · go_simp
          simp only [Act.put, List.setIfInBounds_toArray, List.set_cons_zero, List.set_cons_succ]
          refine lst_val (v := .int .i64 t2) (by kernel_rfl) ?_ ?_
          · have c0 := HY.out.2.2.cell 1
            go_simp
          simp only [Act.put, List.setIfInBounds_toArray, List.set_cons_zero, List.set_cons_succ]
          refine lst_val (v := .bool false) (by kernel_rfl) ?_ ?_
          · have z9 := Z5.out
            go_simp
          simp only [Act.put, List.setIfInBounds_toArray, List.set_cons_zero, List.set_cons_succ]
          refine lst_val (v := .bool false) (by kernel_rfl) ?_ ?_
          · go_simp
          simp only [Act.put, List.setIfInBounds_toArray, List.set_cons_zero, List.set_cons_succ]
          refine lst_val (v := .bool false) (by kernel_rfl) ?_ ?_
          · go_simp
          simp only [Act.put, List.setIfInBounds_toArray, List.set_cons_zero, List.set_cons_succ]
          refine lst_val (v := .pointer (some ⟨bt, 2, none⟩)) (by kernel_rfl) ?_ ?_
          · go_simp
          simp only [Act.put, List.setIfInBounds_toArray, List.set_cons_zero, List.set_cons_succ]
          refine lst_val (v := .int .i64 t3) (by kernel_rfl) ?_ ?_
          · have c0 := HY.out.2.2.cell 2
            go_simp
          simp only [Act.put, List.setIfInBounds_toArray, List.set_cons_zero, List.set_cons_succ]
          refine lst_val (v := .bool false) (by kernel_rfl) ?_ ?_
          · have z9 := Z6.out
            go_simp
          simp only [Act.put, List.setIfInBounds_toArray, List.set_cons_zero, List.set_cons_succ]
          refine lst_val (v := .bool false) (by kernel_rfl) ?_ ?_
          · go_simp
          simp only [Act.put, List.setIfInBounds_toArray, List.set_cons_zero, List.set_cons_succ]
          refine lst_val (v := .bool false) (by kernel_rfl) ?_ ?_
          · go_simp
          simp only [Act.put, List.setIfInBounds_toArray, List.set_cons_zero, List.set_cons_succ]
          refine lst_val (v := .pointer (some ⟨bt, 2, none⟩)) (by kernel_rfl) ?_ ?_
          · go_simp
          simp only [Act.put, List.setIfInBounds_toArray, List.set_cons_zero, List.set_cons_succ]
          refine lst_val (v := .int .i64 t3) (by kernel_rfl) ?_ ?_
          · have c0 := HY.out.2.2.cell 2
            go_simp
          simp only [Act.put, List.setIfInBounds_toArray, List.set_cons_zero, List.set_cons_succ]
          refine lst_val (v := .bool false) (by kernel_rfl) ?_ ?_
          · have z9 := Z7.out
            go_simp
          simp only [Act.put, List.setIfInBounds_toArray, List.set_cons_zero, List.set_cons_succ]
          refine lst_val (v := .bool false) (by kernel_rfl) ?_ ?_
          · go_simp
          simp only [Act.put, List.setIfInBounds_toArray, List.set_cons_zero, List.set_cons_succ]
          refine lst_val (v := .bool false) (by kernel_rfl) ?_ ?_
          · go_simp
          simp only [Act.put, List.setIfInBounds_toArray, List.set_cons_zero, List.set_cons_succ]
          refine lst_val (v := .int .i64 (k : Int)) (by kernel_rfl) ?_ ?_
          · go_simp
          simp only [Act.put, List.setIfInBounds_toArray, List.set_cons_zero, List.set_cons_succ]
          refine lst_val (v := .bool true) (by kernel_rfl) ?_ ?_
          · go_simp
          simp only [Act.put, List.setIfInBounds_toArray, List.set_cons_zero, List.set_cons_succ]
          refine lst_val (v := .bool true) (by kernel_rfl) ?_ ?_
          · go_simp
          simp only [Act.put, List.setIfInBounds_toArray, List.set_cons_zero, List.set_cons_succ]
          refine lst_val (v := .pointer (some ⟨bt, 0, none⟩)) (by kernel_rfl) ?_ ?_
          · go_simp
          simp only [Act.put, List.setIfInBounds_toArray, List.set_cons_zero, List.set_cons_succ]
          refine lst_val (v := .int .i64 t1) (by kernel_rfl) ?_ ?_
          · have c0 := HY.out.2.2.cell 0
            go_simp
          simp only [Act.put, List.setIfInBounds_toArray, List.set_cons_zero, List.set_cons_succ]
          refine lst_val (v := .bool true) (by kernel_rfl) ?_ ?_
          · go_simp
          simp only [Act.put, List.setIfInBounds_toArray, List.set_cons_zero, List.set_cons_succ]
          go_wp2
          go_ret
          exact ⟨⟨false, rfl, fun e => (by cases e), fun hm => (by have z9 := Z8.out; have z8 := HK0.out; have hm9 := HM.out; have m9 := may_round hm HXL.out.1 HXL.out.2; omega)⟩, by rw [GB.out]; exact HY.out.2.1⟩
        have q9 : (t1 != 0) = false := by simpa using e8
        by_cases e9 : t2 ≠ 128
        · as_aux_lemma =>
          have Z9 : Hid (t2 ≠ 128) := e9
          have q10 : (t2 != 128) = true := by simpa using e9
          clear e9 e8
          refine wp_region_lit ?_
          refine lst_val (v := .pointer (some ⟨bx, 1, none⟩)) (by kernel_rfl) ?_ ?_
          · go_simp
          simp only [Act.put, List.setIfInBounds_toArray, List.set_cons_zero, List.set_cons_succ]
          refine lst_val (v := .slice (some ⟨g2, a2, none⟩) c.cs.length cc) (by kernel_rfl) ?_ ?_
          · have c0 := HY.out.1.cell 1
            go_simp
          simp only [Act.put, List.setIfInBounds_toArray, List.set_cons_zero, List.set_cons_succ]
          refine lst_val (v := .int .i64 (k : Int)) (by kernel_rfl) ?_ ?_
          · go_simp
          simp only [Act.put, List.setIfInBounds_toArray, List.set_cons_zero, List.set_cons_succ]
          refine lst_val (v := .pointer (some ⟨g2, a2 + k, none⟩)) (by kernel_rfl) ?_ ?_
          · go_simp
          simp only [Act.put, List.setIfInBounds_toArray, List.set_cons_zero, List.set_cons_succ]
          refine lst_val (v := .slice xa m xc) (by kernel_rfl) ?_ ?_
          · have c0 := PX.out
            go_simp
          simp only [Act.put, List.setIfInBounds_toArray, List.set_cons_zero, List.set_cons_succ]
          refine lst_val (v := .int .i64 (m : Int)) (by kernel_rfl) ?_ ?_
          · go_simp
          simp only [Act.put, List.setIfInBounds_toArray, List.set_cons_zero, List.set_cons_succ]
          refine lst_val (v := .bool false) (by kernel_rfl) ?_ ?_
          · have z9 := Z0.out
            go_simp
          simp only [Act.put, List.setIfInBounds_toArray, List.set_cons_zero, List.set_cons_succ]
          refine lst_val (v := .bool false) (by kernel_rfl) ?_ ?_
          · go_simp
          simp only [Act.put, List.setIfInBounds_toArray, List.set_cons_zero, List.set_cons_succ]
          refine lst_val (v := .pointer (some ⟨bx, 1, none⟩)) (by kernel_rfl) ?_ ?_
          · go_simp
          simp only [Act.put, List.setIfInBounds_toArray, List.set_cons_zero, List.set_cons_succ]
          refine lst_val (v := .slice (some ⟨g2, a2, none⟩) c.cs.length cc) (by kernel_rfl) ?_ ?_
          · have c0 := HY.out.1.cell 1
            go_simp
          simp only [Act.put, List.setIfInBounds_toArray, List.set_cons_zero, List.set_cons_succ]
          refine lst_val (v := .int .i64 (k : Int)) (by kernel_rfl) ?_ ?_
          · go_simp
          simp only [Act.put, List.setIfInBounds_toArray, List.set_cons_zero, List.set_cons_succ]
          refine lst_val (v := .pointer (some ⟨g2, a2 + k, none⟩)) (by kernel_rfl) ?_ ?_
          · go_simp
          simp only [Act.put, List.setIfInBounds_toArray, List.set_cons_zero, List.set_cons_succ]
          refine lst_val (v := .slice xa m xc) (by kernel_rfl) ?_ ?_
          · have c0 := PX.out
            go_simp
          simp only [Act.put, List.setIfInBounds_toArray, List.set_cons_zero, List.set_cons_succ]
          refine lst_val (v := .int .i64 (m : Int)) (by kernel_rfl) ?_ ?_
          · go_simp
          simp only [Act.put, List.setIfInBounds_toArray, List.set_cons_zero, List.set_cons_succ]
          refine lst_val (v := .bool false) (by kernel_rfl) ?_ ?_
          · have z9 := Z1.out
            go_simp
          simp only [Act.put, List.setIfInBounds_toArray, List.set_cons_zero, List.set_cons_succ]
          refine lst_val (v := .bool false) (by kernel_rfl) ?_ ?_
          · go_simp
          simp only [Act.put, List.setIfInBounds_toArray, List.set_cons_zero, List.set_cons_succ]
          refine lst_val (v := .bool false) (by kernel_rfl) ?_ ?_
          · go_simp
          simp only [Act.put, List.setIfInBounds_toArray, List.set_cons_zero, List.set_cons_succ]
          refine lst_val (v := .pointer (some ⟨bt, 0, none⟩)) (by kernel_rfl) ?_ ?_
          · go_simp
          simp only [Act.put, List.setIfInBounds_toArray, List.set_cons_zero, List.set_cons_succ]
          refine lst_val (v := .int .i64 t1) (by kernel_rfl) ?_ ?_
          · have c0 := HY.out.2.2.cell 0
            go_simp
          simp only [Act.put, List.setIfInBounds_toArray, List.set_cons_zero, List.set_cons_succ]
          refine lst_val (v := .bool false) (by kernel_rfl) ?_ ?_
          · have z9 := Z2.out
            go_simp
          simp only [Act.put, List.setIfInBounds_toArray, List.set_cons_zero, List.set_cons_succ]
          refine lst_val (v := .bool false) (by kernel_rfl) ?_ ?_
          · go_simp
          simp only [Act.put, List.setIfInBounds_toArray, List.set_cons_zero, List.set_cons_succ]
          refine lst_val (v := .bool false) (by kernel_rfl) ?_ ?_
          · go_simp
          simp only [Act.put, List.setIfInBounds_toArray, List.set_cons_zero, List.set_cons_succ]
          refine lst_val (v := .pointer (some ⟨bt, 0, none⟩)) (by kernel_rfl) ?_ ?_
          · go_simp
          simp only [Act.put, List.setIfInBounds_toArray, List.set_cons_zero, List.set_cons_succ]
          refine lst_val (v := .int .i64 t1) (by kernel_rfl) ?_ ?_
          · have c0 := HY.out.2.2.cell 0
            go_simp
          simp only [Act.put, List.setIfInBounds_toArray, List.set_cons_zero, List.set_cons_succ]
          refine lst_val (v := .bool false) (by kernel_rfl) ?_ ?_
          · have z9 := Z3.out
            go_simp
          simp only [Act.put, List.setIfInBounds_toArray, List.set_cons_zero, List.set_cons_succ]
          refine lst_val (v := .bool false) (by kernel_rfl) ?_ ?_
          · go_simp
          simp only [Act.put, List.setIfInBounds_toArray, List.set_cons_zero, List.set_cons_succ]
          refine lst_val (v := .bool false) (by kernel_rfl) ?_ ?_
          · go_simp
          simp only [Act.put, List.setIfInBounds_toArray, List.set_cons_zero, List.set_cons_succ]
          refine lst_val (v := .pointer (some ⟨bt, 1, none⟩)) (by kernel_rfl) ?_ ?_
          · go_simp
          simp only [Act.put, List.setIfInBounds_toArray, List.set_cons_zero, List.set_cons_succ]
          refine lst_val (v := .int .i64 t2) (by kernel_rfl) ?_ ?_
          · have c0 := HY.out.2.2.cell 1
            go_simp
          simp only [Act.put, List.setIfInBounds_toArray, List.set_cons_zero, List.set_cons_succ]
          refine lst_val (v := .bool false) (by kernel_rfl) ?_ ?_
          · have z9 := Z4.out
            go_simp
          simp only [Act.put, List.setIfInBounds_toArray, List.set_cons_zero, List.set_cons_succ]
          refine lst_val (v := .bool false) (by kernel_rfl) ?_ ?_
          · go_simp
          simp only [Act.put, List.setIfInBounds_toArray, List.set_cons_zero, List.set_cons_succ]
          refine lst_val (v := .bool false) (by kernel_rfl) ?_ ?_
          · go_simp
          simp only [Act.put, List.setIfInBounds_toArray, List.set_cons_zero, List.set_cons_succ]
          refine lst_val (v := .pointer (some ⟨bt, 1, none⟩)) (by kernel_rfl) ?_ ?_
          · go_simp
          simp only [Act.put, List.setIfInBounds_toArray, List.set_cons_zero, List.set_cons_succ]
          refine lst_val (v := .int .i64 t2) (by kernel_rfl) ?_ ?_
          · have c0 := HY.out.2.2.cell 1
            go_simp
          simp only [Act.put, List.setIfInBounds_toArray, List.set_cons_zero, List.set_cons_succ]
          refine lst_val (v := .bool false) (by kernel_rfl) ?_ ?_
          · have z9 := Z5.out
            go_simp
          simp only [Act.put, List.setIfInBounds_toArray, List.set_cons_zero, List.set_cons_succ]
          refine lst_val (v := .bool false) (by kernel_rfl) ?_ ?_
          · go_simp
          simp only [Act.put, List.setIfInBounds_toArray, List.set_cons_zero, List.set_cons_succ]
          refine lst_val (v := .bool false) (by kernel_rfl) ?_ ?_
          · go_simp
          simp only [Act.put, List.setIfInBounds_toArray, List.set_cons_zero, List.set_cons_succ]
          refine lst_val (v := .pointer (some ⟨bt, 2, none⟩)) (by kernel_rfl) ?_ ?_
          · go_simp
          simp only [Act.put, List.setIfInBounds_toArray, List.set_cons_zero, List.set_cons_succ]
          refine lst_val (v := .int .i64 t3) (by kernel_rfl) ?_ ?_
          · have c0 := HY.out.2.2.cell 2
            go_simp
          simp only [Act.put, List.setIfInBounds_toArray, List.set_cons_zero, List.set_cons_succ]
          refine lst_val (v := .bool false) (by kernel_rfl) ?_ ?_
          · have z9 := Z6.out
            go_simp
          simp only [Act.put, List.setIfInBounds_toArray, List.set_cons_zero, List.set_cons_succ]
          refine lst_val (v := .bool false) (by kernel_rfl) ?_ ?_
          · go_simp
          simp only [Act.put, List.setIfInBounds_toArray, List.set_cons_zero, List.set_cons_succ]
          refine lst_val (v := .bool false) (by kernel_rfl) ?_ ?_
          · go_simp
          simp only [Act.put, List.setIfInBounds_toArray, List.set_cons_zero, List.set_cons_succ]
          refine lst_val (v := .pointer (some ⟨bt, 2, none⟩)) (by kernel_rfl) ?_ ?_
          · go_simp
          simp only [Act.put, List.setIfInBounds_toArray, List.set_cons_zero, List.set_cons_succ]
          refine lst_val (v := .int .i64 t3) (by kernel_rfl) ?_ ?_
          · have c0 := HY.out.2.2.cell 2
            go_simp
          simp only [Act.put, List.setIfInBounds_toArray, List.set_cons_zero, List.set_cons_succ]
          refine lst_val (v := .bool false) (by kernel_rfl) ?_ ?_
          · have z9 := Z7.out
            go_simp
          simp only [Act.put, List.setIfInBounds_toArray, List.set_cons_zero, List.set_cons_succ]
          refine lst_val (v := .bool false) (by kernel_rfl) ?_ ?_
          · go_simp
          simp only [Act.put, List.setIfInBounds_toArray, List.set_cons_zero, List.set_cons_succ]
          refine lst_val (v := .bool false) (by kernel_rfl) ?_ ?_
          · go_simp
          simp only [Act.put, List.setIfInBounds_toArray, List.set_cons_zero, List.set_cons_succ]
          refine lst_val (v := .int .i64 (k : Int)) (by kernel_rfl) ?_ ?_
          · go_simp
          simp only [Act.put, List.setIfInBounds_toArray, List.set_cons_zero, List.set_cons_succ]
          refine lst_val (v := .bool true) (by kernel_rfl) ?_ ?_
          · go_simp
          simp only [Act.put, List.setIfInBounds_toArray, List.set_cons_zero, List.set_cons_succ]
          refine lst_val (v := .bool true) (by kernel_rfl) ?_ ?_
          · go_simp
          simp only [Act.put, List.setIfInBounds_toArray, List.set_cons_zero, List.set_cons_succ]
          refine lst_val (v := .pointer (some ⟨bt, 0, none⟩)) (by kernel_rfl) ?_ ?_
          · go_simp
          simp only [Act.put, List.setIfInBounds_toArray, List.set_cons_zero, List.set_cons_succ]
          refine lst_val (v := .int .i64 t1) (by kernel_rfl) ?_ ?_
          · have c0 := HY.out.2.2.cell 0
            go_simp
          simp only [Act.put, List.setIfInBounds_toArray, List.set_cons_zero, List.set_cons_succ]
          refine lst_val (v := .bool false) (by kernel_rfl) ?_ ?_
          · go_simp
          simp only [Act.put, List.setIfInBounds_toArray, List.set_cons_zero, List.set_cons_succ]
          refine lst_val (v := .bool false) (by kernel_rfl) ?_ ?_
          · go_simp
          simp only [Act.put, List.setIfInBounds_toArray, List.set_cons_zero, List.set_cons_succ]
          refine lst_val (v := .pointer (some ⟨bt, 1, none⟩)) (by kernel_rfl) ?_ ?_
          · go_simp
          simp only [Act.put, List.setIfInBounds_toArray, List.set_cons_zero, List.set_cons_succ]
          refine lst_val (v := .int .i64 t2) (by kernel_rfl) ?_ ?_
          · have c0 := HY.out.2.2.cell 1
            go_simp
          simp only [Act.put, List.setIfInBounds_toArray, List.set_cons_zero, List.set_cons_succ]
          refine lst_val (v := .bool true) (by kernel_rfl) ?_ ?_
          · go_simp
          simp only [Act.put, List.setIfInBounds_toArray, List.set_cons_zero, List.set_cons_succ]
          go_wp2
          go_ret
          exact ⟨⟨false, rfl, fun e => (by cases e), fun hm => (by have z9 := Z9.out; have z8 := HK0.out; have hm9 := HM.out; have m9 := may_round hm HXL.out.1 HXL.out.2; omega)⟩, by rw [GB.out]; exact HY.out.2.1⟩
        have q10 : (t2 != 128) = false := by simpa using e9
        have HZ0 : Hid (k = 0 → t1 = 0 ∧ t2 = 128) := fun _ => by omega
        clear e8 e9
        refine wp_region_lit ?_
        refine lst_val (v := .pointer (some ⟨bx, 1, none⟩)) (by kernel_rfl) ?_ ?_
        · go_simp
        simp only [Act.put, List.setIfInBounds_toArray, List.set_cons_zero, List.set_cons_succ]
        refine lst_val (v := .slice (some ⟨g2, a2, none⟩) c.cs.length cc) (by kernel_rfl) ?_ ?_
        · have c0 := HY.out.1.cell 1
          go_simp
        simp only [Act.put, List.setIfInBounds_toArray, List.set_cons_zero, List.set_cons_succ]
        refine lst_val (v := .int .i64 (k : Int)) (by kernel_rfl) ?_ ?_
        · go_simp
        simp only [Act.put, List.setIfInBounds_toArray, List.set_cons_zero, List.set_cons_succ]
        refine lst_val (v := .pointer (some ⟨g2, a2 + k, none⟩)) (by kernel_rfl) ?_ ?_
        · go_simp
        simp only [Act.put, List.setIfInBounds_toArray, List.set_cons_zero, List.set_cons_succ]
        refine lst_val (v := .slice xa m xc) (by kernel_rfl) ?_ ?_
        · have c0 := PX.out
          go_simp
        simp only [Act.put, List.setIfInBounds_toArray, List.set_cons_zero, List.set_cons_succ]
        refine lst_val (v := .int .i64 (m : Int)) (by kernel_rfl) ?_ ?_
        · go_simp
        simp only [Act.put, List.setIfInBounds_toArray, List.set_cons_zero, List.set_cons_succ]
        refine lst_val (v := .bool false) (by kernel_rfl) ?_ ?_
        · have z9 := Z0.out
          go_simp
        simp only [Act.put, List.setIfInBounds_toArray, List.set_cons_zero, List.set_cons_succ]
        refine lst_val (v := .bool false) (by kernel_rfl) ?_ ?_
        · go_simp
        simp only [Act.put, List.setIfInBounds_toArray, List.set_cons_zero, List.set_cons_succ]
        refine lst_val (v := .pointer (some ⟨bx, 1, none⟩)) (by kernel_rfl) ?_ ?_
        · go_simp
        simp only [Act.put, List.setIfInBounds_toArray, List.set_cons_zero, List.set_cons_succ]
        refine lst_val (v := .slice (some ⟨g2, a2, none⟩) c.cs.length cc) (by kernel_rfl) ?_ ?_
        · have c0 := HY.out.1.cell 1
          go_simp
        simp only [Act.put, List.setIfInBounds_toArray, List.set_cons_zero, List.set_cons_succ]
        refine lst_val (v := .int .i64 (k : Int)) (by kernel_rfl) ?_ ?_
        · go_simp
        simp only [Act.put, List.setIfInBounds_toArray, List.set_cons_zero, List.set_cons_succ]
        refine lst_val (v := .pointer (some ⟨g2, a2 + k, none⟩)) (by kernel_rfl) ?_ ?_
        · go_simp
        simp only [Act.put, List.setIfInBounds_toArray, List.set_cons_zero, List.set_cons_succ]
        refine lst_val (v := .slice xa m xc) (by kernel_rfl) ?_ ?_
        · have c0 := PX.out
          go_simp
        simp only [Act.put, List.setIfInBounds_toArray, List.set_cons_zero, List.set_cons_succ]
        refine lst_val (v := .int .i64 (m : Int)) (by kernel_rfl) ?_ ?_
        · go_simp
        simp only [Act.put, List.setIfInBounds_toArray, List.set_cons_zero, List.set_cons_succ]
        refine lst_val (v := .bool false) (by kernel_rfl) ?_ ?_
        · have z9 := Z1.out
          go_simp
        simp only [Act.put, List.setIfInBounds_toArray, List.set_cons_zero, List.set_cons_succ]
        refine lst_val (v := .bool false) (by kernel_rfl) ?_ ?_
        · go_simp
        simp only [Act.put, List.setIfInBounds_toArray, List.set_cons_zero, List.set_cons_succ]
        refine lst_val (v := .bool false) (by kernel_rfl) ?_ ?_
        · go_simp
        simp only [Act.put, List.setIfInBounds_toArray, List.set_cons_zero, List.set_cons_succ]
        refine lst_val (v := .pointer (some ⟨bt, 0, none⟩)) (by kernel_rfl) ?_ ?_
        · go_simp
        simp only [Act.put, List.setIfInBounds_toArray, List.set_cons_zero, List.set_cons_succ]
        refine lst_val (v := .int .i64 t1) (by kernel_rfl) ?_ ?_
        · have c0 := HY.out.2.2.cell 0
          go_simp
        simp only [Act.put, List.setIfInBounds_toArray, List.set_cons_zero, List.set_cons_succ]
        refine lst_val (v := .bool false) (by kernel_rfl) ?_ ?_
        · have z9 := Z2.out
          go_simp
        simp only [Act.put, List.setIfInBounds_toArray, List.set_cons_zero, List.set_cons_succ]
        refine lst_val (v := .bool false) (by kernel_rfl) ?_ ?_
        · go_simp
        simp only [Act.put, List.setIfInBounds_toArray, List.set_cons_zero, List.set_cons_succ]
        refine lst_val (v := .bool false) (by kernel_rfl) ?_ ?_
        · go_simp
        simp only [Act.put, List.setIfInBounds_toArray, List.set_cons_zero, List.set_cons_succ]
        refine lst_val (v := .pointer (some ⟨bt, 0, none⟩)) (by kernel_rfl) ?_ ?_
        · go_simp
        simp only [Act.put, List.setIfInBounds_toArray, List.set_cons_zero, List.set_cons_succ]
        refine lst_val (v := .int .i64 t1) (by kernel_rfl) ?_ ?_
        · have c0 := HY.out.2.2.cell 0
          go_simp
        simp only [Act.put, List.setIfInBounds_toArray, List.set_cons_zero, List.set_cons_succ]
        refine lst_val (v := .bool false) (by kernel_rfl) ?_ ?_
        · have z9 := Z3.out
          go_simp
        simp only [Act.put, List.setIfInBounds_toArray, List.set_cons_zero, List.set_cons_succ]
        refine lst_val (v := .bool false) (by kernel_rfl) ?_ ?_
        · go_simp
        simp only [Act.put, List.setIfInBounds_toArray, List.set_cons_zero, List.set_cons_succ]
        refine lst_val (v := .bool false) (by kernel_rfl) ?_ ?_
        · go_simp
        simp only [Act.put, List.setIfInBounds_toArray, List.set_cons_zero, List.set_cons_succ]
        refine lst_val (v := .pointer (some ⟨bt, 1, none⟩)) (by kernel_rfl) ?_ ?_
        · go_simp
        simp only [Act.put, List.setIfInBounds_toArray, List.set_cons_zero, List.set_cons_succ]
        refine lst_val (v := .int .i64 t2) (by kernel_rfl) ?_ ?_
        · have c0 := HY.out.2.2.cell 1
          go_simp
        simp only [Act.put, List.setIfInBounds_toArray, List.set_cons_zero, List.set_cons_succ]
        refine lst_val (v := .bool false) (by kernel_rfl) ?_ ?_
        · have z9 := Z4.out
          go_simp
        simp only [Act.put, List.setIfInBounds_toArray, List.set_cons_zero, List.set_cons_succ]
        refine lst_val (v := .bool false) (by kernel_rfl) ?_ ?_
        · go_simp
        simp only [Act.put, List.setIfInBounds_toArray, List.set_cons_zero, List.set_cons_succ]
        refine lst_val (v := .bool false) (by kernel_rfl) ?_ ?_
        · go_simp
        simp only [Act.put, List.setIfInBounds_toArray, List.set_cons_zero, List.set_cons_succ]
        refine lst_val (v := .pointer (some ⟨bt, 1, none⟩)) (by kernel_rfl) ?_ ?_
        · go_simp
        simp only [Act.put, List.setIfInBounds_toArray, List.set_cons_zero, List.set_cons_succ]
        refine lst_val (v := .int .i64 t2) (by kernel_rfl) ?_ ?_
        · have c0 := HY.out.2.2.cell 1
          go_simp
        simp only [Act.put, List.setIfInBounds_toArray, List.set_cons_zero, List.set_cons_succ]
        refine lst_val (v := .bool false) (by kernel_rfl) ?_ ?_
        · have z9 := Z5.out
          go_simp
        simp only [Act.put, List.setIfInBounds_toArray, List.set_cons_zero, List.set_cons_succ]
        refine lst_val (v := .bool false) (by kernel_rfl) ?_ ?_
        · go_simp
        simp only [Act.put, List.setIfInBounds_toArray, List.set_cons_zero, List.set_cons_succ]
        refine lst_val (v := .bool false) (by kernel_rfl) ?_ ?_
        · go_simp
        simp only [Act.put, List.setIfInBounds_toArray, List.set_cons_zero, List.set_cons_succ]
        refine lst_val (v := .pointer (some ⟨bt, 2, none⟩)) (by kernel_rfl) ?_ ?_
        · go_simp
        simp only [Act.put, List.setIfInBounds_toArray, List.set_cons_zero, List.set_cons_succ]
        refine lst_val (v := .int .i64 t3) (by kernel_rfl) ?_ ?_
        · have c0 := HY.out.2.2.cell 2
          go_simp
        simp only [Act.put, List.setIfInBounds_toArray, List.set_cons_zero, List.set_cons_succ]
        refine lst_val (v := .bool false) (by kernel_rfl) ?_ ?_
        · have z9 := Z6.out
          go_simp
        simp only [Act.put, List.setIfInBounds_toArray, List.set_cons_zero, List.set_cons_succ]
        refine lst_val (v := .bool false) (by kernel_rfl) ?_ ?_
        · go_simp
        simp only [Act.put, List.setIfInBounds_toArray, List.set_cons_zero, List.set_cons_succ]
        refine lst_val (v := .bool false) (by kernel_rfl) ?_ ?_
        · go_simp
        simp only [Act.put, List.setIfInBounds_toArray, List.set_cons_zero, List.set_cons_succ]
        refine lst_val (v := .pointer (some ⟨bt, 2, none⟩)) (by kernel_rfl) ?_ ?_
        · go_simp
        simp only [Act.put, List.setIfInBounds_toArray, List.set_cons_zero, List.set_cons_succ]
        refine lst_val (v := .int .i64 t3) (by kernel_rfl) ?_ ?_
        · have c0 := HY.out.2.2.cell 2
          go_simp
        simp only [Act.put, List.setIfInBounds_toArray, List.set_cons_zero, List.set_cons_succ]
        refine lst_val (v := .bool false) (by kernel_rfl) ?_ ?_
        · have z9 := Z7.out
          go_simp
        simp only [Act.put, List.setIfInBounds_toArray, List.set_cons_zero, List.set_cons_succ]
        refine lst_val (v := .bool false) (by kernel_rfl) ?_ ?_
        · go_simp
        simp only [Act.put, List.setIfInBounds_toArray, List.set_cons_zero, List.set_cons_succ]
        refine lst_val (v := .bool false) (by kernel_rfl) ?_ ?_
        · go_simp
        simp only [Act.put, List.setIfInBounds_toArray, List.set_cons_zero, List.set_cons_succ]
        refine lst_val (v := .int .i64 (k : Int)) (by kernel_rfl) ?_ ?_
        · go_simp
        simp only [Act.put, List.setIfInBounds_toArray, List.set_cons_zero, List.set_cons_succ]
        refine lst_val (v := .bool true) (by kernel_rfl) ?_ ?_
        · go_simp
        simp only [Act.put, List.setIfInBounds_toArray, List.set_cons_zero, List.set_cons_succ]
        refine lst_val (v := .bool true) (by kernel_rfl) ?_ ?_
        · go_simp
        simp only [Act.put, List.setIfInBounds_toArray, List.set_cons_zero, List.set_cons_succ]
        refine lst_val (v := .pointer (some ⟨bt, 0, none⟩)) (by kernel_rfl) ?_ ?_
        · go_simp
        simp only [Act.put, List.setIfInBounds_toArray, List.set_cons_zero, List.set_cons_succ]
        refine lst_val (v := .int .i64 t1) (by kernel_rfl) ?_ ?_
        · have c0 := HY.out.2.2.cell 0
          go_simp
        simp only [Act.put, List.setIfInBounds_toArray, List.set_cons_zero, List.set_cons_succ]
        refine lst_val (v := .bool false) (by kernel_rfl) ?_ ?_
        · go_simp
        simp only [Act.put, List.setIfInBounds_toArray, List.set_cons_zero, List.set_cons_succ]
        refine lst_val (v := .bool false) (by kernel_rfl) ?_ ?_
        · go_simp
        simp only [Act.put, List.setIfInBounds_toArray, List.set_cons_zero, List.set_cons_succ]
        refine lst_val (v := .pointer (some ⟨bt, 1, none⟩)) (by kernel_rfl) ?_ ?_
        · go_simp
        simp only [Act.put, List.setIfInBounds_toArray, List.set_cons_zero, List.set_cons_succ]
        refine lst_val (v := .int .i64 t2) (by kernel_rfl) ?_ ?_
        · have c0 := HY.out.2.2.cell 1
          go_simp
        simp only [Act.put, List.setIfInBounds_toArray, List.set_cons_zero, List.set_cons_succ]
        refine lst_val (v := .bool false) (by kernel_rfl) ?_ ?_
        · go_simp
        simp only [Act.put, List.setIfInBounds_toArray, List.set_cons_zero, List.set_cons_succ]
        refine lst_val (v := .bool false) (by kernel_rfl) ?_ ?_
        · go_simp
        simp only [Act.put, List.setIfInBounds_toArray, List.set_cons_zero, List.set_cons_succ]
        refine lst_val (v := .bool false) (by kernel_rfl) ?_ ?_
        · go_simp
        simp only [Act.put, List.setIfInBounds_toArray, List.set_cons_zero, List.set_cons_succ]
        refine lst_val (v := .bool false) (by kernel_rfl) ?_ ?_
        · go_simp
        simp only [Act.put, List.setIfInBounds_toArray, List.set_cons_zero, List.set_cons_succ]
        refine wpList_nil ?_
        clear q8 q9 q10 HK0
        have Q9 : Hid ((∀ j, j < k + 1 → ∀ x, c.cs[j]? = some x → 0 < x.length ∧ x.length ≤ 65535) ∧ ∀ j, j < k + 1 → ∀ t, c.ts[j]? = some t → TyNm t ∧ (j = 0 → t.1 = 0 ∧ t.2.1 = 128)) := by
          have e0 := Z0.out; have e1 := Z1.out; have e2 := Z2.out; have e3 := Z3.out; have e4 := Z4.out; have e5 := Z5.out; have e6 := Z6.out; have e7 := Z7.out; have hm9 := HM.out; have hz := HZ0.out
          refine ⟨up_step HQ.out.1 HXL.out.1 (by omega), fun j hj t ht => ?_⟩
          by_cases ej : j = k
          · subst ej
            rw [HXL.out.2] at ht
            cases ht
            exact ⟨(by show (0 ≤ t1 ∧ t1 ≤ 127) ∧ (0 ≤ t2 ∧ t2 ≤ 128) ∧ (0 ≤ t3 ∧ t3 ≤ 1023); omega), hz⟩
          · exact HQ.out.2 j (by omega) t ht
        clear Z0 Z1 Z2 Z3 Z4 Z5 Z6 Z7 PX HXL HQ HM HZ0
        go_wp2
        go_roundw
        case rel => exact ⟨k + 1, by first | rfl | go_num, by have := NT.out; omega, Q9.out, HY.out.1, HY.out.2.1⟩
        case measure => (simp [intOf]; have := NT.out; omega)
      · have q8 : ((k : Int) == 0) = false := by simp; omega
        have HZ0 : Hid (k = 0 → t1 = 0 ∧ t2 = 128) := fun e => absurd e ek
        clear ek
        refine wp_region_lit ?_
        refine lst_val (v := .pointer (some ⟨bx, 1, none⟩)) (by kernel_rfl) ?_ ?_
        · go_simp
        simp only [Act.put, List.setIfInBounds_toArray, List.set_cons_zero, List.set_cons_succ]
        refine lst_val (v := .slice (some ⟨g2, a2, none⟩) c.cs.length cc) (by kernel_rfl) ?_ ?_
        · have c0 := HY.out.1.cell 1
          go_simp
        simp only [Act.put, List.setIfInBounds_toArray, List.set_cons_zero, List.set_cons_succ]
        refine lst_val (v := .int .i64 (k : Int)) (by kernel_rfl) ?_ ?_
        · go_simp
        simp only [Act.put, List.setIfInBounds_toArray, List.set_cons_zero, List.set_cons_succ]
        refine lst_val (v := .pointer (some ⟨g2, a2 + k, none⟩)) (by kernel_rfl) ?_ ?_
        · go_simp
        simp only [Act.put, List.setIfInBounds_toArray, List.set_cons_zero, List.set_cons_succ]
        refine lst_val (v := .slice xa m xc) (by kernel_rfl) ?_ ?_
        · have c0 := PX.out
          go_simp
        simp only [Act.put, List.setIfInBounds_toArray, List.set_cons_zero, List.set_cons_succ]
        refine lst_val (v := .int .i64 (m : Int)) (by kernel_rfl) ?_ ?_
        · go_simp
        simp only [Act.put, List.setIfInBounds_toArray, List.set_cons_zero, List.set_cons_succ]
        refine lst_val (v := .bool false) (by kernel_rfl) ?_ ?_
        · have z9 := Z0.out
          go_simp
        simp only [Act.put, List.setIfInBounds_toArray, List.set_cons_zero, List.set_cons_succ]
        refine lst_val (v := .bool false) (by kernel_rfl) ?_ ?_
        · go_simp
        simp only [Act.put, List.setIfInBounds_toArray, List.set_cons_zero, List.set_cons_succ]
        refine lst_val (v := .pointer (some ⟨bx, 1, none⟩)) (by kernel_rfl) ?_ ?_
        · go_simp
        simp only [Act.put, List.setIfInBounds_toArray, List.set_cons_zero, List.set_cons_succ]
        refine lst_val (v := .slice (some ⟨g2, a2, none⟩) c.cs.length cc) (by kernel_rfl) ?_ ?_
        · have c0 := HY.out.1.cell 1
          go_simp
        simp only [Act.put, List.setIfInBounds_toArray, List.set_cons_zero, List.set_cons_succ]
        refine lst_val (v := .int .i64 (k : Int)) (by kernel_rfl) ?_ ?_
        · go_simp
        simp only [Act.put, List.setIfInBounds_toArray, List.set_cons_zero, List.set_cons_succ]
        refine lst_val (v := .pointer (some ⟨g2, a2 + k, none⟩)) (by kernel_rfl) ?_ ?_
        · go_simp
        simp only [Act.put, List.setIfInBounds_toArray, List.set_cons_zero, List.set_cons_succ]
        refine lst_val (v := .slice xa m xc) (by kernel_rfl) ?_ ?_
        · have c0 := PX.out
          go_simp
        simp only [Act.put, List.setIfInBounds_toArray, List.set_cons_zero, List.set_cons_succ]
        refine lst_val (v := .int .i64 (m : Int)) (by kernel_rfl) ?_ ?_
        · go_simp
        simp only [Act.put, List.setIfInBounds_toArray, List.set_cons_zero, List.set_cons_succ]
        refine lst_val (v := .bool false) (by kernel_rfl) ?_ ?_
        · have z9 := Z1.out
          go_simp
        simp only [Act.put, List.setIfInBounds_toArray, List.set_cons_zero, List.set_cons_succ]
        refine lst_val (v := .bool false) (by kernel_rfl) ?_ ?_
        · go_simp
        simp only [Act.put, List.setIfInBounds_toArray, List.set_cons_zero, List.set_cons_succ]
        refine lst_val (v := .bool false) (by kernel_rfl) ?_ ?_
        · go_simp
        simp only [Act.put, List.setIfInBounds_toArray, List.set_cons_zero, List.set_cons_succ]
        refine lst_val (v := .pointer (some ⟨bt, 0, none⟩)) (by kernel_rfl) ?_ ?_
        · go_simp
        simp only [Act.put, List.setIfInBounds_toArray, List.set_cons_zero, List.set_cons_succ]
        refine lst_val (v := .int .i64 t1) (by kernel_rfl) ?_ ?_
        · have c0 := HY.out.2.2.cell 0
          go_simp
        simp only [Act.put, List.setIfInBounds_toArray, List.set_cons_zero, List.set_cons_succ]
        refine lst_val (v := .bool false) (by kernel_rfl) ?_ ?_
        · have z9 := Z2.out
          go_simp
        simp only [Act.put, List.setIfInBounds_toArray, List.set_cons_zero, List.set_cons_succ]
        refine lst_val (v := .bool false) (by kernel_rfl) ?_ ?_
        · go_simp
        simp only [Act.put, List.setIfInBounds_toArray, List.set_cons_zero, List.set_cons_succ]
        refine lst_val (v := .bool false) (by kernel_rfl) ?_ ?_
        · go_simp
        simp only [Act.put, List.setIfInBounds_toArray, List.set_cons_zero, List.set_cons_succ]
        refine lst_val (v := .pointer (some ⟨bt, 0, none⟩)) (by kernel_rfl) ?_ ?_
        · go_simp
        simp only [Act.put, List.setIfInBounds_toArray, List.set_cons_zero, List.set_cons_succ]
        refine lst_val (v := .int .i64 t1) (by kernel_rfl) ?_ ?_
        · have c0 := HY.out.2.2.cell 0
          go_simp
        simp only [Act.put, List.setIfInBounds_toArray, List.set_cons_zero, List.set_cons_succ]
        refine lst_val (v := .bool false) (by kernel_rfl) ?_ ?_
        · have z9 := Z3.out
          go_simp
        simp only [Act.put, List.setIfInBounds_toArray, List.set_cons_zero, List.set_cons_succ]
        refine lst_val (v := .bool false) (by kernel_rfl) ?_ ?_
        · go_simp
        simp only [Act.put, List.setIfInBounds_toArray, List.set_cons_zero, List.set_cons_succ]
        refine lst_val (v := .bool false) (by kernel_rfl) ?_ ?_
        · go_simp
        simp only [Act.put, List.setIfInBounds_toArray, List.set_cons_zero, List.set_cons_succ]
        refine lst_val (v := .pointer (some ⟨bt, 1, none⟩)) (by kernel_rfl) ?_ ?_
        · go_simp
        simp only [Act.put, List.setIfInBounds_toArray, List.set_cons_zero, List.set_cons_succ]
        refine lst_val (v := .int .i64 t2) (by kernel_rfl) ?_ ?_
        · have c0 := HY.out.2.2.cell 1
          go_simp
        simp only [Act.put, List.setIfInBounds_toArray, List.set_cons_zero, List.set_cons_succ]
        refine lst_val (v := .bool false) (by kernel_rfl) ?_ ?_
        · have z9 := Z4.out
          go_simp
        simp only [Act.put, List.setIfInBounds_toArray, List.set_cons_zero, List.set_cons_succ]
        refine lst_val (v := .bool false) (by kernel_rfl) ?_ ?_
        · go_simp
        simp only [Act.put, List.setIfInBounds_toArray, List.set_cons_zero, List.set_cons_succ]
        refine lst_val (v := .bool false) (by kernel_rfl) ?_ ?_
        · go_simp
        simp only [Act.put, List.setIfInBounds_toArray, List.set_cons_zero, List.set_cons_succ]
        refine lst_val (v := .pointer (some ⟨bt, 1, none⟩)) (by kernel_rfl) ?_ ?_
        · go_simp
        simp only [Act.put, List.setIfInBounds_toArray, List.set_cons_zero, List.set_cons_succ]
        refine lst_val (v := .int .i64 t2) (by kernel_rfl) ?_ ?_
        · have c0 := HY.out.2.2.cell 1
          go_simp
        simp only [Act.put, List.setIfInBounds_toArray, List.set_cons_zero, List.set_cons_succ]
        refine lst_val (v := .bool false) (by kernel_rfl) ?_ ?_
        · have z9 := Z5.out
          go_simp
        simp only [Act.put, List.setIfInBounds_toArray, List.set_cons_zero, List.set_cons_succ]
        refine lst_val (v := .bool false) (by kernel_rfl) ?_ ?_
        · go_simp
        simp only [Act.put, List.setIfInBounds_toArray, List.set_cons_zero, List.set_cons_succ]
        refine lst_val (v := .bool false) (by kernel_rfl) ?_ ?_
        · go_simp
        simp only [Act.put, List.setIfInBounds_toArray, List.set_cons_zero, List.set_cons_succ]
        refine lst_val (v := .pointer (some ⟨bt, 2, none⟩)) (by kernel_rfl) ?_ ?_
        · go_simp
        simp only [Act.put, List.setIfInBounds_toArray, List.set_cons_zero, List.set_cons_succ]
        refine lst_val (v := .int .i64 t3) (by kernel_rfl) ?_ ?_
        · have c0 := HY.out.2.2.cell 2
          go_simp
        simp only [Act.put, List.setIfInBounds_toArray, List.set_cons_zero, List.set_cons_succ]
        refine lst_val (v := .bool false) (by kernel_rfl) ?_ ?_
        · have z9 := Z6.out
          go_simp
        simp only [Act.put, List.setIfInBounds_toArray, List.set_cons_zero, List.set_cons_succ]
        refine lst_val (v := .bool false) (by kernel_rfl) ?_ ?_
        · go_simp
        simp only [Act.put, List.setIfInBounds_toArray, List.set_cons_zero, List.set_cons_succ]
        refine lst_val (v := .bool false) (by kernel_rfl) ?_ ?_
        · go_simp
        simp only [Act.put, List.setIfInBounds_toArray, List.set_cons_zero, List.set_cons_succ]
        refine lst_val (v := .pointer (some ⟨bt, 2, none⟩)) (by kernel_rfl) ?_ ?_
        · go_simp
        simp only [Act.put, List.setIfInBounds_toArray, List.set_cons_zero, List.set_cons_succ]
        refine lst_val (v := .int .i64 t3) (by kernel_rfl) ?_ ?_
        · have c0 := HY.out.2.2.cell 2
          go_simp
        simp only [Act.put, List.setIfInBounds_toArray, List.set_cons_zero, List.set_cons_succ]
        refine lst_val (v := .bool false) (by kernel_rfl) ?_ ?_
        · have z9 := Z7.out
          go_simp
        simp only [Act.put, List.setIfInBounds_toArray, List.set_cons_zero, List.set_cons_succ]
        have Q9 : Hid ((∀ j, j < k + 1 → ∀ x, c.cs[j]? = some x → 0 < x.length ∧ x.length ≤ 65535) ∧ ∀ j, j < k + 1 → ∀ t, c.ts[j]? = some t → TyNm t ∧ (j = 0 → t.1 = 0 ∧ t.2.1 = 128)) := by
          have e0 := Z0.out; have e1 := Z1.out; have e2 := Z2.out; have e3 := Z3.out; have e4 := Z4.out; have e5 := Z5.out; have e6 := Z6.out; have e7 := Z7.out; have hm9 := HM.out; have hz := HZ0.out
          refine ⟨up_step HQ.out.1 HXL.out.1 (by omega), fun j hj t ht => ?_⟩
          by_cases ej : j = k
          · subst ej
            rw [HXL.out.2] at ht
            cases ht
            exact ⟨(by show (0 ≤ t1 ∧ t1 ≤ 127) ∧ (0 ≤ t2 ∧ t2 ≤ 128) ∧ (0 ≤ t3 ∧ t3 ≤ 1023); omega), hz⟩
          · exact HQ.out.2 j (by omega) t ht
        clear Z0 Z1 Z2 Z3 Z4 Z5 Z6 Z7 PX HXL HQ HM HZ0
        go_wp2
        go_roundw
        case rel => exact ⟨k + 1, by first | rfl | go_num, by have := NT.out; omega, Q9.out, HY.out.1, HY.out.2.1⟩
        case measure => (simp [intOf]; have := NT.out; omega)
end Go.Proofs.Ytndhabhlajldeaa
