/- CodeLent: the walk. -/
import Derived.Test.YtbhldmfnhlifpaaDoorCek
namespace Go.Proofs.YtbhldmfnhlifpaaDoor
open Go.RowKit
theorem Rw.store {B K : Nat} {V : Nat → Value} {N : Nat → Nat} {l : Nat → List Value} {W : World} (h : Rw B K V N l W) {n : Nat} (hn : n < K) {g c : Nat} (hv : V n = .slice (some ⟨g, 0, Option.none⟩) (N n) c) (k : Nat) (u : Value) : Rw B K V N (upd l n ((l n).set k u)) (W.setCell ⟨g, k, Option.none⟩ u) := by
  have ho := h.1 n hn
  rw [hv] at ho
  obtain ⟨h1, h2⟩ := ho.stored k u
  have hb : (V n).ownBlock = some g := by rw [hv]; rfl
  have := h.put hn (v' := V n) (n' := N n) (l' := (l n).set k u) (by rw [hb]; exact h2) (by rw [hv]; exact h1) (Or.inl rfl)
  have e1 : upd V n (V n) = V := by funext m; unfold upd; split; subst_vars; rfl; rfl
  have e2 : upd N n (N n) = N := by funext m; unfold upd; split; subst_vars; rfl; rfl
  rw [e1, e2] at this
  exact this
/-- the boxes of the law -/
def BX (q2 q3 ql : Nat) (li lo ll : List Value) (W : World) : Prop := CBox W q2 25 li ∧ CBox W q3 25 lo ∧ CBox W ql 68 ll
theorem BX.past {q2 q3 ql : Nat} {li lo ll : List Value} {W W' : World} (h : BX q2 q3 ql li lo ll W) (k : Below W.heap.size W W') : BX q2 q3 ql li lo ll W' := ⟨h.1.past k, h.2.1.past k, h.2.2.past k⟩
theorem BX.kept {q2 q3 ql : Nat} {li lo ll : List Value} {W W' : World} (h : BX q2 q3 ql li lo ll W) {B k : Nat} {v : Value} {xs : List Value} (hr : W.ownsRow B 3 1 v k xs) (hg : W.grownBy W' v.ownBlock) : BX q2 q3 ql li lo ll W' :=
  ⟨h.1.kept hg (h.1.row hr (Or.inr (by decide))), h.2.1.kept hg (h.2.1.row hr (Or.inr (by decide))), h.2.2.kept hg (h.2.2.row hr (Or.inr (by decide)))⟩
/-- a list whose first k numbers are written over -/
def lw (n : Nat) (o : List Value) (k : Nat) : List Value := List.replicate k (cv n) ++ o.drop k
theorem lw_zero (n : Nat) (o : List Value) : lw n o 0 = o := by simp [lw]
theorem lw_all (n : Nat) (o : List Value) (k : Nat) (h : o.length = k) : lw n o k = List.replicate k (cv n) := by simp [lw, h]
theorem lw_set (n : Nat) (o : List Value) (k : Nat) (h : k < o.length) : (lw n o k).set k (cv n) = lw n o (k + 1) := by
  unfold lw
  rw [List.set_append_right _ _ (by simp), List.length_replicate, Nat.sub_self, List.replicate_succ', List.append_assoc]
  congr 1
  rw [List.drop_eq_getElem_cons h]; rfl
theorem lw_len (n : Nat) (o : List Value) (k : Nat) (h : k ≤ o.length) : (lw n o k).length = o.length := by simp [lw]; omega
theorem lead_own (x0 C x3 : Int) (m : Nat) (b : Nat → Nat) (hm : m ≤ 140737488355328) (hb : ∀ j, b j < 256) : ∃ (N : Nat) (f : Nat → Int) (T : List Value), N ≤ 1000 ∧ T.length = N ∧ (∀ j, j < N → T[j]? = some (.int .i64 (f j))) ∧
    (∀ (W : World) (v : Value), Nms W → BytesOf W v m b → (∀ ad cap, v = .slice ad m cap → m ≤ cap) → Calls Tryd.prog 33 #[.agg #[.int .i64 x0, .int .i64 C, v, .int .i64 x3]] W fun e w' => ∃ ad c, e = .returned (.slice ad N c) ∧ w'.ownsRow W.heap.size 3 1 (.slice ad N c) N T ∧ Below W.heap.size W w') ∧
    (∀ (W : World) (v : Value), BytesOf W v m b → Calls Tryd.prog 34 #[.agg #[.int .i64 x0, .int .i64 C, v, .int .i64 x3]] W fun e w' => ∃ ad c, e = .returned (.slice ad N c) ∧ w'.ownsRow W.heap.size 3 1 (.slice ad N c) N T ∧ Below W.heap.size W w') := by
  obtain ⟨f, hf⟩ := tg_parts x3 (fun j => b (lgO C + j)) (lgN (standsV x0 C x3 m (b 0)) C (b 0))
  refine ⟨lgN (standsV x0 C x3 m (b 0)) C (b 0), f, tgL x3 (fun j => b (lgO C + j)) (lgN (standsV x0 C x3 m (b 0)) C (b 0)), ?_, by simp [tgL], hf, fun W v hN hv hc => (leads_any W hN x0 C x3 v m b hm hv hc).mono fun e w' ⟨pl, he, ho, hB⟩ => ?_, fun W v hv => (rleads_any W x0 C x3 v m b hm hv).mono fun e w' ⟨pl, he, ho, hB⟩ => ?_⟩
  · have := hb 0; unfold lgN; split; split; omega; split <;> omega; omega
  · obtain ⟨ad, c, rfl, _⟩ := own_slice ho; exact ⟨ad, c, he, ho, hB⟩
  · obtain ⟨ad, c, rfl, _⟩ := own_slice ho; exact ⟨ad, c, he, ho, hB⟩
def gsOf (V : Nat → Value) (n : Nat) : Nat := match V n with
  | .slice (some a) _ _ => a.block
  | _ => 0
theorem Rw.cellOf {B K : Nat} {V : Nat → Value} {N : Nat → Nat} {l : Nat → List Value} {W : World} (h : Rw B K V N l W) {n : Nat} (hn : n < K) : ∃ ad c, V n = .slice ad (N n) c ∧ (N n ≠ 0 → ∃ g, ad = some ⟨g, 0, Option.none⟩ ∧ ∀ j, j < N n → W.cell? ⟨g, j, Option.none⟩ = (l n)[j]? ∧ W.frozen? ⟨g, j, Option.none⟩ = false) := by
  have ho := h.1 n hn
  obtain ⟨ad, c, e, hg⟩ := own_slice ho
  refine ⟨ad, c, e, fun hne => ?_⟩
  obtain ⟨g, rfl⟩ := hg hne
  rw [e] at ho
  exact ⟨g, rfl, fun j hj => ⟨ho.cellAt j (by omega), ho.frozenAt j⟩⟩
theorem three {V : Nat → Value} {W : World} {ql : Nat} {t : TypeId} (h : CBox W ql t [V 0, V 1, V 2]) {n : Nat} (hn : n < 3) : W.cell? ⟨ql, n, Option.none⟩ = some (V n) := by
  rw [h.cell n]
  have h3 : n = 0 ∨ n = 1 ∨ n = 2 := by omega
  rcases h3 with rfl | rfl | rfl <;> rfl
/-- the lists while they are written over: those ahead of n whole, the n-th one's first k -/
def L1 (N : Nat → Nat) (l : Nat → List Value) (n k n' : Nat) : List Value := if n' < n then List.replicate (N n') (cv n') else if n' = n then lw n (l n) k else l n'
theorem L1_zero (N : Nat → Nat) (l : Nat → List Value) : L1 N l 0 0 = l := by
  funext m; unfold L1
  rw [if_neg (by omega)]
  by_cases e : m = 0
  · subst e; rw [if_pos rfl, lw_zero]
  · rw [if_neg e]
theorem L1_step (N : Nat → Nat) (l : Nat → List Value) (n k : Nat) (h : k < (l n).length) : upd (L1 N l n k) n ((L1 N l n k n).set k (cv n)) = L1 N l n (k + 1) := by
  funext m; unfold upd
  by_cases e : m = n
  · subst e; rw [if_pos rfl]; unfold L1; rw [if_neg (by omega), if_pos rfl, if_neg (by omega), if_pos rfl, lw_set _ _ _ h]
  · rw [if_neg e]; unfold L1; rw [if_neg e, if_neg e]
theorem L1_next (N : Nat → Nat) (l : Nat → List Value) (n : Nat) (h : (l n).length = N n) : L1 N l n (N n) = L1 N l (n + 1) 0 := by
  funext m; unfold L1
  by_cases h1 : m < n
  · rw [if_pos h1, if_pos (by omega)]
  · rw [if_neg h1]
    by_cases h2 : m = n
    · subst h2; rw [if_pos rfl, if_pos (by omega), lw_all _ _ _ h]
    · rw [if_neg h2, if_neg (by omega)]
      by_cases h3 : m = n + 1
      · subst h3; rw [if_pos rfl, lw_zero]
      · rw [if_neg h3]
theorem L1_len (N : Nat → Nat) (l : Nat → List Value) (n k : Nat) (h : k ≤ (l n).length) : (L1 N l n k n).length = (l n).length := by
  unfold L1; rw [if_neg (by omega), if_pos rfl, lw_len _ _ _ h]
/-- while marks are put behind the lists: those ahead of n have 300 each, the n-th one k -/
def St (V : Nat → Value) (N : Nat → Nat) (l : Nat → List Value) (n k : Nat) (V' : Nat → Value) (N' : Nat → Nat) (l' : Nat → List Value) : Prop :=
  (∀ m, m < 3 → m < n → N' m = N m + 300 ∧ l' m = List.replicate (N m + 300) (cv m)) ∧ (n < 3 → N' n = N n + k ∧ l' n = List.replicate (N n + k) (cv n) ∧ (k = 0 → V' n = V n)) ∧ (∀ m, m < 3 → n < m → V' m = V m ∧ N' m = N m ∧ l' m = List.replicate (N m) (cv m)) ∧ V' 3 = V 3 ∧ N' 3 = N 3 ∧ l' 3 = l 3
theorem St.step {V : Nat → Value} {N : Nat → Nat} {l : Nat → List Value} {n k : Nat} {V' : Nat → Value} {N' : Nat → Nat} {l' : Nat → List Value} (h : St V N l n k V' N' l') (hn : n < 3) (v' : Value) : St V N l n (k + 1) (upd V' n v') (upd N' n (N n + (k + 1))) (upd l' n (List.replicate (N n + (k + 1)) (cv n))) :=
  ⟨fun m h1 h2 => by rw [upd_ne _ _ _ _ (by omega), upd_ne _ _ _ _ (by omega)]; exact h.1 m h1 h2, fun _ => ⟨upd_same _ _ _, upd_same _ _ _, fun e => by omega⟩, fun m h1 h2 => by rw [upd_ne _ _ _ _ (by omega), upd_ne _ _ _ _ (by omega), upd_ne _ _ _ _ (by omega)]; exact h.2.2.1 m h1 h2, by rw [upd_ne _ _ _ _ (by omega)]; exact h.2.2.2.1, by rw [upd_ne _ _ _ _ (by omega)]; exact h.2.2.2.2.1, by rw [upd_ne _ _ _ _ (by omega)]; exact h.2.2.2.2.2⟩
theorem St.next {V : Nat → Value} {N : Nat → Nat} {l : Nat → List Value} {n : Nat} {V' : Nat → Value} {N' : Nat → Nat} {l' : Nat → List Value} (h : St V N l n 300 V' N' l') (hn : n < 3) : St V N l (n + 1) 0 V' N' l' :=
  ⟨fun m h1 h2 => by
    by_cases e : m = n
    · subst e; exact ⟨(h.2.1 hn).1, (h.2.1 hn).2.1⟩
    · exact h.1 m h1 (by omega), fun h1 => ⟨(h.2.2.1 (n + 1) h1 (by omega)).2.1, (h.2.2.1 (n + 1) h1 (by omega)).2.2, fun _ => (h.2.2.1 (n + 1) h1 (by omega)).1⟩, fun m h1 h2 => h.2.2.1 m h1 (by omega), h.2.2.2⟩
/-- the cells of 'long' -/
def lgL (V : Nat → Value) (n : Nat) : List Value := [if 0 < n then V 0 else .slice Option.none 0 0, if 1 < n then V 1 else .slice Option.none 0 0, if 2 < n then V 2 else .slice Option.none 0 0]
theorem lgL_upd (V : Nat → Value) (n : Nat) (v : Value) : lgL (upd V n v) n = lgL V n := by
  unfold lgL upd
  by_cases h0 : 0 < n
  · by_cases h1 : 1 < n
    · by_cases h2 : 2 < n
      · rw [if_pos h0, if_pos h1, if_pos h2, if_pos h0, if_pos h1, if_pos h2, if_neg (by omega), if_neg (by omega), if_neg (by omega)]
      · rw [if_pos h0, if_pos h1, if_neg h2, if_pos h0, if_pos h1, if_neg h2, if_neg (by omega), if_neg (by omega)]
    · rw [if_pos h0, if_neg h1, if_neg (by omega), if_pos h0, if_neg h1, if_neg (by omega), if_neg (by omega)]
  · rw [if_neg h0, if_neg (by omega), if_neg (by omega), if_neg h0, if_neg (by omega), if_neg (by omega)]
theorem lgL_set (V : Nat → Value) (n : Nat) (hn : n < 3) : (lgL V n).set n (V n) = lgL V (n + 1) := by
  have h3 : n = 0 ∨ n = 1 ∨ n = 2 := by omega
  rcases h3 with rfl | rfl | rfl <;> rfl
theorem lgL_slice {B : Nat} {V : Nat → Value} {N : Nat → Nat} {l : Nat → List Value} {W : World} (h : Rw B 4 V N l W) (n j : Nat) (u : Value) (hu : (lgL V n)[j]? = some u) : ∃ a k c, u = .slice a k c := by
  have key : ∀ m, m < 3 → ∃ a k c, (if m < n then V m else .slice Option.none 0 0) = Value.slice a k c := fun m hm => by
    split
    · obtain ⟨ad, c, e, _⟩ := h.cellOf (n := m) (by omega); exact ⟨ad, _, c, e⟩
    · exact ⟨_, _, _, rfl⟩
  unfold lgL at hu
  rcases j with _ | _ | _ | j
  · simp at hu; obtain ⟨a, k, c, e⟩ := key 0 (by omega); exact ⟨a, k, c, hu ▸ e⟩
  · simp at hu; obtain ⟨a, k, c, e⟩ := key 1 (by omega); exact ⟨a, k, c, hu ▸ e⟩
  · simp at hu; obtain ⟨a, k, c, e⟩ := key 2 (by omega); exact ⟨a, k, c, hu ▸ e⟩
  · simp at hu
/-- a row is laid into 'long' -/
theorem LS.laid {w : World} {gs N0 : Nat → Nat} {V : Nat → Value} {N : Nat → Nat} {l : Nat → List Value} {W : World} {qg n j : Nat} {t : TypeId} (h : LS w gs N0 V N l W) (hc : CBox W qg t (lgL V n)) (ht : t ≠ 3) (hq : w.heap.size ≤ qg) (u : Value) : LS w gs N0 V N l (W.setCell ⟨qg, j, Option.none⟩ u) := by
  refine ⟨h.1.setCell hq _, ⟨fun m hm => ?_, h.2.1.2⟩, fun m hm k hk => ?_, h.2.2.2⟩
  · exact ownsRow_setCell_other (h.2.1.1 m hm) (fun e => hc.row (h.2.1.1 m hm) (Or.inr ht) e.symm) _
  · rw [World.cell?_setCell_other _ _ _ _ (by
      intro e; injection e with e1 _ _
      have hp := h.2.2.1 m hm k hk
      rw [← e1, hc.cell k] at hp
      obtain ⟨a, b, c, e2⟩ := lgL_slice h.2.1 n k _ hp
      cases e2)]
    exact h.2.2.1 m hm k hk
theorem Grew.grown {w w' : World} {v v' : Value} {k : Nat} (h : Grew w w' v v' k) : w.grownBy w' v.ownBlock := by
  rcases h with ⟨h1, _⟩ | ⟨h1, _⟩
  · exact h1
  · exact grown_any h1 _
theorem gs_at {B K : Nat} {V : Nat → Value} {N : Nat → Nat} {l : Nat → List Value} {W : World} (h : Rw B K V N l W) {n : Nat} (hn : n < K) (hne : N n ≠ 0) : ∃ c, V n = .slice (some ⟨gsOf V n, 0, Option.none⟩) (N n) c ∧ (V n).ownBlock = some (gsOf V n) ∧ ∀ j, j < N n → W.cell? ⟨gsOf V n, j, Option.none⟩ = (l n)[j]? := by
  obtain ⟨ad, c, e, hg⟩ := h.cellOf hn
  obtain ⟨g, rfl, hc⟩ := hg hne
  have eg : gsOf V n = g := by unfold gsOf; rw [e]
  rw [eg]
  exact ⟨c, e, by rw [e]; rfl, fun j hj => (hc j hj).1⟩
theorem BX.other {q2 q3 ql : Nat} {li lo ll : List Value} {W : World} (h : BX q2 q3 ql li lo ll W) (a : Addr) (u : Value) (h2 : q2 ≠ a.block) (h3 : q3 ≠ a.block) (hl : ql ≠ a.block) : BX q2 q3 ql li lo ll (W.setCell a u) := ⟨h.1.other _ _ h2, h.2.1.other _ _ h3, h.2.2.other _ _ hl⟩
theorem L1_end (N : Nat → Nat) (l : Nat → List Value) : (∀ m, m < 3 → L1 N l 3 0 m = List.replicate (N m) (cv m)) ∧ L1 N l 3 0 3 = l 3 := by
  refine ⟨fun m hm => ?_, ?_⟩
  · unfold L1; rw [if_pos hm]
  · unfold L1; rw [if_neg (by omega), if_pos rfl, lw_zero]
/-- what stands when all lists are written over -/
theorem LS.start {w : World} {V : Nat → Value} {N : Nat → Nat} {l : Nat → List Value} {W : World} (hB : Below w.heap.size w W) (h : Rw w.heap.size 4 V N (L1 N l 3 0) W) : LS w (gsOf V) N V N (L1 N l 3 0) W ∧ St V N l 0 0 V N (L1 N l 3 0) := by
  obtain ⟨e1, e2⟩ := L1_end N l
  refine ⟨⟨hB, h, fun n hn j hj => ?_, fun n hn hne m hm hmn => ?_⟩, fun m h1 h2 => absurd h2 (by omega), fun h1 => ⟨rfl, e1 0 h1, fun _ => rfl⟩, fun m h1 h2 => ⟨rfl, rfl, e1 m h1⟩, rfl, rfl, e2⟩
  · obtain ⟨c, _, _, hc⟩ := gs_at h (n := n) (by omega) (by omega)
    rw [hc j hj, e1 n hn]
    simp [hj]
  · obtain ⟨c, _, hb, _⟩ := gs_at h (n := n) (by omega) hne
    exact h.2 n m (by omega) hm (fun e => hmn e.symm) _ hb
set_option maxHeartbeats 8000000 in
set_option maxRecDepth 100000 in
theorem codeLent_walk (w : World) (hN : Nms w) (x0 C0 x3 : Int) (v : Value) (L : Nat) (b : Nat → Nat) (hL : L ≤ 140737488355328) (hv : BytesOf w v L b) (hcp : ∀ ad cap, v = .slice ad L cap → L ≤ cap)
    (y0 C1 y3 : Int) (u : Value) (M : Nat) (d : Nat → Nat) (hM : M ≤ 140737488355328) (hu : BytesOf w u M d) (hcu : ∀ ad cap, u = .slice ad M cap → M ≤ cap) : Calls Tryd.prog 14 #[.agg #[.int .i64 x0, .int .i64 C0, v, .int .i64 x3], .agg #[.int .i64 y0, .int .i64 C1, u, .int .i64 y3]] w fun e w' => e = .returned (.bool true) ∧ Below w.heap.size w w' := by
  have HBB : ∀ j, b j < 256 := by obtain ⟨_, _, _, h, _⟩ := hv; exact h
  have HDD : ∀ j, d j < 256 := by obtain ⟨_, _, _, h, _⟩ := hu; exact h
  obtain ⟨NA, fA, TA, pA0, pA1, pA2, pA3, pA4⟩ := lead_own x0 C0 x3 L b hL HBB
  obtain ⟨NC, fC, TC, pC0, pC1, pC2, pC3, _⟩ := lead_own y0 C1 y3 M d hM HDD
  have HAW : Hid (∀ W, Below w.heap.size w W → Calls Tryd.prog 32 #[] W fun e w' => e = .returned (.bool true) ∧ Below W.heap.size W w') := fun W hB => awake_is W (hN.past hB)
  have CA : Hid (∀ W, Below w.heap.size w W → Calls Tryd.prog 33 #[.agg #[.int .i64 x0, .int .i64 C0, v, .int .i64 x3]] W fun e w' => ∃ ad c, e = .returned (.slice ad NA c) ∧ w'.ownsRow W.heap.size 3 1 (.slice ad NA c) NA TA ∧ Below W.heap.size W w') := fun W hB => pA3 W v (hN.past hB) (hv.below rfl hB) hcp
  have CC : Hid (∀ W, Below w.heap.size w W → Calls Tryd.prog 33 #[.agg #[.int .i64 y0, .int .i64 C1, u, .int .i64 y3]] W fun e w' => ∃ ad c, e = .returned (.slice ad NC c) ∧ w'.ownsRow W.heap.size 3 1 (.slice ad NC c) NC TC ∧ Below W.heap.size W w') := fun W hB => pC3 W u (hN.past hB) (hu.below rfl hB) hcu
  have RA : Hid (∀ W, Below w.heap.size w W → Calls Tryd.prog 34 #[.agg #[.int .i64 x0, .int .i64 C0, v, .int .i64 x3]] W fun e w' => ∃ ad c, e = .returned (.slice ad NA c) ∧ w'.ownsRow W.heap.size 3 1 (.slice ad NA c) NA TA ∧ Below W.heap.size W w') := fun W hB => pA4 W v (hv.below rfl hB)
  have TAL : Hid (TA.length = NA) := pA1
  have TCL : Hid (TC.length = NC) := pC1
  have TAF : Hid (∀ j, j < NA → TA[j]? = some (.int .i64 (fA j))) := pA2
  have hNA : NA ≤ 1000 := pA0
  have hNC : NC ≤ 1000 := pC0
  have NAI : (NA : Int) ≤ 1000 := by omega
  obtain ⟨vad, vcp, rfl, _⟩ := hv
  obtain ⟨uad, ucp, rfl, _⟩ := hu
  obtain ⟨i0, hi, hz0, hz1, hz2⟩ := info_parts infoN8
  clear pA0 pA1 pA2 pA3 pA4 pC0 pC1 pC2 pC3 HBB HDD hcp hcu
  go_enter Tryd.func14, Tryd.ntmps14
  go_upto_region 1 with fail
  have X0 : Hid (CBox ((w.alloc (.cells #[.int .i64 x0, .int .i64 C0, .slice vad L vcp, .int .i64 x3] 25)).alloc (.cells #[.int .i64 y0, .int .i64 C1, .slice uad M ucp, .int .i64 y3] 25)) w.heap.size 25 [.int .i64 x0, .int .i64 C0, .slice vad L vcp, .int .i64 x3] ∧ CBox ((w.alloc (.cells #[.int .i64 x0, .int .i64 C0, .slice vad L vcp, .int .i64 x3] 25)).alloc (.cells #[.int .i64 y0, .int .i64 C1, .slice uad M ucp, .int .i64 y3] 25)) (w.heap.size + 1) 25 [.int .i64 y0, .int .i64 C1, .slice uad M ucp, .int .i64 y3] ∧ Below w.heap.size w ((w.alloc (.cells #[.int .i64 x0, .int .i64 C0, .slice vad L vcp, .int .i64 x3] 25)).alloc (.cells #[.int .i64 y0, .int .i64 C1, .slice uad M ucp, .int .i64 y3] 25))) := by
    refine ⟨(CBox.new w _ [.int .i64 x0, .int .i64 C0, .slice vad L vcp, .int .i64 x3]).alloc _, ?_, ((Below.refl _ _).alloc (Nat.le_refl _) _).alloc (by simp) _⟩
    have := CBox.new (w.alloc (.cells #[.int .i64 x0, .int .i64 C0, .slice vad L vcp, .int .i64 x3] 25)) 25 [.int .i64 y0, .int .i64 C1, .slice uad M ucp, .int .i64 y3]
    simpa using this
  generalize (w.alloc (.cells #[.int .i64 x0, .int .i64 C0, .slice vad L vcp, .int .i64 x3] 25)).alloc (.cells #[.int .i64 y0, .int .i64 C1, .slice uad M ucp, .int .i64 y3] 25) = W0 at X0 ⊢
  obtain ⟨q3, e3⟩ : ∃ q, w.heap.size + 1 = q := ⟨_, rfl⟩
  rw [e3] at X0 ⊢
  clear e3
  have Y0 : Hid (Rw w.heap.size 0 (fun _ => .slice Option.none 0 0) (fun _ => 0) (fun _ => []) W0) := Rw.none _ _ _ _ _
  have c0 := X0.out.1.cell 0
  have c1 := X0.out.1.cell 1
  have c2 := X0.out.1.cell 2
  have c3 := X0.out.1.cell 3
  simp only [List.getElem?_cons_zero, List.getElem?_cons_succ] at c0 c1 c2 c3
  go_upto_region 2 with (go_at_call 33; refine (CA.out _ X0.out.2.2).mono ?_; rintro e W1 ⟨aa, ac, rfl, ho, hB⟩; (have X1 : Hid (CBox W1 w.heap.size 25 [.int .i64 x0, .int .i64 C0, .slice vad L vcp, .int .i64 x3] ∧ CBox W1 q3 25 [.int .i64 y0, .int .i64 C1, .slice uad M ucp, .int .i64 y3] ∧ Below w.heap.size w W1) := ⟨X0.out.1.past hB, X0.out.2.1.past hB, X0.out.2.2.trans (hB.mono X0.out.2.2.size)⟩); (have Y1 : Hid (Rw w.heap.size 1 (upd (fun _ => .slice Option.none 0 0) 0 (.slice aa NA ac)) (upd (fun _ => 0) 0 NA) (upd (fun _ => []) 0 TA) W1) := Y0.out.snoc hB ho X0.out.2.2.size); clear hB ho)
  clear c0 c1 c2 c3 X0 Y0
  have c0 := X1.out.2.1.cell 0
  have c1 := X1.out.2.1.cell 1
  have c2 := X1.out.2.1.cell 2
  have c3 := X1.out.2.1.cell 3
  simp only [List.getElem?_cons_zero, List.getElem?_cons_succ] at c0 c1 c2 c3
  go_upto_region 3 with (go_at_call 33; refine (CC.out _ X1.out.2.2).mono ?_; rintro e W2 ⟨ca, cc, rfl, ho, hB⟩; (have X2 : Hid (CBox W2 w.heap.size 25 [.int .i64 x0, .int .i64 C0, .slice vad L vcp, .int .i64 x3] ∧ CBox W2 q3 25 [.int .i64 y0, .int .i64 C1, .slice uad M ucp, .int .i64 y3] ∧ Below w.heap.size w W2) := ⟨X1.out.1.past hB, X1.out.2.1.past hB, X1.out.2.2.trans (hB.mono X1.out.2.2.size)⟩); (have Y2 : Hid (Rw w.heap.size 2 (upd (upd (fun _ => .slice Option.none 0 0) 0 (.slice aa NA ac)) 1 (.slice ca NC cc)) (upd (upd (fun _ => 0) 0 NA) 1 NC) (upd (upd (fun _ => []) 0 TA) 1 TC) W2) := Y1.out.snoc hB ho X1.out.2.2.size); clear hB ho)
  clear c0 c1 c2 c3 X1 Y1
  have c0 := X2.out.1.cell 0
  have c1 := X2.out.1.cell 1
  have c2 := X2.out.1.cell 2
  have c3 := X2.out.1.cell 3
  simp only [List.getElem?_cons_zero, List.getElem?_cons_succ] at c0 c1 c2 c3
  go_upto_region 4 with (go_at_call 33; refine (CA.out _ X2.out.2.2).mono ?_; rintro e W3 ⟨ba, bc, rfl, ho, hB⟩; (have X3 : Hid (CBox W3 w.heap.size 25 [.int .i64 x0, .int .i64 C0, .slice vad L vcp, .int .i64 x3] ∧ CBox W3 q3 25 [.int .i64 y0, .int .i64 C1, .slice uad M ucp, .int .i64 y3] ∧ Below w.heap.size w W3) := ⟨X2.out.1.past hB, X2.out.2.1.past hB, X2.out.2.2.trans (hB.mono X2.out.2.2.size)⟩); (have Y3 : Hid (Rw w.heap.size 3 (upd (upd (upd (fun _ => .slice Option.none 0 0) 0 (.slice aa NA ac)) 1 (.slice ca NC cc)) 2 (.slice ba NA bc)) (upd (upd (upd (fun _ => 0) 0 NA) 1 NC) 2 NA) (upd (upd (upd (fun _ => []) 0 TA) 1 TC) 2 TA) W3) := Y2.out.snoc hB ho X2.out.2.2.size); clear hB ho)
  clear c0 c1 c2 c3 X2 Y2
  have c0 := X3.out.1.cell 0
  have c1 := X3.out.1.cell 1
  have c2 := X3.out.1.cell 2
  have c3 := X3.out.1.cell 3
  simp only [List.getElem?_cons_zero, List.getElem?_cons_succ] at c0 c1 c2 c3
  go_upto_region 5 with (go_at_call 34; refine (RA.out _ X3.out.2.2).mono ?_; rintro e W4 ⟨ma, mc, rfl, ho, hB⟩; (have X4 : Hid (CBox W4 w.heap.size 25 [.int .i64 x0, .int .i64 C0, .slice vad L vcp, .int .i64 x3] ∧ CBox W4 q3 25 [.int .i64 y0, .int .i64 C1, .slice uad M ucp, .int .i64 y3] ∧ Below w.heap.size w W4) := ⟨X3.out.1.past hB, X3.out.2.1.past hB, X3.out.2.2.trans (hB.mono X3.out.2.2.size)⟩); (have Y4 : Hid (Rw w.heap.size 4 (upd (upd (upd (upd (fun _ => .slice Option.none 0 0) 0 (.slice aa NA ac)) 1 (.slice ca NC cc)) 2 (.slice ba NA bc)) 3 (.slice ma NA mc)) (upd (upd (upd (upd (fun _ => 0) 0 NA) 1 NC) 2 NA) 3 NA) (upd (upd (upd (upd (fun _ => []) 0 TA) 1 TC) 2 TA) 3 TA) W4) := Y3.out.snoc hB ho X3.out.2.2.size); clear hB ho)
  clear c0 c1 c2 c3 X3 Y3
  obtain ⟨V, eV⟩ : ∃ V : Nat → Value, V = (upd (upd (upd (upd (fun _ => .slice Option.none 0 0) 0 (.slice aa NA ac)) 1 (.slice ca NC cc)) 2 (.slice ba NA bc)) 3 (.slice ma NA mc)) := ⟨_, rfl⟩
  obtain ⟨N, eN⟩ : ∃ N : Nat → Nat, N = (upd (upd (upd (upd (fun _ => 0) 0 NA) 1 NC) 2 NA) 3 NA) := ⟨_, rfl⟩
  obtain ⟨l, el⟩ : ∃ l : Nat → List Value, l = (upd (upd (upd (upd (fun _ => []) 0 TA) 1 TC) 2 TA) 3 TA) := ⟨_, rfl⟩
  rw [← eV, ← eN, ← el] at Y4
  have V0 : V 0 = .slice aa NA ac := by rw [eV]; rfl
  have N0 : N 0 = NA := by rw [eN]; rfl
  have l0 : l 0 = TA := by rw [el]; rfl
  have V1 : V 1 = .slice ca NC cc := by rw [eV]; rfl
  have N1 : N 1 = NC := by rw [eN]; rfl
  have l1 : l 1 = TC := by rw [el]; rfl
  have V2 : V 2 = .slice ba NA bc := by rw [eV]; rfl
  have N2 : N 2 = NA := by rw [eN]; rfl
  have l2 : l 2 = TA := by rw [el]; rfl
  have V3 : V 3 = .slice ma NA mc := by rw [eV]; rfl
  have N3 : N 3 = NA := by rw [eN]; rfl
  have l3 : l 3 = TA := by rw [el]; rfl
  have HV : Hid (V 0 = .slice aa NA ac ∧ V 1 = .slice ca NC cc ∧ V 2 = .slice ba NA bc ∧ V 3 = .slice ma NA mc ∧ N 0 = NA ∧ N 1 = NC ∧ N 2 = NA ∧ N 3 = NA ∧ l 0 = TA ∧ l 1 = TC ∧ l 2 = TA ∧ l 3 = TA) := ⟨V0, V1, V2, V3, N0, N1, N2, N3, l0, l1, l2, l3⟩
  clear eV eN el V0 V1 V2 V3 N0 N1 N2 N3 l0 l1 l2 l3
  go_upto_region 7 with fail
  go_wp2
  go_loopw [9] (fun s wr => ∃ k : Nat, k ≤ NA ∧ s = .int .i64 (k : Int) ∧ Below W4.heap.size W4 wr) (fun s _ => NA - (intOf s).toNat)
  case atStart => exact ⟨0, Nat.zero_le _, rfl, Below.refl _ _⟩
  case round =>
    obtain ⟨k, hk, rfl, hB⟩ := hrel
    by_cases hk5 : k < NA
    · have kI : (k : Int) < (NA : Int) := by omega
      obtain ⟨h0, h1, h2, h3, n0, n1, n2, n3, t0, t1, t2, t3⟩ := HV.out
      obtain ⟨ad0, cc0, e0, g0⟩ := Y4.out.cellOf (n := 0) (by omega)
      obtain ⟨ad2, cc2, e2, g2⟩ := Y4.out.cellOf (n := 2) (by omega)
      obtain ⟨ad3, cc3, e3, g3⟩ := Y4.out.cellOf (n := 3) (by omega)
      rw [n0] at g0
      rw [n2] at g2
      rw [n3] at g3
      obtain ⟨ga, ea, ca0⟩ := g0 (by omega)
      obtain ⟨gb, eb, cb0⟩ := g2 (by omega)
      obtain ⟨gm, em, cm0⟩ := g3 (by omega)
      have va : W4.cell? ⟨ga, k, none⟩ = some (.int .i64 (fA k)) := by rw [(ca0 k hk5).1, t0]; exact TAF.out k hk5
      have ua := (hB.cell (p := ⟨ga, k, none⟩) (World.block_lt_of_cell? W4 _ va)).trans va
      have vb : W4.cell? ⟨gb, k, none⟩ = some (.int .i64 (fA k)) := by rw [(cb0 k hk5).1, t2]; exact TAF.out k hk5
      have ub := (hB.cell (p := ⟨gb, k, none⟩) (World.block_lt_of_cell? W4 _ vb)).trans vb
      have vm : W4.cell? ⟨gm, k, none⟩ = some (.int .i64 (fA k)) := by rw [(cm0 k hk5).1, t3]; exact TAF.out k hk5
      have um := (hB.cell (p := ⟨gm, k, none⟩) (World.block_lt_of_cell? W4 _ vm)).trans vm
      obtain rfl : aa = some ⟨ga, 0, none⟩ := by rw [h0] at e0; injection e0 with e1 _ _; rw [e1, ea]
      obtain rfl : ba = some ⟨gb, 0, none⟩ := by rw [h2] at e2; injection e2 with e1 _ _; rw [e1, eb]
      obtain rfl : ma = some ⟨gm, 0, none⟩ := by rw [h3] at e3; injection e3 with e1 _ _; rw [e1, em]
      clear va vb vm
      generalize fA k = fk at ua ub um
      have HB : Hid (Below W4.heap.size W4 wr) := hB
      clear h0 h1 h2 h3 n0 n1 n2 n3 t0 t1 t2 t3 e0 e2 e3 g0 g2 g3 ea eb em ca0 cb0 cm0 hB hk
      go_upto_region 10 with fail
      refine wp_region_held_drew (S := fun V' => Below W4.heap.size W4 V' ∧ V'.cell? ⟨ga, k, none⟩ = some (.int .i64 fk) ∧ V'.cell? ⟨gb, k, none⟩ = some (.int .i64 fk) ∧ V'.cell? ⟨gm, k, none⟩ = some (.int .i64 fk)) (by kernel_rfl) ⟨HB.out.drew, ua, ub, um⟩ (fun hHeld => ?_)
      generalize wr.drew = z0 at hHeld ⊢
      clear ua ub um HB
      refine wpAnyH_take (i := 0) (v := .slice (some ⟨ga, 0, none⟩) NA ac) ov0 (by kernel_rfl) (by kernel_rfl) (by kernel_rfl) (fun _ _ _ h => h) (Or.inl ⟨by rfl, fun V' hS => ?_⟩) hHeld ?_
      · go_simp
      simp only [Act.put, List.setIfInBounds_toArray, List.set_cons_zero, List.set_cons_succ]
      refine wpAnyH_take (i := 1) (v := .int .i64 (k : Int)) ov1 (by kernel_rfl) (by kernel_rfl) (by kernel_rfl) (fun _ _ _ h => h) (Or.inl ⟨by rfl, fun V' hS => ?_⟩) hHeld ?_
      · go_simp
      simp only [Act.put, List.setIfInBounds_toArray, List.set_cons_zero, List.set_cons_succ]
      refine wpAnyH_take (i := 2) (v := .pointer (some ⟨ga, k, none⟩)) ov2 (by kernel_rfl) (by kernel_rfl) (by kernel_rfl) (fun _ _ _ h => h) (Or.inl ⟨by rfl, fun V' hS => ?_⟩) hHeld ?_
      · go_simp
      simp only [Act.put, List.setIfInBounds_toArray, List.set_cons_zero, List.set_cons_succ]
      refine wpAnyH_take (i := 3) (v := .int .i64 fk) ov3 (by kernel_rfl) (by kernel_rfl) (by kernel_rfl) (fun _ _ _ h => h) (Or.inl ⟨by rfl, fun V' hS => ?_⟩) hHeld ?_
      · have k1 := hS.2.1
        go_simp
      simp only [Act.put, List.setIfInBounds_toArray, List.set_cons_zero, List.set_cons_succ]
      refine wpAnyH_take (i := 4) (v := .slice (some ⟨gm, 0, none⟩) NA mc) ov4 (by kernel_rfl) (by kernel_rfl) (by kernel_rfl) (fun _ _ _ h => h) (Or.inl ⟨by rfl, fun V' hS => ?_⟩) hHeld ?_
      · go_simp
      simp only [Act.put, List.setIfInBounds_toArray, List.set_cons_zero, List.set_cons_succ]
      refine wpAnyH_take (i := 5) (v := .int .i64 (k : Int)) ov5 (by kernel_rfl) (by kernel_rfl) (by kernel_rfl) (fun _ _ _ h => h) (Or.inl ⟨by rfl, fun V' hS => ?_⟩) hHeld ?_
      · go_simp
      simp only [Act.put, List.setIfInBounds_toArray, List.set_cons_zero, List.set_cons_succ]
      refine wpAnyH_take (i := 6) (v := .pointer (some ⟨gm, k, none⟩)) ov6 (by kernel_rfl) (by kernel_rfl) (by kernel_rfl) (fun _ _ _ h => h) (Or.inl ⟨by rfl, fun V' hS => ?_⟩) hHeld ?_
      · go_simp
      simp only [Act.put, List.setIfInBounds_toArray, List.set_cons_zero, List.set_cons_succ]
      refine wpAnyH_take (i := 7) (v := .int .i64 fk) ov7 (by kernel_rfl) (by kernel_rfl) (by kernel_rfl) (fun _ _ _ h => h) (Or.inl ⟨by rfl, fun V' hS => ?_⟩) hHeld ?_
      · have k1 := hS.2.2.2
        go_simp
      simp only [Act.put, List.setIfInBounds_toArray, List.set_cons_zero, List.set_cons_succ]
      refine wpAnyH_take (i := 8) (v := .bool false) ov8 (by kernel_rfl) (by kernel_rfl) (by kernel_rfl) (fun _ _ _ h => h) (Or.inl ⟨by rfl, fun V' hS => ?_⟩) hHeld ?_
      · go_simp
      simp only [Act.put, List.setIfInBounds_toArray, List.set_cons_zero, List.set_cons_succ]
      refine wpAnyH_take (i := 9) (v := .bool false) ov9 (by kernel_rfl) (by kernel_rfl) (by kernel_rfl) (fun _ _ _ h => h) (Or.inl ⟨by rfl, fun V' hS => ?_⟩) hHeld ?_
      · go_simp
      simp only [Act.put, List.setIfInBounds_toArray, List.set_cons_zero, List.set_cons_succ]
      refine wpAnyH_take (i := 10) (v := .slice (some ⟨gb, 0, none⟩) NA bc) ov10 (by kernel_rfl) (by kernel_rfl) (by kernel_rfl) (fun _ _ _ h => h) (Or.inl ⟨by rfl, fun V' hS => ?_⟩) hHeld ?_
      · go_simp
      simp only [Act.put, List.setIfInBounds_toArray, List.set_cons_zero, List.set_cons_succ]
      refine wpAnyH_take (i := 11) (v := .int .i64 (k : Int)) ov11 (by kernel_rfl) (by kernel_rfl) (by kernel_rfl) (fun _ _ _ h => h) (Or.inl ⟨by rfl, fun V' hS => ?_⟩) hHeld ?_
      · go_simp
      simp only [Act.put, List.setIfInBounds_toArray, List.set_cons_zero, List.set_cons_succ]
      refine wpAnyH_take (i := 12) (v := .pointer (some ⟨gb, k, none⟩)) ov12 (by kernel_rfl) (by kernel_rfl) (by kernel_rfl) (fun _ _ _ h => h) (Or.inl ⟨by rfl, fun V' hS => ?_⟩) hHeld ?_
      · go_simp
      simp only [Act.put, List.setIfInBounds_toArray, List.set_cons_zero, List.set_cons_succ]
      refine wpAnyH_take (i := 13) (v := .int .i64 fk) ov13 (by kernel_rfl) (by kernel_rfl) (by kernel_rfl) (fun _ _ _ h => h) (Or.inl ⟨by rfl, fun V' hS => ?_⟩) hHeld ?_
      · have k1 := hS.2.2.1
        go_simp
      simp only [Act.put, List.setIfInBounds_toArray, List.set_cons_zero, List.set_cons_succ]
      refine wpAnyH_take (i := 14) (v := .slice (some ⟨gm, 0, none⟩) NA mc) ov14 (by kernel_rfl) (by kernel_rfl) (by kernel_rfl) (fun _ _ _ h => h) (Or.inl ⟨by rfl, fun V' hS => ?_⟩) hHeld ?_
      · go_simp
      simp only [Act.put, List.setIfInBounds_toArray, List.set_cons_zero, List.set_cons_succ]
      refine wpAnyH_take (i := 15) (v := .int .i64 (k : Int)) ov15 (by kernel_rfl) (by kernel_rfl) (by kernel_rfl) (fun _ _ _ h => h) (Or.inl ⟨by rfl, fun V' hS => ?_⟩) hHeld ?_
      · go_simp
      simp only [Act.put, List.setIfInBounds_toArray, List.set_cons_zero, List.set_cons_succ]
      refine wpAnyH_take (i := 16) (v := .pointer (some ⟨gm, k, none⟩)) ov16 (by kernel_rfl) (by kernel_rfl) (by kernel_rfl) (fun _ _ _ h => h) (Or.inl ⟨by rfl, fun V' hS => ?_⟩) hHeld ?_
      · go_simp
      simp only [Act.put, List.setIfInBounds_toArray, List.set_cons_zero, List.set_cons_succ]
      refine wpAnyH_take (i := 17) (v := .int .i64 fk) ov17 (by kernel_rfl) (by kernel_rfl) (by kernel_rfl) (fun _ _ _ h => h) (Or.inl ⟨by rfl, fun V' hS => ?_⟩) hHeld ?_
      · have k1 := hS.2.2.2
        go_simp
      simp only [Act.put, List.setIfInBounds_toArray, List.set_cons_zero, List.set_cons_succ]
      refine wpAnyH_take (i := 18) (v := .bool false) ov18 (by kernel_rfl) (by kernel_rfl) (by kernel_rfl) (fun _ _ _ h => h) (Or.inl ⟨by rfl, fun V' hS => ?_⟩) hHeld ?_
      · go_simp
      simp only [Act.put, List.setIfInBounds_toArray, List.set_cons_zero, List.set_cons_succ]
      refine wpAnyH_take (i := 19) (v := .bool false) ov19 (by kernel_rfl) (by kernel_rfl) (by kernel_rfl) (fun _ _ _ h => h) (Or.inl ⟨by rfl, fun V' hS => ?_⟩) hHeld ?_
      · go_simp
      simp only [Act.put, List.setIfInBounds_toArray, List.set_cons_zero, List.set_cons_succ]
      refine wpAnyH_done (by kernel_rfl) ?_ _
      have HB : Hid (Below W4.heap.size W4 z0) := hHeld.1
      clear hHeld
      go_wp2
      go_roundw
      case rel => exact ⟨k + 1, by omega, by go_num, HB.out⟩
      case measure => simp [intOf]; omega
    · obtain rfl : k = NA := by omega
      have kI : ¬ ((k : Int) < (k : Int)) := by omega
      have X5 : Hid (CBox wr w.heap.size 25 [.int .i64 x0, .int .i64 C0, .slice vad L vcp, .int .i64 x3] ∧ CBox wr q3 25 [.int .i64 y0, .int .i64 C1, .slice uad M ucp, .int .i64 y3] ∧ Below w.heap.size w wr) := ⟨X4.out.1.past hB, X4.out.2.1.past hB, X4.out.2.2.trans (hB.mono X4.out.2.2.size)⟩
      have Y5 : Hid (Rw w.heap.size 4 V N l wr) := Y4.out.past hB
      clear hB X4 Y4 hk hk5
      go_upto_region 13 with fail
      have X6 : Hid (BX w.heap.size q3 wr.heap.size [.int .i64 x0, .int .i64 C0, .slice vad L vcp, .int .i64 x3] [.int .i64 y0, .int .i64 C1, .slice uad M ucp, .int .i64 y3] [V 0, V 1, V 2] (wr.alloc (.cells #[.slice aa k ac, .slice ca NC cc, .slice ba k bc] 68)) ∧ Below w.heap.size w (wr.alloc (.cells #[.slice aa k ac, .slice ca NC cc, .slice ba k bc] 68)) ∧ Rw w.heap.size 4 V N (L1 N l 0 0) (wr.alloc (.cells #[.slice aa k ac, .slice ca NC cc, .slice ba k bc] 68))) := by
        have hb : Below wr.heap.size wr (wr.alloc (.cells #[.slice aa k ac, .slice ca NC cc, .slice ba k bc] 68)) := (Below.refl _ _).alloc (Nat.le_refl _) _
        refine ⟨⟨X5.out.1.past hb, X5.out.2.1.past hb, ?_⟩, X5.out.2.2.trans (hb.mono X5.out.2.2.size), by rw [L1_zero]; exact Y5.out.past hb⟩
        rw [HV.out.1, HV.out.2.1, HV.out.2.2.1]; exact CBox.new wr _ _
      have hql : w.heap.size ≤ wr.heap.size := X5.out.2.2.size
      generalize wr.alloc (.cells #[.slice aa k ac, .slice ca NC cc, .slice ba k bc] 68) = W6 at X6 ⊢
      generalize wr.heap.size = ql at X6 hql ⊢
      have HLEN : Hid (∀ n, n < 4 → (l n).length = N n ∧ N n ≤ 1000) := fun n hn => by
        obtain ⟨_, _, _, _, n0, n1, n2, n3, t0, t1, t2, t3⟩ := HV.out
        have h4 : n = 0 ∨ n = 1 ∨ n = 2 ∨ n = 3 := by omega
        rcases h4 with rfl | rfl | rfl | rfl
        · rw [t0, n0]; exact ⟨TAL.out, hNA⟩
        · rw [t1, n1]; exact ⟨TCL.out, hNC⟩
        · rw [t2, n2]; exact ⟨TAL.out, hNA⟩
        · rw [t3, n3]; exact ⟨TAL.out, hNA⟩
      clear X5 Y5
      go_wp2
      go_loopw [11] (fun s wr => ∃ n : Nat, n ≤ 3 ∧ s = .int .i64 (n : Int) ∧ BX w.heap.size q3 ql [.int .i64 x0, .int .i64 C0, .slice vad L vcp, .int .i64 x3] [.int .i64 y0, .int .i64 C1, .slice uad M ucp, .int .i64 y3] [V 0, V 1, V 2] wr ∧ Below w.heap.size w wr ∧ Rw w.heap.size 4 V N (L1 N l n 0) wr) (fun s _ => 3 - (intOf s).toNat)
      case atStart => exact ⟨0, Nat.zero_le _, rfl, X6.out⟩
      case round =>
        clear X6
        obtain ⟨n, hn, rfl, hX, hB, hR⟩ := hrel
        by_cases hn3 : n < 3
        · have nI : (n : Int) < 3 := by omega
          have R0 : Hid (BX w.heap.size q3 ql [.int .i64 x0, .int .i64 C0, .slice vad L vcp, .int .i64 x3] [.int .i64 y0, .int .i64 C1, .slice uad M ucp, .int .i64 y3] [V 0, V 1, V 2] wr ∧ Below w.heap.size w wr ∧ Rw w.heap.size 4 V N (L1 N l n 0) wr) := ⟨hX, hB, hR⟩
          obtain ⟨Nn, eNn⟩ : ∃ x, N n = x := ⟨_, rfl⟩
          have ENn : Hid (N n = Nn) := eNn
          have hNn : Nn ≤ 1000 := by rw [← eNn]; exact (HLEN.out n (by omega)).2
          obtain ⟨cz, ecz⟩ : ∃ z : Int, (-1000000 : Int) - (n : Int) = z := ⟨_, rfl⟩
          have ECZ : Hid (cv n = .int .i64 cz) := by unfold Hid cv; rw [ecz]
          have wcz : IntKind.i64.wrap cz = cz := by rw [IntKind.wrap_i64]; omega
          clear hX hB hR hn eNn
          go_wp2
          go_loopw [12] (fun s wr => ∃ k : Nat, k ≤ Nn ∧ s = .int .i64 (k : Int) ∧ BX w.heap.size q3 ql [.int .i64 x0, .int .i64 C0, .slice vad L vcp, .int .i64 x3] [.int .i64 y0, .int .i64 C1, .slice uad M ucp, .int .i64 y3] [V 0, V 1, V 2] wr ∧ Below w.heap.size w wr ∧ Rw w.heap.size 4 V N (L1 N l n k) wr) (fun s _ => Nn - (intOf s).toNat)
          case atStart => exact ⟨0, Nat.zero_le _, rfl, R0.out⟩
          case round =>
            clear R0
            obtain ⟨k, hk, rfl, hX, hB, hR⟩ := hrel
            have cl := three hX.2.2 hn3
            obtain ⟨adn, cn, eVn, hgn⟩ := hR.cellOf (n := n) (by omega)
            rw [eVn, ENn.out] at cl
            rw [ENn.out] at hgn
            by_cases hk5 : k < Nn
            · have kI : (k : Int) < (Nn : Int) := by omega
              obtain ⟨g, e, hc⟩ := hgn (by omega)
              subst e
              obtain ⟨ck, fk⟩ := hc k hk5
              have hlen := (HLEN.out n (by omega)).1
              rw [ENn.out] at hlen
              obtain ⟨uk, eu⟩ : ∃ uk, (L1 N l n k n)[k]? = some uk := ⟨_, List.getElem?_eq_getElem (by rw [L1_len _ _ _ _ (by omega)]; omega)⟩
              rw [eu] at ck
              have ho := hR.1 n (by omega)
              have NX : Hid (BX w.heap.size q3 ql [.int .i64 x0, .int .i64 C0, .slice vad L vcp, .int .i64 x3] [.int .i64 y0, .int .i64 C1, .slice uad M ucp, .int .i64 y3] [V 0, V 1, V 2] (wr.setCell ⟨g, k, none⟩ (.int .i64 cz)) ∧ Below w.heap.size w (wr.setCell ⟨g, k, none⟩ (.int .i64 cz)) ∧ Rw w.heap.size 4 V N (L1 N l n (k + 1)) (wr.setCell ⟨g, k, none⟩ (.int .i64 cz))) := by
                have hst := hR.store (n := n) (by omega) eVn k (cv n)
                rw [L1_step N l n k (by omega)] at hst
                rw [eVn] at ho
                have hgr := (ho.stored k (cv n)).2
                rw [← ECZ.out]
                refine ⟨hX.kept ho hgr, Below.grown hB hgr hB.size (fun q hq => (ho.lt q hq).1), hst⟩
              clear hX hB hR hgn hc ho hlen eu hk eVn
              go_wp2
              go_roundw
              case rel => exact ⟨k + 1, by omega, by go_num, NX.out⟩
              case measure => simp [intOf]; omega
            · obtain rfl : k = Nn := by omega
              have kI : ¬ ((k : Int) < (k : Int)) := by omega
              have NX : Hid (BX w.heap.size q3 ql [.int .i64 x0, .int .i64 C0, .slice vad L vcp, .int .i64 x3] [.int .i64 y0, .int .i64 C1, .slice uad M ucp, .int .i64 y3] [V 0, V 1, V 2] wr ∧ Below w.heap.size w wr ∧ Rw w.heap.size 4 V N (L1 N l (n + 1) 0) wr) := by
                have hlen := (HLEN.out n (by omega)).1
                refine ⟨hX, hB, ?_⟩
                rw [← L1_next N l n hlen, ENn.out]; exact hR
              clear hX hB hR hgn hk eVn
              go_wp2
              go_roundw
              case rel => exact ⟨n + 1, by omega, by go_num, NX.out⟩
              case measure => simp [intOf]; omega
        · obtain rfl : n = 3 := by omega
          obtain ⟨hLS, hST⟩ := LS.start hB hR
          have nI : ¬ ((3 : Int) < 3) := by omega
          have R6 : Hid (BX w.heap.size q3 ql [.int .i64 x0, .int .i64 C0, .slice vad L vcp, .int .i64 x3] [.int .i64 y0, .int .i64 C1, .slice uad M ucp, .int .i64 y3] [V 0, V 1, V 2] wr ∧ LS w (gsOf V) N V N (L1 N l 3 0) wr ∧ St V N l 0 0 V N (L1 N l 3 0)) := ⟨hX, hLS, hST⟩
          rw [show ((3 : Nat) : Int) = 3 from rfl]
          have HVN : Hid (∀ n, n < 3 → ∃ ad c, V n = .slice ad (N n) c ∧ (N n ≠ 0 → ad = some ⟨gsOf V n, 0, none⟩)) := fun n hn => by
            obtain ⟨ad, c, e, _⟩ := hR.cellOf (n := n) (by omega)
            refine ⟨ad, c, e, fun hne => ?_⟩
            obtain ⟨c2, e2, _⟩ := gs_at hR (n := n) (by omega) hne
            rw [e] at e2; injection e2
          clear hX hB hR hLS hST hn hn3
          generalize L1 N l 3 0 = l6 at R6
          go_upto_region 21 with fail
          have hq : w.heap.size < wr.heap.size ∧ q3 < wr.heap.size ∧ ql < wr.heap.size := ⟨R6.out.1.1.lt, R6.out.1.2.1.lt, R6.out.1.2.2.lt⟩
          have R7 : Hid (BX w.heap.size q3 ql [.int .i64 x0, .int .i64 C0, .slice vad L vcp, .int .i64 x3] [.int .i64 y0, .int .i64 C1, .slice uad M ucp, .int .i64 y3] [V 0, V 1, V 2] (wr.alloc (.cells #[.slice none 0 0, .slice none 0 0, .slice none 0 0] 68)) ∧ LS w (gsOf V) N V N l6 (wr.alloc (.cells #[.slice none 0 0, .slice none 0 0, .slice none 0 0] 68)) ∧ St V N l 0 0 V N l6 ∧ CBox (wr.alloc (.cells #[.slice none 0 0, .slice none 0 0, .slice none 0 0] 68)) wr.heap.size 68 (lgL V 0)) :=
            ⟨R6.out.1.past ((Below.refl _ _).alloc (Nat.le_refl _) _), R6.out.2.1.past ((Below.refl _ _).alloc (Nat.le_refl _) _), R6.out.2.2, CBox.new wr 68 (lgL V 0)⟩
          generalize wr.alloc (.cells #[.slice none 0 0, .slice none 0 0, .slice none 0 0] 68) = W7 at R7 ⊢
          generalize wr.heap.size = qg at R7 hq ⊢
          clear R6
          go_wp2
          go_loopw [14] (fun s wr => ∃ n : Nat, n ≤ 3 ∧ s = .int .i64 (n : Int) ∧ ∃ (V' : Nat → Value) (N' : Nat → Nat) (l' : Nat → List Value), BX w.heap.size q3 ql [.int .i64 x0, .int .i64 C0, .slice vad L vcp, .int .i64 x3] [.int .i64 y0, .int .i64 C1, .slice uad M ucp, .int .i64 y3] [V 0, V 1, V 2] wr ∧ LS w (gsOf V) N V' N' l' wr ∧ St V N l n 0 V' N' l' ∧ CBox wr qg 68 (lgL V' n)) (fun s _ => 3 - (intOf s).toNat)
          case atStart => exact ⟨0, Nat.zero_le _, rfl, V, N, l6, R7.out⟩
          case round =>
            clear R7
            obtain ⟨n, hn, rfl, V', N', l', hX, hLS, hST, hG⟩ := hrel
            by_cases hn3 : n < 3
            · have nI : (n : Int) < 3 := by omega
              have R8 : Hid (BX w.heap.size q3 ql [.int .i64 x0, .int .i64 C0, .slice vad L vcp, .int .i64 x3] [.int .i64 y0, .int .i64 C1, .slice uad M ucp, .int .i64 y3] [V 0, V 1, V 2] wr ∧ LS w (gsOf V) N V' N' l' wr ∧ St V N l n 0 V' N' l' ∧ CBox wr qg 68 (lgL V' n)) := ⟨hX, hLS, hST, hG⟩
              have cl := three hX.2.2 hn3
              have EV0 : Hid (V' n = V n) := (hST.2.1 hn3).2.2 rfl
              obtain ⟨cz, ecz⟩ : ∃ z : Int, (-1000000 : Int) - (n : Int) = z := ⟨_, rfl⟩
              have ECZ : Hid (cv n = .int .i64 cz) := by unfold Hid cv; rw [ecz]
              have wcz : IntKind.i64.wrap cz = cz := by rw [IntKind.wrap_i64]; omega
              have hNn := (HLEN.out n (by omega)).2
              rw [← EV0.out] at cl
              clear hX hLS hST hG hn
              go_wp2
              go_loopw [15, 16] (fun gv s wr => ∃ k : Nat, k ≤ 300 ∧ s = .int .i64 (k : Int) ∧ ∃ (V' : Nat → Value) (N' : Nat → Nat) (l' : Nat → List Value), gv = V' n ∧ BX w.heap.size q3 ql [.int .i64 x0, .int .i64 C0, .slice vad L vcp, .int .i64 x3] [.int .i64 y0, .int .i64 C1, .slice uad M ucp, .int .i64 y3] [V 0, V 1, V 2] wr ∧ LS w (gsOf V) N V' N' l' wr ∧ St V N l n k V' N' l' ∧ CBox wr qg 68 (lgL V' n)) (fun _ s _ => 300 - (intOf s).toNat)
              case atStart => exact ⟨0, Nat.zero_le _, rfl, V', N', l', rfl, R8.out⟩
              case round =>
                clear R8 cl EV0
                obtain ⟨k, hk, rfl, V2, N2, l2, rfl, hX, hLS, hST, hG⟩ := hrel
                by_cases hk5 : k < 300
                · have kI : (k : Int) < 300 := by omega
                  obtain ⟨sN, sl, _⟩ := hST.2.1 hn3
                  have OW : Hid (wr.ownsRow w.heap.size 3 1 (V2 n) (N2 n) (l2 n)) := hLS.2.1.1 n (by omega)
                  have R9 : Hid (BX w.heap.size q3 ql [.int .i64 x0, .int .i64 C0, .slice vad L vcp, .int .i64 x3] [.int .i64 y0, .int .i64 C1, .slice uad M ucp, .int .i64 y3] [V 0, V 1, V 2] wr ∧ LS w (gsOf V) N V2 N2 l2 wr ∧ St V N l n k V2 N2 l2 ∧ CBox wr qg 68 (lgL V2 n)) := ⟨hX, hLS, hST, hG⟩
                  have hbs := hLS.1.size
                  have hN1 : N2 n + 1 ≤ 2000 := by omega
                  have SL : Hid (N2 n = N n + k ∧ l2 n = List.replicate (N n + k) (cv n)) := ⟨sN, sl⟩
                  clear hX hLS hST hG hk sN sl
                  go_wp2_with (at_builtin; refine wpList_append_strong rfl _ _ 33 rfl w.heap.size 3 i0 (.int .i64 0) 1 8 Tryd.underlying33 hi hz0 hz1 hz2 rfl (by decide) (V2 n) (N2 n) (l2 n) rfl (World.ownsRow.alloc OW.out _) ⟨wr.heap.size, 0, none⟩ 1 1 [.int .i64 cz] rfl rfl (fun j u hj => by
                        have : j = 0 := by have := (List.getElem?_eq_some_iff.1 hj).1; simpa using this
                        subst this
                        simp at hj
                        subst hj
                        simp [Addr.add]) (fun u hu => by rw [List.mem_singleton.1 hu]; rfl) (by unfold maxLen; omega) (by omega) (by simp; omega) ?_; intro v' w9 hown' _ hGr)
                  have NX : Hid (∃ (V' : Nat → Value) (N' : Nat → Nat) (l' : Nat → List Value), v' = V' n ∧ BX w.heap.size q3 ql [.int .i64 x0, .int .i64 C0, .slice vad L vcp, .int .i64 x3] [.int .i64 y0, .int .i64 C1, .slice uad M ucp, .int .i64 y3] [V 0, V 1, V 2] w9 ∧ LS w (gsOf V) N V' N' l' w9 ∧ St V N l n (k + 1) V' N' l' ∧ CBox w9 qg 68 (lgL V' n)) := by
                    obtain ⟨r1, r2, r3, r4⟩ := R9.out
                    have hal := World.ownsRow.alloc OW.out (.cells #[.int .i64 cz] 3)
                    have hb : Below wr.heap.size wr (wr.alloc (.cells #[.int .i64 cz] 3)) := (Below.refl _ _).alloc (Nat.le_refl _) _
                    refine ⟨_, _, _, ?_, (r1.past hb).kept hal hGr.grown, r2.append (by omega) SL.out.2 SL.out.1 (by rw [ECZ.out]; exact hown') hGr, r3.step hn3 v', ?_⟩
                    · rw [upd_same]
                    · rw [lgL_upd]; exact (r4.past hb).kept hGr.grown ((r4.past hb).row hal (Or.inr (by decide)))
                  clear hown' hGr R9 OW SL
                  go_wp2
                  go_roundw
                  case rel => exact ⟨k + 1, by omega, by go_num, NX.out⟩
                  case measure => simp [intOf]; omega
                · obtain rfl : k = 300 := by omega
                  rw [show ((300 : Nat) : Int) = 300 from rfl]
                  obtain ⟨ux, eux⟩ : ∃ ux, (lgL V2 n)[n]? = some ux := ⟨_, List.getElem?_eq_getElem (by unfold lgL; simp; omega)⟩
                  have cq := hG.cell n
                  rw [eux] at cq
                  have fq := hG.frozen n
                  have NX : Hid (∃ (V' : Nat → Value) (N' : Nat → Nat) (l' : Nat → List Value), BX w.heap.size q3 ql [.int .i64 x0, .int .i64 C0, .slice vad L vcp, .int .i64 x3] [.int .i64 y0, .int .i64 C1, .slice uad M ucp, .int .i64 y3] [V 0, V 1, V 2] (wr.setCell ⟨qg, n, none⟩ (V2 n)) ∧ LS w (gsOf V) N V' N' l' (wr.setCell ⟨qg, n, none⟩ (V2 n)) ∧ St V N l (n + 1) 0 V' N' l' ∧ CBox (wr.setCell ⟨qg, n, none⟩ (V2 n)) qg 68 (lgL V' (n + 1))) := by
                    refine ⟨V2, N2, l2, hX.other _ _ (by show w.heap.size ≠ qg; omega) (by show q3 ≠ qg; omega) (by show ql ≠ qg; omega), hLS.laid hG (by decide) (by omega) _, hST.next hn3, ?_⟩
                    rw [← lgL_set V2 n hn3]; exact hG.set n _
                  obtain ⟨ag, cg, eg, _⟩ := hLS.2.1.cellOf (n := n) (by omega)
                  rw [eg] at NX ⊢
                  clear hX hLS hST hG eux hk hk5 eg
                  go_wp2
                  go_roundw
                  case rel => exact ⟨n + 1, by omega, by go_num, NX.out⟩
                  case measure => simp [intOf]; omega
            · obtain rfl : n = 3 := by omega
              rw [show ((3 : Nat) : Int) = 3 from rfl]
              have F0 : Hid (BX w.heap.size q3 ql [.int .i64 x0, .int .i64 C0, .slice vad L vcp, .int .i64 x3] [.int .i64 y0, .int .i64 C1, .slice uad M ucp, .int .i64 y3] [V 0, V 1, V 2] wr ∧ LS w (gsOf V) N V' N' l' wr ∧ CBox wr qg 68 [V' 0, V' 1, V' 2]) := ⟨hX, hLS, hG⟩
              have HST : Hid (St V N l 3 0 V' N' l') := hST
              clear hX hLS hST hG hn hn3
              go_wp2
              go_loopw [17] (fun s wr => ∃ n : Nat, n ≤ 3 ∧ s = .int .i64 (n : Int) ∧ BX w.heap.size q3 ql [.int .i64 x0, .int .i64 C0, .slice vad L vcp, .int .i64 x3] [.int .i64 y0, .int .i64 C1, .slice uad M ucp, .int .i64 y3] [V 0, V 1, V 2] wr ∧ LS w (gsOf V) N V' N' l' wr ∧ CBox wr qg 68 [V' 0, V' 1, V' 2]) (fun s _ => 3 - (intOf s).toNat)
              case atStart => exact ⟨0, Nat.zero_le _, rfl, F0.out⟩
              case round =>
                clear F0
                obtain ⟨n, hn, rfl, hF⟩ := hrel
                by_cases hn3 : n < 3
                · have nI : (n : Int) < 3 := by omega
                  have F1 : Hid (BX w.heap.size q3 ql [.int .i64 x0, .int .i64 C0, .slice vad L vcp, .int .i64 x3] [.int .i64 y0, .int .i64 C1, .slice uad M ucp, .int .i64 y3] [V 0, V 1, V 2] wr ∧ LS w (gsOf V) N V' N' l' wr ∧ CBox wr qg 68 [V' 0, V' 1, V' 2]) := hF
                  obtain ⟨cz, ecz⟩ : ∃ z : Int, (-1000000 : Int) - (n : Int) = z := ⟨_, rfl⟩
                  have ECZ : Hid (cv n = .int .i64 cz) := by unfold Hid cv; rw [ecz]
                  have wcz : IntKind.i64.wrap cz = cz := by rw [IntKind.wrap_i64]; omega
                  have hNn := (HLEN.out n (by omega)).2
                  obtain ⟨sN, sl⟩ := HST.out.1 n hn3 hn3
                  obtain ⟨NN, eNN⟩ : ∃ x, N n + 300 = x := ⟨_, rfl⟩
                  obtain ⟨N0, eN0⟩ : ∃ x, N n = x := ⟨_, rfl⟩
                  rw [eNN] at sN sl
                  have SN : Hid (N' n = NN ∧ l' n = List.replicate NN (cv n) ∧ N n = N0) := ⟨sN, sl, eN0⟩
                  have hNN : NN ≤ 1300 ∧ 0 < NN := by omega
                  have NNI : (NN : Int) ≤ 1300 := by omega
                  clear hF hn sN sl eNN
                  rw [eN0] at hNn
                  clear eN0
                  go_wp2
                  go_loopw [18] (fun s wr => ∃ i : Nat, i ≤ NN ∧ s = .int .i64 (i : Int) ∧ BX w.heap.size q3 ql [.int .i64 x0, .int .i64 C0, .slice vad L vcp, .int .i64 x3] [.int .i64 y0, .int .i64 C1, .slice uad M ucp, .int .i64 y3] [V 0, V 1, V 2] wr ∧ LS w (gsOf V) N V' N' l' wr ∧ CBox wr qg 68 [V' 0, V' 1, V' 2]) (fun s _ => NN - (intOf s).toNat)
                  case atStart => exact ⟨0, Nat.zero_le _, rfl, F1.out⟩
                  case round =>
                    clear F1
                    obtain ⟨i, hi9, rfl, hF⟩ := hrel
                    have F2 : Hid (BX w.heap.size q3 ql [.int .i64 x0, .int .i64 C0, .slice vad L vcp, .int .i64 x3] [.int .i64 y0, .int .i64 C1, .slice uad M ucp, .int .i64 y3] [V 0, V 1, V 2] wr ∧ LS w (gsOf V) N V' N' l' wr ∧ CBox wr qg 68 [V' 0, V' 1, V' 2]) := hF
                    have cl := three hF.1.2.2 hn3
                    have cg := three hF.2.2 hn3
                    obtain ⟨adn, cn, eVn, hgn⟩ := HVN.out n hn3
                    obtain ⟨adx, cx, eVx, hgx⟩ := hF.2.1.2.1.cellOf (n := n) (by omega)
                    rw [SN.out.1] at eVx hgx
                    obtain ⟨gx, ex, hcx⟩ := hgx (by omega)
                    subst ex
                    rw [eVx] at cg
                    rw [eVn, SN.out.2.2] at cl
                    rw [SN.out.2.2] at hgn
                    by_cases hi5 : i < NN
                    · have iI : (i : Int) < (NN : Int) := by omega
                      have cx1 : wr.cell? ⟨gx, i, none⟩ = some (.int .i64 cz) := by
                        rw [(hcx i hi5).1, SN.out.2.1, ← ECZ.out]; simp [hi5]
                      by_cases hi6 : i < N0
                      · have iI6 : (i : Int) < (N0 : Int) := by omega
                        obtain rfl := hgn (by omega)
                        have cp1 : wr.cell? ⟨gsOf V n, i, none⟩ = some (.int .i64 cz) := by
                          rw [← ECZ.out]; exact hF.2.1.2.2.1 n hn3 i (by rw [SN.out.2.2]; exact hi6)
                        generalize gsOf V n = gn at cl cp1
                        clear hF eVn eVx hcx hgn hgx hi9
                        go_wp2
                        go_roundw
                        case rel => exact ⟨i + 1, by omega, by go_num, F2.out⟩
                        case measure => simp [intOf]; omega
                      · have iI6 : ¬ ((i : Int) < (N0 : Int)) := by omega
                        clear hF eVn eVx hcx hgn hgx hi9
                        go_wp2
                        go_roundw
                        case rel => exact ⟨i + 1, by omega, by go_num, F2.out⟩
                        case measure => simp [intOf]; omega
                    · obtain rfl : i = NN := by omega
                      have iI : ¬ ((i : Int) < (i : Int)) := by omega
                      clear hF eVn eVx hcx hgn hgx hi9
                      go_wp2
                      go_roundw
                      case rel => exact ⟨n + 1, by omega, by go_num, F2.out⟩
                      case measure => simp [intOf]; omega
                · obtain rfl : n = 3 := by omega
                  rw [show ((3 : Nat) : Int) = 3 from rfl]
                  have d0 := hF.1.1.cell 0
                  have d1 := hF.1.1.cell 1
                  have d2 := hF.1.1.cell 2
                  have d3 := hF.1.1.cell 3
                  simp only [List.getElem?_cons_zero, List.getElem?_cons_succ] at d0 d1 d2 d3
                  have B9 : Hid (Below w.heap.size w wr) := hF.2.1.1
                  have W3 : Hid (k ≠ 0 → ∃ g, ma = some ⟨g, 0, none⟩ ∧ ∀ j, j < k → wr.cell? ⟨g, j, none⟩ = some (.int .i64 (fA j))) := fun hne => by
                    obtain ⟨_, _, _, hv3, _, _, _, n3, _, _, _, t3⟩ := HV.out
                    obtain ⟨_, _, _, p1, p2, p3⟩ := HST.out
                    obtain ⟨ad, c, e, hg⟩ := hF.2.1.2.1.cellOf (n := 3) (by omega)
                    rw [p1, hv3, p2, n3] at e
                    rw [p2, n3] at hg
                    obtain ⟨g, e2, hc⟩ := hg hne
                    injection e with e3 _ _
                    exact ⟨g, by rw [e3, e2], fun j hj => by rw [(hc j hj).1, p3, t3]; exact TAF.out j hj⟩
                  clear hF hn hn3
                  go_upto_region 39 with (go_at_call 33; refine (CA.out _ B9.out).mono ?_; rintro e W10 ⟨za, zc, rfl, ho, hB⟩; (have B10 : Hid (Below w.heap.size w W10) := B9.out.trans (hB.mono B9.out.size)); (have Z3 : Hid (k ≠ 0 → ∃ g, za = some ⟨g, 0, none⟩ ∧ ∀ j, j < k → W10.cell? ⟨g, j, none⟩ = some (.int .i64 (fA j))) := fun hne => (by
                    obtain ⟨ad, c, e, hg⟩ := own_slice ho
                    obtain ⟨g, e2⟩ := hg hne
                    injection e with e3 _ _
                    subst e3 e2
                    exact ⟨g, rfl, fun j hj => (by rw [ho.cellAt j (by omega)]; exact TAF.out j hj)⟩)); (have W4' : Hid (k ≠ 0 → ∃ g, ma = some ⟨g, 0, none⟩ ∧ ∀ j, j < k → W10.cell? ⟨g, j, none⟩ = some (.int .i64 (fA j))) := leads_past W3.out hB); clear hB ho)
                  clear d0 d1 d2 d3 B9 W3
                  go_wp2
                  go_loopw [20] (fun s wr => ∃ j : Nat, j ≤ k ∧ s = .int .i64 (j : Int) ∧ Below W10.heap.size W10 wr) (fun s _ => k - (intOf s).toNat)
                  case atStart => exact ⟨0, Nat.zero_le _, rfl, Below.refl _ _⟩
                  case round =>
                    obtain ⟨j, hj, rfl, hB⟩ := hrel
                    by_cases hj5 : j < k
                    · have jI : (j : Int) < (k : Int) := by omega
                      have jI2 : ¬ ((k : Int) ≤ (j : Int)) := by omega
                      obtain ⟨gz, e1, hc1⟩ := Z3.out (by omega)
                      obtain ⟨gm, e2, hc2⟩ := W4'.out (by omega)
                      subst e1 e2
                      have uz := (hB.cell (p := ⟨gz, j, none⟩) (World.block_lt_of_cell? _ _ (hc1 j hj5))).trans (hc1 j hj5)
                      have um := (hB.cell (p := ⟨gm, j, none⟩) (World.block_lt_of_cell? _ _ (hc2 j hj5))).trans (hc2 j hj5)
                      generalize fA j = fj at uz um
                      have HB : Hid (Below W10.heap.size W10 wr) := hB
                      clear hc1 hc2 hB hj
                      go_upto_region 42 with fail
                      refine wp_region_held_drew (S := fun V' => Below W10.heap.size W10 V' ∧ V'.cell? ⟨gz, j, none⟩ = some (.int .i64 fj) ∧ V'.cell? ⟨gm, j, none⟩ = some (.int .i64 fj)) (by kernel_rfl) ⟨HB.out.drew, uz, um⟩ (fun hHeld => ?_)
                      generalize wr.drew = z0 at hHeld ⊢
                      clear uz um HB
                      refine wpAnyH_take (i := 0) (v := .int .i64 (j : Int)) ov0 (by kernel_rfl) (by kernel_rfl) (by kernel_rfl) (fun _ _ _ h => h) (Or.inl ⟨by rfl, fun V' hS => ?_⟩) hHeld ?_
                      · go_simp
                      simp only [Act.put, List.setIfInBounds_toArray, List.set_cons_zero, List.set_cons_succ]
                      refine wpAnyH_take (i := 1) (v := .slice (some ⟨gz, 0, none⟩) k zc) ov1 (by kernel_rfl) (by kernel_rfl) (by kernel_rfl) (fun _ _ _ h => h) (Or.inl ⟨by rfl, fun V' hS => ?_⟩) hHeld ?_
                      · go_simp
                      simp only [Act.put, List.setIfInBounds_toArray, List.set_cons_zero, List.set_cons_succ]
                      refine wpAnyH_take (i := 2) (v := .int .i64 (k : Int)) ov2 (by kernel_rfl) (by kernel_rfl) (by kernel_rfl) (fun _ _ _ h => h) (Or.inl ⟨by rfl, fun V' hS => ?_⟩) hHeld ?_
                      · go_simp
                      simp only [Act.put, List.setIfInBounds_toArray, List.set_cons_zero, List.set_cons_succ]
                      refine wpAnyH_take (i := 3) (v := .bool false) ov3 (by kernel_rfl) (by kernel_rfl) (by kernel_rfl) (fun _ _ _ h => h) (Or.inl ⟨by rfl, fun V' hS => ?_⟩) hHeld ?_
                      · go_simp
                      simp only [Act.put, List.setIfInBounds_toArray, List.set_cons_zero, List.set_cons_succ]
                      refine wpAnyH_take (i := 4) (v := .bool false) ov4 (by kernel_rfl) (by kernel_rfl) (by kernel_rfl) (fun _ _ _ h => h) (Or.inl ⟨by rfl, fun V' hS => ?_⟩) hHeld ?_
                      · go_simp
                      simp only [Act.put, List.setIfInBounds_toArray, List.set_cons_zero, List.set_cons_succ]
                      refine wpAnyH_take (i := 5) (v := .slice (some ⟨gz, 0, none⟩) k zc) ov5 (by kernel_rfl) (by kernel_rfl) (by kernel_rfl) (fun _ _ _ h => h) (Or.inl ⟨by rfl, fun V' hS => ?_⟩) hHeld ?_
                      · go_simp
                      simp only [Act.put, List.setIfInBounds_toArray, List.set_cons_zero, List.set_cons_succ]
                      refine wpAnyH_take (i := 6) (v := .int .i64 (j : Int)) ov6 (by kernel_rfl) (by kernel_rfl) (by kernel_rfl) (fun _ _ _ h => h) (Or.inl ⟨by rfl, fun V' hS => ?_⟩) hHeld ?_
                      · go_simp
                      simp only [Act.put, List.setIfInBounds_toArray, List.set_cons_zero, List.set_cons_succ]
                      refine wpAnyH_take (i := 7) (v := .pointer (some ⟨gz, j, none⟩)) ov7 (by kernel_rfl) (by kernel_rfl) (by kernel_rfl) (fun _ _ _ h => h) (Or.inl ⟨by rfl, fun V' hS => ?_⟩) hHeld ?_
                      · go_simp
                      simp only [Act.put, List.setIfInBounds_toArray, List.set_cons_zero, List.set_cons_succ]
                      refine wpAnyH_take (i := 8) (v := .int .i64 fj) ov8 (by kernel_rfl) (by kernel_rfl) (by kernel_rfl) (fun _ _ _ h => h) (Or.inl ⟨by rfl, fun V' hS => ?_⟩) hHeld ?_
                      · have k1 := hS.2.1
                        go_simp
                      simp only [Act.put, List.setIfInBounds_toArray, List.set_cons_zero, List.set_cons_succ]
                      refine wpAnyH_take (i := 9) (v := .slice (some ⟨gm, 0, none⟩) k mc) ov9 (by kernel_rfl) (by kernel_rfl) (by kernel_rfl) (fun _ _ _ h => h) (Or.inl ⟨by rfl, fun V' hS => ?_⟩) hHeld ?_
                      · go_simp
                      simp only [Act.put, List.setIfInBounds_toArray, List.set_cons_zero, List.set_cons_succ]
                      refine wpAnyH_take (i := 10) (v := .int .i64 (j : Int)) ov10 (by kernel_rfl) (by kernel_rfl) (by kernel_rfl) (fun _ _ _ h => h) (Or.inl ⟨by rfl, fun V' hS => ?_⟩) hHeld ?_
                      · go_simp
                      simp only [Act.put, List.setIfInBounds_toArray, List.set_cons_zero, List.set_cons_succ]
                      refine wpAnyH_take (i := 11) (v := .pointer (some ⟨gm, j, none⟩)) ov11 (by kernel_rfl) (by kernel_rfl) (by kernel_rfl) (fun _ _ _ h => h) (Or.inl ⟨by rfl, fun V' hS => ?_⟩) hHeld ?_
                      · go_simp
                      simp only [Act.put, List.setIfInBounds_toArray, List.set_cons_zero, List.set_cons_succ]
                      refine wpAnyH_take (i := 12) (v := .int .i64 fj) ov12 (by kernel_rfl) (by kernel_rfl) (by kernel_rfl) (fun _ _ _ h => h) (Or.inl ⟨by rfl, fun V' hS => ?_⟩) hHeld ?_
                      · have k1 := hS.2.2
                        go_simp
                      simp only [Act.put, List.setIfInBounds_toArray, List.set_cons_zero, List.set_cons_succ]
                      refine wpAnyH_take (i := 13) (v := .bool false) ov13 (by kernel_rfl) (by kernel_rfl) (by kernel_rfl) (fun _ _ _ h => h) (Or.inl ⟨by rfl, fun V' hS => ?_⟩) hHeld ?_
                      · go_simp
                      simp only [Act.put, List.setIfInBounds_toArray, List.set_cons_zero, List.set_cons_succ]
                      refine wpAnyH_take (i := 14) (v := .bool false) ov14 (by kernel_rfl) (by kernel_rfl) (by kernel_rfl) (fun _ _ _ h => h) (Or.inl ⟨by rfl, fun V' hS => ?_⟩) hHeld ?_
                      · go_simp
                      simp only [Act.put, List.setIfInBounds_toArray, List.set_cons_zero, List.set_cons_succ]
                      refine wpAnyH_done (by kernel_rfl) ?_ _
                      have HB : Hid (Below W10.heap.size W10 z0) := hHeld.1
                      clear hHeld
                      go_wp2
                      go_roundw
                      case rel => exact ⟨j + 1, by omega, by go_num, HB.out⟩
                      case measure => simp [intOf]; omega
                    · obtain rfl : j = k := by omega
                      have jI : ¬ ((j : Int) < (j : Int)) := by omega
                      have RF : Hid (Below w.heap.size w wr) := B10.out.trans (hB.mono B10.out.size)
                      clear hB Z3 W4' hj hj5
                      go_wp2_with (go_at_call 32; refine (HAW.out _ RF.out).mono ?_; rintro e w8 ⟨rfl, hB8⟩; (have R8 : Hid (Below w.heap.size w w8) := RF.out.trans (hB8.mono RF.out.size)); clear hB8 HAW)
                      go_ret
                      exact ⟨rfl, R8.out⟩
end Go.Proofs.YtbhldmfnhlifpaaDoor
