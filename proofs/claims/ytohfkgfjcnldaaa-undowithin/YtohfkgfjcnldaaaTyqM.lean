/- Rows in a block of their own; slices.Clone of them. -/
import Derived.Test.YtohfkgfjcnldaaaTynM
namespace Go.Proofs.Ytohfkgfjcnldaaa
open Go.RowKit Go.Shelf
/-- v is a list of these pairs in a block of its own, or nil -/
def RwL (W : World) (v : Value) (l : List (Int × Int)) : Prop := W.ownsRow 0 112 2 v l.length (rowsD l)
theorem RwL.form {W : World} {v : Value} {l : List (Int × Int)} (h : RwL W v l) : ∃ ad cap, v = .slice ad l.length cap := by
  rcases h.2 with ⟨rfl, e⟩ | ⟨g, c, cur, rfl, _⟩
  · exact ⟨none, 0, by rw [e]⟩
  · exact ⟨_, _, rfl⟩
theorem RwL.at {W : World} {ad : Option Addr} {n cap : Nat} {l : List (Int × Int)} (h : RwL W (.slice ad n cap) l) {i : Nat} {p : Int × Int} (hi : l[i]? = some p) : ∃ g, ad = some ⟨g, 0, none⟩ ∧ W.cell? ⟨g, i * 2, none⟩ = some (.int .i64 p.1) ∧ W.cell? ⟨g, i * 2 + 1, none⟩ = some (.int .i64 p.2) := by
  obtain ⟨h1, h2⟩ := rowsD_get l i p hi
  obtain ⟨g, e1, c1, _⟩ := row_cell h h1
  obtain ⟨g', e2, c2, _⟩ := row_cell h h2
  obtain rfl : g = g' := by rw [e1] at e2; injection e2 with e2; injection e2
  exact ⟨g, e1, c1, c2⟩
theorem RwL.but {S : Nat → Prop} {W W' : World} {v : Value} {l : List (Int × Int)} (h : RwL W v l) (k : But S W W') (hs : ∀ j, v.ownBlock = some j → ¬ S j) : RwL W' v l :=
  owns_row_block h fun j hj => k.block j (h.lt j hj).2 (hs j hj)
theorem RwL.past {W W' : World} {v : Value} {l : List (Int × Int)} (h : RwL W v l) (k : Below W.heap.size W W') : RwL W' v l := h.but (below_but (S := fun _ => False) k) (fun _ _ => id)
/-- a slice that reads as these pairs, wherever it begins -/
structure PartR (W : World) (sv : Value) (l : List (Int × Int)) : Prop where
  ex : ∃ sa sc, sv = .slice sa l.length sc ∧ (sa = none → sc = 0) ∧ (0 < l.length → ∃ g o, sa = some ⟨g, o, none⟩ ∧ ∀ j u, (rowsD l)[j]? = some u → W.cell? ⟨g, o + j, none⟩ = some u)
theorem RwL.part {W : World} {v : Value} {l : List (Int × Int)} (h : RwL W v l) : PartR W v l := by
  rcases h.2 with ⟨rfl, e⟩ | ⟨g, cap, cur, rfl, _⟩
  · exact ⟨none, 0, by rw [e], fun _ => rfl, fun h0 => by omega⟩
  · refine ⟨some ⟨g, 0, none⟩, cap, rfl, fun e => (by cases e), fun h0 => ⟨g, 0, rfl, fun j u hj => ?_⟩⟩
    obtain ⟨g', e1, c1, _⟩ := row_cell h hj
    injection e1 with e1
    injection e1 with e1
    subst e1
    rw [Nat.zero_add]
    exact c1
theorem wpList_catR {w : World} {ops : Array Oper} {rest : List Oper} {o : Oper} {a : Act} {Q : Exit → Act → World → Prop} (hgd : o.guard = none) (s x : Operand)
    (ho : o.op = .call { callee := .builtin .append, args := #[s, x], argTypes := #[107, 107] }) (dv : Value) (l : List (Int × Int)) (hs : a.eval s = dv) (hown : RwL w dv l)
    (sv : Value) (l2 : List (Int × Int)) (hx : a.eval x = sv) (hp : PartR w sv l2) (hn : l.length + l2.length < 2199023255552)
    (h : ∀ dv' w', RwL w' dv' (l ++ l2) → But (fun k => dv.ownBlock = some k) w w' → (∀ k, dv'.ownBlock = some k → dv.ownBlock = some k ∨ w.heap.size ≤ k) → wpList Try.prog ops Q rest (a.put o.dst dv') w') : wpList Try.prog ops Q (o :: rest) a w := by
  obtain ⟨i, hi0, hz0, hz1, hz2⟩ := info_parts info_row
  obtain ⟨sa, sc, rfl, hsn, hsc⟩ := hp.ex
  have done : ∀ v' w', w'.ownsRow 0 112 2 v' (l.length + l2.length) (rowsD l ++ rowsD l2) → Grew w w' dv v' (l.length + l2.length) → wpList Try.prog ops Q rest (a.put o.dst v') w' := fun v' w' h2 h4 => by
    refine h v' w' (by unfold RwL; rw [List.length_append, rowsD_app]; exact h2) ?_ ?_
    · rcases h4 with ⟨h1, _⟩ | ⟨h1, _⟩
      · exact grown_but h1 (fun j e => e)
      · exact grown_but h1 (fun j e => by cases e)
    · intro k hk
      rcases h4 with ⟨_, h1, _⟩ | ⟨_, c, h1⟩
      · rw [h1] at hk; exact Or.inl hk
      · rw [h1] at hk
        injection hk with hk
        subst hk
        exact Or.inr (Nat.le_refl _)
  cases sa with
  | none =>
    have e0 : l2.length = 0 := by
      by_cases e : l2.length = 0
      · exact e
      · obtain ⟨g, o', e1, _⟩ := hsc (by omega)
        cases e1
    obtain rfl := List.eq_nil_of_length_eq_zero e0
    obtain rfl := hsn rfl
    refine wpList_append_own_none hgd s x 107 ho 0 112 i 2 und_rows hi0 dv l.length (rowsD l) hs hown hx ?_
    exact h dv w (by rw [List.append_nil]; exact hown) (But.refl _ _) (fun k hk => Or.inl hk)
  | some ad =>
    refine wpList_append_strong hgd s x 107 ho 0 112 i (.agg #[.int .i64 0, .int .i64 0]) 2 16 und_rows hi0 hz0 hz1 hz2 rfl (by decide) dv l.length (rowsD l) hs hown ad l2.length sc (rowsD l2) hx (rowsD_len l2) ?_ (rowsD_one l2) (by unfold maxLen; omega) (by omega) (Nat.zero_le _) (fun v' w' h2 _ h4 => done v' w' h2 h4)
    intro j u hj
    by_cases e : l2.length = 0
    · obtain rfl := List.eq_nil_of_length_eq_zero e
      rw [rowsD_nil, List.getElem?_nil] at hj
      exact absurd hj (by simp)
    · obtain ⟨g, o', e1, hc⟩ := hsc (Nat.pos_of_ne_zero e)
      have e1' : ad = ⟨g, o', none⟩ := Option.some.inj e1
      rw [e1']
      have e2 : (⟨g, o', none⟩ : Addr).add j = ⟨g, o' + j, none⟩ := by
        unfold Addr.add
        by_cases e : j = 0
        · subst e; rfl
        · simp [e]
      rw [e2]
      exact hc j u hj
theorem eq_nil_rows (W : World) (g n c : Nat) : Sem.run Try.prog (binOp BinOp.eql 107 (.slice (some ⟨g, 0, none⟩) n c) (.slice none 0 0)) W = .ok (.bool false) W := by kernel_rfl
theorem eq_nil_nil (W : World) : Sem.run Try.prog (binOp BinOp.eql 107 (.slice none 0 0) (.slice none 0 0)) W = .ok (.bool true) W := by kernel_rfl
theorem owns_emptyR (w : World) : RwL (w.alloc (.cells #[] 112)) (.slice (some ⟨w.heap.size, 0, none⟩) 0 0) [] :=
  ⟨rfl, .inr ⟨w.heap.size, 0, #[], rfl, Nat.zero_le _, Array.getElem?_push_size, Nat.le_refl _, by unfold maxLen; omega, rfl, rfl⟩⟩
set_option maxHeartbeats 2000000 in
set_option maxRecDepth 100000 in
theorem clone_is (w : World) (v : Value) (l : List (Int × Int)) (h : RwL w v l) (hl : l.length < 549755813888) : Calls Try.prog 79 #[v] w fun e w' => ∃ v', e = .returned v' ∧ RwL w' v' l ∧ Below w.heap.size w w' ∧ ∀ k, v'.ownBlock = some k → w.heap.size ≤ k := by
  obtain ⟨ad, cap, rfl⟩ := h.form
  have hw := h
  rcases h.2 with ⟨e, e0⟩ | ⟨g, c, cur, e, _⟩
  · injection e with e1 e2 e3
    subst e1 e3
    have l0 : l = [] := List.eq_nil_of_length_eq_zero e0
    subst l0
    have hq := eq_nil_nil w
    change Calls _ _ #[.slice none 0 0] w _
    go_enter Try.func79, Try.ntmps79
    go_wp2
    go_ret
    exact ⟨_, rfl, hw, Below.refl _ _, fun k hk => by cases hk⟩
  · injection e with e1 e2 e3
    subst e1 e3
    have E0 : Hid (RwL (w.alloc (.cells #[] 112)) (.slice (some ⟨w.heap.size, 0, none⟩) 0 0) []) := owns_emptyR w
    have HP : Hid (PartR (w.alloc (.cells #[] 112)) (.slice (some ⟨g, 0, none⟩) l.length cap) l ∧ l.length < 549755813888) := ⟨(hw.but (S := fun _ => False) ((But.refl _ _).alloc _) (fun _ _ => id)).part, hl⟩
    have B0 : Hid (But (fun _ => False) w (w.alloc (.cells #[] 112))) := (But.refl _ _).alloc _
    have hq := eq_nil_rows w g l.length cap
    clear h hl hw
    go_enter Try.func79, Try.ntmps79
    go_wp2_with (at_builtin; refine wpList_catR rfl _ _ rfl (.slice (some ⟨w.heap.size, 0, none⟩) 0 0) [] rfl E0.out (.slice (some ⟨g, 0, none⟩) l.length cap) l rfl HP.out.1 (by have := HP.out.2; simp; omega) ?_; intro v' w' h1 h2 h3; obtain ⟨da, dc, rfl⟩ := h1.form)
    go_ret
    have B1 : Below w.heap.size w w' := ((B0.out.mono (fun _ e => e.elim)).trans h2).below (fun k hk => by have h9 : w.heap.size = k := Option.some.inj hk; omega) (Nat.le_refl _)
    refine ⟨_, rfl, h1, B1, fun k hk => ?_⟩
    rcases h3 k hk with e | e
    · have h9 : w.heap.size = k := Option.some.inj e
      omega
    · exact Nat.le_trans B0.out.size e
end Go.Proofs.Ytohfkgfjcnldaaa
/- The library's sort of rows, at this program. -/
namespace Go.Proofs.Ytohfkgfjcnldaaa
open Go.RowKit Go.Shelf Go.Sort
def rfRen : Ren := ⟨fun | 6 => 80 | 14 => 90 | 15 => 87 | 20 => 109 | 21 => 110 | 22 => 111 | 23 => 112 | 24 => 113 | 25 => 114 | 26 => 115 | 27 => 116 | 28 => 99 | 29 => 100 | 46 => 125 | 47 => 118 | 48 => 119 | 49 => 126 | 50 => 127 | 57 => 130 | n => n, fun | 0 => 0 | 3 => 3 | 4 => 4 | 5 => 5 | 9 => 9 | 22 => 107 | 24 => 112 | 25 => 117 | 39 => 92 | 45 => 124 | 46 => 125 | 50 => 54 | 53 => 131 | 55 => 38 | 66 => 143 | 70 => 147 | 76 => 153 | 77 => 154 | n => n, fun n => n⟩
theorem rfLays : SlLaysF0.n6 Try.prog rfRen :=
  { mixed := by kernel_rfl,
    f6 := ⟨Try.f80.name, by decide, by kernel_rfl⟩,
    f14 := ⟨Try.f90.name, by decide, by kernel_rfl⟩,
    f15 := by kernel_rfl,
    f20 := ⟨Try.f109.name, by decide, by kernel_rfl⟩,
    f21 := ⟨Try.f110.name, by decide, by kernel_rfl⟩,
    f22 := ⟨Try.f111.name, by decide, by kernel_rfl⟩,
    f23 := ⟨Try.f112.name, by decide, by kernel_rfl⟩,
    f24 := ⟨Try.f113.name, by decide, by kernel_rfl⟩,
    f25 := ⟨Try.f114.name, by decide, by kernel_rfl⟩,
    f26 := ⟨Try.f115.name, by decide, by kernel_rfl⟩,
    f27 := ⟨Try.f116.name, by decide, by kernel_rfl⟩,
    f28 := by kernel_rfl,
    f29 := by kernel_rfl,
    f46 := ⟨Try.f125.name, by decide, by kernel_rfl⟩,
    f47 := by kernel_rfl,
    f48 := by kernel_rfl,
    f49 := ⟨Try.f126.name, by decide, by kernel_rfl⟩,
    f50 := ⟨Try.f127.name, by decide, by kernel_rfl⟩,
    f57 := ⟨Try.f130.name, by decide, by kernel_rfl⟩,
    t0 := by kernel_rfl,
    a0 := fun _ => by kernel_rfl,
    z0 := fun _ => by kernel_rfl,
    v0 := fun _ => by kernel_rfl,
    t3 := by kernel_rfl,
    a3 := fun _ => by kernel_rfl,
    z3 := fun _ => by kernel_rfl,
    v3 := fun _ => by kernel_rfl,
    t4 := by kernel_rfl,
    a4 := fun _ => by kernel_rfl,
    z4 := fun _ => by kernel_rfl,
    v4 := fun _ => by kernel_rfl,
    t5 := by kernel_rfl,
    a5 := fun _ => by kernel_rfl,
    z5 := fun _ => by kernel_rfl,
    v5 := fun _ => by kernel_rfl,
    t9 := by kernel_rfl,
    a9 := fun _ => by kernel_rfl,
    z9 := fun _ => by kernel_rfl,
    v9 := fun _ => by kernel_rfl,
    t22 := by kernel_rfl,
    a22 := fun _ => by kernel_rfl,
    z22 := fun _ => by kernel_rfl,
    v22 := fun _ => by kernel_rfl,
    t25 := by kernel_rfl,
    a25 := fun _ => by kernel_rfl,
    z25 := fun _ => by kernel_rfl,
    v25 := fun _ => by kernel_rfl,
    t39 := by kernel_rfl,
    a39 := fun _ => by kernel_rfl,
    z39 := fun _ => by kernel_rfl,
    v39 := fun _ => by kernel_rfl,
    t45 := by kernel_rfl,
    a45 := fun _ => by kernel_rfl,
    z45 := fun _ => by kernel_rfl,
    v45 := fun _ => by kernel_rfl,
    t46 := by kernel_rfl,
    a46 := fun _ => by kernel_rfl,
    z46 := fun _ => by kernel_rfl,
    v46 := fun _ => by kernel_rfl,
    t50 := by kernel_rfl,
    a50 := fun _ => by kernel_rfl,
    z50 := fun _ => by kernel_rfl,
    v50 := fun _ => by kernel_rfl,
    t53 := by kernel_rfl,
    a53 := fun _ => by kernel_rfl,
    z53 := fun _ => by kernel_rfl,
    v53 := fun _ => by kernel_rfl,
    t55 := by kernel_rfl,
    a55 := fun _ => by kernel_rfl,
    z55 := fun _ => by kernel_rfl,
    v55 := fun _ => by kernel_rfl,
    t66 := by kernel_rfl,
    a66 := fun _ => by kernel_rfl,
    z66 := fun _ => by kernel_rfl,
    v66 := fun _ => by kernel_rfl,
    t70 := by kernel_rfl,
    a70 := fun _ => by kernel_rfl,
    z70 := fun _ => by kernel_rfl,
    v70 := fun _ => by kernel_rfl,
    t76 := by kernel_rfl,
    a76 := fun _ => by kernel_rfl,
    z76 := fun _ => by kernel_rfl,
    v76 := fun _ => by kernel_rfl,
    t77 := by kernel_rfl,
    a77 := fun _ => by kernel_rfl,
    z77 := fun _ => by kernel_rfl,
    v77 := fun _ => by kernel_rfl }

def encR (p : Int × Int) : List Value := [.int .i64 p.1, .int .i64 p.2]
def cfA (p q : Int × Int) : Int := cfR p.1 q.1
theorem ltA (p q : Int × Int) : ltOf cfA p q = decide (p.1 < q.1) := ltR p.1 q.1
theorem swoA : Go.Sort.SWO (ltOf cfA) where
  irrefl x := by rw [ltA]; simp
  trans x y z h1 h2 := by rw [ltA] at *; simp at *; omega
  ntrans x y z h1 h2 := by rw [ltA] at *; simp at *; omega
set_option maxHeartbeats 2000000 in
theorem all1_is (W : World) (ob : Nat) (a b : Int × Int) (h : W.cell? ⟨ob, 0, none⟩ = some (.func (.func 54) #[] #[])) : Calls Try.prog 81 #[.agg #[.int .i64 a.1, .int .i64 a.2], .agg #[.int .i64 b.1, .int .i64 b.2], .pointer (some ⟨ob, 0, none⟩)] W fun e w' => e = .returned (.int .i64 (cfA a b)) ∧ w' = (W.alloc (.cells #[.int .i64 a.1, .int .i64 a.2] 112)).alloc (.cells #[.int .i64 b.1, .int .i64 b.2] 112) := by
  obtain ⟨a0, a1⟩ := a
  obtain ⟨b0, b1⟩ := b
  have RI : Hid (∀ W, Calls Try.prog 54 #[.int .i64 a0, .int .i64 b0] W fun e w' => e = .returned (.int .i64 (cfA (a0, a1) (b0, b1))) ∧ w' = W) := fun W => rising_is a0 b0 W
  generalize cfA (a0, a1) (b0, b1) = c at RI
  change Calls _ _ #[.agg #[.int .i64 a0, .int .i64 a1], .agg #[.int .i64 b0, .int .i64 b1], .pointer (some ⟨ob, 0, none⟩)] W fun e w' => e = .returned (.int .i64 c) ∧ w' = (W.alloc (.cells #[.int .i64 a0, .int .i64 a1] 112)).alloc (.cells #[.int .i64 b0, .int .i64 b1] 112)
  have hl : ob < W.heap.size := World.block_lt_of_cell? W _ h
  obtain ⟨w1, e1⟩ : ∃ w1, w1 = (W.alloc (.cells #[.int .i64 a0, .int .i64 a1] 112)).alloc (.cells #[.int .i64 b0, .int .i64 b1] 112) := ⟨_, rfl⟩
  have B1 : Below W.heap.size W w1 := by rw [e1]; exact ((Below.refl _ W).alloc (Nat.le_refl _) _).alloc (by simp) _
  have c0 : w1.cell? ⟨ob, 0, none⟩ = some (.func (.func 54) #[] #[]) := (B1.cell (p := ⟨ob, 0, none⟩) hl).trans h
  have x0 : w1.cell? ⟨W.heap.size, 0, none⟩ = some (.int .i64 a0) := by
    rw [e1]
    exact ((CBox.new W 112 [.int .i64 a0, .int .i64 a1]).but (S := fun _ => False) ((But.refl _ _).alloc _) id).cell 0
  have y0 : w1.cell? ⟨W.heap.size + 1, 0, none⟩ = some (.int .i64 b0) := by
    have e9 : (W.alloc (.cells #[.int .i64 a0, .int .i64 a1] 112)).heap.size = W.heap.size + 1 := by simp
    rw [e1, ← e9]
    exact (CBox.new (W.alloc (.cells #[.int .i64 a0, .int .i64 a1] 112)) 112 [.int .i64 b0, .int .i64 b1]).cell 0
  have E1 : Hid (w1 = (W.alloc (.cells #[.int .i64 a0, .int .i64 a1] 112)).alloc (.cells #[.int .i64 b0, .int .i64 b1] 112)) := e1
  rw [← e1]
  clear B1 hl
  go_enter Try.func81, Try.ntmps81
  go_upto_region 1 with fail
  change Code.wp _ _ _ _ ((W.alloc (.cells #[.int .i64 a0, .int .i64 a1] 112)).alloc (.cells #[.int .i64 b0, .int .i64 b1] 112))
  rw [← e1]
  clear e1 h
  generalize W.heap.size + 1 = yb at y0 ⊢
  generalize W.heap.size = xb at x0 ⊢
  go_wp2_with (go_at_call 54; refine (RI.out w1).mono ?_; rintro e w' ⟨rfl, hw⟩; (have hw2 := hw.symm); clear hw; subst hw2)
  go_ret
  exact ⟨rfl, rfl⟩
theorem flat_rows (d : Array (Int × Int)) (t : Nat) (h : t < d.size * 2) : (rowsD d.toList)[t]? = some ((encR d[t / 2]!)[t % 2]!) := by
  have ht : t / 2 < d.size := by omega
  have hp : d.toList[t / 2]? = some d[t / 2]! := by
    rw [List.getElem?_eq_getElem (by simpa using ht)]
    simp [ht]
  obtain ⟨h1, h2⟩ := rowsD_get d.toList (t / 2) _ hp
  rcases Nat.mod_two_eq_zero_or_one t with e | e
  · rw [e]
    have : t = t / 2 * 2 := by omega
    rw [this, show t / 2 * 2 / 2 = t / 2 by omega]
    exact h1
  · rw [e]
    have : t = t / 2 * 2 + 1 := by omega
    rw [this, show (t / 2 * 2 + 1) / 2 = t / 2 by omega]
    exact h2
/-- v reads as these rows -/
def RdR (W : World) (g : Nat) (l : List (Int × Int)) : Prop := ∀ j u, (rowsD l)[j]? = some u → W.cell? ⟨g, j, none⟩ = some u ∧ W.frozen? ⟨g, j, none⟩ = false
theorem RdR.holds {W : World} {g : Nat} {d : Array (Int × Int)} : RdR W g d.toList ↔ HoldsK encR 2 W g 0 d := by
  refine ⟨fun h j hj => ?_, fun h j u hj => ?_⟩
  · rw [size_flatK] at hj
    rw [Nat.zero_add, get_flatK _ _ _ _ hj]
    exact h j _ (flat_rows d j hj)
  · have hl := (List.getElem?_eq_some_iff.1 hj).1
    rw [rowsD_len] at hl
    have hl2 : j < d.size * 2 := by simpa using hl
    have := h j (by rw [size_flatK]; exact hl2)
    rw [Nat.zero_add, get_flatK _ _ _ _ hl2] at this
    rw [flat_rows d j hl2] at hj
    injection hj with hj
    subst hj
    exact this
theorem sorted_is {l : List (Int × Int)} (hn : Nd l) {d' : Array (Int × Int)} (hp : Go.Sort.PermIn 0 l.toArray.size l.toArray d') (hs : Go.Sort.SortedIn (ltOf cfA) 0 l.toArray.size d') : d'.toList = srt l := by
  obtain ⟨p1, _, p3⟩ := hp
  have e0 : d'.size = l.length := by simpa using p1
  have p4 : d'.toList.Perm l := by
    have e1 : (d'.extract 0 l.toArray.size).toList = d'.toList := by simp [← e0]
    rw [e1] at p3
    simpa using p3
  have nd' : Nd d'.toList := hn.perm p4.symm
  have r : Ris d'.toList := by
    refine List.pairwise_iff_getElem.2 fun i j hi hj hij => ?_
    have h1 := hs i j (Nat.zero_le _) hij (by simpa [e0] using hj)
    have hi' : i < d'.size := by simpa using hi
    have hj' : j < d'.size := by simpa using hj
    rw [ltA] at h1
    have e1 : d'[i]! = d'.toList[i] := by simp [hi']
    have e2 : d'[j]! = d'.toList[j] := by simp [hj']
    rw [e1, e2] at h1
    have h2 : ¬ d'.toList[j].1 < d'.toList[i].1 := by simpa using h1
    have h3 := List.pairwise_iff_getElem.1 nd' i j hi hj hij
    omega
  exact (srt_is r p4 hn).symm
theorem sortR_is (W : World) (blk cap : Nat) (l : List (Int × Int)) (h : RdR W blk l) (hb : blk < W.heap.size) (hl : l.length < 549755813888) (hn : Nd l) (ob : Nat) (ho : W.cell? ⟨ob, 0, none⟩ = some (.func (.func 54) #[] #[])) (hne : ob ≠ blk) :
    Calls Try.prog 80 #[.slice (some ⟨blk, 0, none⟩) l.length cap, .func (.func 81) #[] #[.pointer (some ⟨ob, 0, none⟩)]] W fun e w' => e = .returned (.tuple #[]) ∧ RdR w' blk (srt l) ∧ But (fun k => k = blk) W w' := by
  have hH : HoldsK encR 2 W blk 0 l.toArray := RdR.holds.1 (by simpa using h)
  have hob : ob < W.heap.size := World.block_lt_of_cell? W _ ho
  have hcmp : CmpLays Try.prog 81 #[.pointer (some ⟨ob, 0, none⟩)] encR 2 cfA blk 0 l.toArray.size W := fun m os dk hs x y => by
    have hc : (sortWorldK encR 2 W blk 0 m dk os).cell? ⟨ob, 0, none⟩ = some (.func (.func 54) #[] #[]) := by
      unfold sortWorldK
      rw [Go.Sort.cell?_grow _ _ _ (by show ob < (putRowK encR 2 (Go.Sort.ahead W m) blk 0 dk).heap.size; unfold putRowK; rw [Go.Sort.size_putRow]; exact hob), cell?_putRowK_other encR 2 (Go.Sort.ahead W m) blk 0 dk ⟨ob, 0, none⟩ hne]
      exact ho
    refine (all1_is _ ob x y hc).mono ?_
    rintro e w' ⟨rfl, rfl⟩
    refine ⟨rfl, 0, #[.cells #[.int .i64 x.1, .int .i64 x.2] 112, .cells #[.int .i64 y.1, .int .i64 y.2] 112], ?_⟩
    rw [Go.Sort.alloc_eq_grow, Go.Sort.alloc_eq_grow, Go.Sort.grow_grow]
    rfl
  have hcon := AnyQ.slices_SortFunc rfLays 2 (fun _ => by kernel_rfl) (fun _ => by kernel_rfl) encR (fun _ => rfl) (fun x v hv => by unfold encR at hv; simp at hv; rcases hv with rfl | rfl <;> rfl) cfA swoA 81 #[.pointer (some ⟨ob, 0, none⟩)] blk 0 cap l.toArray W (enters_of Try.func81 (by kernel_rfl) rfl) hcmp hH hb (by simp; omega)
  rw [List.size_toArray] at hcon
  refine Calls.mono hcon ?_
  rintro e w' ⟨rfl, d', n, os, hp, hs, rfl⟩
  have es := sorted_is hn (by simpa using hp) (by simpa using hs)
  have e0 : d'.size = l.toArray.size := hp.1
  refine ⟨rfl, ?_, ?_⟩
  · rw [← es]
    refine RdR.holds.2 ?_
    unfold sortWorldK
    exact holdsK_grow _ _ _ _ _ _ _ (by show blk < (putRowK encR 2 (Go.Sort.ahead W n) blk 0 d').heap.size; unfold putRowK; rw [Go.Sort.size_putRow]; exact hb) (holdsK_putRowK _ _ _ _ _ _ _ (holdsK_ahead _ _ _ _ _ _ _ hH) e0)
  · refine ⟨rfl, rfl, rfl, ?_, fun k hk hk2 => ?_⟩
    · show W.heap.size ≤ ((W.heap.modify blk (onCells (putCells id 0 (flatK encR 2 d')))) ++ os).size
      simp
    · show ((W.heap.modify blk (onCells (putCells id 0 (flatK encR 2 d')))) ++ os)[k]? = W.heap[k]?
      rw [Array.getElem?_append_left (by simp; omega), Array.getElem?_modify, if_neg (fun e => hk2 e.symm)]
end Go.Proofs.Ytohfkgfjcnldaaa
