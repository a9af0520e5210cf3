/- The laws' weight: how many bytes, types and lists a container has. -/
import Derived.Test.YtndhabhlajldeaaMz9
import Derived.Test.YtndhabhlajldeaaMz11
import Derived.Test.YtndhabhlajldeaaMz1
namespace Go.Proofs.Ytndhabhlajldeaa
open Go.RowKit
end Go.Proofs.Ytndhabhlajldeaa
/- What is refused: why and where; whole and open. -/
namespace Go.Proofs.Ytndhabhlajldeaa
end Go.Proofs.Ytndhabhlajldeaa
/- A beginning of a container's bytes is cut at its end; with bytes behind there is a tail. -/
namespace Go.Proofs.Ytndhabhlajldeaa
end Go.Proofs.Ytndhabhlajldeaa
/- A fixed byte of a container's bytes turned: what was taken is refused. -/
namespace Go.Proofs.Ytndhabhlajldeaa
/-- where the bytes begin that close the header -/
def endOf (c : Con) : Nat := 9 + 2 * c.cs.length + (if c.ss.length = 0 then 0 else 3 + 4 * c.ss.length)
theorem ser_total {c : Con} (h : May c) : (ser c).length = endOf c + 4 + 4 * c.cs.length + sumL (lns c.cs) + sumL (lns c.ss) + c.d.length := by
  rw [ser_len h, hd_len, lns_len, lns_len]
  unfold endOf
  omega
end Go.Proofs.Ytndhabhlajldeaa
/- ContainerAll: a script in memory, lists of containers, what holds between the calls. -/
namespace Go.Proofs.Ytndhabhlajldeaa
open Go.RowKit
/-- a script in memory -/
def AcL (W : World) (v : Value) (l : List (Int × List Nat × Bool)) : Prop := l.length ≤ 140737488355328 ∧ ∃ ad cap, v = .slice ad l.length cap ∧ ∀ (i : Nat) a, l[i]? = some a → ∃ g o u, ad = some ⟨g, o, none⟩ ∧ W.cell? ⟨g, o + i * 3, none⟩ = some (.int .i64 a.1) ∧ W.cell? ⟨g, o + i * 3 + 1, none⟩ = some u ∧ W.cell? ⟨g, o + i * 3 + 2, none⟩ = some (.bool a.2.2) ∧ BL (fun _ => True) W u a.2.1 ∧ Byt a.2.1 ∧ a.2.1.length ≤ 140737488355328
theorem flat5 : ∀ (cl : List (List Value)), (∀ c ∈ cl, c.length = 5) → ∀ (i j : Nat) (c : List Value), cl[i]? = some c → j < 5 → cl.flatten[i * 5 + j]? = c[j]?
  | [], _, i, j, c, hi, _ => by cases hi
  | d :: r, h, i, j, c, hi, hj => by
    have hd : d.length = 5 := h d (List.mem_cons_self ..)
    rw [List.flatten_cons]
    cases i with
    | zero =>
      injection hi with hi
      subst hi
      rw [Nat.zero_mul, Nat.zero_add, List.getElem?_append_left (by omega)]
    | succ i =>
      rw [List.getElem?_append_right (by omega), hd, show (i + 1) * 5 + j - 5 = i * 5 + j by omega]
      exact flat5 r (fun c hc => h c (List.mem_cons_of_mem _ hc)) i j c hi hj
/-- a container whose five cells are these -/
theorem cw_cells {S : Nat → Prop} {W : World} {E : List Value} {y : Con} (h : CW S W (.agg E.toArray) y) : ∃ ta tc ca cc sa sc da dc, E = [.slice ta y.ts.length tc, .slice ca y.cs.length cc, .slice sa y.ss.length sc, .slice da y.d.length dc, .int .i64 y.n] := by
  obtain ⟨ta, tc, ca, cc, sa, sc, da, dc, e⟩ := cw_form h
  injection e with e
  refine ⟨ta, tc, ca, cc, sa, sc, da, dc, ?_⟩
  have := congrArg Array.toList e
  simpa using this
/-- a list of containers: a row of its own, the containers' lists in blocks of S -/
def KL (S : Nat → Prop) (B : Nat) (W : World) (v : Value) (ks : List Con) : Prop := ∃ cl : List (List Value), cl.length = ks.length ∧ (∀ c ∈ cl, c.length = 5) ∧ W.ownsRow B 28 5 v ks.length cl.flatten ∧ ∀ (i : Nat) x c, ks[i]? = some x → cl[i]? = some c → CW S W (.agg c.toArray) x
theorem KL.nil (S : Nat → Prop) (B : Nat) (W : World) : KL S B W (.slice none 0 0) [] := ⟨[], rfl, (fun c hc => by cases hc), World.ownsRow_nil _ _ _ _, (fun i x c h => by cases h)⟩
theorem KL.but {S T : Nat → Prop} {B : Nat} {W W' : World} {v : Value} {ks : List Con} (h : KL S B W v ks) (k : But T W W') (hS : ∀ g, S g → ¬ T g) (ho : ∀ g, OwnV v g → ¬ T g) : KL S B W' v ks := by
  obtain ⟨cl, h1, h2, h3, h4⟩ := h
  exact ⟨cl, h1, h2, owns_row_blockB h3 fun g hg => k.block g (h3.lt g hg).2 (ho g hg), fun i x c hx hc => (h4 i x c hx hc).but k hS⟩
theorem KL.mono {S S' : Nat → Prop} {B : Nat} {W : World} {v : Value} {ks : List Con} (h : KL S B W v ks) (k : ∀ g, S g → S' g) : KL S' B W v ks := by
  obtain ⟨cl, h1, h2, h3, h4⟩ := h
  exact ⟨cl, h1, h2, h3, fun i x c hx hc => (h4 i x c hx hc).mono fun g hg _ => k g hg⟩
theorem KL.sl {S : Nat → Prop} {B : Nat} {W : World} {v : Value} {ks : List Con} (h : KL S B W v ks) : ∃ ad cap, v = .slice ad ks.length cap := by
  obtain ⟨cl, h1, h2, h3, h4⟩ := h
  exact owns_sl h3
theorem KL.get {S : Nat → Prop} {B : Nat} {W : World} {v : Value} {ks : List Con} (h : KL S B W v ks) {i : Nat} {x : Con} (hx : ks[i]? = some x) : ∃ g cap ta tc ca cc sa sc da dc, v = .slice (some ⟨g, 0, none⟩) ks.length cap ∧ W.cell? ⟨g, i * 5, none⟩ = some (.slice ta x.ts.length tc) ∧ W.cell? ⟨g, i * 5 + 1, none⟩ = some (.slice ca x.cs.length cc) ∧ W.cell? ⟨g, i * 5 + 2, none⟩ = some (.slice sa x.ss.length sc) ∧ W.cell? ⟨g, i * 5 + 3, none⟩ = some (.slice da x.d.length dc) ∧ W.cell? ⟨g, i * 5 + 4, none⟩ = some (.int .i64 x.n) ∧ CW S W (.agg #[.slice ta x.ts.length tc, .slice ca x.cs.length cc, .slice sa x.ss.length sc, .slice da x.d.length dc, .int .i64 x.n]) x := by
  obtain ⟨cl, h1, h2, h3, h4⟩ := h
  have hi : i < ks.length := (List.getElem?_eq_some_iff.1 hx).1
  obtain ⟨c, hc⟩ : ∃ c, cl[i]? = some c := ⟨cl[i]'(by omega), List.getElem?_eq_getElem _⟩
  have h5 := h4 i x c hx hc
  obtain ⟨ta, tc, ca, cc, sa, sc, da, dc, rfl⟩ := cw_cells h5
  obtain ⟨ad, cap, rfl⟩ := owns_sl h3
  have hv : ∃ g, ad = some ⟨g, 0, none⟩ := by
    rcases h3.2 with ⟨_, e⟩ | ⟨g, c, cur, e, _⟩
    · omega
    · injection e with e1 e2 e3
      exact ⟨g, e1⟩
  obtain ⟨g, rfl⟩ := hv
  have f : ∀ j, j < 5 → W.cell? ⟨g, i * 5 + j, none⟩ = ([.slice ta x.ts.length tc, .slice ca x.cs.length cc, .slice sa x.ss.length sc, .slice da x.d.length dc, .int .i64 x.n] : List Value)[j]? := fun j hj => by
    rw [World.ownsRow.cellAt h3 (i * 5 + j) (by omega)]
    exact flat5 cl h2 i j _ hc hj
  exact ⟨g, cap, ta, tc, ca, cc, sa, sc, da, dc, rfl, f 0 (by omega), f 1 (by omega), f 2 (by omega), f 3 (by omega), f 4 (by omega), h5⟩
theorem Try.infoCn : (Try.prog.info? 28).map (fun i => (i.zero, i.size, i.bytes)) = some (some (.agg #[.slice none 0 0, .slice none 0 0, .slice none 0 0, .slice none 0 0, .int .i64 0]), 5, 104) := by kernel_rfl
/-- append of one container that lies in a box -/
theorem wp_appC {w : World} {o : Oper} {a : Act} {K : Act → World → Prop} {Q : Exit → Act → World → Prop} (s x : Operand)
    (ho : o.op = .call { callee := .builtin .append, args := #[s, x], argTypes := #[42, 42] }) (S : Nat → Prop) (B : Nat) (hB : B ≤ w.heap.size) (v : Value) (ks : List Con) (hs : a.eval s = v) (hk : KL S B w v ks) (hS : ∀ g, OwnV v g → ¬ S g)
    (bb : Nat) (E : List Value) (hx : a.eval x = .slice (some ⟨bb, 0, none⟩) 1 1) (hbb : CBox w bb 28 E) (y : Con) (hy : CW S w (.agg E.toArray) y) (hn : ks.length ≤ 60)
    (h : ∀ v' w', KL S B w' v' (ks ++ [y]) → But (OwnV v) w w' → (∀ k, OwnV v' k → OwnV v k ∨ w.heap.size ≤ k) → K (a.put o.dst v') w') : o.wp Try.prog a w K Q := by
  obtain ⟨cl, h1, h2, h3, h4⟩ := hk
  obtain ⟨ta, tc, ca, cc, sa, sc, da, dc, rfl⟩ := cw_cells hy
  obtain ⟨ad, cap, rfl⟩ := owns_sl h3
  obtain ⟨i, hi0, hz0, hz1, hz2⟩ := info_parts Try.infoCn
  refine wp_append_strong s x 42 ho B 28 i _ 5 104 Try.underlying42 hi0 hz0 hz1 hz2 rfl (by omega) (.slice ad ks.length cap) ks.length cl.flatten hs h3 ⟨bb, 0, none⟩ 1 1 [.slice ta y.ts.length tc, .slice ca y.cs.length cc, .slice sa y.ss.length sc, .slice da y.d.length dc, .int .i64 y.n] hx rfl (fun j c hj => ?_) (fun u hu => ?_) (by unfold maxLen; omega) (by omega) hB ?_
  · rw [Addr.add_mid, Nat.zero_add]
    exact (hbb.cell j).trans hj
  · simp at hu
    rcases hu with rfl | rfl | rfl | rfl | rfl <;> rfl
  · intro v' w' q1 _ q4
    obtain ⟨ad', cap', rfl, q5, q6⟩ := grew_one q4
    have hb : But (OwnV (.slice ad ks.length cap)) w w' := q5.mono fun k hk => own_iff.1 hk
    refine h _ _ ⟨cl ++ [[.slice ta y.ts.length tc, .slice ca y.cs.length cc, .slice sa y.ss.length sc, .slice da y.d.length dc, .int .i64 y.n]], by simp [h1], fun c hc => ?_, by rw [List.length_append, List.flatten_append, List.flatten_cons, List.flatten_nil, List.append_nil]; exact q1, fun k z c hz hc => ?_⟩ hb (fun k hk => ?_)
    · rcases List.mem_append.1 hc with hc | hc
      · exact h2 c hc
      · rw [List.mem_singleton.1 hc]; rfl
    · by_cases e : k < ks.length
      · rw [List.getElem?_append_left e] at hz
        rw [List.getElem?_append_left (by omega)] at hc
        exact (h4 k z c hz hc).but hb fun g hg ho => hS g ho hg
      · rw [List.getElem?_append_right (by omega)] at hz
        rw [List.getElem?_append_right (by omega), h1] at hc
        have e0 : k - ks.length = 0 := by have := (List.getElem?_eq_some_iff.1 hz).1; simpa using this
        rw [e0] at hz hc
        injection hz with hz
        injection hc with hc
        subst hz hc
        exact hy.but hb fun g hg ho => hS g ho hg
    · rcases q6.own (own_iff.2 hk) with e | e
      · exact Or.inl (own_iff.1 e)
      · exact Or.inr e
/-- small enough to go on with -/
def Gcn (x : Con) : Prop := x.ts.length + x.cs.length + x.ss.length + x.cs.flatten.length + x.ss.flatten.length ≤ 8388608 ∧ x.d.length ≤ 65535
theorem Gcn.small {x : Con} (h : Gcn x) : Small x := by unfold Gcn at h; unfold Small; omega
theorem gcn_zero : Gcn con0 := by unfold Gcn con0; simp
theorem gcn_prs {b : List Nat} (hb : Byt b) (hl : b.length ≤ 2097152) (opn : Bool) : Gcn (conOf (prs b opn)) := by
  cases h : prs b opn with
  | error e => exact gcn_zero
  | ok y =>
    obtain ⟨M, e, _⟩ := prs_ok hb h
    have h1 := ser_total M
    rw [e, sum_lns, sum_lns] at h1
    have h2 := M.n2
    have h3 := M.nt
    have h4 := M.ns
    have h5 := M.z1
    have h6 := M.z2
    show Gcn y
    unfold Gcn
    refine ⟨?_, by omega⟩
    unfold endOf at h1
    split at h1 <;> omega
theorem gcn_lay {x : Con} {b : List Nat} (h : Gcn x) : Gcn (layC x b).2 := by
  unfold layC
  split
  · exact gcn_zero
  · split
    · exact gcn_zero
    · split
      · exact gcn_zero
      · unfold Gcn at h ⊢
        simp only [List.length_append]
        omega
/-- between the calls: c and d in their boxes, what was kept and what was wanted; S: blocks that nobody writes any more -/
structure AM (b3 b4 N : Nat) (S : Nat → Prop) (w W : World) (L3 L4 : List Value) (x : Con) (kv wv : Value) (ks ws : List Con) : Prop where
  c3 : CBox W b3 28 L3
  c4 : CBox W b4 28 L4
  k3 : CW S W (.agg L3.toArray) x
  k4 : CW S W (.agg L4.toArray) x
  kk : KL S w.heap.size W kv ks
  kw : KL S w.heap.size W wv ws
  ap : ∀ g, OwnV kv g → ¬ OwnV wv g
  s3 : ¬ S b3
  s4 : ¬ S b4
  ne : b3 ≠ b4
  ok : ∀ g, OwnV kv g → ¬ S g ∧ g ≠ b3 ∧ g ≠ b4
  ow : ∀ g, OwnV wv g → ¬ S g ∧ g ≠ b3 ∧ g ≠ b4
  sN : ∀ g, S g → g < N
  bN : b3 < N ∧ b4 < N
  kN : ∀ g, OwnV kv g → g < N
  wN : ∀ g, OwnV wv g → g < N
  NW : N ≤ W.heap.size
  gN : w.heap.size ≤ N
  g3 : w.heap.size ≤ b3 ∧ w.heap.size ≤ b4
  bel : Below w.heap.size w W
  sm : Gcn x
section
variable {b3 b4 N : Nat} {S : Nat → Prop} {w W W' : World} {L3 L4 M3 M4 : List Value} {x y : Con} {kv wv v' : Value} {ks ws : List Con}
theorem AM.but (h : AM b3 b4 N S w W L3 L4 x kv wv ks ws) (q : But (fun g => N ≤ g) W W') : AM b3 b4 N S w W' L3 L4 x kv wv ks ws :=
  ⟨h.c3.but q (fun (e : N ≤ b3) => by have := h.bN; omega), h.c4.but q (fun (e : N ≤ b4) => by have := h.bN; omega), h.k3.but q (fun g hg (e : N ≤ g) => by have := h.sN g hg; omega), h.k4.but q (fun g hg (e : N ≤ g) => by have := h.sN g hg; omega),
    h.kk.but q (fun g hg (e : N ≤ g) => by have := h.sN g hg; omega) (fun g hg (e : N ≤ g) => by have := h.kN g hg; omega), h.kw.but q (fun g hg (e : N ≤ g) => by have := h.sN g hg; omega) (fun g hg (e : N ≤ g) => by have := h.wN g hg; omega),
    h.ap, h.s3, h.s4, h.ne, h.ok, h.ow, h.sN, h.bN, h.kN, h.wN, Nat.le_trans h.NW q.size, h.gN, h.g3, h.bel.trans (q.below (fun g (e : N ≤ g) => Nat.le_trans h.gN e) h.bel.size), h.sm⟩
theorem AM.past (h : AM b3 b4 N S w W L3 L4 x kv wv ks ws) (q : Below W.heap.size W W') : AM b3 b4 N S w W' L3 L4 x kv wv ks ws := h.but (below_but q)
/-- all that is there now is written no more, but the two boxes and the two rows -/
theorem AM.grow (h : AM b3 b4 N S w W L3 L4 x kv wv ks ws) : AM b3 b4 W.heap.size (fun g => S g ∨ (N ≤ g ∧ g < W.heap.size)) w W L3 L4 x kv wv ks ws :=
  ⟨h.c3, h.c4, h.k3.mono fun g hg _ => Or.inl hg, h.k4.mono fun g hg _ => Or.inl hg, h.kk.mono fun g hg => Or.inl hg, h.kw.mono fun g hg => Or.inl hg, h.ap, fun e => e.elim h.s3 fun e => by have := h.bN; omega, fun e => e.elim h.s4 fun e => by have := h.bN; omega, h.ne,
    fun g hg => ⟨fun e => e.elim (h.ok g hg).1 fun e => by have := h.kN g hg; omega, (h.ok g hg).2⟩, fun g hg => ⟨fun e => e.elim (h.ow g hg).1 fun e => by have := h.wN g hg; omega, (h.ow g hg).2⟩,
    fun g hg => hg.elim (fun e => Nat.lt_of_lt_of_le (h.sN g e) h.NW) fun e => e.2, ⟨Nat.lt_of_lt_of_le h.bN.1 h.NW, Nat.lt_of_lt_of_le h.bN.2 h.NW⟩, fun g hg => Nat.lt_of_lt_of_le (h.kN g hg) h.NW, fun g hg => Nat.lt_of_lt_of_le (h.wN g hg) h.NW, Nat.le_refl _, h.bel.size, h.g3, h.bel, h.sm⟩
theorem AM.put (h : AM b3 b4 N S w W L3 L4 x kv wv ks ws) (q : But (fun g => g = b3 ∨ g = b4) W W') (p3 : CBox W' b3 28 M3) (p4 : CBox W' b4 28 M4) (q3 : CW S W (.agg M3.toArray) y) (q4 : CW S W (.agg M4.toArray) y) (hy : Gcn y) : AM b3 b4 N S w W' M3 M4 y kv wv ks ws := by
  have ns : ∀ g, S g → ¬ (g = b3 ∨ g = b4) := fun g hg e => e.elim (fun e => h.s3 (e ▸ hg)) (fun e => h.s4 (e ▸ hg))
  exact ⟨p3, p4, q3.but q ns, q4.but q ns, h.kk.but q ns (fun g hg e => e.elim (h.ok g hg).2.1 (h.ok g hg).2.2), h.kw.but q ns (fun g hg e => e.elim (h.ow g hg).2.1 (h.ow g hg).2.2), h.ap, h.s3, h.s4, h.ne, h.ok, h.ow, h.sN, h.bN, h.kN, h.wN, Nat.le_trans h.NW q.size, h.gN, h.g3,
    h.bel.trans (q.below (fun g e => by have := h.g3; omega) h.bel.size), hy⟩
theorem AM.appK (h : AM b3 b4 N S w W L3 L4 x kv wv ks ws) (p : KL S w.heap.size W' v' (ks ++ [y])) (q : But (OwnV kv) W W') (r : ∀ k, OwnV v' k → OwnV kv k ∨ W.heap.size ≤ k) : AM b3 b4 W'.heap.size S w W' L3 L4 x v' wv (ks ++ [y]) ws := by
  have ns : ∀ g, S g → ¬ OwnV kv g := fun g hg e => (h.ok g e).1 hg
  have kB : ∀ g, OwnV kv g → w.heap.size ≤ g := fun g hg => by
    obtain ⟨cl, _, _, h3, _⟩ := h.kk
    exact (h3.lt g hg).1
  have nW := h.NW
  have lt' : ∀ g, OwnV v' g → g < W'.heap.size := fun g hg => by
    obtain ⟨cl, _, _, h3, _⟩ := p
    exact (h3.lt g hg).2
  have hs := q.size
  exact ⟨h.c3.but q (fun e => (h.ok _ e).2.1 rfl), h.c4.but q (fun e => (h.ok _ e).2.2 rfl), h.k3.but q ns, h.k4.but q ns, p, h.kw.but q ns (fun g hg e => h.ap g e hg), fun g hg hw => (r g hg).elim (fun e => h.ap g e hw) (fun e => by have := h.wN g hw; omega), h.s3, h.s4, h.ne,
    fun g hg => (r g hg).elim (h.ok g) (fun e => ⟨fun e2 => by have := h.sN g e2; omega, by have := h.bN; omega, by have := h.bN; omega⟩), h.ow, fun g hg => by have := h.sN g hg; omega, by have := h.bN; omega, lt', fun g hg => by have := h.wN g hg; omega, Nat.le_refl _, by have := h.gN; omega, h.g3, h.bel.trans (q.below kB h.bel.size), h.sm⟩
theorem AM.appW (h : AM b3 b4 N S w W L3 L4 x kv wv ks ws) (p : KL S w.heap.size W' v' (ws ++ [y])) (q : But (OwnV wv) W W') (r : ∀ k, OwnV v' k → OwnV wv k ∨ W.heap.size ≤ k) : AM b3 b4 W'.heap.size S w W' L3 L4 x kv v' ks (ws ++ [y]) := by
  have ns : ∀ g, S g → ¬ OwnV wv g := fun g hg e => (h.ow g e).1 hg
  have kB : ∀ g, OwnV wv g → w.heap.size ≤ g := fun g hg => by
    obtain ⟨cl, _, _, h3, _⟩ := h.kw
    exact (h3.lt g hg).1
  have nW := h.NW
  have lt' : ∀ g, OwnV v' g → g < W'.heap.size := fun g hg => by
    obtain ⟨cl, _, _, h3, _⟩ := p
    exact (h3.lt g hg).2
  have hs := q.size
  exact ⟨h.c3.but q (fun e => (h.ow _ e).2.1 rfl), h.c4.but q (fun e => (h.ow _ e).2.2 rfl), h.k3.but q ns, h.k4.but q ns, h.kk.but q ns (fun g hg e => h.ap g hg e), p, fun g hk hw => (r g hw).elim (fun e => h.ap g hk e) (fun e => by have := h.kN g hk; omega), h.s3, h.s4, h.ne,
    h.ok, fun g hg => (r g hg).elim (h.ow g) (fun e => ⟨fun e2 => by have := h.sN g e2; omega, by have := h.bN; omega, by have := h.bN; omega⟩), fun g hg => by have := h.sN g hg; omega, by have := h.bN; omega, fun g hg => by have := h.kN g hg; omega, lt', Nat.le_refl _, by have := h.gN; omega, h.g3, h.bel.trans (q.below kB h.bel.size), h.sm⟩
end
/-- a container in rows of its own -/
def DW (B : Nat) (W : World) (v : Value) (c : Con) : Prop := ∃ tv cv sv dv, v = .agg #[tv, cv, sv, dv, .int .i64 c.n] ∧ W.ownsRow B 77 3 tv c.ts.length (tV c.ts) ∧ PO B W cv c.cs ∧ PO B W sv c.ss ∧ W.ownsRow B 5 1 dv c.d.length (bV c.d)
theorem box_owns {W : World} {B g n s : Nat} {t : TypeId} {l : List Value} (h : CBox W g t l) (hl : l.length = n * s) (hn : n ≤ maxLen) (hB : B ≤ g) : W.ownsRow B t s (.slice (some ⟨g, 0, none⟩) n n) n l :=
  ⟨hl, Or.inr ⟨g, n, l.toArray, rfl, hB, h, Nat.le_refl _, hn, by simpa using hl, List.take_of_length_le (by simp [hl])⟩⟩
theorem DW.zero (B : Nat) (W : World) : DW B W (.agg #[.slice none 0 0, .slice none 0 0, .slice none 0 0, .slice none 0 0, .int .i64 0]) con0 := ⟨_, _, _, _, rfl, World.ownsRow_nil _ _ _ _, PO.nil _ _, PO.nil _ _, World.ownsRow_nil _ _ _ _⟩
theorem DO.dw {B : Nat} {W : World} {v : Value} {c : Con} (h : DO B W v c) : DW B W v c := by
  obtain ⟨ta, tc, ca, cc, sa, sc, da, dc, e, k1, k2, k3, k4, _⟩ := h
  exact ⟨_, _, _, _, e, k1, k2, k3, k4⟩
theorem CO.dw {B : Nat} {W : World} {v : Value} {c : Con} (h : CO B W v c) (h1 : c.ts.length ≤ 65535) (h2 : c.cs.length ≤ 65535) (h3 : c.ss.length ≤ 65535) : DW B W v c := by
  obtain ⟨tv, cv, sv, dv, e, ⟨g1, rfl, p1, q1⟩, ⟨g2, us, rfl, p2, l2, q2, o2⟩, ⟨g3, vs, rfl, p3, l3, q3, o3⟩, k4⟩ := h
  exact ⟨_, _, _, _, e, box_owns p1 (tV_len _) (by unfold maxLen; omega) q1, ⟨us, l2, box_owns p2 (by omega) (by unfold maxLen; omega) q2, o2⟩, ⟨vs, l3, box_owns p3 (by omega) (by unfold maxLen; omega) q3, o3⟩, k4⟩
theorem DW.past {B : Nat} {W W' : World} {v : Value} {c : Con} (h : DW B W v c) (k : Below W.heap.size W W') : DW B W' v c := by
  obtain ⟨tv, cv, sv, dv, e, k1, k2, k3, k4⟩ := h
  exact ⟨tv, cv, sv, dv, e, owns_past k1 k, k2.past k, k3.past k, owns_past k4 k⟩
theorem DW.alien {B q : Nat} {W W' : World} {v : Value} {c : Con} {t : TypeId} {l : List Value} (h : DW B W v c) (k : But (fun y => y = q) W W') (hb : CBox W q t l) (t1 : t ≠ 77) (t2 : t ≠ 22) (t3 : t ≠ 5) : DW B W' v c := by
  have a : Alien W q := ⟨_, _, hb, t1, t2, t3⟩
  obtain ⟨tv, cv, sv, dv, e, k1, k2, k3, k4⟩ := h
  exact ⟨tv, cv, sv, dv, e, row_alienT k1 k a, PO.alien k2 k a, PO.alien k3 k a, row_alien k4 k a⟩
theorem DW.base {B B' : Nat} {W : World} {v : Value} {c : Con} (h : DW B W v c) (k : B' ≤ B) : DW B' W v c := by
  obtain ⟨tv, cv, sv, dv, e, k1, k2, k3, k4⟩ := h
  exact ⟨tv, cv, sv, dv, e, owns_base k1 k, k2.base k, k3.base k, owns_base k4 k⟩
theorem DW.cw {B : Nat} {W : World} {v : Value} {c : Con} (h : DW B W v c) (hs : Small c) : CW (fun g => B ≤ g) W v c := by
  obtain ⟨tv, cv, sv, dv, e, k1, k2, k3, k4⟩ := h
  unfold Small at hs
  exact ⟨tv, cv, sv, dv, e, SL.own k1 (by omega) fun g hg => (k1.lt g hg).1, k2.pl (by omega) (flat_each (by omega)), k3.pl (by omega) (flat_each (by omega)), SL.own k4 (by omega) fun g hg => (k4.lt g hg).1⟩
theorem DW.form {B : Nat} {W : World} {v : Value} {c : Con} (h : DW B W v c) : ∃ ta tc ca cc sa sc da dc, v = .agg #[.slice ta c.ts.length tc, .slice ca c.cs.length cc, .slice sa c.ss.length sc, .slice da c.d.length dc, .int .i64 c.n] := by
  obtain ⟨tv, cv, sv, dv, rfl, k1, k2, k3, k4⟩ := h
  obtain ⟨ta, tc, rfl⟩ := owns_sl k1
  obtain ⟨ca, cc, rfl⟩ := k2.sl
  obtain ⟨sa, sc, rfl⟩ := k3.sl
  obtain ⟨da, dc, rfl⟩ := owns_sl k4
  exact ⟨ta, tc, ca, cc, sa, sc, da, dc, rfl⟩
theorem parse_dw {P : Nat → Prop} (w : World) (v : Value) (b : List Nat) (opn : Bool) (h : BL P w v b) (hb : Byt b) (hl : b.length ≤ 16777216) :
    Calls Try.prog 31 #[v, .bool opn] w fun e w' => (∃ v', e = .returned (.tuple #[v', .agg #[.int .i64 (rjOf (prs b opn)).1, .slice none 0 0, .int .i64 0, .int .i64 (rjOf (prs b opn)).2]]) ∧ DW w.heap.size w' v' (conOf (prs b opn))) ∧ Below w.heap.size w w' :=
  (parse_is w v b opn h hb hl).mono fun e w' q => by
    refine ⟨?_, q.2⟩
    have q1 := q.1
    cases hr : prs b opn with
    | ok c =>
      rw [hr] at q1
      obtain ⟨v9, e9, hco⟩ := q1
      obtain ⟨f1, f2, f3, f4, f5, f6⟩ := prs_fits hb hr
      exact ⟨v9, e9, hco.dw (by omega) (by omega) (by omega)⟩
    | error er =>
      rw [hr] at q1
      obtain ⟨ec, ea⟩ := er
      exact ⟨_, q1, DW.zero _ _⟩
end Go.Proofs.Ytndhabhlajldeaa
/- How an argument that is a script reads. -/
namespace Go.Proofs.Ytndhabhlajldeaa
open Go.ChangeShapes Go.WideShapes Go.ChangeAt Go.RowKit
theorem cAct : Try.prog.cellsOf 44 = 3 := by kernel_rfl
theorem cBoA : Try.prog.cellsOf 4 = 1 := by kernel_rfl
theorem uAct : ∃ fs : Array Field, Try.prog.underlying 44 = some (.struct fs) ∧ fs.size = 3 ∧ fs.toList.map (·.type) = [3, 22, 4] ∧ ∃ f0 f1 f2, fs[0]? = some f0 ∧ fs[1]? = some f1 ∧ fs[2]? = some f2 ∧ f0.type = 3 ∧ f0.offset = 0 ∧ f1.type = 22 ∧ f1.offset = 1 ∧ f2.type = 4 ∧ f2.offset = 2 := ⟨_, Try.underlying44, by kernel_rfl, by kernel_rfl, _, _, _, rfl, rfl, rfl, rfl, rfl, rfl, rfl, rfl, rfl⟩
set_option maxRecDepth 100000 in
theorem openActs {H : Type} {enc : TypeId × Value → H} {W : World} {base b0 : Nat} {r : Reach} {held : Bool} {v : Value} {d : DataW H} {ps : List MemPlace}
    (hv : Value.okWide Try.prog W r b0 40 v) (h : DataW.Trod enc Try.prog W base (fun _ => true) held 40 v d ps) (hs : ∀ k ∈ d.weights Try.prog 40, k ≤ reachBytes) :
    ∃ l : List (Int × List Nat × Bool), AcL W v l := by
  obtain ⟨a1, len, cap, rfl⟩ := okWide_slice Try.underlying40 hv
  obtain ⟨fuel, hf⟩ := h
  rcases DataW.trod_slice Try.underlying40 hf with ⟨hcs, hx⟩ | ⟨a, len', cap', elems, rest, n, _, hcs, hx, hb, hl, hm, hlen, hel, _, _⟩
  · simp [Value.cells] at hcs
    obtain ⟨rfl, rfl, rfl⟩ := hcs
    exact ⟨[], by simp, none, 0, rfl, fun i a hi => by cases hi⟩
  · simp [Value.cells] at hcs
    obtain ⟨rfl, rfl, rfl⟩ := hcs
    rw [cAct] at hel
    have hd : d = .slice (elems.map (·.1)) (rest.map (·.1)) := congrArg Prod.fst hx
    have hln : len ≤ 140737488355328 := by
      have hk := hs (elems.length * Try.prog.bytesOf 44 + rest.length * Try.prog.bytesOf 44) (by
        rw [hd]
        simp only [DataW.weights, Try.underlying40, List.mem_cons, List.mem_append]
        left
        simp [Nat.add_mul])
      have hb40 : Try.prog.bytesOf 44 = 40 := by kernel_rfl
      rw [hb40] at hk
      unfold reachBytes at hk
      omega
    have get : ∀ i, i < len → ∃ p : (Int × List Nat × Bool) × Value, W.cell? ((a.add (i * 3)).add 0) = some (.int .i64 p.1.1) ∧ W.cell? ((a.add (i * 3)).add 1) = some p.2 ∧ W.cell? ((a.add (i * 3)).add 2) = some (.bool p.1.2.2) ∧ BL (fun _ => True) W p.2 p.1.2.1 ∧ Byt p.1.2.1 ∧ p.1.2.1.length ≤ 140737488355328 := by
      intro i hi
      have he := hel i hi
      have hil : i < elems.length := by omega
      rw [List.getElem?_eq_getElem hil, Option.bind_eq_some_iff] at he
      obtain ⟨cs, hc, ht⟩ := he
      obtain ⟨_, hl2, hcell⟩ := World.cells?_some hc
      obtain ⟨fs, hu, hsz, hty, f0, f1, f2, hf0, hf1, hf2, t0, o0, t1, o1, t2, o2⟩ := uAct
      obtain ⟨xs, k, _, hy, _, hxl, hxe⟩ := DataW.trod_struct hu ht
      have q0 := hxe 0 f0 hf0
      have q1 := hxe 1 f1 hf1
      have q2 := hxe 2 f2 hf2
      rw [t0, o0, cIntC, List.getElem?_eq_getElem (show 0 < xs.length by omega)] at q0
      rw [t1, o1, cSl8, List.getElem?_eq_getElem (show 1 < xs.length by omega)] at q1
      rw [t2, o2, cBoA, List.getElem?_eq_getElem (show 2 < xs.length by omega)] at q2
      obtain ⟨x, hx0, _, _⟩ := DataW.trod_int Try.underlying3 q0
      obtain ⟨y, hx2, _⟩ := DataW.trod_bool Try.underlying4 q2
      obtain ⟨u, l, hx1, hB, hY, hL⟩ := openBE q1 (fun k2 hk2 => hs k2 (by
        rw [hd]
        simp only [DataW.weights, Try.underlying40, List.mem_cons, List.mem_append]
        refine Or.inr (Or.inl (wAll_mem (List.mem_map.2 ⟨elems[i], List.getElem_mem hil, rfl⟩) _ ?_))
        rw [hy]
        simp only [DataW.weights, hu]
        exact DataW.weights_mem_each (j := 1) (t := 22) (d := xs[1].1) (by rw [hty]; rfl) (by rw [List.getElem?_map, List.getElem?_eq_getElem (show 1 < xs.length by omega)]; rfl) _ hk2))
      have e0 : cs[0]? = some (.int .i64 x) := by
        have : ((cs.drop 0).take 1)[0]? = some (Value.int .i64 x) := by rw [hx0]; rfl
        simpa using this
      have e1 : cs[1]? = some u := by
        have : ((cs.drop 1).take 1)[0]? = some u := by rw [hx1]; rfl
        simpa using this
      have e2 : cs[2]? = some (.bool y) := by
        have : ((cs.drop 2).take 1)[0]? = some (Value.bool y) := by rw [hx2]; rfl
        simpa using this
      exact ⟨((x, l, y), u), by rw [hcell 0 (by omega), e0], by rw [hcell 1 (by omega), e1], by rw [hcell 2 (by omega), e2], hB, hY, hL⟩
    let f : Nat → (Int × List Nat × Bool) × Value := fun i => if h : i < len then (get i h).choose else ((0, [], false), .slice none 0 0)
    have hf2 : ∀ i, i < len → W.cell? ((a.add (i * 3)).add 0) = some (.int .i64 (f i).1.1) ∧ W.cell? ((a.add (i * 3)).add 1) = some (f i).2 ∧ W.cell? ((a.add (i * 3)).add 2) = some (.bool (f i).1.2.2) ∧ BL (fun _ => True) W (f i).2 (f i).1.2.1 ∧ Byt (f i).1.2.1 ∧ (f i).1.2.1.length ≤ 140737488355328 := by
      intro i hi
      have := (get i hi).choose_spec
      rw [show f i = (get i hi).choose from dif_pos hi]
      exact this
    refine ⟨(List.range len).map fun i => (f i).1, by simpa using hln, some a, cap, by simp, fun i x hx9 => ?_⟩
    have hi : i < len := by have := (List.getElem?_eq_some_iff.1 hx9).1; simpa using this
    rw [List.getElem?_map, List.getElem?_range hi] at hx9
    injection hx9 with hx9
    subst hx9
    obtain ⟨ab, ao, spot⟩ := a
    have hspot : spot = none := by simpa [Addr.add] using World.cell?_spot (hf2 0 (by omega)).1
    subst hspot
    obtain ⟨h0, h1, h2, h3, h4, h5⟩ := hf2 i hi
    rw [Addr.add_mid, Addr.add_mid] at h0 h1 h2
    exact ⟨ab, ao, (f i).2, rfl, h0, h1, h2, h3, h4, h5⟩
end Go.Proofs.Ytndhabhlajldeaa
/- A store of a container. -/
namespace Go.Proofs.Ytndhabhlajldeaa
open Go.RowKit
theorem cells5 {W : World} {b : Nat} {t : TypeId} {a0 a1 a2 a3 a4 : Value} (h : CBox W b t [a0, a1, a2, a3, a4]) : W.cell? ⟨b, 0, none⟩ = some a0 ∧ W.cell? ⟨b, 1, none⟩ = some a1 ∧ W.cell? ⟨b, 2, none⟩ = some a2 ∧ W.cell? ⟨b, 3, none⟩ = some a3 ∧ W.cell? ⟨b, 4, none⟩ = some a4 ∧ W.frozen? ⟨b, 0, none⟩ = false ∧ W.frozen? ⟨b, 1, none⟩ = false ∧ W.frozen? ⟨b, 2, none⟩ = false ∧ W.frozen? ⟨b, 3, none⟩ = false ∧ W.frozen? ⟨b, 4, none⟩ = false := ⟨h.cell 0, h.cell 1, h.cell 2, h.cell 3, h.cell 4, h.frozen 0, h.frozen 1, h.frozen 2, h.frozen 3, h.frozen 4⟩
theorem cells4 {W : World} {b : Nat} {t : TypeId} {a0 a1 a2 a3 : Value} (h : CBox W b t [a0, a1, a2, a3]) : W.cell? ⟨b, 0, none⟩ = some a0 ∧ W.cell? ⟨b, 1, none⟩ = some a1 ∧ W.cell? ⟨b, 2, none⟩ = some a2 ∧ W.cell? ⟨b, 3, none⟩ = some a3 ∧ W.frozen? ⟨b, 0, none⟩ = false ∧ W.frozen? ⟨b, 1, none⟩ = false ∧ W.frozen? ⟨b, 2, none⟩ = false ∧ W.frozen? ⟨b, 3, none⟩ = false := ⟨h.cell 0, h.cell 1, h.cell 2, h.cell 3, h.frozen 0, h.frozen 1, h.frozen 2, h.frozen 3⟩
set_option maxHeartbeats 4000000 in
/-- a container is stored into its box -/
theorem wp_store5 {w : World} {o : Oper} {a : Act} {K : Act → World → Prop} {Q : Exit → Act → World → Prop} (p x : Operand) (ho : o.op = .store 28 p x) (b : Nat) {c0 c1 c2 c3 c4 : Value} {t0 t1 t2 t3 : Option Addr} {n0 m0 n1 m1 n2 m2 n3 m3 : Nat} {z : Int} (hb : CBox w b 28 [c0, c1, c2, c3, c4]) (hp : a.eval p = .pointer (some ⟨b, 0, none⟩)) (hx : a.eval x = .agg #[.slice t0 n0 m0, .slice t1 n1 m1, .slice t2 n2 m2, .slice t3 n3 m3, .int .i64 z])
    (h0 : ∀ W', But (fun g => g = b) w W' → CBox W' b 28 [.slice t0 n0 m0, .slice t1 n1 m1, .slice t2 n2 m2, .slice t3 n3 m3, .int .i64 z] → K (a.put o.dst undef) W') : o.wp Try.prog a w K Q := by
  have h := h0 (((((w.setCell ⟨b, 0, none⟩ (.slice t0 n0 m0)).setCell ⟨b, 1, none⟩ (.slice t1 n1 m1)).setCell ⟨b, 2, none⟩ (.slice t2 n2 m2)).setCell ⟨b, 3, none⟩ (.slice t3 n3 m3)).setCell ⟨b, 4, none⟩ (.int .i64 z)) ((((((But.refl (fun g => g = b) w).setCell ⟨b, 0, none⟩ _ (Or.inl rfl)).setCell ⟨b, 1, none⟩ _ (Or.inl rfl)).setCell ⟨b, 2, none⟩ _ (Or.inl rfl)).setCell ⟨b, 3, none⟩ _ (Or.inl rfl)).setCell ⟨b, 4, none⟩ _ (Or.inl rfl)) (((((hb.set 0 _).set 1 _).set 2 _).set 3 _).set 4 _)
  obtain ⟨k0, k1, k2, k3, k4, f0, f1, f2, f3, f4⟩ := cells5 hb
  unfold Oper.wp
  simp only [execOp, ho, hp, hx]
  go_simp
  unfold Act.put at h
  exact h
set_option maxHeartbeats 4000000 in
/-- a refusal is stored into its box -/
theorem wp_store4 {w : World} {o : Oper} {a : Act} {K : Act → World → Prop} {Q : Exit → Act → World → Prop} (p x : Operand) (ho : o.op = .store 47 p x) (b : Nat) {c0 c1 c2 c3 : Value} {z0 z2 z3 : Int} {t1 : Option Addr} {n1 m1 : Nat} (hb : CBox w b 47 [c0, c1, c2, c3]) (hp : a.eval p = .pointer (some ⟨b, 0, none⟩)) (hx : a.eval x = .agg #[.int .i64 z0, .slice t1 n1 m1, .int .i64 z2, .int .i64 z3])
    (h0 : ∀ W', But (fun g => g = b) w W' → CBox W' b 47 [.int .i64 z0, .slice t1 n1 m1, .int .i64 z2, .int .i64 z3] → K (a.put o.dst undef) W') : o.wp Try.prog a w K Q := by
  have h := h0 ((((w.setCell ⟨b, 0, none⟩ (.int .i64 z0)).setCell ⟨b, 1, none⟩ (.slice t1 n1 m1)).setCell ⟨b, 2, none⟩ (.int .i64 z2)).setCell ⟨b, 3, none⟩ (.int .i64 z3)) (((((But.refl (fun g => g = b) w).setCell ⟨b, 0, none⟩ _ (Or.inl rfl)).setCell ⟨b, 1, none⟩ _ (Or.inl rfl)).setCell ⟨b, 2, none⟩ _ (Or.inl rfl)).setCell ⟨b, 3, none⟩ _ (Or.inl rfl)) ((((hb.set 0 _).set 1 _).set 2 _).set 3 _)
  obtain ⟨k0, k1, k2, k3, f0, f1, f2, f3⟩ := cells4 hb
  unfold Oper.wp
  simp only [execOp, ho, hp, hx]
  go_simp
  unfold Act.put at h
  exact h
/-- a literal list of one container -/
theorem wp_lit5 {w : World} {o : Oper} {a : Act} {K : Act → World → Prop} {Q : Exit → Act → World → Prop} (q : Nat) (ho : o.op = .buildSlice 42 1 #[(0, .tmp q)]) {t0 t1 t2 t3 : Option Addr} {n0 m0 n1 m1 n2 m2 n3 m3 : Nat} {z : Int} (hx : a.eval (.tmp q) = .agg #[.slice t0 n0 m0, .slice t1 n1 m1, .slice t2 n2 m2, .slice t3 n3 m3, .int .i64 z])
    (h0 : ∀ W', Below w.heap.size w W' → CBox W' w.heap.size 28 [.slice t0 n0 m0, .slice t1 n1 m1, .slice t2 n2 m2, .slice t3 n3 m3, .int .i64 z] → K (a.put o.dst (.slice (some ⟨w.heap.size, 0, none⟩) 1 1)) W') : o.wp Try.prog a w K Q := by
  have h := h0 (w.alloc (.cells #[.slice t0 n0 m0, .slice t1 n1 m1, .slice t2 n2 m2, .slice t3 n3 m3, .int .i64 z] 28)) (below_alloc _ _) (CBox.new w _ [.slice t0 n0 m0, .slice t1 n1 m1, .slice t2 n2 m2, .slice t3 n3 m3, .int .i64 z])
  have hx' : a.tmps[q]?.getD undef = .agg #[.slice t0 n0 m0, .slice t1 n1 m1, .slice t2 n2 m2, .slice t3 n3 m3, .int .i64 z] := by rw [← hx]; go_simp
  unfold Oper.wp
  simp only [execOp, ho]
  go_simp
  unfold Act.put at h
  exact h
theorem wp_newC {w : World} {o : Oper} {a : Act} {K : Act → World → Prop} {Q : Exit → Act → World → Prop} (ho : o.op = .alloc 28)
    (h0 : ∀ W', Below w.heap.size w W' → CBox W' w.heap.size 28 [.slice none 0 0, .slice none 0 0, .slice none 0 0, .slice none 0 0, .int .i64 0] → K (a.put o.dst (.pointer (some ⟨w.heap.size, 0, none⟩))) W') : o.wp Try.prog a w K Q := by
  have h := h0 (w.alloc (.cells #[.slice none 0 0, .slice none 0 0, .slice none 0 0, .slice none 0 0, .int .i64 0] 28)) (below_alloc _ _) (CBox.new w _ [.slice none 0 0, .slice none 0 0, .slice none 0 0, .slice none 0 0, .int .i64 0])
  unfold Oper.wp
  simp only [execOp, ho]
  go_simp
  unfold Act.put at h
  exact h
theorem wp_newR {w : World} {o : Oper} {a : Act} {K : Act → World → Prop} {Q : Exit → Act → World → Prop} (ho : o.op = .alloc 47)
    (h0 : ∀ W', Below w.heap.size w W' → CBox W' w.heap.size 47 [.int .i64 0, .slice none 0 0, .int .i64 0, .int .i64 0] → K (a.put o.dst (.pointer (some ⟨w.heap.size, 0, none⟩))) W') : o.wp Try.prog a w K Q := by
  have h := h0 (w.alloc (.cells #[.int .i64 0, .slice none 0 0, .int .i64 0, .int .i64 0] 47)) (below_alloc _ _) (CBox.new w _ [.int .i64 0, .slice none 0 0, .int .i64 0, .int .i64 0])
  unfold Oper.wp
  simp only [execOp, ho]
  go_simp
  unfold Act.put at h
  exact h
end Go.Proofs.Ytndhabhlajldeaa
