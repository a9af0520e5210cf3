/- What both Parses answer, in one form; bytes of one's own that are written over. -/
import Derived.Test.YtndhabhlajldeaaMy5
namespace Go.Proofs.Ytndhabhlajldeaa
open Go.RowKit
/-- the container that is told, the refusal that is told -/
def conOf : Except Er Con → Con
  | .ok c => c
  | .error _ => con0
def rjOf : Except Er Con → Int × Int
  | .ok _ => (0, 0)
  | .error (c, a) => (c, a)
theorem prs_fits {b : List Nat} (hb : Byt b) {opn : Bool} {c : Con} (g : prs b opn = .ok c) : c.ts.length ≤ 1024 ∧ c.cs.length ≤ 1024 ∧ c.ss.length ≤ 256 ∧ c.d.length ≤ 65535 ∧ (∀ x ∈ c.cs, x.length ≤ 65535) ∧ ∀ x ∈ c.ss, x.length ≤ 4294967295 := by
  have M := (prs_ok hb g).1
  have h1 := M.z1
  have h2 := M.z2
  exact ⟨by rw [M.nt]; exact M.n2, M.n2, M.ns, by omega, fun x hx => (chkP_ok _ _ M.pc x hx).2, fun x hx => (chkP_ok _ _ M.ps x hx).2⟩
theorem cw_form {P : Nat → Prop} {W : World} {v : Value} {c : Con} (h : CW P W v c) : ∃ ta tc ca cc sa sc da dc, v = .agg #[.slice ta c.ts.length tc, .slice ca c.cs.length cc, .slice sa c.ss.length sc, .slice da c.d.length dc, .int .i64 c.n] := by
  obtain ⟨tv, cv, sv, dv, rfl, h1, h2, h3, h4⟩ := h
  obtain ⟨ta, tc, rfl, _⟩ := h1.len
  obtain ⟨ca, cc, rfl, _⟩ := h2.len
  obtain ⟨sa, sc, rfl, _⟩ := h3.len
  obtain ⟨da, dc, rfl, _⟩ := h4.len
  exact ⟨ta, tc, ca, cc, sa, sc, da, dc, rfl⟩
/-- an answer, in one form -/
def Ans (B : Nat) (c : Con) (x y : Int) (e : Ending) (w' : World) : Prop := ∃ ta tc ca cc sa sc da dc, e = .returned (.tuple #[.agg #[.slice ta c.ts.length tc, .slice ca c.cs.length cc, .slice sa c.ss.length sc, .slice da c.d.length dc, .int .i64 c.n], .agg #[.int .i64 x, .slice none 0 0, .int .i64 0, .int .i64 y]]) ∧ CW (fun g => B ≤ g) w' (.agg #[.slice ta c.ts.length tc, .slice ca c.cs.length cc, .slice sa c.ss.length sc, .slice da c.d.length dc, .int .i64 c.n]) c
theorem PrD.ans {B : Nat} {r : Except Er Con} {e : Ending} {w' : World} (h : PrD B r e w') : Ans B (conOf r) (rjOf r).1 (rjOf r).2 e w' := by
  cases r with
  | ok c =>
    obtain ⟨v, e9, hw⟩ := h
    obtain ⟨ta, tc, ca, cc, sa, sc, da, dc, rfl⟩ := cw_form hw
    exact ⟨ta, tc, ca, cc, sa, sc, da, dc, e9, hw⟩
  | error er =>
    obtain ⟨ec, ea⟩ := er
    exact ⟨none, 0, none, 0, none, 0, none, 0, h, CW.zero _ _⟩
theorem PrA.ans {B : Nat} {b : List Nat} (hb : Byt b) {opn : Bool} {e : Ending} {w' : World} (h : PrA B (prs b opn) e w') : Ans B (conOf (prs b opn)) (rjOf (prs b opn)).1 (rjOf (prs b opn)).2 e w' := by
  refine PrD.ans ?_
  cases hr : prs b opn with
  | ok c =>
    rw [hr] at h
    obtain ⟨v, e9, hco⟩ := h
    obtain ⟨f1, f2, f3, f4, f5, f6⟩ := prs_fits hb hr
    exact ⟨v, e9, hco.cw (by omega) (by omega) (by omega) (by omega) (fun x hx => Nat.le_trans (f5 x hx) (by omega)) (fun x hx => Nat.le_trans (f6 x hx) (by omega))⟩
  | error er =>
    rw [hr] at h
    obtain ⟨ec, ea⟩ := er
    exact h
theorem parse_ans {P : Nat → Prop} (w : World) (v : Value) (b : List Nat) (opn : Bool) (h : BL P w v b) (hb : Byt b) (hl : b.length ≤ 16777216) :
    Calls Try.prog 31 #[v, .bool opn] w fun e w' => Ans w.heap.size (conOf (prs b opn)) (rjOf (prs b opn)).1 (rjOf (prs b opn)).2 e w' ∧ Below w.heap.size w w' :=
  (parse_is w v b opn h hb hl).mono fun _ _ q => ⟨PrA.ans hb q.1, q.2⟩
end Go.Proofs.Ytndhabhlajldeaa
/- The laws' twin: a container with lists of its own. -/
namespace Go.Proofs.Ytndhabhlajldeaa
open Go.RowKit
theorem tV_one (l : List Ty) : ∀ u ∈ tV l, u.oneCell' = true := fun u hu => by
  obtain ⟨p, _, hp⟩ := List.mem_flatMap.1 hu
  simp at hp
  rcases hp with rfl | rfl | rfl <;> rfl
/-- append(v, u...) of types -/
theorem wp_appTs {P : Nat → Prop} {w : World} {o : Oper} {a : Act} {K : Act → World → Prop} {Q : Exit → Act → World → Prop} (s x : Operand)
    (ho : o.op = .call { callee := .builtin .append, args := #[s, x], argTypes := #[25, 25] }) (B : Nat) (hB : B ≤ w.heap.size) (v : Value) (l : List Ty) (hs : a.eval s = v) (hown : w.ownsRow B 77 3 v l.length (tV l))
    (u : Value) (m : List Ty) (hx : a.eval x = u) (hu : TL P w u m) (hn : l.length + m.length ≤ 2199023255552)
    (h : ∀ v' w', App B 77 3 w w' v v' (l ++ m).length (tV (l ++ m)) → K (a.put o.dst v') w') : o.wp Try.prog a w K Q := by
  obtain ⟨ad, cap, rfl⟩ := owns_sl hown
  obtain ⟨_, ad2, cap2, rfl, h0, h1, hz, h2⟩ := hu
  cases ad2 with
  | none =>
    have e0 : cap2 = 0 := hz rfl
    have e1 : m.length = 0 := by omega
    obtain rfl := List.eq_nil_of_length_eq_zero e1
    subst e0
    have hrun := run_append_owned_none (P := Try.prog) (w := w) B 25 o.type 77 (info_parts Try.infoT).choose 3 Try.underlying25 (info_parts Try.infoT).choose_spec.1 _ _ _ hown
    unfold Oper.wp
    simp [execOp, ho, resolve, invoke, builtin, hs, hx, hrun, Result.andThen]
    refine h _ _ ?_
    rw [List.append_nil]
    exact App.refl hown
  | some a2 =>
    refine wp_apps s x 25 77 ho (.agg #[.int .i64 0, .int .i64 0, .int .i64 0]) 3 24 Try.underlying25 Try.infoT rfl (by omega) (by omega) B hB ad l.length cap (tV l) hs hown a2 m.length cap2 (tV m) hx (tV_len m) (fun j c hj => ?_) (tV_one m) hn (fun ad' cap' w' q1 q2 q3 => h _ _ ⟨?_, ?_, fun k hk => ?_⟩)
    · have hm : 0 < m.length := by have := (List.getElem?_eq_some_iff.1 hj).1; rw [tV_len] at this; omega
      obtain ⟨g, b, e, _, _, h3⟩ := h2 hm
      injection e with e
      subst e
      rw [Addr.add_mid]
      exact h3 j c hj
    · rw [List.length_append, tV_app]; exact q1
    · exact q2.mono fun k hk => own_iff.1 hk
    · rcases q3.own (own_iff.2 hk) with e | e
      · exact Or.inl (own_iff.1 e)
      · exact Or.inr e
/-- a container in lists of its own, those of sections and of nested containers in unlike blocks -/
def DO (B : Nat) (W : World) (v : Value) (c : Con) : Prop := ∃ ta tc ca cc sa sc da dc, v = .agg #[.slice ta c.ts.length tc, .slice ca c.cs.length cc, .slice sa c.ss.length sc, .slice da c.d.length dc, .int .i64 c.n] ∧ W.ownsRow B 77 3 (.slice ta c.ts.length tc) c.ts.length (tV c.ts) ∧ PO B W (.slice ca c.cs.length cc) c.cs ∧ PO B W (.slice sa c.ss.length sc) c.ss ∧ W.ownsRow B 5 1 (.slice da c.d.length dc) c.d.length (bV c.d) ∧ ∀ g, OwnV (.slice sa c.ss.length sc) g → ¬ OwnV (.slice ca c.cs.length cc) g
theorem flat_each {ll : List (List Nat)} {n : Nat} (h : ll.flatten.length ≤ n) : ∀ x ∈ ll, x.length ≤ n := fun _ hx => Nat.le_trans (List.sublist_flatten_of_mem hx).length_le h
theorem DO.cw {B : Nat} {W : World} {v : Value} {c : Con} (h : DO B W v c) (hs : Small c) : CW (fun g => B ≤ g) W v c := by
  obtain ⟨ta, tc, ca, cc, sa, sc, da, dc, rfl, k1, k2, k3, k4, _⟩ := h
  unfold Small at hs
  exact ⟨_, _, _, _, rfl, SL.own k1 (by omega) fun g hg => (k1.lt g hg).1, k2.pl (by omega) (flat_each (by omega)), k3.pl (by omega) (flat_each (by omega)), SL.own k4 (by omega) fun g hg => (k4.lt g hg).1⟩
theorem DO.past {B : Nat} {W W' : World} {v : Value} {c : Con} (h : DO B W v c) (k : Below W.heap.size W W') : DO B W' v c := by
  obtain ⟨ta, tc, ca, cc, sa, sc, da, dc, e, k1, k2, k3, k4, k5⟩ := h
  exact ⟨ta, tc, ca, cc, sa, sc, da, dc, e, owns_past k1 k, k2.past k, k3.past k, owns_past k4 k, k5⟩
theorem PO.lt {B : Nat} {W : World} {v : Value} {ll : List (List Nat)} (h : PO B W v ll) : ∀ g, OwnV v g → B ≤ g ∧ g < W.heap.size := by
  obtain ⟨us, _, h2, _⟩ := h
  exact fun g hg => h2.lt g hg
theorem row_alienT {B q n : Nat} {W W' : World} {v : Value} {cs : List Value} (h : W.ownsRow B 77 3 v n cs) (k : But (fun y => y = q) W W') (a : Alien W q) : W'.ownsRow B 77 3 v n cs := owns_row_blockB h fun g hg => k.block g (h.lt g hg).2 fun e => by
  obtain ⟨t, m, c, n1, _, _⟩ := a
  exact own_box h c (Ne.symm n1) hg e
theorem PO.alien {B q : Nat} {W W' : World} {v : Value} {ll : List (List Nat)} (h : PO B W v ll) (k : But (fun y => y = q) W W') (a : Alien W q) : PO B W' v ll := by
  obtain ⟨us, h1, h2, h3⟩ := h
  obtain ⟨t, m, c, _, n2, n3⟩ := a
  exact ⟨us, h1, owns_row_blockB h2 fun g hg => k.block g (h2.lt g hg).2 fun e => own_box h2 c (Ne.symm n2) hg e, h3.butT k c n3⟩
/-- the lists of a container -/
structure SrC (P : Nat → Prop) (W : World) (tv cv sv dv : Value) (c : Con) : Prop where
  t : TL P W tv c.ts
  p : PL P W cv c.cs
  s : PL P W sv c.ss
  d : BL P W dv c.d
theorem SrC.past {P : Nat → Prop} {W W' : World} {tv cv sv dv : Value} {c : Con} (h : SrC P W tv cv sv dv c) (k : Below W.heap.size W W') : SrC P W' tv cv sv dv c := ⟨h.t.past k, h.p.past k, h.s.past k, h.d.past k⟩
end Go.Proofs.Ytndhabhlajldeaa
/- The laws' weight: how many bytes, types and lists a container has. -/
namespace Go.Proofs.Ytndhabhlajldeaa
open Go.RowKit
def fourOf (c : Con) : Nat := c.ts.length + c.cs.length + c.ss.length + c.d.length
def total (c : Con) : Nat := fourOf c + c.cs.flatten.length + c.ss.flatten.length
theorem total_small {c : Con} (h : total c ≤ 2097152) : Small c := by
  unfold total fourOf at h
  unfold Small
  omega
end Go.Proofs.Ytndhabhlajldeaa
/- vouchtop's helpers: row, same, rows, big. -/
namespace Go.Proofs.Ytndhabhlajldeaa
open Go.RowKit
theorem owns_take {W : World} {B s n cap m : Nat} {t : TypeId} {a : Option Addr} {xs : List Value} (h : W.ownsRow B t s (.slice a n cap) n xs) (hm : m ≤ n) (ha : 0 < n) : W.ownsRow B t s (.slice a m cap) m (xs.take (m * s)) := by
  have hle : m * s ≤ n * s := Nat.mul_le_mul_right s hm
  refine ⟨by rw [List.length_take, h.1]; omega, ?_⟩
  rcases h.2 with ⟨_, e⟩ | ⟨g, c, cur, e, h1, h2, h3, h4, h5, h6⟩
  · omega
  · injection e with e1 e2 e3
    subst e1 e3
    refine Or.inr ⟨g, cap, cur, rfl, h1, h2, by omega, h4, h5, ?_⟩
    rw [← h6, List.take_take, Nat.min_eq_left hle]
theorem slice_to8 (a : Addr) (n cap j : Nat) (hj : j ≤ cap) (W : World) : Sem.run Try.prog (Instr.slice 22 (.slice (some a) n cap) none (some (.int .i64 (j : Int))) none) W = .ok (.slice (some a) j cap) W := by
  obtain ⟨g, k, p⟩ := a
  simp [Instr.slice, Instr.sliceBounds, run_underlying Try.underlying22, run_sliceBound W .i64 (j : Int) cap _ (by omega) (by omega), Addr.add]
theorem own_addr {W : World} {B n : Nat} {ad : Option Addr} {cap : Nat} {cs : List Value} {t : TypeId} {s : Nat} (h : W.ownsRow B t s (.slice ad n cap) n cs) (h0 : 0 < n) : ∃ a, ad = some a ∧ n ≤ cap := by
  rcases h.2 with ⟨_, e⟩ | ⟨g, c, cur, e, h1, h2, h3, h4, h5, h6⟩
  · omega
  · injection e with e1 e2 e3
    subst e1 e3
    exact ⟨_, rfl, h3⟩
set_option maxHeartbeats 8000000 in
set_option maxRecDepth 100000 in
theorem row_is {P : Nat → Prop} (w : World) (v : Value) (x : List Nat) (h : BL P w v x) (hn : x.length ≤ 16777216) : Calls Try.prog 47 #[v] w fun e w' => ∃ v', e = .returned v' ∧ w'.ownsRow w.heap.size 5 1 v' x.length (bV x) ∧ Below w.heap.size w w' := by
  obtain ⟨ad, cap, rfl, _, _⟩ := h.len
  have HB : Hid (∀ W, Below w.heap.size w W → BL P W (.slice ad x.length cap) x) := fun W hW => h.past hW
  have HLN : Hid (x.length ≤ 16777216) := hn
  clear h hn
  have b0 := below_alloc w (.cells #[] 5)
  have R0 : Hid ((w.alloc (.cells #[] 5)).ownsRow w.heap.size 5 1 (.slice (some ⟨w.heap.size, 0, none⟩) 0 0) ([] : List Nat).length (bV []) ∧ Below w.heap.size w (w.alloc (.cells #[] 5)) ∧ w.heap.size ≤ (w.alloc (.cells #[] 5)).heap.size) := ⟨World.ownsRow_lit w #[] 0 (Nat.le_refl _) (by unfold maxLen; omega) rfl, b0, b0.size⟩
  clear b0
  generalize hnx : x.length = nx at *
  have HNX : Hid (x.length = nx) := hnx
  clear hnx
  go_enter Try.func47, Try.ntmps47
  go_wp2_with (at_builtin; first
    | (refine wpList_appB rfl _ _ rfl w.heap.size R0.out.2.2 (.slice (some ⟨w.heap.size, 0, none⟩) 0 0) [] rfl R0.out.1 (.slice ad nx cap) x rfl (HB.out _ R0.out.2.1) (by rw [HNX.out]; have := HLN.out; simp only [List.length_nil]; omega) ?_
       intro v1 w1 hA
       have RA : w1.ownsRow w.heap.size 5 1 v1 x.length (bV x) := hA.row
       have RB : Below w.heap.size w w1 := R0.out.2.1.trans (hA.but.below (fun g hg => (World.ownsRow.lt R0.out.1 g hg).1) R0.out.2.2)
       obtain ⟨oa, oc, rfl⟩ := owns_sl RA
       rw [HNX.out] at RA
       have b1 := below_alloc w1 (.cells #[.int .u8 171, .int .u8 172] 5)
       have R1 : Hid ((w1.alloc (.cells #[.int .u8 171, .int .u8 172] 5)).ownsRow w.heap.size 5 1 (.slice oa nx oc) nx (bV x) ∧ Below w.heap.size w (w1.alloc (.cells #[.int .u8 171, .int .u8 172] 5)) ∧ BL (fun _ => True) (w1.alloc (.cells #[.int .u8 171, .int .u8 172] 5)) (.slice (some ⟨w1.heap.size, 0, none⟩) 2 2) [171, 172]) := ⟨owns_past RA b1, RB.trans (b1.mono RB.size), (BL.new w1 [171, 172] (by decide)).mono fun _ _ _ => trivial⟩
       (rw [HNX.out])
       clear RA RB b1 hA R0)
    | (refine wpList_appB rfl _ _ rfl w.heap.size R1.out.2.1.size (.slice oa nx oc) x rfl (by rw [HNX.out]; exact R1.out.1) (.slice (some ⟨w1.heap.size, 0, none⟩) 2 2) [171, 172] rfl R1.out.2.2 (by rw [HNX.out]; have := HLN.out; simp only [List.length_cons, List.length_nil]; omega) ?_
       intro v2 w2 hA
       have RA : w2.ownsRow w.heap.size 5 1 v2 (x ++ [171, 172]).length (bV (x ++ [171, 172])) := hA.row
       have RB : Below w.heap.size w w2 := R1.out.2.1.trans (hA.but.below (fun g hg => (World.ownsRow.lt R1.out.1 g hg).1) R1.out.2.1.size)
       have eL : (x ++ [171, 172]).length = nx + 2 := by rw [List.length_append, HNX.out]; rfl
       obtain ⟨pa, pc, rfl⟩ := owns_sl RA
       rw [eL] at RA
       obtain ⟨p, rfl, hpc⟩ := own_addr RA (by omega)
       have RT := owns_take RA (m := nx) (by omega) (by omega)
       have eT : (bV (x ++ [171, 172])).take (nx * 1) = bV x := by rw [Nat.mul_one, bV_app, List.take_append_of_le_length (by rw [bV_len, HNX.out]; exact Nat.le_refl _), List.take_of_length_le (by rw [bV_len, HNX.out]; exact Nat.le_refl _)]
       rw [eT] at RT
       have R2 : Hid (w2.ownsRow w.heap.size 5 1 (.slice (some p) nx pc) nx (bV x) ∧ Below w.heap.size w w2) := ⟨RT, RB⟩
       have hsl : ∀ W, Sem.run Try.prog (Instr.slice 22 (.slice (some p) (nx + 2) pc) none (some (.int .i64 (nx : Int))) none) W = .ok (.slice (some p) nx pc) W := fun W => slice_to8 p (nx + 2) pc nx (by omega) W
       (rw [eL])
       clear RA RB RT eL eT hA R1 hpc))
  go_ret
  exact ⟨_, rfl, R2.out.1, R2.out.2⟩
set_option maxHeartbeats 4000000 in
set_option maxRecDepth 100000 in
theorem topsame_is {P R : Nat → Prop} (w : World) (v u : Value) (x y : List Nat) (h : BL P w v x) (k : BL R w u y) : Calls Try.prog 50 #[v, u] w fun e w' => e = .returned (.bool (decide (x = y))) ∧ Below w.heap.size w w' := by
  obtain ⟨ad, cap, rfl, _, hx⟩ := h.len
  obtain ⟨bd, bp, rfl, _, hy⟩ := k.len
  have HX : Hid (∀ W, Below w.heap.size w W → BL P W (.slice ad x.length cap) x) := fun W hW => h.past hW
  have HY' : Hid (∀ W, Below w.heap.size w W → BL R W (.slice bd y.length bp) y) := fun W hW => k.past hW
  have nI : (x.length : Int) ≤ 1152921504606846976 := by omega
  clear h k
  by_cases e : x.length = y.length
  rotate_left
  · have ne : decide (x = y) = false := by simp only [decide_eq_false_iff_not]; exact fun q => e (by rw [q])
    rw [ne]
    generalize x.length = n at *
    generalize y.length = m at *
    have eI : ¬ (n : Int) = (m : Int) := by omega
    go_enter Try.func50, Try.ntmps50
    go_wp2
    go_ret
    exact ⟨rfl, Below.refl _ _⟩
  rw [← e] at HY' ⊢
  have HE : Hid (y.length = x.length) := e.symm
  clear e
  generalize hN : x.length = n at *
  have HN : Hid (x.length = n) := hN
  clear hN
  go_enter Try.func50, Try.ntmps50
  go_wp2
  go_loopw [5] (fun s5 wr => ∃ k : Nat, s5 = .int .i64 (k : Int) ∧ k ≤ n ∧ x.take k = y.take k ∧ Below w.heap.size w wr) (fun s5 _ => n - (intOf s5).toNat)
  case atStart => exact ⟨0, rfl, by omega, rfl, Below.refl _ _⟩
  case round =>
    obtain ⟨k, rfl, hk, ht, hw⟩ := hrel
    have HW : Hid (Below w.heap.size w wr) := hw
    clear hw
    have HT : Hid (x.take k = y.take k) := ht
    clear ht
    by_cases e : k = n
    · have e9 := e.symm
      clear e
      subst e9
      have E0 : Hid (decide (x = y) = true) := by
        unfold Hid
        have h9 := HT.out
        rw [List.take_of_length_le (by have := HN.out; omega), List.take_of_length_le (by have := HN.out; have := HE.out; omega)] at h9
        simp [h9]
      go_wp2
      go_ret
      exact ⟨by rw [E0.out] <;> rfl, HW.out⟩
    · have kn : (k : Int) < (n : Int) := by omega
      obtain ⟨p, hp⟩ : ∃ p, x[k]? = some p := ⟨x[k]'(by have := HN.out; omega), List.getElem?_eq_getElem _⟩
      obtain ⟨q, hq⟩ : ∃ q, y[k]? = some q := ⟨y[k]'(by have := HN.out; have := HE.out; omega), List.getElem?_eq_getElem _⟩
      obtain ⟨g1, a1, e1, c1⟩ := (HX.out wr HW.out).get hp
      obtain ⟨g2, a2, e2, c2⟩ := (HY'.out wr HW.out).get hq
      subst e1 e2
      by_cases e3 : p = q
      · have HS : Hid (x.take (k + 1) = y.take (k + 1)) := by unfold Hid; rw [take_snoc hp, take_snoc hq, HT.out, e3]
        subst e3
        clear hp hq e
        go_upto_region 6 with fail
        go_quiet (fail)
        go_wp2
        go_roundw
        case rel => exact ⟨k + 1, by first | rfl | go_num, by omega, HS.out, below_dn HW.out _⟩
        case measure => simp [intOf]; omega
      · have E0 : Hid (decide (x = y) = false) := by
          unfold Hid
          simp only [decide_eq_false_iff_not]
          intro q9
          rw [q9, hq] at hp
          exact e3 (Option.some.inj hp).symm
        have pq : ¬ (p : Int) = (q : Int) := by omega
        clear hp hq e
        go_upto_region 6 with fail
        go_quiet (fail)
        go_wp2
        go_ret
        exact ⟨by rw [E0.out] <;> rfl, below_dn HW.out _⟩
theorem topsameB_is {P R : Nat → Prop} (w : World) (v u : Value) (x : List Nat) (h : BL P w v x) (k : BL R w u x) : Calls Try.prog 50 #[v, u] w fun e w' => e = .returned (.bool true) ∧ Below w.heap.size w w' := by
  have := topsame_is w v u x x h k
  rwa [show decide (x = x) = true from by simp] at this
set_option maxHeartbeats 4000000 in
set_option maxRecDepth 100000 in
theorem toprows_is {P R : Nat → Prop} (w : World) (v u : Value) (ll : List (List Nat)) (h : PL P w v ll) (k : PL R w u ll) : Calls Try.prog 86 #[v, u] w fun e w' => e = .returned (.bool true) ∧ Below w.heap.size w w' := by
  obtain ⟨ad, cap, rfl, _, hl⟩ := h.len
  obtain ⟨bd, cbp, rfl, _, _⟩ := k.len
  have HX : Hid (∀ W, Below w.heap.size w W → PL P W (.slice ad ll.length cap) ll) := fun W hW => h.past hW
  have HY : Hid (∀ W, Below w.heap.size w W → PL R W (.slice bd ll.length cbp) ll) := fun W hW => k.past hW
  have nI : (ll.length : Int) ≤ 1152921504606846976 := by omega
  generalize hn : ll.length = n at *
  have HN : Hid (ll.length = n) := hn
  clear h k hl hn
  generalize hbw : w.heap.size = bw at *
  have GE : Hid (bw ≤ w.heap.size) := by unfold Hid; omega
  clear hbw
  have B00 : Hid (Below bw w w) := Below.refl _ _
  go_enter Try.func86, Try.ntmps86
  go_wp2
  go_loopw [5] (fun s5 wr => ∃ k : Nat, s5 = .int .i64 (k : Int) ∧ k ≤ n ∧ Below bw w wr) (fun s5 _ => n - (intOf s5).toNat)
  case atStart => exact ⟨0, rfl, by omega, B00.out⟩
  case round =>
    obtain ⟨k, rfl, hk, hB⟩ := hrel
    have B : Hid (Below bw w wr) := hB
    clear hB B00
    by_cases e : k = n
    · subst e
      go_wp2
      go_ret
      exact ⟨rfl, B.out⟩
    · have kn : (k : Int) < (n : Int) := by omega
      obtain ⟨x, hx⟩ : ∃ x, ll[k]? = some x := ⟨ll[k]'(by have := HN.out; omega), List.getElem?_eq_getElem _⟩
      obtain ⟨g1, a1, y1, rfl, c1, b1⟩ := (HX.out wr B.out).get hx
      obtain ⟨g2, a2, y2, rfl, c2, b2⟩ := (HY.out wr B.out).get hx
      obtain ⟨ua, uc, rfl, _, _⟩ := b1.len
      obtain ⟨va, vc, rfl, _, _⟩ := b2.len
      have SB : Hid (∀ W, Below wr.heap.size wr W → Calls Try.prog 50 #[.slice ua x.length uc, .slice va x.length vc] W fun e w' => e = .returned (.bool true) ∧ Below W.heap.size W w') := fun W hW => by
        have := topsame_is W _ _ x x (b1.past hW) (b2.past hW)
        rwa [show decide (x = x) = true from by simp] at this
      clear e b1 b2 hx
      go_upto_region 6 with fail
      refine wp_region_held_drew (S := fun V' => V'.cell? ⟨g1, a1 + k, none⟩ = some (.slice ua x.length uc) ∧ V'.cell? ⟨g2, a2 + k, none⟩ = some (.slice va x.length vc)) (by kernel_rfl) ⟨c1, c2⟩ (fun hHeld => ?_)
      have B0 : Hid (Below bw w wr.drew ∧ Below wr.heap.size wr wr.drew) := ⟨B.out.drew, below_drew⟩
      generalize wr.drew = z0 at hHeld B0 ⊢
      refine wpAnyH_take (i := 0) (v := .slice (some ⟨g1, a1, none⟩) n cap) ov0 (by kernel_rfl) (by kernel_rfl) (by kernel_rfl) (fun _ _ _ h => h) (Or.inl ⟨by rfl, fun V' hS => ?_⟩) hHeld ?_
      · go_simp
      simp only [Act.put, List.setIfInBounds_toArray, List.set_cons_zero, List.set_cons_succ]
      refine wpAnyH_take (i := 1) (v := .int .i64 (k : Int)) ov1 (by kernel_rfl) (by kernel_rfl) (by kernel_rfl) (fun _ _ _ h => h) (Or.inl ⟨by rfl, fun V' hS => ?_⟩) hHeld ?_
      · go_simp
      simp only [Act.put, List.setIfInBounds_toArray, List.set_cons_zero, List.set_cons_succ]
      refine wpAnyH_take (i := 2) (v := .pointer (some ⟨g1, a1 + k, none⟩)) ov2 (by kernel_rfl) (by kernel_rfl) (by kernel_rfl) (fun _ _ _ h => h) (Or.inl ⟨by rfl, fun V' hS => ?_⟩) hHeld ?_
      · go_simp
      simp only [Act.put, List.setIfInBounds_toArray, List.set_cons_zero, List.set_cons_succ]
      refine wpAnyH_take (i := 3) (v := .slice ua x.length uc) ov3 (by kernel_rfl) (by kernel_rfl) (by kernel_rfl) (fun _ _ _ h => h) (Or.inl ⟨by rfl, fun V' hS => ?_⟩) hHeld ?_
      · have c0 := hS.1
        go_simp
      simp only [Act.put, List.setIfInBounds_toArray, List.set_cons_zero, List.set_cons_succ]
      refine wpAnyH_take (i := 4) (v := .slice (some ⟨g2, a2, none⟩) n cbp) ov4 (by kernel_rfl) (by kernel_rfl) (by kernel_rfl) (fun _ _ _ h => h) (Or.inl ⟨by rfl, fun V' hS => ?_⟩) hHeld ?_
      · go_simp
      simp only [Act.put, List.setIfInBounds_toArray, List.set_cons_zero, List.set_cons_succ]
      refine wpAnyH_take (i := 5) (v := .int .i64 (k : Int)) ov5 (by kernel_rfl) (by kernel_rfl) (by kernel_rfl) (fun _ _ _ h => h) (Or.inl ⟨by rfl, fun V' hS => ?_⟩) hHeld ?_
      · go_simp
      simp only [Act.put, List.setIfInBounds_toArray, List.set_cons_zero, List.set_cons_succ]
      refine wpAnyH_take (i := 6) (v := .pointer (some ⟨g2, a2 + k, none⟩)) ov6 (by kernel_rfl) (by kernel_rfl) (by kernel_rfl) (fun _ _ _ h => h) (Or.inl ⟨by rfl, fun V' hS => ?_⟩) hHeld ?_
      · go_simp
      simp only [Act.put, List.setIfInBounds_toArray, List.set_cons_zero, List.set_cons_succ]
      refine wpAnyH_take (i := 7) (v := .slice va x.length vc) ov7 (by kernel_rfl) (by kernel_rfl) (by kernel_rfl) (fun _ _ _ h => h) (Or.inl ⟨by rfl, fun V' hS => ?_⟩) hHeld ?_
      · have c0 := hS.2
        go_simp
      simp only [Act.put, List.setIfInBounds_toArray, List.set_cons_zero, List.set_cons_succ]
      refine wpAnyH_ready (rs := [8]) (by kernel_rfl) (by simp) ?_
      refine AllReadyH.cons ov8 (fun K hK => ?_) AllReadyH.nil
      rw [if_pos (by rfl)]
      go_simp
      refine (SB.out _ B0.out.2).mono ?_
      rintro e z1 ⟨rfl, hB1⟩
      have B1 : Hid (Below bw w z1) := B0.out.1.trans (hB1.mono (Nat.le_trans GE.out B0.out.1.size))
      have H1 := And.intro ((hB1.cell (p := ⟨g1, a1 + k, none⟩) (World.block_lt_of_cell? _ _ hHeld.1)).trans hHeld.1) ((hB1.cell (p := ⟨g2, a2 + k, none⟩) (World.block_lt_of_cell? _ _ hHeld.2)).trans hHeld.2)
      clear hB1
      (try go_wp2_with fail)
      refine hK.out _ _ H1 (fun _ => ?_)
      clear hK K
      (try simp only [Act.put, List.setIfInBounds_toArray, List.set_cons_zero, List.set_cons_succ])
      refine wpAnyH_take (i := 9) (v := .bool false) ov9 (by kernel_rfl) (by kernel_rfl) (by kernel_rfl) (fun _ _ _ h => h) (Or.inl ⟨by rfl, fun V' hS => ?_⟩) H1 ?_
      · go_simp
      simp only [Act.put, List.setIfInBounds_toArray, List.set_cons_zero, List.set_cons_succ]
      refine wpAnyH_done (by kernel_rfl) ?_ _
      clear hHeld H1 B0 B SB
      go_wp2
      go_roundw
      case rel => exact ⟨k + 1, by first | rfl | go_num, by omega, B1.out⟩
      case measure => simp [intOf]; omega
set_option maxHeartbeats 8000000 in
set_option maxRecDepth 100000 in
theorem big_is {P : Nat → Prop} (w : World) (v : Value) (c : Con) (h : CW P w v c) : Calls Try.prog 51 #[v] w fun e w' => (∃ n : Nat, e = .returned (.int .i64 (n : Int)) ∧ (n ≤ 200000 → total c = n)) ∧ Below w.heap.size w w' := by
  obtain ⟨tv, cv, sv, dv, rfl, h1, h2, h3, h4⟩ := h
  obtain ⟨ta, tc, rfl, _, l1⟩ := h1.len
  obtain ⟨ca, cc, rfl, _, l2⟩ := h2.len
  obtain ⟨sa, sc, rfl, _, l3⟩ := h3.len
  obtain ⟨da, dc, rfl, _, l4⟩ := h4.len
  have b1 := below_alloc w (.cells #[.slice ta c.ts.length tc, .slice ca c.cs.length cc, .slice sa c.ss.length sc, .slice da c.d.length dc, .int .i64 c.n] 28)
  have HX : Hid (CBox (w.alloc (.cells #[.slice ta c.ts.length tc, .slice ca c.cs.length cc, .slice sa c.ss.length sc, .slice da c.d.length dc, .int .i64 c.n] 28)) w.heap.size 28 [.slice ta c.ts.length tc, .slice ca c.cs.length cc, .slice sa c.ss.length sc, .slice da c.d.length dc, .int .i64 c.n] ∧ Below w.heap.size w (w.alloc (.cells #[.slice ta c.ts.length tc, .slice ca c.cs.length cc, .slice sa c.ss.length sc, .slice da c.d.length dc, .int .i64 c.n] 28))) := ⟨CBox.new w _ [_, _, _, _, _], b1⟩
  have HS : Hid (PL P (w.alloc (.cells #[.slice ta c.ts.length tc, .slice ca c.cs.length cc, .slice sa c.ss.length sc, .slice da c.d.length dc, .int .i64 c.n] 28)) (.slice ca c.cs.length cc) c.cs ∧ PL P (w.alloc (.cells #[.slice ta c.ts.length tc, .slice ca c.cs.length cc, .slice sa c.ss.length sc, .slice da c.d.length dc, .int .i64 c.n] 28)) (.slice sa c.ss.length sc) c.ss) := ⟨h2.past b1, h3.past b1⟩
  obtain ⟨x3, hx3⟩ : ∃ x, x = c.ts.length + c.d.length := ⟨_, rfl⟩
  have r3 : (c.ts.length : Int) + (c.d.length : Int) = (x3 : Int) := by omega
  have w3 : IntKind.i64.wrap (x3 : Int) = (x3 : Int) := by rw [IntKind.wrap_i64]; omega
  have H4 : Hid (x3 = c.ts.length + c.d.length) := by unfold Hid; omega
  have HLL : Hid (c.cs.length ≤ 1152921504606846976 ∧ c.ss.length ≤ 1152921504606846976) := ⟨l2, l3⟩
  clear h1 h2 h3 h4 b1 hx3 l1 l2 l3 l4
  go_enter Try.func51, Try.ntmps51
  go_upto_region 1 with fail
  generalize hbx : w.heap.size = bx at HX ⊢
  have GB : Hid (w.heap.size = bx) := hbx
  clear hbx
  generalize w.alloc _ = W0 at HX HS ⊢
  have a0 : W0.cell? ⟨bx, 0, none⟩ = some (.slice ta c.ts.length tc) := HX.out.1.cell 0
  have a1 : W0.cell? ⟨bx, 1, none⟩ = some (.slice ca c.cs.length cc) := HX.out.1.cell 1
  have a2 : W0.cell? ⟨bx, 2, none⟩ = some (.slice sa c.ss.length sc) := HX.out.1.cell 2
  have a3 : W0.cell? ⟨bx, 3, none⟩ = some (.slice da c.d.length dc) := HX.out.1.cell 3
  have a4 : W0.cell? ⟨bx, 4, none⟩ = some (.int .i64 c.n) := HX.out.1.cell 4
  go_upto_region 2 with fail
  clear r3 w3 a0 a3 a4
  go_wp2
  go_loopw [3, 4] (fun s3 s4 wr => ∃ (k m : Nat), s4 = .int .i64 (k : Int) ∧ s3 = .int .i64 (m : Int) ∧ k ≤ c.cs.length ∧ m = x3 + k + (c.cs.take k).flatten.length ∧ wr = W0) (fun _ s4 _ => c.cs.length - (intOf s4).toNat)
  case atStart => exact ⟨0, x3, rfl, rfl, by omega, by simp, rfl⟩
  case round =>
    obtain ⟨k, m, rfl, rfl, hk, hn, hw⟩ := hrel
    have hw2 := hw.symm
    clear hw
    subst hw2
    have HN : Hid (m = x3 + k + (c.cs.take k).flatten.length) := hn
    clear hn
    by_cases e : k = c.cs.length
    · have q1 : ¬ (k : Int) < (c.cs.length : Int) := by omega
      have HT : Hid (m = c.ts.length + c.d.length + c.cs.length + c.cs.flatten.length ∨ 200000 < m) := Or.inl (by have h9 := HN.out; rw [List.take_of_length_le (by omega), H4.out] at h9; omega)
      go_wp2
      go_loopw [3, 5] (fun s3 s5 wr => ∃ (k n : Nat), s5 = .int .i64 (k : Int) ∧ s3 = .int .i64 (n : Int) ∧ k ≤ c.ss.length ∧ (n = m + k + (c.ss.take k).flatten.length ∨ 200000 < n) ∧ wr = W0) (fun _ s5 _ => c.ss.length - (intOf s5).toNat)
      case atStart => exact ⟨0, m, rfl, rfl, by omega, Or.inl (by simp), rfl⟩
      case round =>
        obtain ⟨k, n, rfl, rfl, hk, hn, hw⟩ := hrel
        have hw2 := hw.symm
        clear hw
        subst hw2
        have HN : Hid ((n = m + k + (c.ss.take k).flatten.length ∨ 200000 < n)) := hn
        clear hn
        by_cases e : k = c.ss.length
        · have q1 : ¬ (k : Int) < (c.ss.length : Int) := by omega
          have HF : Hid (total c = n ∨ (200000 < n)) := by
            have h9 := HN.out
            have h8 := HT.out
            unfold Hid total fourOf
            rw [List.take_of_length_le (by omega)] at h9; subst e; omega
          clear e
          go_wp2
          go_ret
          exact ⟨⟨n, rfl, by have := HF.out; omega⟩, by rw [GB.out]; exact HX.out.2⟩
        · have q1 : (k : Int) < (c.ss.length : Int) := by omega
          by_cases en : n ≤ 200000
          · have q2 : (n : Int) ≤ 200000 := by omega
            obtain ⟨x, hx⟩ : ∃ x, c.ss[k]? = some x := ⟨c.ss[k]'(by omega), List.getElem?_eq_getElem _⟩
            obtain ⟨g, a, u, eg, hcell, hb⟩ := (HS.out.2).get hx
            subst eg
            obtain ⟨ad2, cap2, rfl, _, hl2⟩ := hb.len
            obtain ⟨m1, hm1⟩ : ∃ m1, m1 = 1 + x.length := ⟨_, rfl⟩
            obtain ⟨n2, hn2⟩ : ∃ n2, n2 = n + m1 := ⟨_, rfl⟩
            have r0 : (1 : Int) + (x.length : Int) = (m1 : Int) := by omega
            have w0 : IntKind.i64.wrap (m1 : Int) = (m1 : Int) := by rw [IntKind.wrap_i64]; omega
            have r1 : (n : Int) + (m1 : Int) = (n2 : Int) := by omega
            have w1 : IntKind.i64.wrap (n2 : Int) = (n2 : Int) := by rw [IntKind.wrap_i64]; omega
            have HN2 : Hid ((n2 = m + (k + 1) + (c.ss.take (k + 1)).flatten.length ∨ 200000 < n2)) := by
              have h9 := HN.out
              unfold Hid
              rw [flatten_snoc hx, List.length_append]
              omega
            have HK : Hid (k + 1 ≤ c.ss.length) := by unfold Hid; omega
            have kB : (k : Int) < 1152921504606846976 := by have := HLL.out; omega
            clear hx hb e en hn2 hm1 hl2 hk
            go_wp2
            go_roundw
            case rel => exact ⟨k + 1, n2, by first | rfl | go_num, rfl, HK.out, HN2.out, by first | rfl | trivial⟩
            case measure => simp [intOf]; omega
          · have q2 : ¬ (n : Int) ≤ 200000 := by omega
            have HF : Hid (total c = n ∨ (200000 < n)) := by
              have h9 := HN.out
              have h8 := HT.out
              unfold Hid total fourOf
              omega
            clear e en
            go_wp2
            go_ret
            exact ⟨⟨n, rfl, by have := HF.out; omega⟩, by rw [GB.out]; exact HX.out.2⟩
    · have q1 : (k : Int) < (c.cs.length : Int) := by omega
      by_cases en : m ≤ 200000
      · have q2 : (m : Int) ≤ 200000 := by omega
        obtain ⟨x, hx⟩ : ∃ x, c.cs[k]? = some x := ⟨c.cs[k]'(by omega), List.getElem?_eq_getElem _⟩
        obtain ⟨g, a, u, eg, hcell, hb⟩ := (HS.out.1).get hx
        subst eg
        obtain ⟨ad2, cap2, rfl, _, hl2⟩ := hb.len
        obtain ⟨m1, hm1⟩ : ∃ m1, m1 = 1 + x.length := ⟨_, rfl⟩
        obtain ⟨m2, hn2⟩ : ∃ m2, m2 = m + m1 := ⟨_, rfl⟩
        have r0 : (1 : Int) + (x.length : Int) = (m1 : Int) := by omega
        have w0 : IntKind.i64.wrap (m1 : Int) = (m1 : Int) := by rw [IntKind.wrap_i64]; omega
        have r1 : (m : Int) + (m1 : Int) = (m2 : Int) := by omega
        have w1 : IntKind.i64.wrap (m2 : Int) = (m2 : Int) := by rw [IntKind.wrap_i64]; omega
        have HN2 : Hid (m2 = x3 + (k + 1) + (c.cs.take (k + 1)).flatten.length) := by
          have h9 := HN.out
          unfold Hid
          rw [flatten_snoc hx, List.length_append]
          omega
        have HK : Hid (k + 1 ≤ c.cs.length) := by unfold Hid; omega
        have kB : (k : Int) < 1152921504606846976 := by have := HLL.out; omega
        clear hx hb e en hn2 hm1 hl2 hk
        go_wp2
        go_roundw
        case rel => exact ⟨k + 1, m2, by first | rfl | go_num, rfl, HK.out, HN2.out, by first | rfl | trivial⟩
        case measure => simp [intOf]; omega
      · have q2 : ¬ (m : Int) ≤ 200000 := by omega
        have HT : Hid (m = c.ts.length + c.d.length + c.cs.length + c.cs.flatten.length ∨ 200000 < m) := Or.inr (by omega)
        go_wp2
        go_loopw [3, 5] (fun s3 s5 wr => ∃ (k n : Nat), s5 = .int .i64 (k : Int) ∧ s3 = .int .i64 (n : Int) ∧ k ≤ c.ss.length ∧ (n = m + k + (c.ss.take k).flatten.length ∨ 200000 < n) ∧ wr = W0) (fun _ s5 _ => c.ss.length - (intOf s5).toNat)
        case atStart => exact ⟨0, m, rfl, rfl, by omega, Or.inl (by simp), rfl⟩
        case round =>
          obtain ⟨k, n, rfl, rfl, hk, hn, hw⟩ := hrel
          have hw2 := hw.symm
          clear hw
          subst hw2
          have HN : Hid ((n = m + k + (c.ss.take k).flatten.length ∨ 200000 < n)) := hn
          clear hn
          by_cases e : k = c.ss.length
          · have q1 : ¬ (k : Int) < (c.ss.length : Int) := by omega
            have HF : Hid (total c = n ∨ (200000 < n)) := by
              have h9 := HN.out
              have h8 := HT.out
              unfold Hid total fourOf
              rw [List.take_of_length_le (by omega)] at h9; subst e; omega
            clear e
            go_wp2
            go_ret
            exact ⟨⟨n, rfl, by have := HF.out; omega⟩, by rw [GB.out]; exact HX.out.2⟩
          · have q1 : (k : Int) < (c.ss.length : Int) := by omega
            by_cases en : n ≤ 200000
            · have q2 : (n : Int) ≤ 200000 := by omega
              obtain ⟨x, hx⟩ : ∃ x, c.ss[k]? = some x := ⟨c.ss[k]'(by omega), List.getElem?_eq_getElem _⟩
              obtain ⟨g, a, u, eg, hcell, hb⟩ := (HS.out.2).get hx
              subst eg
              obtain ⟨ad2, cap2, rfl, _, hl2⟩ := hb.len
              obtain ⟨m1, hm1⟩ : ∃ m1, m1 = 1 + x.length := ⟨_, rfl⟩
              obtain ⟨n2, hn2⟩ : ∃ n2, n2 = n + m1 := ⟨_, rfl⟩
              have r0 : (1 : Int) + (x.length : Int) = (m1 : Int) := by omega
              have w0 : IntKind.i64.wrap (m1 : Int) = (m1 : Int) := by rw [IntKind.wrap_i64]; omega
              have r1 : (n : Int) + (m1 : Int) = (n2 : Int) := by omega
              have w1 : IntKind.i64.wrap (n2 : Int) = (n2 : Int) := by rw [IntKind.wrap_i64]; omega
              have HN2 : Hid ((n2 = m + (k + 1) + (c.ss.take (k + 1)).flatten.length ∨ 200000 < n2)) := by
                have h9 := HN.out
                unfold Hid
                rw [flatten_snoc hx, List.length_append]
                omega
              have HK : Hid (k + 1 ≤ c.ss.length) := by unfold Hid; omega
              have kB : (k : Int) < 1152921504606846976 := by have := HLL.out; omega
              clear hx hb e en hn2 hm1 hl2 hk
              go_wp2
              go_roundw
              case rel => exact ⟨k + 1, n2, by first | rfl | go_num, rfl, HK.out, HN2.out, by first | rfl | trivial⟩
              case measure => simp [intOf]; omega
            · have q2 : ¬ (n : Int) ≤ 200000 := by omega
              have HF : Hid (total c = n ∨ (200000 < n)) := by
                have h9 := HN.out
                have h8 := HT.out
                unfold Hid total fourOf
                omega
              clear e en
              go_wp2
              go_ret
              exact ⟨⟨n, rfl, by have := HF.out; omega⟩, by rw [GB.out]; exact HX.out.2⟩
end Go.Proofs.Ytndhabhlajldeaa
