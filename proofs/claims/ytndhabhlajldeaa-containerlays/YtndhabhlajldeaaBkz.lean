/- Package container: Parse. -/
import Derived.Test.YtndhabhlajldeaaBky
import Derived.Test.YtndhabhlajldeaaBkx
namespace Go.Proofs.Ytndhabhlajldeaa
open Go.RowKit
def rej0L : List Value := [.int .i64 0, .slice none 0 0, .int .i64 0, .int .i64 0]
set_option maxHeartbeats 4000000 in
set_option maxRecDepth 100000 in
theorem catch_p (g : Nat) (c a : Int) (w : World) (h : CBox w g 47 rej0L) :
    CallsD Try.prog 64 #[.pointer (some ⟨g, 0, none⟩)] (.panicking [{ v := .iface 47 (rejV c a), recovered := false }]) w fun e u' w' =>
      e = .returned (.tuple #[]) ∧ u' = .panicking [{ v := .iface 47 (rejV c a), recovered := true }] ∧ w' = (((w.setCell ⟨g, 0, none⟩ (.int .i64 c)).setCell ⟨g, 1, none⟩ (.slice none 0 0)).setCell ⟨g, 2, none⟩ (.int .i64 0)).setCell ⟨g, 3, none⟩ (.int .i64 a) := by
  have c0 : w.cell? ⟨g, 0, none⟩ = some (.int .i64 0) := h.cell 0
  have c1 : w.cell? ⟨g, 1, none⟩ = some (.slice none 0 0) := h.cell 1
  have c2 : w.cell? ⟨g, 2, none⟩ = some (.int .i64 0) := h.cell 2
  have c3 : w.cell? ⟨g, 3, none⟩ = some (.int .i64 0) := h.cell 3
  have f0 := h.frozen 0
  have f1 := h.frozen 1
  have f2 := h.frozen 2
  have f3 := h.frozen 3
  have hta : ∀ (t : TypeId) (w : World), Sem.run Try.prog (Instr.typeAssert (.iface 47 (.agg #[.int .i64 c, .slice none 0 0, .int .i64 0, .int .i64 a])) t 47 false) w = .ok (.agg #[.int .i64 c, .slice none 0 0, .int .i64 0, .int .i64 a]) w := fun _ _ => by kernel_rfl
  refine callsD_of_wpS Try.func64 rfl fun c₀ cs hu => ?_
  apply wpS_seq
  apply wpS_region
  simp [wpOpsS, go_sem, recoverD, hu, Try.ntmps64, Exit.thenS]
  apply wpS_seq
  apply wpS_region
  simp [wpOpsS, go_sem, Exit.thenS]
  refine wpS_cond (t := true) (by simp [Act.eval, Array.replicate]) ?_
  simp only [if_true]
  apply wpS_region
  simp [wpOpsS, go_sem, rejV, hta, c0, c1, c2, c3, f0, f1, f2, f3, bodyPostS, results, Try.results64]
set_option maxHeartbeats 4000000 in
set_option maxRecDepth 100000 in
theorem catch_i (g : Nat) (w : World) :
    CallsD Try.prog 64 #[.pointer (some ⟨g, 0, none⟩)] .returning w fun e u' w' => e = .returned (.tuple #[]) ∧ u' = .returning ∧ w' = w := by
  refine callsD_of_wpS Try.func64 rfl fun c₀ cs hu => ?_
  apply wpS_seq
  apply wpS_region
  simp [wpOpsS, go_sem, recoverD, hu, Try.ntmps64, Exit.thenS]
  apply wpS_seq
  apply wpS_region
  simp [wpOpsS, go_sem, Exit.thenS]
  refine wpS_cond (t := false) (by simp [Act.eval, Array.replicate]) ?_
  simp only [Bool.false_eq_true, if_false]
  refine wpS_of_wp (wp_skip ?_)
  cases c₀
  simp_all [bodyPostS, results, Try.results64]
theorem sumL_bound : ∀ (l : List Nat) (M : Nat), (∀ x ∈ l, x ≤ M) → sumL l ≤ l.length * M
  | [], M, _ => by simp [sumL]
  | x :: l, M, h => by
    rw [sumL_cons, List.length_cons, Nat.add_mul]
    have h1 := sumL_bound l M (fun y hy => h y (List.mem_cons_of_mem _ hy))
    have h2 := h x (List.mem_cons_self ..)
    omega
theorem hdr_sums {b : List Nat} (hb : Byt b) {h : Hd} (g : hdr b = .ok h) : sumL h.cs ≤ 1024 * 65536 ∧ sumL h.ss ≤ 256 * 4294967296 := by
  have H := hdr_ok hb g
  have h1 := sumL_bound h.cs 65536 (fun x hx => Nat.le_of_lt (H.hc x hx).2)
  have h2 := sumL_bound h.ss 4294967296 (fun x hx => Nat.le_of_lt (H.hs x hx).2)
  have h3 : h.cs.length * 65536 ≤ 1024 * 65536 := Nat.mul_le_mul_right _ H.c1
  have h4 : h.ss.length * 4294967296 ≤ 256 * 4294967296 := Nat.mul_le_mul_right _ H.s1
  omega
theorem prs_is (b : List Nat) (opn : Bool) : prs b opn = (hdr b).bind fun h => (msr b h.e (4 * h.cs.length + sumL h.cs + sumL h.ss) h.d opn).bind fun _ => bdy b h.e h.cs h.ss h.d := by
  unfold prs
  cases hdr b with
  | error er => rfl
  | ok h =>
    show (if _ then _ else _) = (msr b h.e (4 * h.cs.length + sumL h.cs + sumL h.ss) h.d opn).bind _
    have e1 : h.e + (4 * h.cs.length + sumL h.cs + sumL h.ss) = h.e + 4 * h.cs.length + sumL h.cs + sumL h.ss := by omega
    unfold msr
    rw [e1]
    by_cases q1 : b.length < (if opn = true then h.e + 4 * h.cs.length + sumL h.cs + sumL h.ss else h.e + 4 * h.cs.length + sumL h.cs + sumL h.ss + h.d)
    · rw [if_pos q1, if_pos q1]; rfl
    · rw [if_neg q1, if_neg q1]
      by_cases q2 : h.e + 4 * h.cs.length + sumL h.cs + sumL h.ss + h.d < b.length
      · rw [if_pos q2, if_pos q2]; rfl
      · rw [if_neg q2, if_neg q2]; rfl
theorem msr_fits {b : List Nat} {k n d : Nat} {opn : Bool} (h : msr b k n d opn = .ok ()) : k + n ≤ b.length := by
  by_cases q : b.length < (if opn then k + n else k + n + d)
  · rw [msr_cut q] at h
    cases h
  · cases opn
    · have q2 : ¬ b.length < k + n + d := q
      omega
    · have q2 : ¬ b.length < k + n := q
      omega
/-- what Parse answers -/
def PrA (B : Nat) (r : Except Er Con) (e : Ending) (w' : World) : Prop :=
  match r with
  | .ok c => ∃ v, e = .returned (.tuple #[v, rejV 0 0]) ∧ CO B w' v c
  | .error (c, a) => e = .returned (.tuple #[.agg #[.slice none 0 0, .slice none 0 0, .slice none 0 0, .slice none 0 0, .int .i64 0], rejV c a])
theorem results_2c {fn : Func} {p q : Tmp} {ty tz : TypeId} (h : fn.results = #[.cell p ty, .cell q tz]) (tmps : Array Value) (P : Program) (w : World) (a b : Addr) (ha : tmps.getD p undef = .pointer (some a)) (hb : tmps.getD q undef = .pointer (some b)) {v u : Value} (hl : (loadVar ty a).run P w = .ok v w) (hm : (loadVar tz b).run P w = .ok u w) : (results fn tmps).run P w = .ok (.tuple #[v, u]) w := by
  have ha' : tmps[p]?.getD undef = .pointer (some a) := by simpa using ha
  have hb' : tmps[q]?.getD undef = .pointer (some b) := by simpa using hb
  simp only [results, h]
  simp [ha', hb', hl, hm, asAddr]
/-- what was thrown is told -/
theorem caught (w' : World) (b4 b5 : Nat) (c a : Int) (tmps : Array Value) (h4 : CBox w' b4 28 con0L) (h5 : CBox w' b5 47 rej0L) (ne : b4 ≠ b5) (ht4 : tmps.getD 4 undef = .pointer (some ⟨b4, 0, none⟩)) (ht5 : tmps.getD 5 undef = .pointer (some ⟨b5, 0, none⟩)) (R : Ending → World → Prop)
    (hR : ∀ w'', But (fun y => y = b5) w' w'' → R (.returned (.tuple #[.agg #[.slice none 0 0, .slice none 0 0, .slice none 0 0, .slice none 0 0, .int .i64 0], rejV c a])) w'') :
    Leaves Try.prog Try.f31 tmps R [{ target := .fn (.func 64) #[.pointer (some ⟨b5, 0, none⟩)], args := #[] }] (.panicking [{ v := .iface 47 (rejV c a), recovered := false }]) w' := by
  refine leaves_cons (f := 64) (args := #[.pointer (some ⟨b5, 0, none⟩)]) (by simp) (by simp [go_sem]) ?_
  refine (catch_p b5 c a w' h5).mono ?_
  rintro e u' w'' ⟨rfl, rfl, e9⟩
  have hs : But (fun y => y = b5) w' w'' := by
    rw [e9]
    exact ((((But.refl (fun y => y = b5) w').setCell ⟨b5, 0, none⟩ _ (Or.inl rfl)).setCell ⟨b5, 1, none⟩ _ (Or.inl rfl)).setCell ⟨b5, 2, none⟩ _ (Or.inl rfl)).setCell ⟨b5, 3, none⟩ _ (Or.inl rfl)
  have c5 : CBox w'' b5 47 [.int .i64 c, .slice none 0 0, .int .i64 0, .int .i64 a] := by
    rw [e9]
    exact (((h5.set 0 _).set 1 _).set 2 _).set 3 _
  have c4 : CBox w'' b4 28 con0L := h4.but hs ne
  clear e9
  show Leaves Try.prog Try.f31 tmps R [] .returning w''
  exact ⟨_, results_2c (p := 4) (q := 5) (ty := 28) (tz := 47) Try.results31 _ _ _ ⟨b4, 0, none⟩ ⟨b5, 0, none⟩ ht4 ht5 (run_loadVar_mid w'' b4 0 28 con0L _ c4.range Try.underlying28 rfl (by kernel_rfl)) (run_loadVar_mid w'' b5 0 47 [.int .i64 c, .slice none 0 0, .int .i64 0, .int .i64 a] _ c5.range Try.underlying47 rfl (by kernel_rfl)), hR w'' hs⟩
/-- what was read is told -/
theorem told (w' : World) (b4 b5 : Nat) (l4 : List Value) (tmps : Array Value) (h5 : CBox w' b5 47 rej0L) (ht4 : tmps.getD 4 undef = .pointer (some ⟨b4, 0, none⟩)) (ht5 : tmps.getD 5 undef = .pointer (some ⟨b5, 0, none⟩)) (R : Ending → World → Prop)
    (hld : (loadVar 28 ⟨b4, 0, none⟩).run Try.prog w' = .ok (.agg l4.toArray) w')
    (hR : R (.returned (.tuple #[.agg l4.toArray, rejV 0 0])) w') :
    Leaves Try.prog Try.f31 tmps R [{ target := .fn (.func 64) #[.pointer (some ⟨b5, 0, none⟩)], args := #[] }] .returning w' := by
  refine leaves_cons (f := 64) (args := #[.pointer (some ⟨b5, 0, none⟩)]) (by simp) (by simp [go_sem]) ?_
  refine (catch_i b5 w').mono ?_
  rintro e u' w'' ⟨rfl, rfl, e9⟩
  have e8 := e9.symm
  clear e9
  subst e8
  show Leaves Try.prog Try.f31 tmps R [] .returning w'
  exact ⟨_, results_2c (p := 4) (q := 5) (ty := 28) (tz := 47) Try.results31 _ _ _ ⟨b4, 0, none⟩ ⟨b5, 0, none⟩ ht4 ht5 hld (run_loadVar_mid w' b5 0 47 rej0L _ h5.range Try.underlying47 rfl (by kernel_rfl)), hR⟩
/-- in the midst of Parse -/
structure PsM (b4 b5 b6 : Nat) (w W : World) (bs : Value) (b : List Nat) (k : Nat) : Prop where
  c4 : CBox W b4 28 con0L
  c5 : CBox W b5 47 rej0L
  rd : Rdr W b6 bs b k
  bel : Below w.heap.size w W
  g4 : w.heap.size ≤ b4
  g5 : b4 < b5
  g6 : b5 < b6
theorem PsM.past {b4 b5 b6 k : Nat} {w W W' : World} {bs : Value} {b : List Nat} (h : PsM b4 b5 b6 w W bs b k) (q : Below W.heap.size W W') : PsM b4 b5 b6 w W' bs b k := ⟨h.c4.past q, h.c5.past q, h.rd.past q, h.bel.trans (q.mono h.bel.size), h.g4, h.g5, h.g6⟩
theorem PsM.read {b4 b5 b6 k k' : Nat} {w W W' : World} {bs : Value} {b : List Nat} (h : PsM b4 b5 b6 w W bs b k) (q : RB b6 W W') (r : Rdr W' b6 bs b k') : PsM b4 b5 b6 w W' bs b k' :=
  ⟨h.c4.but q (by have := h.g5; have := h.g6; omega), h.c5.but q (by have := h.g6; omega), r, h.bel.trans (q.below (fun y e => by have := h.g4; have := h.g5; have := h.g6; omega) h.bel.size), h.g4, h.g5, h.g6⟩
theorem PsM.thrown {b4 b5 b6 k : Nat} {w W W' : World} {bs : Value} {b : List Nat} (h : PsM b4 b5 b6 w W bs b k) (q : RB b6 W W') : CBox W' b4 28 con0L ∧ CBox W' b5 47 rej0L ∧ b4 ≠ b5 ∧ ∀ W'', But (fun y => y = b5) W' W'' → Below w.heap.size w W'' := by
  have h4 := h.g4
  have h5 := h.g5
  have h6 := h.g6
  refine ⟨h.c4.but q (by omega), h.c5.but q (by omega), by omega, fun W'' k2 => ?_⟩
  have b1 : Below w.heap.size w W' := h.bel.trans (q.below (fun y e => by omega) h.bel.size)
  exact b1.trans (k2.below (fun y e => by omega) b1.size)
theorem PsM.bel6 {b4 b5 b6 k : Nat} {w W W' : World} {bs : Value} {b : List Nat} (h : PsM b4 b5 b6 w W bs b k) (q : RB b6 W W') : Below w.heap.size w W' :=
  h.bel.trans (q.below (fun y e => by have := h.g4; have := h.g5; have := h.g6; omega) h.bel.size)
theorem CO.alien {B q : Nat} {W W' : World} {v : Value} {c : Con} (h : CO B W v c) (k : But (fun y => y = q) W W') (a : Alien W q) : CO B W' v c := by
  obtain ⟨tv, cv, sv, dv, e, h1, h2, h3, h4⟩ := h
  exact ⟨tv, cv, sv, dv, e, h1.alien k a, h2.alien k a, h3.alien k a, row_alien h4 k a⟩
set_option maxHeartbeats 4000000 in
set_option maxRecDepth 100000 in
theorem parse_is {P : Nat → Prop} (w : World) (v : Value) (b : List Nat) (opn : Bool) (h : BL P w v b) (hb : Byt b) (hl : b.length ≤ 16777216) :
    Calls Try.prog 31 #[v, .bool opn] w fun e w' => PrA w.heap.size (prs b opn) e w' ∧ Below w.heap.size w w' := by
  obtain ⟨ba, bc, rfl, hbc, _⟩ := h.len
  have hmf : ∀ (fn : Fn) (first cap : Array Value) (w : World), (Instr.makeFunc fn first cap).run Try.prog w = .ok (.func fn first cap) w := fun _ _ _ _ => rfl
  obtain ⟨LL, hLL⟩ : ∃ LL, LL = prs b opn := ⟨_, rfl⟩
  rw [← hLL]
  have HE : Hid (LL = (hdr b).bind fun h => (msr b h.e (4 * h.cs.length + sumL h.cs + sumL h.ss) h.d opn).bind fun _ => bdy b h.e h.cs h.ss h.d) := by unfold Hid; rw [hLL, prs_is]
  have HBY : Hid (Byt b) := hb
  have M : Hid (PsM w.heap.size (w.heap.size + 1) (w.heap.size + 1 + 1) w (((w.alloc (.cells #[.slice none 0 0, .slice none 0 0, .slice none 0 0, .slice none 0 0, .int .i64 0] 28)).alloc (.cells #[.int .i64 0, .slice none 0 0, .int .i64 0, .int .i64 0] 47)).alloc (.cells #[.slice ba b.length bc, .int .i64 0] 81)) (.slice ba b.length bc) b 0) := by
    have b1 := below_alloc w (.cells con0L.toArray 28)
    have b2 := below_alloc (w.alloc (.cells con0L.toArray 28)) (.cells rej0L.toArray 47)
    have b3 := below_alloc ((w.alloc (.cells con0L.toArray 28)).alloc (.cells rej0L.toArray 47)) (.cells #[.slice ba b.length bc, .int .i64 0] 81)
    have c4 := CBox.new w 28 con0L
    have c5 := CBox.new (w.alloc (.cells con0L.toArray 28)) 47 rej0L
    have c6 := CBox.new ((w.alloc (.cells con0L.toArray 28)).alloc (.cells rej0L.toArray 47)) 81 [.slice ba b.length bc, .int .i64 0]
    have s1 : (w.alloc (.cells con0L.toArray 28)).heap.size = w.heap.size + 1 := by simp
    have s2 : ((w.alloc (.cells con0L.toArray 28)).alloc (.cells rej0L.toArray 47)).heap.size = w.heap.size + 1 + 1 := by simp
    rw [s1] at c5
    rw [s2] at c6
    have hw : BL (fun g => g < w.heap.size + 1 + 1) w (.slice ba b.length bc) b := h.mono fun g _ hg => by omega
    have bb : Below w.heap.size w (((w.alloc (.cells con0L.toArray 28)).alloc (.cells rej0L.toArray 47)).alloc (.cells #[.slice ba b.length bc, .int .i64 0] 81)) := (b1.trans (b2.mono (by omega))).trans (b3.mono (by omega))
    exact ⟨(c4.past b2).past b3, c5.past b3, ⟨c6, hw.past bb, hb, hl⟩, bb, by omega, by omega, by omega⟩
  have HL : Hid (b.length ≤ 16777216) := hl
  clear h hLL hb hbc
  go_enter_defers Try.func31, Try.ntmps31
  go_upto_region 3 with fail
  generalize w.heap.size + 1 + 1 = b6 at M ⊢
  generalize w.heap.size + 1 = b5 at M ⊢
  generalize hb4 : w.heap.size = b4 at M ⊢
  generalize ((w.alloc _).alloc _).alloc _ = W0 at M ⊢
  have GB : Hid (w.heap.size = b4) := hb4
  clear hb4
  have FC0 := header_is W0 b6 _ b M.out.rd
  have FC : Hid _ := FC0
  have HSM : Hid (∀ h, hdr b = .ok h → sumL h.cs ≤ 1024 * 65536 ∧ sumL h.ss ≤ 256 * 4294967296) := fun h g => hdr_sums HBY.out g
  clear FC0
  generalize hdr b = FF at *
  cases FF with
  | error er =>
    obtain ⟨ec, ea⟩ := er
    have E0 : Hid (LL = .error (ec, ea)) := HE.out
    go_wp2_with (go_at_call 65; refine Calls.mono FC.out ?_; rintro e w' ⟨rfl, hB⟩; unfold thrown rejV)
    obtain ⟨q4, q5, qn, qb⟩ := M.out.thrown hB
    exact caught w' b4 b5 ec ea _ q4 q5 qn rfl rfl _ (fun w'' k => ⟨by rw [E0.out]; exact rfl, qb w'' k⟩)
  | ok hh =>
  have HE : Hid (LL = (msr b hh.e (4 * hh.cs.length + sumL hh.cs + sumL hh.ss) hh.d opn).bind fun _ => bdy b hh.e hh.cs hh.ss hh.d) := HE.out
  have HS : Hid (sumL hh.cs ≤ 1024 * 65536 ∧ sumL hh.ss ≤ 256 * 4294967296) := HSM.out hh rfl
  clear HSM
  obtain ⟨cs, ss, d, k⟩ := hh
  dsimp only at HE HS
  go_upto_region 4 with (go_at_call 65; refine Calls.mono FC.out ?_; rintro e w5 hQ; (obtain ⟨cv, sv, rfl, hc, hs⟩ := HdQ.ex hQ); (have N0 := M.out.read (HdQ.but hQ) (HdQ.rd hQ)); (have HB9 := And.intro (HdQ.kl hQ) (And.intro (HdQ.dl hQ) (And.intro (HdQ.cl hQ) (HdQ.sl hQ)))); (dsimp only at hc hs HB9 N0); (obtain ⟨ca, rfl⟩ := hc.len); (obtain ⟨sa, rfl⟩ := hs.len); (have HC9 : Hid (UL w5 (.slice ca cs.length cs.length) cs ∧ UL w5 (.slice sa ss.length ss.length) ss) := ⟨hc, hs⟩); (have N9 : Hid (PsM b4 b5 b6 w w5 (.slice ba b.length bc) b k) := N0); (have HQB : Hid (k ≤ b.length ∧ d ≤ 65535 ∧ cs.length ≤ 1024 ∧ ss.length ≤ 256) := HB9); (clear hc hs N0 HB9 hQ))
  have M2 : Hid (PsM b4 b5 b6 w (w5.alloc (.cells #[.slice ca cs.length cs.length, .slice sa ss.length ss.length, .int .u64 (d : Int)] 84)) (.slice ba b.length bc) b k ∧ CBox (w5.alloc (.cells #[.slice ca cs.length cs.length, .slice sa ss.length ss.length, .int .u64 (d : Int)] 84)) w5.heap.size 84 [.slice ca cs.length cs.length, .slice sa ss.length ss.length, .int .u64 (d : Int)] ∧ UL (w5.alloc (.cells #[.slice ca cs.length cs.length, .slice sa ss.length ss.length, .int .u64 (d : Int)] 84)) (.slice ca cs.length cs.length) cs ∧ UL (w5.alloc (.cells #[.slice ca cs.length cs.length, .slice sa ss.length ss.length, .int .u64 (d : Int)] 84)) (.slice sa ss.length ss.length) ss ∧ w5.heap.size ≠ b6) := ⟨N9.out.past (below_alloc _ _), CBox.new _ _ [_, _, _], HC9.out.1.past (below_alloc _ _), HC9.out.2.past (below_alloc _ _), by have := N9.out.rd.box.lt; omega⟩
  clear HC9 N9 FC M
  generalize w5.alloc _ = W1 at M2 ⊢
  generalize w5.heap.size = b7 at M2 ⊢
  have MC := measure_is W1 b6 _ b k d _ _ cs ss opn M2.out.1.rd M2.out.2.2.1 M2.out.2.2.2.1 (by have h1 := HQB.out; have h2 := HS.out; have h3 := HL.out; omega) (by have h1 := HQB.out; omega)
  have MK : Hid (msr b k (4 * cs.length + sumL cs + sumL ss) d opn = .ok () → k + 4 * cs.length + sumL cs + sumL ss ≤ b.length) := fun q => by have := msr_fits q; omega
  have BC : Hid (∀ W, Rdr W b6 (.slice ba b.length bc) b k → UL W (.slice ca cs.length cs.length) cs → UL W (.slice sa ss.length ss.length) ss → k + 4 * cs.length + sumL cs + sumL ss ≤ b.length → Calls Try.prog 67 #[.pointer (some ⟨b6, 0, none⟩), .agg #[.slice ca cs.length cs.length, .slice sa ss.length ss.length, .int .u64 (d : Int)]] W fun e w' => Out b6 W (bdy b k cs ss d) (fun c e w' => (∃ v, e = .returned v ∧ CO W.heap.size w' v c) ∧ RB b6 W w') e w') := fun W r u1 u2 hk => body_is W b6 _ b k _ _ cs ss d r u1 u2 hk (by have h1 := HQB.out; omega) (by have h1 := HQB.out; omega) (by have h1 := HQB.out; omega)
  have MC2 : Hid _ := MC
  clear MC HS
  generalize msr b k (4 * cs.length + sumL cs + sumL ss) d opn = MM at *
  have a0 : W1.cell? ⟨b7, 0, none⟩ = some (.slice ca cs.length cs.length) := M2.out.2.1.cell 0
  have a1 : W1.cell? ⟨b7, 1, none⟩ = some (.slice sa ss.length ss.length) := M2.out.2.1.cell 1
  have a2 : W1.cell? ⟨b7, 2, none⟩ = some (.int .u64 (d : Int)) := M2.out.2.1.cell 2
  have M : Hid (PsM b4 b5 b6 w W1 (.slice ba b.length bc) b k) := M2.out.1
  generalize hnc : cs.length = nc at *
  generalize hns : ss.length = ns at *
  generalize hnb : b.length = nb at *
  clear hnc hns hnb hl
  cases MM with
  | error er =>
    obtain ⟨ec, ea⟩ := er
    have E0 : Hid (LL = .error (ec, ea)) := HE.out
    go_wp2_with (go_at_call 66; refine Calls.mono MC2.out ?_; rintro e w' ⟨rfl, hB⟩; unfold thrown rejV)
    obtain ⟨q4, q5, qn, qb⟩ := M.out.thrown hB
    exact caught w' b4 b5 ec ea _ q4 q5 qn rfl rfl _ (fun w'' k => ⟨by rw [E0.out]; exact rfl, qb w'' k⟩)
  | ok uu =>
  have HE : Hid (LL = bdy b k cs ss d) := HE.out
  go_upto_region 5 with (go_at_call 66; refine Calls.mono MC2.out ?_; rintro e w6 ⟨rfl, hB⟩)
  have M3 : Hid (PsM b4 b5 b6 w w6 (.slice ba nb bc) b k ∧ CBox w6 b7 84 [.slice ca nc nc, .slice sa ns ns, .int .u64 (d : Int)]) := ⟨M2.out.1.past hB, M2.out.2.1.past hB⟩
  have FC0 := BC.out w6 M3.out.1.rd (M2.out.2.2.1.past hB) (M2.out.2.2.2.1.past hB) (by first | exact MK.out rfl | exact MK.out trivial)
  have FC : Hid _ := FC0
  have a0 : w6.cell? ⟨b7, 0, none⟩ = some (.slice ca nc nc) := M3.out.2.cell 0
  have a1 : w6.cell? ⟨b7, 1, none⟩ = some (.slice sa ns ns) := M3.out.2.cell 1
  have a2 : w6.cell? ⟨b7, 2, none⟩ = some (.int .u64 (d : Int)) := M3.out.2.cell 2
  clear M2 M FC0 BC MK hB MC2 HQB
  have M : Hid (PsM b4 b5 b6 w w6 (.slice ba nb bc) b k) := M3.out.1
  clear M3
  generalize bdy b k cs ss d = FF at *
  cases FF with
  | error er =>
    obtain ⟨ec, ea⟩ := er
    have E0 : Hid (LL = .error (ec, ea)) := HE.out
    go_wp2_with (go_at_call 67; refine Calls.mono FC.out ?_; rintro e w' ⟨rfl, hB⟩; unfold thrown rejV)
    obtain ⟨q4, q5, qn, qb⟩ := M.out.thrown hB
    exact caught w' b4 b5 ec ea _ q4 q5 qn rfl rfl _ (fun w'' k => ⟨by rw [E0.out]; exact rfl, qb w'' k⟩)
  | ok c =>
  have HE : Hid (LL = .ok c) := HE.out
  have hn45 : ¬ b5 = b4 := by have := M.out.g5; omega
  have hn54 : ¬ b4 = b5 := by have := M.out.g5; omega
  go_wp2_with (go_at_call 67; refine Calls.mono FC.out ?_; rintro e w7 hQ; (obtain ⟨⟨v, rfl, hCO⟩, hB⟩ := hQ); (obtain ⟨tv, cv, sv, dv, rfl, h1, h2, h3, h4⟩ := id hCO); (obtain ⟨gt, rfl, _⟩ := id h1); (obtain ⟨gc, _, rfl, _⟩ := id h2); (obtain ⟨gs, _, rfl, _⟩ := id h3); (obtain ⟨da, dc, rfl⟩ := owns_sl h4); (have N0 : Hid (CBox w7 b4 28 con0L ∧ CBox w7 b5 47 rej0L ∧ b4 ≠ b5 ∧ Below w.heap.size w w7 ∧ CO w6.heap.size w7 (.agg #[.slice (some ⟨gt, 0, none⟩) c.ts.length c.ts.length, .slice (some ⟨gc, 0, none⟩) c.cs.length c.cs.length, .slice (some ⟨gs, 0, none⟩) c.ss.length c.ss.length, .slice da c.d.length dc, .int .i64 c.n]) c) := ⟨(M.out.thrown hB).1, (M.out.thrown hB).2.1, (M.out.thrown hB).2.2.1, M.out.bel6 hB, hCO⟩); (clear hCO h1 h2 h3 h4 hB); (have p0 : w7.cell? ⟨b4, 0, none⟩ = some (.slice none 0 0) := N0.out.1.cell 0); (have q0 := N0.out.1.frozen 0); (have p1 : w7.cell? ⟨b4, 1, none⟩ = some (.slice none 0 0) := N0.out.1.cell 1); (have q1 := N0.out.1.frozen 1); (have p2 : w7.cell? ⟨b4, 2, none⟩ = some (.slice none 0 0) := N0.out.1.cell 2); (have q2 := N0.out.1.frozen 2); (have p3 : w7.cell? ⟨b4, 3, none⟩ = some (.slice none 0 0) := N0.out.1.cell 3); (have q3 := N0.out.1.frozen 3); (have p4 : w7.cell? ⟨b4, 4, none⟩ = some (.int .i64 0) := N0.out.1.cell 4); (have q4 := N0.out.1.frozen 4); (have r0 : w7.cell? ⟨b5, 0, none⟩ = some (.int .i64 0) := N0.out.2.1.cell 0); (have s0 := N0.out.2.1.frozen 0); (have r1 : w7.cell? ⟨b5, 1, none⟩ = some (.slice none 0 0) := N0.out.2.1.cell 1); (have s1 := N0.out.2.1.frozen 1); (have r2 : w7.cell? ⟨b5, 2, none⟩ = some (.int .i64 0) := N0.out.2.1.cell 2); (have s2 := N0.out.2.1.frozen 2); (have r3 : w7.cell? ⟨b5, 3, none⟩ = some (.int .i64 0) := N0.out.2.1.cell 3); (have s3 := N0.out.2.1.frozen 3))
  have HF : Hid (CBox (((((((((w7.setCell ⟨b4, 0, none⟩ (.slice (some ⟨gt, 0, none⟩) c.ts.length c.ts.length)).setCell ⟨b4, 1, none⟩ (.slice (some ⟨gc, 0, none⟩) c.cs.length c.cs.length)).setCell ⟨b4, 2, none⟩ (.slice (some ⟨gs, 0, none⟩) c.ss.length c.ss.length)).setCell ⟨b4, 3, none⟩ (.slice da c.d.length dc)).setCell ⟨b4, 4, none⟩ (.int .i64 c.n)).setCell ⟨b5, 0, none⟩ (.int .i64 0)).setCell ⟨b5, 1, none⟩ (.slice none 0 0)).setCell ⟨b5, 2, none⟩ (.int .i64 0)).setCell ⟨b5, 3, none⟩ (.int .i64 0)) b4 28 [.slice (some ⟨gt, 0, none⟩) c.ts.length c.ts.length, .slice (some ⟨gc, 0, none⟩) c.cs.length c.cs.length, .slice (some ⟨gs, 0, none⟩) c.ss.length c.ss.length, .slice da c.d.length dc, .int .i64 c.n] ∧ CBox (((((((((w7.setCell ⟨b4, 0, none⟩ (.slice (some ⟨gt, 0, none⟩) c.ts.length c.ts.length)).setCell ⟨b4, 1, none⟩ (.slice (some ⟨gc, 0, none⟩) c.cs.length c.cs.length)).setCell ⟨b4, 2, none⟩ (.slice (some ⟨gs, 0, none⟩) c.ss.length c.ss.length)).setCell ⟨b4, 3, none⟩ (.slice da c.d.length dc)).setCell ⟨b4, 4, none⟩ (.int .i64 c.n)).setCell ⟨b5, 0, none⟩ (.int .i64 0)).setCell ⟨b5, 1, none⟩ (.slice none 0 0)).setCell ⟨b5, 2, none⟩ (.int .i64 0)).setCell ⟨b5, 3, none⟩ (.int .i64 0)) b5 47 rej0L ∧ CO w.heap.size (((((((((w7.setCell ⟨b4, 0, none⟩ (.slice (some ⟨gt, 0, none⟩) c.ts.length c.ts.length)).setCell ⟨b4, 1, none⟩ (.slice (some ⟨gc, 0, none⟩) c.cs.length c.cs.length)).setCell ⟨b4, 2, none⟩ (.slice (some ⟨gs, 0, none⟩) c.ss.length c.ss.length)).setCell ⟨b4, 3, none⟩ (.slice da c.d.length dc)).setCell ⟨b4, 4, none⟩ (.int .i64 c.n)).setCell ⟨b5, 0, none⟩ (.int .i64 0)).setCell ⟨b5, 1, none⟩ (.slice none 0 0)).setCell ⟨b5, 2, none⟩ (.int .i64 0)).setCell ⟨b5, 3, none⟩ (.int .i64 0)) (.agg #[.slice (some ⟨gt, 0, none⟩) c.ts.length c.ts.length, .slice (some ⟨gc, 0, none⟩) c.cs.length c.cs.length, .slice (some ⟨gs, 0, none⟩) c.ss.length c.ss.length, .slice da c.d.length dc, .int .i64 c.n]) c ∧ Below w.heap.size w (((((((((w7.setCell ⟨b4, 0, none⟩ (.slice (some ⟨gt, 0, none⟩) c.ts.length c.ts.length)).setCell ⟨b4, 1, none⟩ (.slice (some ⟨gc, 0, none⟩) c.cs.length c.cs.length)).setCell ⟨b4, 2, none⟩ (.slice (some ⟨gs, 0, none⟩) c.ss.length c.ss.length)).setCell ⟨b4, 3, none⟩ (.slice da c.d.length dc)).setCell ⟨b4, 4, none⟩ (.int .i64 c.n)).setCell ⟨b5, 0, none⟩ (.int .i64 0)).setCell ⟨b5, 1, none⟩ (.slice none 0 0)).setCell ⟨b5, 2, none⟩ (.int .i64 0)).setCell ⟨b5, 3, none⟩ (.int .i64 0))) := by
    obtain ⟨h4, h5, n45, hbel, hco⟩ := N0.out
    have k4 : But (fun y => y = b4) w7 (((((w7.setCell ⟨b4, 0, none⟩ (.slice (some ⟨gt, 0, none⟩) c.ts.length c.ts.length)).setCell ⟨b4, 1, none⟩ (.slice (some ⟨gc, 0, none⟩) c.cs.length c.cs.length)).setCell ⟨b4, 2, none⟩ (.slice (some ⟨gs, 0, none⟩) c.ss.length c.ss.length)).setCell ⟨b4, 3, none⟩ (.slice da c.d.length dc)).setCell ⟨b4, 4, none⟩ (.int .i64 c.n)) := ((((((But.refl (fun y => y = b4) w7).setCell ⟨b4, 0, none⟩ _ (Or.inl rfl)).setCell ⟨b4, 1, none⟩ _ (Or.inl rfl)).setCell ⟨b4, 2, none⟩ _ (Or.inl rfl)).setCell ⟨b4, 3, none⟩ _ (Or.inl rfl)).setCell ⟨b4, 4, none⟩ _ (Or.inl rfl))
    have a4 : Alien w7 b4 := ⟨_, _, h4, by decide, by decide, by decide⟩
    have co4 := (hco.mono (show w.heap.size ≤ w6.heap.size by have := M.out.bel.size; have := GB.out; omega)).alien k4 a4
    have c4 : CBox (((((w7.setCell ⟨b4, 0, none⟩ (.slice (some ⟨gt, 0, none⟩) c.ts.length c.ts.length)).setCell ⟨b4, 1, none⟩ (.slice (some ⟨gc, 0, none⟩) c.cs.length c.cs.length)).setCell ⟨b4, 2, none⟩ (.slice (some ⟨gs, 0, none⟩) c.ss.length c.ss.length)).setCell ⟨b4, 3, none⟩ (.slice da c.d.length dc)).setCell ⟨b4, 4, none⟩ (.int .i64 c.n)) b4 28 [.slice (some ⟨gt, 0, none⟩) c.ts.length c.ts.length, .slice (some ⟨gc, 0, none⟩) c.cs.length c.cs.length, .slice (some ⟨gs, 0, none⟩) c.ss.length c.ss.length, .slice da c.d.length dc, .int .i64 c.n] := (((((h4.set 0 _).set 1 _).set 2 _).set 3 _).set 4 _)
    have z5 := h5.but k4 (Ne.symm n45)
    have bl4 : Below w.heap.size w (((((w7.setCell ⟨b4, 0, none⟩ (.slice (some ⟨gt, 0, none⟩) c.ts.length c.ts.length)).setCell ⟨b4, 1, none⟩ (.slice (some ⟨gc, 0, none⟩) c.cs.length c.cs.length)).setCell ⟨b4, 2, none⟩ (.slice (some ⟨gs, 0, none⟩) c.ss.length c.ss.length)).setCell ⟨b4, 3, none⟩ (.slice da c.d.length dc)).setCell ⟨b4, 4, none⟩ (.int .i64 c.n)) := hbel.trans (k4.below (fun y e => by have := GB.out; omega) (by have := hbel.size; have := GB.out; omega))
    generalize (((((w7.setCell ⟨b4, 0, none⟩ (.slice (some ⟨gt, 0, none⟩) c.ts.length c.ts.length)).setCell ⟨b4, 1, none⟩ (.slice (some ⟨gc, 0, none⟩) c.cs.length c.cs.length)).setCell ⟨b4, 2, none⟩ (.slice (some ⟨gs, 0, none⟩) c.ss.length c.ss.length)).setCell ⟨b4, 3, none⟩ (.slice da c.d.length dc)).setCell ⟨b4, 4, none⟩ (.int .i64 c.n)) = Z4 at k4 co4 c4 z5 bl4 ⊢
    have k5 : But (fun y => y = b5) Z4 ((((Z4.setCell ⟨b5, 0, none⟩ (.int .i64 0)).setCell ⟨b5, 1, none⟩ (.slice none 0 0)).setCell ⟨b5, 2, none⟩ (.int .i64 0)).setCell ⟨b5, 3, none⟩ (.int .i64 0)) := (((((But.refl (fun y => y = b5) Z4).setCell ⟨b5, 0, none⟩ _ (Or.inl rfl)).setCell ⟨b5, 1, none⟩ _ (Or.inl rfl)).setCell ⟨b5, 2, none⟩ _ (Or.inl rfl)).setCell ⟨b5, 3, none⟩ _ (Or.inl rfl))
    have a5 : Alien Z4 b5 := ⟨_, _, z5, by decide, by decide, by decide⟩
    exact ⟨c4.but k5 n45, (((z5.set 0 _).set 1 _).set 2 _).set 3 _, co4.alien k5 a5, bl4.trans (k5.below (fun y e => by have := M.out.g5; have := GB.out; omega) (by have := bl4.size; have := GB.out; omega))⟩
  clear p0 q0 p1 q1 p2 q2 p3 q3 p4 q4 r0 s0 r1 s1 r2 s2 r3 s3 N0
  generalize (((((((((w7.setCell ⟨b4, 0, none⟩ (.slice (some ⟨gt, 0, none⟩) c.ts.length c.ts.length)).setCell ⟨b4, 1, none⟩ (.slice (some ⟨gc, 0, none⟩) c.cs.length c.cs.length)).setCell ⟨b4, 2, none⟩ (.slice (some ⟨gs, 0, none⟩) c.ss.length c.ss.length)).setCell ⟨b4, 3, none⟩ (.slice da c.d.length dc)).setCell ⟨b4, 4, none⟩ (.int .i64 c.n)).setCell ⟨b5, 0, none⟩ (.int .i64 0)).setCell ⟨b5, 1, none⟩ (.slice none 0 0)).setCell ⟨b5, 2, none⟩ (.int .i64 0)).setCell ⟨b5, 3, none⟩ (.int .i64 0)) = Z9 at HF ⊢
  exact told Z9 b4 b5 [.slice (some ⟨gt, 0, none⟩) c.ts.length c.ts.length, .slice (some ⟨gc, 0, none⟩) c.cs.length c.cs.length, .slice (some ⟨gs, 0, none⟩) c.ss.length c.ss.length, .slice da c.d.length dc, .int .i64 c.n] _ HF.out.2.1 rfl rfl _ (run_loadVar_mid Z9 b4 0 28 [.slice (some ⟨gt, 0, none⟩) c.ts.length c.ts.length, .slice (some ⟨gc, 0, none⟩) c.cs.length c.cs.length, .slice (some ⟨gs, 0, none⟩) c.ss.length c.ss.length, .slice da c.d.length dc, .int .i64 c.n] _ HF.out.1.range Try.underlying28 rfl (by kernel_rfl)) ⟨by rw [HE.out]; exact ⟨_, rfl, HF.out.2.2.1⟩, HF.out.2.2.2⟩
end Go.Proofs.Ytndhabhlajldeaa
