/- Package undo: All. -/
import Derived.Test.YtohfkgfjcnldaaaTyqM
namespace Go.Proofs.Ytohfkgfjcnldaaa
open Go.RowKit Go.Shelf
/-- the rows as All's function reads them -/
def AllR (W : World) (rb : Nat) (ad : Option Addr) (cap : Nat) (l : List (Int × Int)) (n : Nat) : Prop := (W.cell? ⟨rb, 0, none⟩ = some (.slice ad l.length cap) ∧ n ≤ rb) ∧ ∀ i p, l[i]? = some p → ∃ g, ad = some ⟨g, 0, none⟩ ∧ n ≤ g ∧ W.cell? ⟨g, i * 2, none⟩ = some (.int .i64 p.1) ∧ W.cell? ⟨g, i * 2 + 1, none⟩ = some (.int .i64 p.2)
theorem RwL.rd {W : World} {g n cap : Nat} {l : List (Int × Int)} (h : RwL W (.slice (some ⟨g, 0, none⟩) n cap) l) : RdR W g l := fun j u hj => by
  obtain ⟨g', e, c, f⟩ := row_cell h hj
  injection e with e
  injection e with e
  subst e
  exact ⟨c, f⟩
theorem RdR.allR {W : World} {rb g cap n : Nat} {l : List (Int × Int)} (h : RdR W g l) (hc : W.cell? ⟨rb, 0, none⟩ = some (.slice (some ⟨g, 0, none⟩) l.length cap)) (h1 : n ≤ rb) (h2 : n ≤ g) : AllR W rb (some ⟨g, 0, none⟩) cap l n := by
  refine ⟨⟨hc, h1⟩, fun i p hp => ⟨g, rfl, h2, ?_, ?_⟩⟩
  · exact (h _ _ (rowsD_get l i p hp).1).1
  · exact (h _ _ (rowsD_get l i p hp).2).1
set_option maxHeartbeats 2000000 in
set_option maxRecDepth 100000 in
theorem all_is (w : World) (b pm : Nat) (ra : Option Addr) (rc : Nat) (ba : Option Addr) (bc : Nat) (ma : Option Addr) (mc : Nat) (m : Int → Option Nat) (L : List (Int × Int)) (U : List Value) (M : List Nat) (h : Tab w b pm ra rc ba bc ma mc m L U M) (hL : L.length < 549755813888) :
    Calls Try.prog 53 #[.pointer (some ⟨b, 0, none⟩), .func (.func 54) #[] #[]] w fun e w' => ∃ rb ad cap, e = .returned (.func (.func 82) #[] #[.pointer (some ⟨rb, 0, none⟩)]) ∧ AllR w' rb ad cap (srt L) w.heap.size ∧ Below w.heap.size w w' ∧ w.heap.size ≤ rb ∧ ∀ g, ad = some ⟨g, 0, none⟩ → w.heap.size ≤ g := by
  obtain ⟨w1, e1⟩ : ∃ w1, w1 = w.alloc (.cells #[.func (.func 54) #[] #[]] 74) := ⟨_, rfl⟩
  have B1 : Hid (Below w.heap.size w w1) := by rw [e1]; exact (Below.refl _ w).alloc (Nat.le_refl _) _
  have O1 : Hid (CBox w1 w.heap.size 74 [.func (.func 54) #[] #[]]) := by rw [e1]; exact CBox.new w _ [_]
  have R1 : Hid (RwL w1 (.slice ra L.length rc) L) := row_new h.rows (below_but (S := fun _ => False) B1.out) (fun _ _ => id)
  have c0 : w1.cell? ⟨b, 0, none⟩ = some (.slice ra L.length rc) := (B1.out.cell (p := ⟨b, 0, none⟩) h.box.lt).trans h.c0
  have ND : Hid (Nd L ∧ L.length < 549755813888) := ⟨h.ix.nd, hL⟩
  have CLN : Hid (Calls Try.prog 79 #[.slice ra L.length rc] w1 fun e w' => ∃ v', e = .returned v' ∧ RwL w' v' L ∧ Below w1.heap.size w1 w' ∧ ∀ k, v'.ownBlock = some k → w1.heap.size ≤ k) := clone_is w1 (.slice ra L.length rc) L R1.out hL
  obtain ⟨ob, eb⟩ : ∃ ob, ob = w.heap.size := ⟨_, rfl⟩
  have EB : Hid (ob = w.heap.size) := eb
  rw [← eb] at O1
  generalize hn : L.length = n at c0 CLN
  have EN : Hid (L.length = n) := hn
  clear h hL hn
  go_enter Try.func53, Try.ntmps53
  go_upto_region 1 with fail
  change Code.wp _ _ _ _ (w.alloc (.cells #[.func (.func 54) #[] #[]] 74))
  rw [← e1, ← eb]
  clear e1 eb
  go_upto_region 2 with (go_at_call 79; refine (CLN.out).mono ?_; rintro e v1 ⟨v', rfl, h1, h2, h3⟩; obtain ⟨ad, cap, rfl⟩ := h1.form; rw [EN.out])
  have LN := EN.out
  have RB2 : Hid (CBox (v1.alloc (.cells #[.slice ad n cap] 107)) v1.heap.size 107 [.slice ad n cap]) := CBox.new v1 _ [_]
  have BA : Below v1.heap.size v1 (v1.alloc (.cells #[.slice ad n cap] 107)) := (Below.refl _ _).alloc (Nat.le_refl _) _
  have RW2 : Hid (RwL (v1.alloc (.cells #[.slice ad n cap] 107)) (.slice ad L.length cap) L) := h1.past BA
  have O2 : Hid (CBox (v1.alloc (.cells #[.slice ad n cap] 107)) ob 74 [.func (.func 54) #[] #[]]) := (O1.out.but (below_but (S := fun _ => False) h2) id).but (below_but (S := fun _ => False) BA) id
  have B2 : Hid (Below w.heap.size w (v1.alloc (.cells #[.slice ad n cap] 107))) := (B1.out.trans (h2.mono B1.out.size)).trans (BA.mono (Nat.le_trans B1.out.size h2.size))
  have GG : Hid (∀ g, ad = some ⟨g, 0, none⟩ → w1.heap.size ≤ g ∧ g < v1.heap.size) := fun g e => by subst e; exact ⟨h3 g rfl, (World.ownsRow.lt h1 g rfl).2⟩
  have OL : Hid (ob < w1.heap.size ∧ w1.heap.size ≤ v1.heap.size ∧ w.heap.size ≤ w1.heap.size) := ⟨O1.out.lt, h2.size, B1.out.size⟩
  clear h1 h2 h3 BA CLN R1 O1 B1 c0 LN
  generalize v1.alloc (.cells #[.slice ad n cap] 107) = v2 at RB2 RW2 O2 B2 ⊢
  have RL : Hid (v1.heap.size = v1.heap.size) := rfl
  obtain ⟨rb, er⟩ : ∃ rb, rb = v1.heap.size := ⟨_, rfl⟩
  rw [← er] at RB2 ⊢
  have ER : Hid (rb = v1.heap.size) := er
  clear er RL
  have SO : Hid (Calls Try.prog 80 #[.slice ad n cap, .func (.func 81) #[] #[.pointer (some ⟨ob, 0, none⟩)]] v2 fun e w' => e = .returned (.tuple #[]) ∧ AllR w' rb ad cap (srt L) w.heap.size ∧ Below w.heap.size w w') := by
    have c2 : v2.cell? ⟨rb, 0, none⟩ = some (.slice ad n cap) := RB2.out.cell 0
    have OLo := OL.out
    by_cases e0 : L.length = 0
    · have n0 : n = 0 := by rw [← EN.out]; exact e0
      subst n0
      have L0 : L = [] := List.eq_nil_of_length_eq_zero e0
      refine (AnyF.slices_SortFunc_none rfLays ad cap _ v2).mono ?_
      rintro e w' ⟨rfl, rfl⟩
      refine ⟨rfl, ⟨⟨by rw [srt_len, e0]; exact c2, by rw [ER.out]; omega⟩, fun i p hp => ?_⟩, B2.out⟩
      rw [L0] at hp
      unfold srt at hp
      simp at hp
    · obtain ⟨g, rfl, _⟩ := RwL.at RW2.out (atL_get (L := L) (i := 0) (by omega))
      obtain ⟨g1, g2⟩ := GG.out g rfl
      have hr := RW2.out.rd
      have S := sortR_is v2 g cap L hr (by have := (World.ownsRow.lt RW2.out g rfl).2; exact this) ND.out.2 ND.out.1 ob (O2.out.cell 0) (by omega)
      rw [EN.out] at S
      refine S.mono ?_
      rintro e w' ⟨rfl, q1, q2⟩
      have c3 : w'.cell? ⟨rb, 0, none⟩ = some (.slice (some ⟨g, 0, none⟩) (srt L).length cap) := by
        rw [srt_len, EN.out]
        exact (q2.cell (p := ⟨rb, 0, none⟩) RB2.out.lt (fun e => by have h9 : rb = g := e; have := ER.out; omega)).trans c2
      exact ⟨rfl, q1.allR c3 (by rw [ER.out]; omega) (by omega), B2.out.trans (q2.below (fun k e => by have h9 : k = g := e; omega) B2.out.size)⟩
  have o2 : v2.cell? ⟨ob, 0, none⟩ = some (.func (.func 54) #[] #[]) := O2.out.cell 0
  have r2 : v2.cell? ⟨rb, 0, none⟩ = some (.slice ad n cap) := RB2.out.cell 0
  have hq := neq_fn v2
  go_wp2_with (go_at_call 80; refine (SO.out).mono ?_; rintro e v9 ⟨rfl, q1, q2⟩)
  go_ret
  exact ⟨rb, ad, cap, rfl, q1, q2, q1.1.2, fun g e => Nat.le_trans OL.out.2.2 (GG.out g e).1⟩
/-- All's function, and what it reads, in blocks of the law's own -/
def AllI (W : World) (ow : Nat → Nat) (rb : Nat) (ad : Option Addr) (cap : Nat) (l : List (Int × Int)) : Prop := (W.cell? ⟨rb, 0, none⟩ = some (.slice ad l.length cap) ∧ ow rb = 0) ∧ ∀ i p, l[i]? = some p → ∃ g, ad = some ⟨g, 0, none⟩ ∧ ow g = 0 ∧ W.cell? ⟨g, i * 2, none⟩ = some (.int .i64 p.1) ∧ W.cell? ⟨g, i * 2 + 1, none⟩ = some (.int .i64 p.2)
theorem AllI.mo {Q : Nat → Prop} {W W' : World} {ow ow' : Nat → Nat} {rb : Nat} {ad : Option Addr} {cap : Nat} {l : List (Int × Int)} (h : AllI W ow rb ad cap l) (m : Mo Q ow ow' W W') (hQ : ¬ Q 0) : AllI W' ow' rb ad cap l := by
  obtain ⟨⟨h1, h2⟩, h3⟩ := h
  have lt : rb < W.heap.size := World.block_lt_of_cell? W _ h1
  refine ⟨⟨(m.but.cell (p := ⟨rb, 0, none⟩) lt (fun e => hQ (h2 ▸ e.1))).trans h1, (m.eq rb lt).trans h2⟩, fun i p hp => ?_⟩
  obtain ⟨g, e, e1, e2, e3⟩ := h3 i p hp
  have lg : g < W.heap.size := World.block_lt_of_cell? W _ e2
  exact ⟨g, e, (m.eq g lg).trans e1, (m.but.cell (p := ⟨g, _, none⟩) lg (fun x => hQ (e1 ▸ x.1))).trans e2, (m.but.cell (p := ⟨g, _, none⟩) lg (fun x => hQ (e1 ▸ x.1))).trans e3⟩
theorem all1 (w : World) (ow : Nat → Nat) (i b N : Nat) (A : List (Int × Int)) (H : List (List (Int × Int))) (h : T1 w ow i b N A H) (hN : N < 549755813888) : Calls Try.prog 53 #[.pointer (some ⟨b, 0, none⟩), .func (.func 54) #[] #[]] w fun e w' => ∃ rb ad cap, e = .returned (.func (.func 82) #[] #[.pointer (some ⟨rb, 0, none⟩)]) ∧ AllI w' (grow ow w.heap.size 0) rb ad cap A ∧ Below w.heap.size w w' ∧ w.heap.size ≤ rb ∧ ∀ g, ad = some ⟨g, 0, none⟩ → w.heap.size ≤ g := by
  obtain ⟨⟨S, L, V, M, ⟨pm, ra, rc, ba, bc, ma, mc, m, ht, rfl, hV⟩, h2, h3, rfl, rfl, h6, h7, h8⟩, lA, lH, lO⟩ := h
  rw [srt_len] at lA
  refine (all_is w b pm ra rc ba bc ma mc m L _ M ht (by omega)).mono ?_
  rintro e w' ⟨rb, ad, cap, rfl, ⟨⟨q1, q2⟩, q3⟩, q4, q5⟩
  refine ⟨rb, ad, cap, rfl, ⟨⟨q1, grow_ge q2⟩, fun i p hp => ?_⟩, q4, q5⟩
  obtain ⟨g, e, e1, e2, e3⟩ := q3 i p hp
  exact ⟨g, e, grow_ge e1, e2, e3⟩
end Go.Proofs.Ytohfkgfjcnldaaa
/- All's function: the rows by their keys, one by one. -/
namespace Go.Proofs.Ytohfkgfjcnldaaa
open Go.RowKit Go.Shelf
attribute [local go_sem] Oper.semAt_some
/-- how an element comes: its box is new -/
def AlC (l : List (Int × Int)) (pre : List (Int × Int)) (x : Int × Int) (W0 W1 : World) : Prop := W1 = W0.alloc (.cells #[.int .i64 x.1, .int .i64 x.2] 112) ∧ l[pre.length]? = some x
/-- what the body keeps -/
def AlK (rb : Nat) (ad : Option Addr) (_ : Int × Int) (W W' : World) : Prop := (∀ v, W.cell? ⟨rb, 0, none⟩ = some v → W'.cell? ⟨rb, 0, none⟩ = some v) ∧ ∀ g j v, ad = some ⟨g, 0, none⟩ → W.cell? ⟨g, j, none⟩ = some v → W'.cell? ⟨g, j, none⟩ = some v
structure AlE (rb : Nat) (ad : Option Addr) (cap : Nat) (l : List (Int × Int)) (W : World) : Prop where
  box : W.cell? ⟨rb, 0, none⟩ = some (.slice ad l.length cap)
  el : ∀ i p, l[i]? = some p → ∃ g, ad = some ⟨g, 0, none⟩ ∧ W.cell? ⟨g, i * 2, none⟩ = some (.int .i64 p.1) ∧ W.cell? ⟨g, i * 2 + 1, none⟩ = some (.int .i64 p.2)
theorem AlE.kept {rb : Nat} {ad : Option Addr} {cap : Nat} {l : List (Int × Int)} {W W' : World} {x : Int × Int} (h : AlE rb ad cap l W) (k : AlK rb ad x W W') : AlE rb ad cap l W' :=
  ⟨k.1 _ h.box, fun i p hp => by obtain ⟨g, e, c0, c1⟩ := h.el i p hp; exact ⟨g, e, k.2 g _ _ e c0, k.2 g _ _ e c1⟩⟩
theorem AlE.past {rb : Nat} {ad : Option Addr} {cap : Nat} {l : List (Int × Int)} {W W' : World} (h : AlE rb ad cap l W) (k : Below W.heap.size W W') : AlE rb ad cap l W' :=
  h.kept (x := (0, 0)) ⟨fun _ hv => (k.cell (p := ⟨rb, 0, none⟩) (World.block_lt_of_cell? W _ hv)).trans hv, fun g j _ _ hv => (k.cell (p := ⟨g, j, none⟩) (World.block_lt_of_cell? W _ hv)).trans hv⟩
set_option maxRecDepth 100000 in
set_option maxHeartbeats 2000000 in
theorem all2_in (n : Nat) (hn : 1 ≤ n) (l rb : Nat) (ad : Option Addr) (cap : Nat) (A : List (Int × Int)) (hA : A.length < 549755813888) (J Jx : List (Int × Int) → World → Prop) (W : World)
    (hY : ∀ pre x W0 W1, J pre W0 → AlC A pre x W0 W1 → YieldAt Fence.wide (n - 1) Try.prog l #[.int .i64 x.1, .int .i64 x.2] W1 fun e W' =>
      (e = .returned (.bool true) ∧ J (pre ++ [x]) W' ∧ AlK rb ad x W1 W') ∨ (e = .returned (.bool false) ∧ Jx (pre ++ [x]) W'))
    (hE : AlE rb ad cap A W) (h0 : J [] W) :
    CallsIn Fence.wide n Try.prog 82 #[.func (.yield l) #[] #[], .pointer (some ⟨rb, 0, none⟩)] W fun e W' => (∃ v, e = .returned v) ∧
      ((∃ xs, xs = A ∧ ∃ W0, J xs W0 ∧ Below W0.heap.size W0 W') ∨ (∃ pre, True ∧ Jx pre W')) := by
  obtain ⟨nn, en⟩ : ∃ nn, A.length = nn := ⟨_, rfl⟩
  have EN : Hid (A.length = nn) := en
  have nX : (nn : Int) < 549755813888 := by omega
  have b0 := hE.box
  rw [en] at b0
  clear en
  refine callsIn_of_wp Try.func82 rfl trivial ?_ rfl
  simp only [Try.ntmps82, List.size_toArray, List.length_cons, List.length_nil, Nat.reduceAdd, Nat.reduceSub, Array.replicate_succ, Array.replicate_zero, List.push_toArray, List.append_toArray, List.nil_append, List.cons_append]
  gi_wp2
  gi_loopw [7] (fun i wr => ∃ j : Nat, j ≤ nn ∧ i = .int .i64 (j : Int) ∧ J (A.take j) wr ∧ AlE rb ad cap A wr) (fun i _ => nn - (intOf i).toNat)
  case atStart => exact ⟨0, by omega, rfl, by rw [List.take_zero]; exact h0, hE⟩
  case round =>
    obtain ⟨j, hj, rfl, hJs, hEs⟩ := hrel
    by_cases hlt : j < nn
    · have jI : (j : Int) < (nn : Int) := by omega
      obtain ⟨⟨kx, vx⟩, hp⟩ : ∃ p, A[j]? = some p := ⟨_, List.getElem?_eq_getElem (by rw [EN.out]; exact hlt)⟩
      obtain ⟨g, rfl, c0, c1⟩ := hEs.el j (kx, vx) hp
      have lj : (A.take j).length = j := by rw [List.length_take, EN.out]; omega
      obtain ⟨fn, tmps, assign, body, hy, hR⟩ := hY (A.take j) (kx, vx) wr (wr.alloc (.cells #[.int .i64 kx, .int .i64 vx] 112)) hJs ⟨rfl, by rw [lj]; exact hp⟩
      have HJ : Hid (AlE rb (some ⟨g, 0, none⟩) cap A wr ∧ A.take (j + 1) = A.take j ++ [(kx, vx)] ∧ j < nn) := ⟨hEs, by rw [List.take_add_one, hp]; rfl, hlt⟩
      have x0 : (wr.alloc (.cells #[.int .i64 kx, .int .i64 vx] 112)).cell? ⟨wr.heap.size, 0, none⟩ = some (.int .i64 kx) := (CBox.new wr 112 [.int .i64 kx, .int .i64 vx]).cell 0
      have x1 : (wr.alloc (.cells #[.int .i64 kx, .int .i64 vx] 112)).cell? ⟨wr.heap.size, 1, none⟩ = some (.int .i64 vx) := (CBox.new wr 112 [.int .i64 kx, .int .i64 vx]).cell 1
      have BA : Hid (Below wr.heap.size wr (wr.alloc (.cells #[.int .i64 kx, .int .i64 vx] 112))) := (Below.refl _ _).alloc (Nat.le_refl _) _
      dsimp only at hy c0 c1
      clear hEs hJs hY hlt b0 hE h0 hp lj
      gi_wp2
      refine hR.mono ?_
      rintro e W3 (⟨rfl, hJ3, hk3⟩ | ⟨rfl, hJx3⟩)
      · gi_wp2
        go_roundw
        case rel => exact ⟨j + 1, HJ.out.2.2, by go_num, by rw [HJ.out.2.1]; exact hJ3, (HJ.out.1.past BA.out).kept hk3⟩
        case measure => have h9 := HJ.out.2.2; simp [intOf]; omega
      · gi_wp2
        refine bodyPost_ret (results_none rfl _ _ _) rfl ?_
        exact ⟨⟨_, rfl⟩, .inr ⟨_, trivial, hJx3⟩⟩
    · obtain rfl : j = nn := by omega
      have jI : ¬ (j : Int) < (j : Int) := by omega
      gi_wp2
      go_end0
      rw [List.take_of_length_le (by rw [EN.out]; exact Nat.le_refl _)] at hJs
      first | exact ⟨⟨_, rfl⟩, .inl ⟨_, rfl, wr, hJs, Below.refl _ _⟩⟩ | exact ⟨⟨_, rfl⟩, .inl ⟨wr, hJs, Below.refl _ _⟩⟩
theorem all2_seq (n : Nat) (hn : 1 ≤ n) (rb : Nat) (ad : Option Addr) (cap : Nat) (A : List (Int × Int)) (hA : A.length < 549755813888) (w : World) (hE : AlE rb ad cap A w) :
    SeqW Fence.wide n Try.prog 82 #[.pointer (some ⟨rb, 0, none⟩)] (fun x : Int × Int => #[.int .i64 x.1, .int .i64 x.2]) (AlC A) (AlK rb ad) (fun xs => xs = A) (fun _ => True) w :=
  fun l J Jx W hW hY h0 => all2_in n hn l rb ad cap A hA J Jx W hY (hE.past hW) h0
end Go.Proofs.Ytohfkgfjcnldaaa
