/- vouchtop's parts: true of a container that is what bytes say. -/
import Derived.Test.YtndhabhlajldeaaMg4
import Derived.Test.YtndhabhlajldeaaMg7
namespace Go.Proofs.Ytndhabhlajldeaa
open Go.RowKit
theorem cell_below {w w' : World} (h : Below w.heap.size w w') {a : Addr} {v : Value} (hc : w.cell? a = some v) : w'.cell? a = some v := by
  rw [h.cell (World.block_lt_of_cell? w a hc)]
  exact hc
theorem sameT_is {P R : Nat → Prop} (w : World) (v u : Value) (x : List Nat) (h : BL P w v x) (k : BL R w u x) : Calls Try.prog 50 #[v, u] w fun e w' => e = .returned (.bool true) ∧ Below w.heap.size w w' := by
  have := topsame_is w v u x x h k
  rwa [show decide (x = x) = true from by simp] at this
/-- a container says what these bytes of a shape say -/
structure PtQ (b : List Nat) (c : Con) (E4 n m p D : Nat) : Prop where
  lt : c.ts.length = n
  lc : c.cs.length = n
  ls : c.ss.length = m
  nD : c.n = (D : Int)
  d : c.d = b.drop p
  hp : p ≤ b.length
  ht : E4 + 4 * n ≤ p
  hl : b.length ≤ 200000
  hn : n ≤ 1024 ∧ m ≤ 256
  ty : ∀ j, j < n → c.ts[j]? = some ((rd b (E4 + 4 * j) 1 : Int), (rd b (E4 + 4 * j + 1) 1 : Int), (rd b (E4 + 4 * j + 2) 2 : Int))
  co : ∀ j, j < n → c.cs[j]? = some ((b.drop (gPl b j)).take (gPl b (j + 1) - gPl b j))
  su : ∀ j, j < m → c.ss[j]? = some ((b.drop (gPl b (n + j))).take (gPl b (n + j + 1) - gPl b (n + j)))
  pl : ∀ i, i ≤ n + m → gPl b i ≤ p
theorem ptQ_of {b : List Nat} {opn : Bool} (h : prs b opn = .ok (gC b)) (hl : b.length ≤ 200000) : PtQ b (gC b) (gE b + 4) (gN b) (gM b) (gP b) (gD b) := by
  obtain ⟨G, h1, h2, _, _, _⟩ := prs_gram.1 h
  have hm : gM b ≤ 256 := by
    by_cases e : rd b (gA b) 1 = 3
    · exact (G.m1 e).2
    · unfold gM; rw [if_neg e]; omega
  exact ⟨by simp [gC], by show (cuts _ _ _).length = _; rw [cuts_len, gcs_len], by show (cuts _ _ _).length = _; rw [cuts_len, gss_len], rfl, rfl, h1, by unfold gP; omega, hl, ⟨G.n2, hm⟩, fun j hj => by (show ((List.range (gN b)).map _)[j]? = _; rw [List.getElem?_map, List.getElem?_range hj]; rfl), fun j hj => by rw [gc_code hj]; (have e : gPl b (j + 1) = gPl b j + gL b j := rfl); rw [e, Nat.add_sub_cancel_left], fun j hj => by rw [gc_sub hj]; (have e : gPl b (gN b + j + 1) = gPl b (gN b + j) + gL b (gN b + j) := rfl); rw [e, Nat.add_sub_cancel_left], fun i hi => by rw [← gpl_all b]; exact gpl_le hi⟩
/-- in the midst of parts -/
structure PtM (bx b5 : Nat) (P R : Nat → Prop) (C : Nat) (w W : World) (tv cv sv dv uv gv : Value) (V5 S6 : List Value) (c : Con) (b : List Nat) (q : Nat) : Prop where
  c1 : CBox W bx 28 V5
  c2 : CBox W b5 67 S6
  t : TL P W tv c.ts
  p : PL P W cv c.cs
  s : PL P W sv c.ss
  d : BL P W dv c.d
  u : BL R W uv b
  g : InO C W gv ((List.range q).map (gPl b))
  bel : Below bx w W
  ge : bx ≤ w.heap.size
theorem PtM.past {bx b5 : Nat} {P R : Nat → Prop} {C : Nat} {w W W' : World} {tv cv sv dv uv gv : Value} {V5 S6 : List Value} {c : Con} {b : List Nat} {q : Nat} (h : PtM bx b5 P R C w W tv cv sv dv uv gv V5 S6 c b q) (k : Below W.heap.size W W') : PtM bx b5 P R C w W' tv cv sv dv uv gv V5 S6 c b q :=
  ⟨h.c1.past k, h.c2.past k, h.t.past k, h.p.past k, h.s.past k, h.d.past k, h.u.past k, h.g.past k, h.bel.trans (k.mono (Nat.le_trans h.ge h.bel.size)), h.ge⟩
/-- a piece of bytes by two places -/
theorem mid_ex {R : Nat → Prop} {b : List Nat} {ua : Option Addr} {L uc i j : Nat} (hL : b.length = L) (hc : L ≤ uc) (hi : i ≤ j) (hj : j ≤ L) : ∃ d9 l9 c9, (∀ W, Sem.run Try.prog (Instr.slice 22 (.slice ua L uc) (some (.int .i64 (i : Int))) (some (.int .i64 (j : Int))) none) W = .ok (.slice d9 l9 c9) W) ∧ ∀ W, BL R W (.slice ua L uc) b → BL R W (.slice d9 l9 c9) ((b.drop i).take (j - i)) :=
  ⟨_, _, _, fun W => slice_ij ua L uc i j hi (by omega) W, fun W h => by subst hL; exact h.mid i j hi hj⟩
theorem tail_ex {R : Nat → Prop} {b : List Nat} {ua : Option Addr} {L uc i : Nat} (hL : b.length = L) (hc : L ≤ uc) (hi : i ≤ L) : ∃ d9 l9 c9, (∀ W, Sem.run Try.prog (Instr.slice 22 (.slice ua L uc) (some (.int .i64 (i : Int))) none none) W = .ok (.slice d9 l9 c9) W) ∧ ∀ W, BL R W (.slice ua L uc) b → BL R W (.slice d9 l9 c9) (b.drop i) :=
  ⟨_, _, _, fun W => slice_i ua L uc i hi W, fun W h => by
    subst hL
    have := h.mid i b.length hi (Nat.le_refl _)
    rwa [List.take_of_length_le (by simp)] at this⟩
set_option maxHeartbeats 8000000 in
set_option maxRecDepth 100000 in
theorem parts_is {P R : Nat → Prop} {C : Nat} (w : World) (v u : Value) (c : Con) (b : List Nat) (E4 n m p D q : Nat) (ga : Option Addr) (gc : Nat) (h : CW P w v c) (hb : BL R w u b) (hby : Byt b) (hg : InO C w (.slice ga q gc) ((List.range q).map (gPl b))) (hq : q = n + m + 1) (hQ : PtQ b c E4 n m p D) : Calls Try.prog 49 #[v, u, .agg #[.int .i64 (E4 : Int), .int .i64 (n : Int), .int .i64 (m : Int), .slice ga q gc, .int .i64 (p : Int), .int .i64 (D : Int)]] w fun e w' => e = .returned (.bool true) ∧ Below w.heap.size w w' := by
  obtain ⟨tv, cv, sv, dv, rfl, h1, h2, h3, h4⟩ := h
  obtain ⟨ta, tc, rfl, _, _⟩ := h1.len
  obtain ⟨ca, cc, rfl, _⟩ := h2.len
  obtain ⟨sa, sc, rfl, _⟩ := h3.len
  obtain ⟨da, dc, rfl, _⟩ := h4.len
  obtain ⟨ua, uc, rfl, huc, _⟩ := hb.len
  rw [hQ.lt] at h1 ⊢
  rw [hQ.lc] at h2 ⊢
  rw [hQ.ls] at h3 ⊢
  rw [hQ.nD]
  obtain ⟨L, hL⟩ : ∃ L, b.length = L := ⟨_, rfl⟩
  obtain ⟨dl, hdl⟩ : ∃ dl, c.d.length = dl := ⟨_, rfl⟩
  rw [hdl] at h4 ⊢
  rw [hL] at hb huc ⊢
  have HQ : Hid (PtQ b c E4 n m p D) := hQ
  have HBY : Hid (Byt b) := hby
  have HL : Hid (b.length = L ∧ p ≤ L ∧ E4 + 4 * n ≤ p ∧ L ≤ 200000 ∧ n ≤ 1024 ∧ m ≤ 256 ∧ L ≤ uc ∧ q = n + m + 1) := ⟨hL, by rw [← hL]; exact hQ.hp, hQ.ht, by rw [← hL]; exact hQ.hl, hQ.hn.1, hQ.hn.2, huc, hq⟩
  clear hq hQ hby hL hdl huc
  have b1 := below_alloc w (.cells #[.slice ta n tc, .slice ca n cc, .slice sa m sc, .slice da dl dc, .int .i64 (D : Int)] 28)
  have b2 := below_alloc (w.alloc (.cells #[.slice ta n tc, .slice ca n cc, .slice sa m sc, .slice da dl dc, .int .i64 (D : Int)] 28)) (.cells #[.int .i64 (E4 : Int), .int .i64 (n : Int), .int .i64 (m : Int), .slice ga q gc, .int .i64 (p : Int), .int .i64 (D : Int)] 67)
  have s1 : (w.alloc (.cells #[.slice ta n tc, .slice ca n cc, .slice sa m sc, .slice da dl dc, .int .i64 (D : Int)] 28)).heap.size = w.heap.size + 1 := by simp
  have bb : Below w.heap.size w ((w.alloc (.cells #[.slice ta n tc, .slice ca n cc, .slice sa m sc, .slice da dl dc, .int .i64 (D : Int)] 28)).alloc (.cells #[.int .i64 (E4 : Int), .int .i64 (n : Int), .int .i64 (m : Int), .slice ga q gc, .int .i64 (p : Int), .int .i64 (D : Int)] 67)) := b1.trans (b2.mono (by omega))
  have c2 := CBox.new (w.alloc (.cells #[.slice ta n tc, .slice ca n cc, .slice sa m sc, .slice da dl dc, .int .i64 (D : Int)] 28)) 67 [.int .i64 (E4 : Int), .int .i64 (n : Int), .int .i64 (m : Int), .slice ga q gc, .int .i64 (p : Int), .int .i64 (D : Int)]
  rw [s1] at c2
  have M : Hid (PtM w.heap.size (w.heap.size + 1) P R C w ((w.alloc (.cells #[.slice ta n tc, .slice ca n cc, .slice sa m sc, .slice da dl dc, .int .i64 (D : Int)] 28)).alloc (.cells #[.int .i64 (E4 : Int), .int .i64 (n : Int), .int .i64 (m : Int), .slice ga q gc, .int .i64 (p : Int), .int .i64 (D : Int)] 67)) (.slice ta n tc) (.slice ca n cc) (.slice sa m sc) (.slice da dl dc) (.slice ua L uc) (.slice ga q gc) [.slice ta n tc, .slice ca n cc, .slice sa m sc, .slice da dl dc, .int .i64 (D : Int)] [.int .i64 (E4 : Int), .int .i64 (n : Int), .int .i64 (m : Int), .slice ga q gc, .int .i64 (p : Int), .int .i64 (D : Int)] c b q) := ⟨(CBox.new w 28 [.slice ta n tc, .slice ca n cc, .slice sa m sc, .slice da dl dc, .int .i64 (D : Int)]).past b2, c2, h1.past bb, h2.past bb, h3.past bb, h4.past bb, hb.past bb, hg.past bb, bb, Nat.le_refl _⟩
  clear h1 h2 h3 h4 hb hg b1 b2 s1 bb c2
  go_enter Try.func49, Try.ntmps49
  go_upto_region 1 with fail
  generalize w.heap.size + 1 = b5 at M ⊢
  generalize hbx : w.heap.size = bx at M ⊢
  have GB : Hid (w.heap.size = bx) := hbx
  clear hbx
  generalize (w.alloc _).alloc _ = W0 at M ⊢
  obtain ⟨d9, l9, c9, hs1, hs2⟩ := tail_ex (R := R) (ua := ua) (uc := uc) HL.out.1 HL.out.2.2.2.2.2.2.1 HL.out.2.1
  have HSL : Hid (∀ W, Sem.run Try.prog (Instr.slice 22 (.slice ua L uc) (some (.int .i64 (p : Int))) none none) W = .ok (.slice d9 l9 c9) W) := hs1
  have HSB : Hid (∀ W, BL R W (.slice ua L uc) b → BL R W (.slice d9 l9 c9) c.d) := by rw [HQ.out.d]; exact hs2
  clear hs1 hs2
  refine wp_region_held_drew (S := fun V' => CBox V' bx 28 [.slice ta n tc, .slice ca n cc, .slice sa m sc, .slice da dl dc, .int .i64 (D : Int)] ∧ CBox V' b5 67 [.int .i64 (E4 : Int), .int .i64 (n : Int), .int .i64 (m : Int), .slice ga q gc, .int .i64 (p : Int), .int .i64 (D : Int)]) (by kernel_rfl) ⟨M.out.c1.past below_drew, M.out.c2.past below_drew⟩ (fun hHeld => ?_)
  have M0 : Hid (PtM bx b5 P R C w W0.drew (.slice ta n tc) (.slice ca n cc) (.slice sa m sc) (.slice da dl dc) (.slice ua L uc) (.slice ga q gc) [.slice ta n tc, .slice ca n cc, .slice sa m sc, .slice da dl dc, .int .i64 (D : Int)] [.int .i64 (E4 : Int), .int .i64 (n : Int), .int .i64 (m : Int), .slice ga q gc, .int .i64 (p : Int), .int .i64 (D : Int)] c b q) := M.out.past below_drew
  clear M
  generalize W0.drew = z0 at hHeld M0 ⊢
  have M := M0
  clear M0
  refine wpAnyH_take (i := 0) (v := .pointer (some ⟨bx, 0, none⟩)) ov0 (by kernel_rfl) (by kernel_rfl) (by kernel_rfl) (fun _ _ _ h => h) (Or.inl ⟨by rfl, fun V' hS => ?_⟩) hHeld ?_
  · go_simp
  simp only [Act.put, List.setIfInBounds_toArray, List.set_cons_zero, List.set_cons_succ]
  refine wpAnyH_take (i := 1) (v := .slice ta n tc) ov1 (by kernel_rfl) (by kernel_rfl) (by kernel_rfl) (fun _ _ _ h => h) (Or.inl ⟨by rfl, fun V' hS => ?_⟩) hHeld ?_
  · have c0 : V'.cell? ⟨bx, 0, none⟩ = some (.slice ta n tc) := hS.1.cell 0
    go_simp
  simp only [Act.put, List.setIfInBounds_toArray, List.set_cons_zero, List.set_cons_succ]
  refine wpAnyH_take (i := 2) (v := .int .i64 (n : Int)) ov2 (by kernel_rfl) (by kernel_rfl) (by kernel_rfl) (fun _ _ _ h => h) (Or.inl ⟨by rfl, fun V' hS => ?_⟩) hHeld ?_
  · go_simp
  simp only [Act.put, List.setIfInBounds_toArray, List.set_cons_zero, List.set_cons_succ]
  refine wpAnyH_take (i := 3) (v := .pointer (some ⟨b5, 1, none⟩)) ov3 (by kernel_rfl) (by kernel_rfl) (by kernel_rfl) (fun _ _ _ h => h) (Or.inl ⟨by rfl, fun V' hS => ?_⟩) hHeld ?_
  · go_simp
  simp only [Act.put, List.setIfInBounds_toArray, List.set_cons_zero, List.set_cons_succ]
  refine wpAnyH_take (i := 4) (v := .int .i64 (n : Int)) ov4 (by kernel_rfl) (by kernel_rfl) (by kernel_rfl) (fun _ _ _ h => h) (Or.inl ⟨by rfl, fun V' hS => ?_⟩) hHeld ?_
  · have c0 : V'.cell? ⟨b5, 1, none⟩ = some (.int .i64 (n : Int)) := hS.2.cell 1
    go_simp
  simp only [Act.put, List.setIfInBounds_toArray, List.set_cons_zero, List.set_cons_succ]
  refine wpAnyH_take (i := 5) (v := .bool false) ov5 (by kernel_rfl) (by kernel_rfl) (by kernel_rfl) (fun _ _ _ h => h) (Or.inl ⟨by rfl, fun V' hS => ?_⟩) hHeld ?_
  · go_simp
  simp only [Act.put, List.setIfInBounds_toArray, List.set_cons_zero, List.set_cons_succ]
  refine wpAnyH_take (i := 6) (v := .bool false) ov6 (by kernel_rfl) (by kernel_rfl) (by kernel_rfl) (fun _ _ _ h => h) (Or.inl ⟨by rfl, fun V' hS => ?_⟩) hHeld ?_
  · go_simp
  simp only [Act.put, List.setIfInBounds_toArray, List.set_cons_zero, List.set_cons_succ]
  refine wpAnyH_take (i := 7) (v := .pointer (some ⟨bx, 1, none⟩)) ov7 (by kernel_rfl) (by kernel_rfl) (by kernel_rfl) (fun _ _ _ h => h) (Or.inl ⟨by rfl, fun V' hS => ?_⟩) hHeld ?_
  · go_simp
  simp only [Act.put, List.setIfInBounds_toArray, List.set_cons_zero, List.set_cons_succ]
  refine wpAnyH_take (i := 8) (v := .slice ca n cc) ov8 (by kernel_rfl) (by kernel_rfl) (by kernel_rfl) (fun _ _ _ h => h) (Or.inl ⟨by rfl, fun V' hS => ?_⟩) hHeld ?_
  · have c0 : V'.cell? ⟨bx, 1, none⟩ = some (.slice ca n cc) := hS.1.cell 1
    go_simp
  simp only [Act.put, List.setIfInBounds_toArray, List.set_cons_zero, List.set_cons_succ]
  refine wpAnyH_take (i := 9) (v := .int .i64 (n : Int)) ov9 (by kernel_rfl) (by kernel_rfl) (by kernel_rfl) (fun _ _ _ h => h) (Or.inl ⟨by rfl, fun V' hS => ?_⟩) hHeld ?_
  · go_simp
  simp only [Act.put, List.setIfInBounds_toArray, List.set_cons_zero, List.set_cons_succ]
  refine wpAnyH_take (i := 10) (v := .pointer (some ⟨b5, 1, none⟩)) ov10 (by kernel_rfl) (by kernel_rfl) (by kernel_rfl) (fun _ _ _ h => h) (Or.inl ⟨by rfl, fun V' hS => ?_⟩) hHeld ?_
  · go_simp
  simp only [Act.put, List.setIfInBounds_toArray, List.set_cons_zero, List.set_cons_succ]
  refine wpAnyH_take (i := 11) (v := .int .i64 (n : Int)) ov11 (by kernel_rfl) (by kernel_rfl) (by kernel_rfl) (fun _ _ _ h => h) (Or.inl ⟨by rfl, fun V' hS => ?_⟩) hHeld ?_
  · have c0 : V'.cell? ⟨b5, 1, none⟩ = some (.int .i64 (n : Int)) := hS.2.cell 1
    go_simp
  simp only [Act.put, List.setIfInBounds_toArray, List.set_cons_zero, List.set_cons_succ]
  refine wpAnyH_take (i := 12) (v := .bool false) ov12 (by kernel_rfl) (by kernel_rfl) (by kernel_rfl) (fun _ _ _ h => h) (Or.inl ⟨by rfl, fun V' hS => ?_⟩) hHeld ?_
  · go_simp
  simp only [Act.put, List.setIfInBounds_toArray, List.set_cons_zero, List.set_cons_succ]
  refine wpAnyH_take (i := 13) (v := .bool false) ov13 (by kernel_rfl) (by kernel_rfl) (by kernel_rfl) (fun _ _ _ h => h) (Or.inl ⟨by rfl, fun V' hS => ?_⟩) hHeld ?_
  · go_simp
  simp only [Act.put, List.setIfInBounds_toArray, List.set_cons_zero, List.set_cons_succ]
  refine wpAnyH_take (i := 14) (v := .bool false) ov14 (by kernel_rfl) (by kernel_rfl) (by kernel_rfl) (fun _ _ _ h => h) (Or.inl ⟨by rfl, fun V' hS => ?_⟩) hHeld ?_
  · go_simp
  simp only [Act.put, List.setIfInBounds_toArray, List.set_cons_zero, List.set_cons_succ]
  refine wpAnyH_take (i := 15) (v := .pointer (some ⟨bx, 2, none⟩)) ov15 (by kernel_rfl) (by kernel_rfl) (by kernel_rfl) (fun _ _ _ h => h) (Or.inl ⟨by rfl, fun V' hS => ?_⟩) hHeld ?_
  · go_simp
  simp only [Act.put, List.setIfInBounds_toArray, List.set_cons_zero, List.set_cons_succ]
  refine wpAnyH_take (i := 16) (v := .slice sa m sc) ov16 (by kernel_rfl) (by kernel_rfl) (by kernel_rfl) (fun _ _ _ h => h) (Or.inl ⟨by rfl, fun V' hS => ?_⟩) hHeld ?_
  · have c0 : V'.cell? ⟨bx, 2, none⟩ = some (.slice sa m sc) := hS.1.cell 2
    go_simp
  simp only [Act.put, List.setIfInBounds_toArray, List.set_cons_zero, List.set_cons_succ]
  refine wpAnyH_take (i := 17) (v := .int .i64 (m : Int)) ov17 (by kernel_rfl) (by kernel_rfl) (by kernel_rfl) (fun _ _ _ h => h) (Or.inl ⟨by rfl, fun V' hS => ?_⟩) hHeld ?_
  · go_simp
  simp only [Act.put, List.setIfInBounds_toArray, List.set_cons_zero, List.set_cons_succ]
  refine wpAnyH_take (i := 18) (v := .pointer (some ⟨b5, 2, none⟩)) ov18 (by kernel_rfl) (by kernel_rfl) (by kernel_rfl) (fun _ _ _ h => h) (Or.inl ⟨by rfl, fun V' hS => ?_⟩) hHeld ?_
  · go_simp
  simp only [Act.put, List.setIfInBounds_toArray, List.set_cons_zero, List.set_cons_succ]
  refine wpAnyH_take (i := 19) (v := .int .i64 (m : Int)) ov19 (by kernel_rfl) (by kernel_rfl) (by kernel_rfl) (fun _ _ _ h => h) (Or.inl ⟨by rfl, fun V' hS => ?_⟩) hHeld ?_
  · have c0 : V'.cell? ⟨b5, 2, none⟩ = some (.int .i64 (m : Int)) := hS.2.cell 2
    go_simp
  simp only [Act.put, List.setIfInBounds_toArray, List.set_cons_zero, List.set_cons_succ]
  refine wpAnyH_take (i := 20) (v := .bool false) ov20 (by kernel_rfl) (by kernel_rfl) (by kernel_rfl) (fun _ _ _ h => h) (Or.inl ⟨by rfl, fun V' hS => ?_⟩) hHeld ?_
  · go_simp
  simp only [Act.put, List.setIfInBounds_toArray, List.set_cons_zero, List.set_cons_succ]
  refine wpAnyH_take (i := 21) (v := .bool false) ov21 (by kernel_rfl) (by kernel_rfl) (by kernel_rfl) (fun _ _ _ h => h) (Or.inl ⟨by rfl, fun V' hS => ?_⟩) hHeld ?_
  · go_simp
  simp only [Act.put, List.setIfInBounds_toArray, List.set_cons_zero, List.set_cons_succ]
  refine wpAnyH_take (i := 22) (v := .bool false) ov22 (by kernel_rfl) (by kernel_rfl) (by kernel_rfl) (fun _ _ _ h => h) (Or.inl ⟨by rfl, fun V' hS => ?_⟩) hHeld ?_
  · go_simp
  simp only [Act.put, List.setIfInBounds_toArray, List.set_cons_zero, List.set_cons_succ]
  refine wpAnyH_take (i := 23) (v := .pointer (some ⟨bx, 4, none⟩)) ov23 (by kernel_rfl) (by kernel_rfl) (by kernel_rfl) (fun _ _ _ h => h) (Or.inl ⟨by rfl, fun V' hS => ?_⟩) hHeld ?_
  · go_simp
  simp only [Act.put, List.setIfInBounds_toArray, List.set_cons_zero, List.set_cons_succ]
  refine wpAnyH_take (i := 24) (v := .int .i64 (D : Int)) ov24 (by kernel_rfl) (by kernel_rfl) (by kernel_rfl) (fun _ _ _ h => h) (Or.inl ⟨by rfl, fun V' hS => ?_⟩) hHeld ?_
  · have c0 : V'.cell? ⟨bx, 4, none⟩ = some (.int .i64 (D : Int)) := hS.1.cell 4
    go_simp
  simp only [Act.put, List.setIfInBounds_toArray, List.set_cons_zero, List.set_cons_succ]
  refine wpAnyH_take (i := 25) (v := .pointer (some ⟨b5, 5, none⟩)) ov25 (by kernel_rfl) (by kernel_rfl) (by kernel_rfl) (fun _ _ _ h => h) (Or.inl ⟨by rfl, fun V' hS => ?_⟩) hHeld ?_
  · go_simp
  simp only [Act.put, List.setIfInBounds_toArray, List.set_cons_zero, List.set_cons_succ]
  refine wpAnyH_take (i := 26) (v := .int .i64 (D : Int)) ov26 (by kernel_rfl) (by kernel_rfl) (by kernel_rfl) (fun _ _ _ h => h) (Or.inl ⟨by rfl, fun V' hS => ?_⟩) hHeld ?_
  · have c0 : V'.cell? ⟨b5, 5, none⟩ = some (.int .i64 (D : Int)) := hS.2.cell 5
    go_simp
  simp only [Act.put, List.setIfInBounds_toArray, List.set_cons_zero, List.set_cons_succ]
  refine wpAnyH_take (i := 27) (v := .bool false) ov27 (by kernel_rfl) (by kernel_rfl) (by kernel_rfl) (fun _ _ _ h => h) (Or.inl ⟨by rfl, fun V' hS => ?_⟩) hHeld ?_
  · go_simp
  simp only [Act.put, List.setIfInBounds_toArray, List.set_cons_zero, List.set_cons_succ]
  refine wpAnyH_take (i := 28) (v := .bool false) ov28 (by kernel_rfl) (by kernel_rfl) (by kernel_rfl) (fun _ _ _ h => h) (Or.inl ⟨by rfl, fun V' hS => ?_⟩) hHeld ?_
  · go_simp
  simp only [Act.put, List.setIfInBounds_toArray, List.set_cons_zero, List.set_cons_succ]
  refine wpAnyH_take (i := 29) (v := .bool false) ov29 (by kernel_rfl) (by kernel_rfl) (by kernel_rfl) (fun _ _ _ h => h) (Or.inl ⟨by rfl, fun V' hS => ?_⟩) hHeld ?_
  · go_simp
  simp only [Act.put, List.setIfInBounds_toArray, List.set_cons_zero, List.set_cons_succ]
  refine wpAnyH_take (i := 30) (v := .pointer (some ⟨bx, 3, none⟩)) ov30 (by kernel_rfl) (by kernel_rfl) (by kernel_rfl) (fun _ _ _ h => h) (Or.inl ⟨by rfl, fun V' hS => ?_⟩) hHeld ?_
  · go_simp
  simp only [Act.put, List.setIfInBounds_toArray, List.set_cons_zero, List.set_cons_succ]
  refine wpAnyH_take (i := 31) (v := .slice da dl dc) ov31 (by kernel_rfl) (by kernel_rfl) (by kernel_rfl) (fun _ _ _ h => h) (Or.inl ⟨by rfl, fun V' hS => ?_⟩) hHeld ?_
  · have c0 : V'.cell? ⟨bx, 3, none⟩ = some (.slice da dl dc) := hS.1.cell 3
    go_simp
  simp only [Act.put, List.setIfInBounds_toArray, List.set_cons_zero, List.set_cons_succ]
  refine wpAnyH_take (i := 32) (v := .slice ua L uc) ov32 (by kernel_rfl) (by kernel_rfl) (by kernel_rfl) (fun _ _ _ h => h) (Or.inl ⟨by rfl, fun V' hS => ?_⟩) hHeld ?_
  · go_simp
  simp only [Act.put, List.setIfInBounds_toArray, List.set_cons_zero, List.set_cons_succ]
  refine wpAnyH_take (i := 33) (v := .pointer (some ⟨b5, 4, none⟩)) ov33 (by kernel_rfl) (by kernel_rfl) (by kernel_rfl) (fun _ _ _ h => h) (Or.inl ⟨by rfl, fun V' hS => ?_⟩) hHeld ?_
  · go_simp
  simp only [Act.put, List.setIfInBounds_toArray, List.set_cons_zero, List.set_cons_succ]
  refine wpAnyH_take (i := 34) (v := .int .i64 (p : Int)) ov34 (by kernel_rfl) (by kernel_rfl) (by kernel_rfl) (fun _ _ _ h => h) (Or.inl ⟨by rfl, fun V' hS => ?_⟩) hHeld ?_
  · have c0 : V'.cell? ⟨b5, 4, none⟩ = some (.int .i64 (p : Int)) := hS.2.cell 4
    go_simp
  simp only [Act.put, List.setIfInBounds_toArray, List.set_cons_zero, List.set_cons_succ]
  refine wpAnyH_take (i := 35) (v := .slice d9 l9 c9) ov35 (by kernel_rfl) (by kernel_rfl) (by kernel_rfl) (fun _ _ _ h => h) (Or.inl ⟨by rfl, fun V' hS => ?_⟩) hHeld ?_
  · have c0 := HSL.out V'
    go_simp
  simp only [Act.put, List.setIfInBounds_toArray, List.set_cons_zero, List.set_cons_succ]
  refine wpAnyH_ready (rs := [36]) (by kernel_rfl) (by simp) ?_
  refine AllReadyH.cons ov36 (fun K hK => ?_) AllReadyH.nil
  rw [if_pos (by rfl)]
  go_simp
  refine (sameT_is _ _ _ c.d M.out.d (HSB.out _ M.out.u)).mono ?_
  rintro e z1 ⟨rfl, hB⟩
  have M9 := M.out.past hB
  clear M hB
  have M : Hid (PtM bx b5 P R C w z1 (.slice ta n tc) (.slice ca n cc) (.slice sa m sc) (.slice da dl dc) (.slice ua L uc) (.slice ga q gc) [.slice ta n tc, .slice ca n cc, .slice sa m sc, .slice da dl dc, .int .i64 (D : Int)] [.int .i64 (E4 : Int), .int .i64 (n : Int), .int .i64 (m : Int), .slice ga q gc, .int .i64 (p : Int), .int .i64 (D : Int)] c b q) := M9
  clear M9
  (try go_wp2_with fail)
  refine hK.out _ _ ⟨M.out.c1, M.out.c2⟩ (fun _ => ?_)
  clear hK K
  (try simp only [Act.put, List.setIfInBounds_toArray, List.set_cons_zero, List.set_cons_succ])
  refine wpAnyH_take (i := 37) (v := .bool false) ov37 (by kernel_rfl) (by kernel_rfl) (by kernel_rfl) (fun _ _ _ h => h) (Or.inl ⟨by rfl, fun V' hS => ?_⟩) ⟨M.out.c1, M.out.c2⟩ ?_
  · go_simp
  simp only [Act.put, List.setIfInBounds_toArray, List.set_cons_zero, List.set_cons_succ]
  refine wpAnyH_take (i := 38) (v := .bool false) ov38 (by kernel_rfl) (by kernel_rfl) (by kernel_rfl) (fun _ _ _ h => h) (Or.inl ⟨by rfl, fun V' hS => ?_⟩) ⟨M.out.c1, M.out.c2⟩ ?_
  · go_simp
  simp only [Act.put, List.setIfInBounds_toArray, List.set_cons_zero, List.set_cons_succ]
  refine wpAnyH_done (by kernel_rfl) ?_ _
  clear hHeld HSL HSB
  have y1 : z1.cell? ⟨b5, 1, none⟩ = some (.int .i64 (n : Int)) := M.out.c2.cell 1
  have HM0 : Hid (PtM bx b5 P R C w z1 (.slice ta n tc) (.slice ca n cc) (.slice sa m sc) (.slice da dl dc) (.slice ua L uc) (.slice ga q gc) [.slice ta n tc, .slice ca n cc, .slice sa m sc, .slice da dl dc, .int .i64 (D : Int)] [.int .i64 (E4 : Int), .int .i64 (n : Int), .int .i64 (m : Int), .slice ga q gc, .int .i64 (p : Int), .int .i64 (D : Int)] c b q) := M.out
  clear M
  go_wp2
  go_loopw [7] (fun s7 wr => ∃ k : Nat, s7 = .int .i64 (k : Int) ∧ k ≤ n ∧ PtM bx b5 P R C w wr (.slice ta n tc) (.slice ca n cc) (.slice sa m sc) (.slice da dl dc) (.slice ua L uc) (.slice ga q gc) [.slice ta n tc, .slice ca n cc, .slice sa m sc, .slice da dl dc, .int .i64 (D : Int)] [.int .i64 (E4 : Int), .int .i64 (n : Int), .int .i64 (m : Int), .slice ga q gc, .int .i64 (p : Int), .int .i64 (D : Int)] c b q) (fun s7 _ => n - (intOf s7).toNat)
  case atStart => exact ⟨0, rfl, Nat.zero_le _, HM0.out⟩
  case round =>
    obtain ⟨k, rfl, hk, hM⟩ := hrel
    clear HM0 y1
    have M : Hid (PtM bx b5 P R C w wr (.slice ta n tc) (.slice ca n cc) (.slice sa m sc) (.slice da dl dc) (.slice ua L uc) (.slice ga q gc) [.slice ta n tc, .slice ca n cc, .slice sa m sc, .slice da dl dc, .int .i64 (D : Int)] [.int .i64 (E4 : Int), .int .i64 (n : Int), .int .i64 (m : Int), .slice ga q gc, .int .i64 (p : Int), .int .i64 (D : Int)] c b q) := hM
    clear hM
    have y1 : wr.cell? ⟨b5, 1, none⟩ = some (.int .i64 (n : Int)) := M.out.c2.cell 1
    by_cases e : k = n
    · as_aux_lemma =>
        have kn : ¬ (k : Int) < (n : Int) := by omega
        clear e hk
        have y2 : wr.cell? ⟨b5, 2, none⟩ = some (.int .i64 (m : Int)) := M.out.c2.cell 2
        have HM0 : Hid (PtM bx b5 P R C w wr (.slice ta n tc) (.slice ca n cc) (.slice sa m sc) (.slice da dl dc) (.slice ua L uc) (.slice ga q gc) [.slice ta n tc, .slice ca n cc, .slice sa m sc, .slice da dl dc, .int .i64 (D : Int)] [.int .i64 (E4 : Int), .int .i64 (n : Int), .int .i64 (m : Int), .slice ga q gc, .int .i64 (p : Int), .int .i64 (D : Int)] c b q) := M.out
        clear M
        go_wp2
        clear y1 y2 kn
        go_loopw [9] (fun s9 wr => ∃ k : Nat, s9 = .int .i64 (k : Int) ∧ k ≤ m ∧ PtM bx b5 P R C w wr (.slice ta n tc) (.slice ca n cc) (.slice sa m sc) (.slice da dl dc) (.slice ua L uc) (.slice ga q gc) [.slice ta n tc, .slice ca n cc, .slice sa m sc, .slice da dl dc, .int .i64 (D : Int)] [.int .i64 (E4 : Int), .int .i64 (n : Int), .int .i64 (m : Int), .slice ga q gc, .int .i64 (p : Int), .int .i64 (D : Int)] c b q) (fun s9 _ => m - (intOf s9).toNat)
        case atStart => exact ⟨0, rfl, Nat.zero_le _, HM0.out⟩
        case round =>
          obtain ⟨k, rfl, hk, hM⟩ := hrel
          clear HM0
          have M : Hid (PtM bx b5 P R C w wr (.slice ta n tc) (.slice ca n cc) (.slice sa m sc) (.slice da dl dc) (.slice ua L uc) (.slice ga q gc) [.slice ta n tc, .slice ca n cc, .slice sa m sc, .slice da dl dc, .int .i64 (D : Int)] [.int .i64 (E4 : Int), .int .i64 (n : Int), .int .i64 (m : Int), .slice ga q gc, .int .i64 (p : Int), .int .i64 (D : Int)] c b q) := hM
          clear hM
          have y2 : wr.cell? ⟨b5, 2, none⟩ = some (.int .i64 (m : Int)) := M.out.c2.cell 2
          by_cases e : k = m
          · have kn : ¬ (k : Int) < (m : Int) := by omega
            clear e hk
            go_wp2
            go_ret
            exact ⟨rfl, by first | exact M.out.bel | (rw [GB.out]; exact M.out.bel) | (rw [← GB.out]; exact M.out.bel)⟩
          · have km : (k : Int) < (m : Int) := by omega
            have HK : Hid (k < m) := by unfold Hid; omega
            clear e hk
            obtain ⟨k1, hk1⟩ : ∃ x, x = k + 1 := ⟨_, rfl⟩
            obtain ⟨nk, hnk⟩ : ∃ x, x = n + k := ⟨_, rfl⟩
            obtain ⟨nl, hnl⟩ : ∃ x, x = nk + 1 := ⟨_, rfl⟩
            have HK1 : Hid (k1 = k + 1) := hk1
            have HNK : Hid (nk = n + k ∧ nl = nk + 1) := ⟨hnk, hnl⟩
            have r1 : (k : Int) + 1 = (k1 : Int) := by omega
            have r2 : IntKind.i64.wrap (k1 : Int) = (k1 : Int) := by rw [IntKind.wrap_i64]; have := HK.out; have := HL.out; omega
            have r3 : (n : Int) + (k : Int) = (nk : Int) := by omega
            have r4 : IntKind.i64.wrap (nk : Int) = (nk : Int) := by rw [IntKind.wrap_i64]; have := HK.out; have := HL.out; omega
            have r5 : (nk : Int) + 1 = (nl : Int) := by omega
            have r6 : IntKind.i64.wrap (nl : Int) = (nl : Int) := by rw [IntKind.wrap_i64]; have := HK.out; have := HL.out; omega
            have i1 : (nk : Int) < (q : Int) := by have := HK.out; have := HL.out; omega
            have i2 : (nl : Int) < (q : Int) := by have := HK.out; have := HL.out; omega
            clear hk1 hnk hnl
            obtain ⟨pk, hpk⟩ : ∃ x, gPl b nk = x := ⟨_, rfl⟩
            obtain ⟨pl, hpl⟩ : ∃ x, gPl b nl = x := ⟨_, rfl⟩
            have HP : Hid (pk ≤ pl ∧ pl ≤ p) := ⟨by rw [← hpk, ← hpl, HNK.out.2]; exact gpl_le (by omega), by rw [← hpl]; exact HQ.out.pl nl (by have := HNK.out; have := HK.out; omega)⟩
            obtain ⟨g2, a2, u1, e2, k2, hu1⟩ := M.out.s.get (HQ.out.su k HK.out)
            obtain ⟨g3, e3, k3⟩ := M.out.g.get (i := nk) (x := pk) (by rw [List.getElem?_map, List.getElem?_range (by have := HL.out; have := HNK.out; have := HK.out; omega)]; exact congrArg some hpk)
            obtain ⟨g4, e4, k4⟩ := M.out.g.get (i := nl) (x := pl) (by rw [List.getElem?_map, List.getElem?_range (by have := HL.out; have := HNK.out; have := HK.out; omega)]; exact congrArg some hpl)
            subst e2 e3
            injection e4 with e4
            injection e4 with e4
            subst e4
            obtain ⟨d9, l9, c9, hs1, hs2⟩ := mid_ex (R := R) (b := b) (ua := ua) (uc := uc) (i := pk) (j := pl) HL.out.1 HL.out.2.2.2.2.2.2.1 HP.out.1 (by have := HP.out; have := HL.out; omega)
            have HSL : Hid (∀ W, Sem.run Try.prog (Instr.slice 22 (.slice ua L uc) (some (.int .i64 (pk : Int))) (some (.int .i64 (pl : Int))) none) W = .ok (.slice d9 l9 c9) W) := hs1
            have HSB : Hid (∀ W, BL R W (.slice ua L uc) b → BL R W (.slice d9 l9 c9) ((b.drop pk).take (pl - pk))) := hs2
            have HU : Hid (∀ W, Below wr.heap.size wr W → BL P W u1 ((b.drop pk).take (pl - pk))) := fun W hW => by
              rw [← HNK.out.1] at hu1
              have e9 : gPl b (nk + 1) = pl := by rw [← HNK.out.2]; exact hpl
              rw [e9, hpk] at hu1
              exact hu1.past hW
            have HS : Hid (∀ V', Below wr.heap.size wr V' → V'.cell? ⟨bx, 2, none⟩ = some (.slice (some ⟨g2, a2, none⟩) m sc) ∧ V'.cell? ⟨b5, 3, none⟩ = some (.slice (some ⟨g3, 0, none⟩) q gc) ∧ V'.cell? ⟨b5, 1, none⟩ = some (.int .i64 (n : Int)) ∧ V'.cell? ⟨g2, a2 + k, none⟩ = some (u1) ∧ V'.cell? ⟨g3, nk, none⟩ = some (.int .i64 (pk : Int)) ∧ V'.cell? ⟨g3, nl, none⟩ = some (.int .i64 (pl : Int))) := fun V' hV => ⟨(M.out.c1.past hV).cell 2, (M.out.c2.past hV).cell 3, (M.out.c2.past hV).cell 1, cell_below hV k2, cell_below hV k3, cell_below hV k4⟩
            clear hs1 hs2 hu1 k2 k3 k4 hpk hpl
            go_upto_region 12 with fail
            clear y2
            refine wp_region_held_drew (S := fun V' => V'.cell? ⟨bx, 2, none⟩ = some (.slice (some ⟨g2, a2, none⟩) m sc) ∧ V'.cell? ⟨b5, 3, none⟩ = some (.slice (some ⟨g3, 0, none⟩) q gc) ∧ V'.cell? ⟨b5, 1, none⟩ = some (.int .i64 (n : Int)) ∧ V'.cell? ⟨g2, a2 + k, none⟩ = some (u1) ∧ V'.cell? ⟨g3, nk, none⟩ = some (.int .i64 (pk : Int)) ∧ V'.cell? ⟨g3, nl, none⟩ = some (.int .i64 (pl : Int))) (by kernel_rfl) (HS.out _ below_drew) (fun HH => ?_)
            have A : Hid (Below wr.heap.size wr wr.drew) := below_drew
            generalize wr.drew = z1 at HH A ⊢
            refine wpAnyH_take (i := 0) (v := .pointer (some ⟨bx, 2, none⟩)) ov0 (by kernel_rfl) (by kernel_rfl) (by kernel_rfl) (fun _ _ _ h => h) (Or.inl ⟨by rfl, fun V' hS => ?_⟩) HH ?_
            · go_simp
            simp only [Act.put, List.setIfInBounds_toArray, List.set_cons_zero, List.set_cons_succ]
            refine wpAnyH_take (i := 1) (v := .slice (some ⟨g2, a2, none⟩) m sc) ov1 (by kernel_rfl) (by kernel_rfl) (by kernel_rfl) (fun _ _ _ h => h) (Or.inl ⟨by rfl, fun V' hS => ?_⟩) HH ?_
            · have c0 := hS.1
              go_simp
            simp only [Act.put, List.setIfInBounds_toArray, List.set_cons_zero, List.set_cons_succ]
            refine wpAnyH_take (i := 2) (v := .int .i64 (k : Int)) ov2 (by kernel_rfl) (by kernel_rfl) (by kernel_rfl) (fun _ _ _ h => h) (Or.inl ⟨by rfl, fun V' hS => ?_⟩) HH ?_
            · go_simp
            simp only [Act.put, List.setIfInBounds_toArray, List.set_cons_zero, List.set_cons_succ]
            refine wpAnyH_take (i := 3) (v := .pointer (some ⟨g2, a2 + k, none⟩)) ov3 (by kernel_rfl) (by kernel_rfl) (by kernel_rfl) (fun _ _ _ h => h) (Or.inl ⟨by rfl, fun V' hS => ?_⟩) HH ?_
            · go_simp
            simp only [Act.put, List.setIfInBounds_toArray, List.set_cons_zero, List.set_cons_succ]
            refine wpAnyH_take (i := 4) (v := u1) ov4 (by kernel_rfl) (by kernel_rfl) (by kernel_rfl) (fun _ _ _ h => h) (Or.inl ⟨by rfl, fun V' hS => ?_⟩) HH ?_
            · have c0 := hS.2.2.2.1
              go_simp
            simp only [Act.put, List.setIfInBounds_toArray, List.set_cons_zero, List.set_cons_succ]
            refine wpAnyH_take (i := 5) (v := .slice ua L uc) ov5 (by kernel_rfl) (by kernel_rfl) (by kernel_rfl) (fun _ _ _ h => h) (Or.inl ⟨by rfl, fun V' hS => ?_⟩) HH ?_
            · go_simp
            simp only [Act.put, List.setIfInBounds_toArray, List.set_cons_zero, List.set_cons_succ]
            refine wpAnyH_take (i := 6) (v := .pointer (some ⟨b5, 3, none⟩)) ov6 (by kernel_rfl) (by kernel_rfl) (by kernel_rfl) (fun _ _ _ h => h) (Or.inl ⟨by rfl, fun V' hS => ?_⟩) HH ?_
            · go_simp
            simp only [Act.put, List.setIfInBounds_toArray, List.set_cons_zero, List.set_cons_succ]
            refine wpAnyH_take (i := 7) (v := .slice (some ⟨g3, 0, none⟩) q gc) ov7 (by kernel_rfl) (by kernel_rfl) (by kernel_rfl) (fun _ _ _ h => h) (Or.inl ⟨by rfl, fun V' hS => ?_⟩) HH ?_
            · have c0 := hS.2.1
              go_simp
            simp only [Act.put, List.setIfInBounds_toArray, List.set_cons_zero, List.set_cons_succ]
            refine wpAnyH_take (i := 8) (v := .pointer (some ⟨b5, 1, none⟩)) ov8 (by kernel_rfl) (by kernel_rfl) (by kernel_rfl) (fun _ _ _ h => h) (Or.inl ⟨by rfl, fun V' hS => ?_⟩) HH ?_
            · go_simp
            simp only [Act.put, List.setIfInBounds_toArray, List.set_cons_zero, List.set_cons_succ]
            refine wpAnyH_take (i := 9) (v := .int .i64 (n : Int)) ov9 (by kernel_rfl) (by kernel_rfl) (by kernel_rfl) (fun _ _ _ h => h) (Or.inl ⟨by rfl, fun V' hS => ?_⟩) HH ?_
            · have c0 := hS.2.2.1
              go_simp
            simp only [Act.put, List.setIfInBounds_toArray, List.set_cons_zero, List.set_cons_succ]
            refine wpAnyH_take (i := 10) (v := .int .i64 (k : Int)) ov10 (by kernel_rfl) (by kernel_rfl) (by kernel_rfl) (fun _ _ _ h => h) (Or.inl ⟨by rfl, fun V' hS => ?_⟩) HH ?_
            · go_simp
            simp only [Act.put, List.setIfInBounds_toArray, List.set_cons_zero, List.set_cons_succ]
            refine wpAnyH_take (i := 11) (v := .int .i64 (nk : Int)) ov11 (by kernel_rfl) (by kernel_rfl) (by kernel_rfl) (fun _ _ _ h => h) (Or.inl ⟨by rfl, fun V' hS => ?_⟩) HH ?_
            · go_simp
            simp only [Act.put, List.setIfInBounds_toArray, List.set_cons_zero, List.set_cons_succ]
            refine wpAnyH_take (i := 12) (v := .pointer (some ⟨g3, nk, none⟩)) ov12 (by kernel_rfl) (by kernel_rfl) (by kernel_rfl) (fun _ _ _ h => h) (Or.inl ⟨by rfl, fun V' hS => ?_⟩) HH ?_
            · go_simp
            simp only [Act.put, List.setIfInBounds_toArray, List.set_cons_zero, List.set_cons_succ]
            refine wpAnyH_take (i := 13) (v := .int .i64 (pk : Int)) ov13 (by kernel_rfl) (by kernel_rfl) (by kernel_rfl) (fun _ _ _ h => h) (Or.inl ⟨by rfl, fun V' hS => ?_⟩) HH ?_
            · have c0 := hS.2.2.2.2.1
              go_simp
            simp only [Act.put, List.setIfInBounds_toArray, List.set_cons_zero, List.set_cons_succ]
            refine wpAnyH_take (i := 14) (v := .pointer (some ⟨b5, 3, none⟩)) ov14 (by kernel_rfl) (by kernel_rfl) (by kernel_rfl) (fun _ _ _ h => h) (Or.inl ⟨by rfl, fun V' hS => ?_⟩) HH ?_
            · go_simp
            simp only [Act.put, List.setIfInBounds_toArray, List.set_cons_zero, List.set_cons_succ]
            refine wpAnyH_take (i := 15) (v := .slice (some ⟨g3, 0, none⟩) q gc) ov15 (by kernel_rfl) (by kernel_rfl) (by kernel_rfl) (fun _ _ _ h => h) (Or.inl ⟨by rfl, fun V' hS => ?_⟩) HH ?_
            · have c0 := hS.2.1
              go_simp
            simp only [Act.put, List.setIfInBounds_toArray, List.set_cons_zero, List.set_cons_succ]
            refine wpAnyH_take (i := 16) (v := .pointer (some ⟨b5, 1, none⟩)) ov16 (by kernel_rfl) (by kernel_rfl) (by kernel_rfl) (fun _ _ _ h => h) (Or.inl ⟨by rfl, fun V' hS => ?_⟩) HH ?_
            · go_simp
            simp only [Act.put, List.setIfInBounds_toArray, List.set_cons_zero, List.set_cons_succ]
            refine wpAnyH_take (i := 17) (v := .int .i64 (n : Int)) ov17 (by kernel_rfl) (by kernel_rfl) (by kernel_rfl) (fun _ _ _ h => h) (Or.inl ⟨by rfl, fun V' hS => ?_⟩) HH ?_
            · have c0 := hS.2.2.1
              go_simp
            simp only [Act.put, List.setIfInBounds_toArray, List.set_cons_zero, List.set_cons_succ]
            refine wpAnyH_take (i := 18) (v := .int .i64 (k : Int)) ov18 (by kernel_rfl) (by kernel_rfl) (by kernel_rfl) (fun _ _ _ h => h) (Or.inl ⟨by rfl, fun V' hS => ?_⟩) HH ?_
            · go_simp
            simp only [Act.put, List.setIfInBounds_toArray, List.set_cons_zero, List.set_cons_succ]
            refine wpAnyH_take (i := 19) (v := .int .i64 (nk : Int)) ov19 (by kernel_rfl) (by kernel_rfl) (by kernel_rfl) (fun _ _ _ h => h) (Or.inl ⟨by rfl, fun V' hS => ?_⟩) HH ?_
            · go_simp
            simp only [Act.put, List.setIfInBounds_toArray, List.set_cons_zero, List.set_cons_succ]
            refine wpAnyH_take (i := 20) (v := .int .i64 (nl : Int)) ov20 (by kernel_rfl) (by kernel_rfl) (by kernel_rfl) (fun _ _ _ h => h) (Or.inl ⟨by rfl, fun V' hS => ?_⟩) HH ?_
            · go_simp
            simp only [Act.put, List.setIfInBounds_toArray, List.set_cons_zero, List.set_cons_succ]
            refine wpAnyH_take (i := 21) (v := .pointer (some ⟨g3, nl, none⟩)) ov21 (by kernel_rfl) (by kernel_rfl) (by kernel_rfl) (fun _ _ _ h => h) (Or.inl ⟨by rfl, fun V' hS => ?_⟩) HH ?_
            · go_simp
            simp only [Act.put, List.setIfInBounds_toArray, List.set_cons_zero, List.set_cons_succ]
            refine wpAnyH_take (i := 22) (v := .int .i64 (pl : Int)) ov22 (by kernel_rfl) (by kernel_rfl) (by kernel_rfl) (fun _ _ _ h => h) (Or.inl ⟨by rfl, fun V' hS => ?_⟩) HH ?_
            · have c0 := hS.2.2.2.2.2
              go_simp
            simp only [Act.put, List.setIfInBounds_toArray, List.set_cons_zero, List.set_cons_succ]
            refine wpAnyH_take (i := 23) (v := .slice d9 l9 c9) ov23 (by kernel_rfl) (by kernel_rfl) (by kernel_rfl) (fun _ _ _ h => h) (Or.inl ⟨by rfl, fun V' hS => ?_⟩) HH ?_
            · have c0 := HSL.out V'
              go_simp
            simp only [Act.put, List.setIfInBounds_toArray, List.set_cons_zero, List.set_cons_succ]
            refine wpAnyH_ready (rs := [24]) (by kernel_rfl) (by simp) ?_
            refine AllReadyH.cons ov24 (fun K hK => ?_) AllReadyH.nil
            rw [if_pos (by rfl)]
            go_simp
            refine (sameT_is _ _ _ _ (HU.out _ A.out) (HSB.out _ (M.out.past A.out).u)).mono ?_
            rintro e z9 ⟨rfl, hB⟩
            have q9 := A.out.trans (hB.mono A.out.size)
            clear A hB
            have A : Hid (Below wr.heap.size wr z9) := q9
            clear q9
            (try go_wp2_with fail)
            refine hK.out _ _ (HS.out _ A.out) (fun _ => ?_)
            clear hK K
            (try simp only [Act.put, List.setIfInBounds_toArray, List.set_cons_zero, List.set_cons_succ])
            generalize z9 = z1 at A ⊢
            refine wpAnyH_take (i := 25) (v := .bool false) ov25 (by kernel_rfl) (by kernel_rfl) (by kernel_rfl) (fun _ _ _ h => h) (Or.inl ⟨by rfl, fun V' hS => ?_⟩) (HS.out _ A.out) ?_
            · go_simp
            simp only [Act.put, List.setIfInBounds_toArray, List.set_cons_zero, List.set_cons_succ]
            refine wpAnyH_done (by kernel_rfl) ?_ _
            clear HH
            have M9 : Hid (PtM bx b5 P R C w z1 (.slice ta n tc) (.slice ca n cc) (.slice (some ⟨g2, a2, none⟩) m sc) (.slice da dl dc) (.slice ua L uc) (.slice (some ⟨g3, 0, none⟩) q gc) [.slice ta n tc, .slice ca n cc, .slice (some ⟨g2, a2, none⟩) m sc, .slice da dl dc, .int .i64 (D : Int)] [.int .i64 (E4 : Int), .int .i64 (n : Int), .int .i64 (m : Int), .slice (some ⟨g3, 0, none⟩) q gc, .int .i64 (p : Int), .int .i64 (D : Int)] c b q) := M.out.past A.out
            clear M HS HU HSB HSL A
            go_wp2
            go_roundw
            case rel => exact ⟨k1, rfl, by have := HK.out; have := HK1.out; omega, M9.out⟩
            case measure => (simp [intOf]; have := HK.out; have := HK1.out; omega)
    · as_aux_lemma =>
        have kn : (k : Int) < (n : Int) := by omega
        have HK : Hid (k < n) := by unfold Hid; omega
        clear e hk
        obtain ⟨k1, hk1⟩ : ∃ x, x = k + 1 := ⟨_, rfl⟩
        obtain ⟨k4, hk4⟩ : ∃ x, x = 4 * k := ⟨_, rfl⟩
        obtain ⟨t, ht⟩ : ∃ x, x = E4 + k4 := ⟨_, rfl⟩
        obtain ⟨t1, ht1⟩ : ∃ x, x = t + 1 := ⟨_, rfl⟩
        obtain ⟨t2, ht2⟩ : ∃ x, x = t + 2 := ⟨_, rfl⟩
        have HK1 : Hid (k1 = k + 1) := hk1
        have HT : Hid (t = E4 + 4 * k ∧ t1 = t + 1 ∧ t2 = t + 2 ∧ t + 4 ≤ L) := ⟨by omega, ht1, ht2, by have := HL.out; have := HK.out; omega⟩
        have r1 : (k : Int) + 1 = (k1 : Int) := by omega
        have r2 : IntKind.i64.wrap (k1 : Int) = (k1 : Int) := by rw [IntKind.wrap_i64]; have := HK.out; have := HL.out; omega
        have r3 : (4 : Int) * (k : Int) = (k4 : Int) := by omega
        have r4 : IntKind.i64.wrap (k4 : Int) = (k4 : Int) := by rw [IntKind.wrap_i64]; have := HK.out; have := HL.out; omega
        have r5 : (E4 : Int) + (k4 : Int) = (t : Int) := by omega
        have r6 : IntKind.i64.wrap (t : Int) = (t : Int) := by rw [IntKind.wrap_i64]; have := HT.out; have := HL.out; omega
        have y0 : wr.cell? ⟨b5, 0, none⟩ = some (.int .i64 (E4 : Int)) := M.out.c2.cell 0
        clear hk1 hk4 ht ht1 ht2
        go_upto_region 7 with fail
        clear y0 y1 r3 r4 r5 r6
        have r3 : (t : Int) + 1 = (t1 : Int) := by have := HT.out; omega
        have r4 : IntKind.i64.wrap (t1 : Int) = (t1 : Int) := by rw [IntKind.wrap_i64]; have := HT.out; have := HL.out; omega
        have r5 : (t : Int) + 2 = (t2 : Int) := by have := HT.out; omega
        have r6 : IntKind.i64.wrap (t2 : Int) = (t2 : Int) := by rw [IntKind.wrap_i64]; have := HT.out; have := HL.out; omega
        have i1 : (k : Int) < (q : Int) := by have := HK.out; have := HL.out; omega
        have i2 : (k1 : Int) < (q : Int) := by have := HK.out; have := HL.out; have := HK1.out; omega
        have i3 : (t : Int) < (L : Int) := by have := HT.out; omega
        have i4 : (t1 : Int) < (L : Int) := by have := HT.out; omega
        have i5 : (t : Int) < 1152921504606846976 := by have := HT.out; have := HL.out; omega
        have i6 : (t1 : Int) < 1152921504606846976 := by have := HT.out; have := HL.out; omega
        have i7 : (k : Int) < 1152921504606846976 := by have := HK.out; have := HL.out; omega
        have i8 : (k1 : Int) < 1152921504606846976 := by have := HK.out; have := HL.out; have := HK1.out; omega
        obtain ⟨x, hx⟩ : ∃ x, rd b t 1 = x := ⟨_, rfl⟩
        obtain ⟨y, hy⟩ : ∃ x, rd b t1 1 = x := ⟨_, rfl⟩
        obtain ⟨z, hz⟩ : ∃ x, rd b t2 2 = x := ⟨_, rfl⟩
        have x8 : x < 256 := by rw [← hx]; exact (rd_lt2 HBY.out t).2
        have y8 : y < 256 := by rw [← hy]; exact (rd_lt2 HBY.out t1).2
        have wx : IntKind.i64.wrap (x : Int) = (x : Int) := by rw [IntKind.wrap_i64]; omega
        have wy : IntKind.i64.wrap (y : Int) = (y : Int) := by rw [IntKind.wrap_i64]; omega
        have TZ : Hid (∀ W, Below wr.heap.size wr W → Calls Try.prog 84 #[.slice ua L uc, .int .i64 (t2 : Int)] W fun e w' => e = .returned (.int .i64 (z : Int)) ∧ Below W.heap.size W w') := fun W hW => by
          have h9 := (M.out.past hW).u
          have h8 := two_rd (P := R) W (.slice ua L uc) b t2 h9 HBY.out (by have := HT.out; have := HL.out; omega)
          rw [hz] at h8
          exact h8
        obtain ⟨pk, hpk⟩ : ∃ x, gPl b k = x := ⟨_, rfl⟩
        obtain ⟨pl, hpl⟩ : ∃ x, gPl b k1 = x := ⟨_, rfl⟩
        have HP : Hid (pk ≤ pl ∧ pl ≤ p) := ⟨by rw [← hpk, ← hpl, HK1.out]; exact gpl_le (by omega), by rw [← hpl]; exact HQ.out.pl k1 (by have := HK1.out; have := HK.out; omega)⟩
        have hty := HQ.out.ty k HK.out
        rw [← HT.out.1, ← HT.out.2.1, ← HT.out.2.2.1, hx, hy, hz] at hty
        obtain ⟨g1, a1, e1, q1, q2, q3⟩ := M.out.t.get hty
        obtain ⟨g2, a2, u1, e2, k2, hu1⟩ := M.out.p.get (HQ.out.co k HK.out)
        obtain ⟨g3, e3, k3⟩ := M.out.g.get (i := k) (x := pk) (by rw [List.getElem?_map, List.getElem?_range (by have := HL.out; have := HK.out; omega)]; exact congrArg some hpk)
        obtain ⟨g4, e4, k5⟩ := M.out.g.get (i := k1) (x := pl) (by rw [List.getElem?_map, List.getElem?_range (by have := HL.out; have := HK1.out; have := HK.out; omega)]; exact congrArg some hpl)
        obtain ⟨g, a, e5, k6⟩ := M.out.u.get (i := t) (x := x) (at_rd1 hx (by have := HT.out; have := HL.out; omega))
        obtain ⟨g', a', e6, k7⟩ := M.out.u.get (i := t1) (x := y) (at_rd1 hy (by have := HT.out; have := HL.out; omega))
        subst e1 e2 e3 e5
        injection e4 with e4
        injection e4 with e4
        subst e4
        injection e6 with e6
        injection e6 with e6 e7
        subst e6 e7
        obtain ⟨d9, l9, c9, hs1, hs2⟩ := mid_ex (R := R) (b := b) (ua := (some ⟨g, a, none⟩)) (uc := uc) (i := pk) (j := pl) HL.out.1 HL.out.2.2.2.2.2.2.1 HP.out.1 (by have := HP.out; have := HL.out; omega)
        have HSL : Hid (∀ W, Sem.run Try.prog (Instr.slice 22 (.slice (some ⟨g, a, none⟩) L uc) (some (.int .i64 (pk : Int))) (some (.int .i64 (pl : Int))) none) W = .ok (.slice d9 l9 c9) W) := hs1
        have HSB : Hid (∀ W, BL R W (.slice (some ⟨g, a, none⟩) L uc) b → BL R W (.slice d9 l9 c9) ((b.drop pk).take (pl - pk))) := hs2
        have HU : Hid (∀ W, Below wr.heap.size wr W → BL P W u1 ((b.drop pk).take (pl - pk))) := fun W hW => by
          have e9 : gPl b (k + 1) = pl := by rw [← HK1.out]; exact hpl
          rw [e9, hpk] at hu1
          exact hu1.past hW
        have HS : Hid (∀ V', Below wr.heap.size wr V' → V'.cell? ⟨bx, 0, none⟩ = some (.slice (some ⟨g1, a1, none⟩) n tc) ∧ V'.cell? ⟨bx, 1, none⟩ = some (.slice (some ⟨g2, a2, none⟩) n cc) ∧ V'.cell? ⟨b5, 3, none⟩ = some (.slice (some ⟨g3, 0, none⟩) q gc) ∧ V'.cell? ⟨g1, a1 + k * 3, none⟩ = some (.int .i64 (x : Int)) ∧ V'.cell? ⟨g1, a1 + k * 3 + 1, none⟩ = some (.int .i64 (y : Int)) ∧ V'.cell? ⟨g1, a1 + k * 3 + 2, none⟩ = some (.int .i64 (z : Int)) ∧ V'.cell? ⟨g, a + t, none⟩ = some (.int .u8 (x : Int)) ∧ V'.cell? ⟨g, a + t1, none⟩ = some (.int .u8 (y : Int)) ∧ V'.cell? ⟨g2, a2 + k, none⟩ = some (u1) ∧ V'.cell? ⟨g3, k, none⟩ = some (.int .i64 (pk : Int)) ∧ V'.cell? ⟨g3, k1, none⟩ = some (.int .i64 (pl : Int))) := fun V' hV => ⟨(M.out.c1.past hV).cell 0, (M.out.c1.past hV).cell 1, (M.out.c2.past hV).cell 3, cell_below hV q1, cell_below hV q2, cell_below hV q3, cell_below hV k6, cell_below hV k7, cell_below hV k2, cell_below hV k3, cell_below hV k5⟩
        clear hs1 hs2 hu1 q1 q2 q3 k2 k3 k5 k6 k7 hpk hpl hty hx hy hz x8 y8
        refine wp_region_held_drew (S := fun V' => V'.cell? ⟨bx, 0, none⟩ = some (.slice (some ⟨g1, a1, none⟩) n tc) ∧ V'.cell? ⟨bx, 1, none⟩ = some (.slice (some ⟨g2, a2, none⟩) n cc) ∧ V'.cell? ⟨b5, 3, none⟩ = some (.slice (some ⟨g3, 0, none⟩) q gc) ∧ V'.cell? ⟨g1, a1 + k * 3, none⟩ = some (.int .i64 (x : Int)) ∧ V'.cell? ⟨g1, a1 + k * 3 + 1, none⟩ = some (.int .i64 (y : Int)) ∧ V'.cell? ⟨g1, a1 + k * 3 + 2, none⟩ = some (.int .i64 (z : Int)) ∧ V'.cell? ⟨g, a + t, none⟩ = some (.int .u8 (x : Int)) ∧ V'.cell? ⟨g, a + t1, none⟩ = some (.int .u8 (y : Int)) ∧ V'.cell? ⟨g2, a2 + k, none⟩ = some (u1) ∧ V'.cell? ⟨g3, k, none⟩ = some (.int .i64 (pk : Int)) ∧ V'.cell? ⟨g3, k1, none⟩ = some (.int .i64 (pl : Int))) (by kernel_rfl) (HS.out _ below_drew) (fun HH => ?_)
        have A : Hid (Below wr.heap.size wr wr.drew) := below_drew
        generalize wr.drew = z1 at HH A ⊢
        refine wpAnyH_take (i := 0) (v := .pointer (some ⟨bx, 0, none⟩)) ov0 (by kernel_rfl) (by kernel_rfl) (by kernel_rfl) (fun _ _ _ h => h) (Or.inl ⟨by rfl, fun V' hS => ?_⟩) HH ?_
        · go_simp
        simp only [Act.put, List.setIfInBounds_toArray, List.set_cons_zero, List.set_cons_succ]
        refine wpAnyH_take (i := 1) (v := .slice (some ⟨g1, a1, none⟩) n tc) ov1 (by kernel_rfl) (by kernel_rfl) (by kernel_rfl) (fun _ _ _ h => h) (Or.inl ⟨by rfl, fun V' hS => ?_⟩) HH ?_
        · have c0 := hS.1
          go_simp
        simp only [Act.put, List.setIfInBounds_toArray, List.set_cons_zero, List.set_cons_succ]
        refine wpAnyH_take (i := 2) (v := .int .i64 (k : Int)) ov2 (by kernel_rfl) (by kernel_rfl) (by kernel_rfl) (fun _ _ _ h => h) (Or.inl ⟨by rfl, fun V' hS => ?_⟩) HH ?_
        · go_simp
        simp only [Act.put, List.setIfInBounds_toArray, List.set_cons_zero, List.set_cons_succ]
        refine wpAnyH_take (i := 3) (v := .pointer (some ⟨g1, a1 + k * 3, none⟩)) ov3 (by kernel_rfl) (by kernel_rfl) (by kernel_rfl) (fun _ _ _ h => h) (Or.inl ⟨by rfl, fun V' hS => ?_⟩) HH ?_
        · go_simp
        simp only [Act.put, List.setIfInBounds_toArray, List.set_cons_zero, List.set_cons_succ]
        refine wpAnyH_take (i := 4) (v := .agg #[.int .i64 (x : Int), .int .i64 (y : Int), .int .i64 (z : Int)]) ov4 (by kernel_rfl) (by kernel_rfl) (by kernel_rfl) (fun _ _ _ h => h) (Or.inl ⟨by rfl, fun V' hS => ?_⟩) HH ?_
        · have c0 := hS.2.2.2.1; have c1 := hS.2.2.2.2.1; have c2 := hS.2.2.2.2.2.1
          go_simp
        simp only [Act.put, List.setIfInBounds_toArray, List.set_cons_zero, List.set_cons_succ]
        refine wpAnyH_take (i := 5) (v := .slice (some ⟨g, a, none⟩) L uc) ov5 (by kernel_rfl) (by kernel_rfl) (by kernel_rfl) (fun _ _ _ h => h) (Or.inl ⟨by rfl, fun V' hS => ?_⟩) HH ?_
        · go_simp
        simp only [Act.put, List.setIfInBounds_toArray, List.set_cons_zero, List.set_cons_succ]
        refine wpAnyH_take (i := 6) (v := .int .i64 (t : Int)) ov6 (by kernel_rfl) (by kernel_rfl) (by kernel_rfl) (fun _ _ _ h => h) (Or.inl ⟨by rfl, fun V' hS => ?_⟩) HH ?_
        · go_simp
        simp only [Act.put, List.setIfInBounds_toArray, List.set_cons_zero, List.set_cons_succ]
        refine wpAnyH_take (i := 7) (v := .pointer (some ⟨g, a + t, none⟩)) ov7 (by kernel_rfl) (by kernel_rfl) (by kernel_rfl) (fun _ _ _ h => h) (Or.inl ⟨by rfl, fun V' hS => ?_⟩) HH ?_
        · go_simp
        simp only [Act.put, List.setIfInBounds_toArray, List.set_cons_zero, List.set_cons_succ]
        refine wpAnyH_take (i := 8) (v := .int .u8 (x : Int)) ov8 (by kernel_rfl) (by kernel_rfl) (by kernel_rfl) (fun _ _ _ h => h) (Or.inl ⟨by rfl, fun V' hS => ?_⟩) HH ?_
        · have c0 := hS.2.2.2.2.2.2.1
          go_simp
        simp only [Act.put, List.setIfInBounds_toArray, List.set_cons_zero, List.set_cons_succ]
        refine wpAnyH_take (i := 9) (v := .int .i64 (x : Int)) ov9 (by kernel_rfl) (by kernel_rfl) (by kernel_rfl) (fun _ _ _ h => h) (Or.inl ⟨by rfl, fun V' hS => ?_⟩) HH ?_
        · go_simp
        simp only [Act.put, List.setIfInBounds_toArray, List.set_cons_zero, List.set_cons_succ]
        refine wpAnyH_take (i := 10) (v := .slice (some ⟨g, a, none⟩) L uc) ov10 (by kernel_rfl) (by kernel_rfl) (by kernel_rfl) (fun _ _ _ h => h) (Or.inl ⟨by rfl, fun V' hS => ?_⟩) HH ?_
        · go_simp
        simp only [Act.put, List.setIfInBounds_toArray, List.set_cons_zero, List.set_cons_succ]
        refine wpAnyH_take (i := 11) (v := .int .i64 (t : Int)) ov11 (by kernel_rfl) (by kernel_rfl) (by kernel_rfl) (fun _ _ _ h => h) (Or.inl ⟨by rfl, fun V' hS => ?_⟩) HH ?_
        · go_simp
        simp only [Act.put, List.setIfInBounds_toArray, List.set_cons_zero, List.set_cons_succ]
        refine wpAnyH_take (i := 12) (v := .int .i64 (t1 : Int)) ov12 (by kernel_rfl) (by kernel_rfl) (by kernel_rfl) (fun _ _ _ h => h) (Or.inl ⟨by rfl, fun V' hS => ?_⟩) HH ?_
        · go_simp
        simp only [Act.put, List.setIfInBounds_toArray, List.set_cons_zero, List.set_cons_succ]
        refine wpAnyH_take (i := 13) (v := .pointer (some ⟨g, a + t1, none⟩)) ov13 (by kernel_rfl) (by kernel_rfl) (by kernel_rfl) (fun _ _ _ h => h) (Or.inl ⟨by rfl, fun V' hS => ?_⟩) HH ?_
        · go_simp
        simp only [Act.put, List.setIfInBounds_toArray, List.set_cons_zero, List.set_cons_succ]
        refine wpAnyH_take (i := 14) (v := .int .u8 (y : Int)) ov14 (by kernel_rfl) (by kernel_rfl) (by kernel_rfl) (fun _ _ _ h => h) (Or.inl ⟨by rfl, fun V' hS => ?_⟩) HH ?_
        · have c0 := hS.2.2.2.2.2.2.2.1
          go_simp
        simp only [Act.put, List.setIfInBounds_toArray, List.set_cons_zero, List.set_cons_succ]
        refine wpAnyH_take (i := 15) (v := .int .i64 (y : Int)) ov15 (by kernel_rfl) (by kernel_rfl) (by kernel_rfl) (fun _ _ _ h => h) (Or.inl ⟨by rfl, fun V' hS => ?_⟩) HH ?_
        · go_simp
        simp only [Act.put, List.setIfInBounds_toArray, List.set_cons_zero, List.set_cons_succ]
        refine wpAnyH_take (i := 16) (v := .slice (some ⟨g, a, none⟩) L uc) ov16 (by kernel_rfl) (by kernel_rfl) (by kernel_rfl) (fun _ _ _ h => h) (Or.inl ⟨by rfl, fun V' hS => ?_⟩) HH ?_
        · go_simp
        simp only [Act.put, List.setIfInBounds_toArray, List.set_cons_zero, List.set_cons_succ]
        refine wpAnyH_take (i := 17) (v := .int .i64 (t : Int)) ov17 (by kernel_rfl) (by kernel_rfl) (by kernel_rfl) (fun _ _ _ h => h) (Or.inl ⟨by rfl, fun V' hS => ?_⟩) HH ?_
        · go_simp
        simp only [Act.put, List.setIfInBounds_toArray, List.set_cons_zero, List.set_cons_succ]
        refine wpAnyH_take (i := 18) (v := .int .i64 (t2 : Int)) ov18 (by kernel_rfl) (by kernel_rfl) (by kernel_rfl) (fun _ _ _ h => h) (Or.inl ⟨by rfl, fun V' hS => ?_⟩) HH ?_
        · go_simp
        simp only [Act.put, List.setIfInBounds_toArray, List.set_cons_zero, List.set_cons_succ]
        refine wpAnyH_ready (rs := [19]) (by kernel_rfl) (by simp) ?_
        refine AllReadyH.cons ov19 (fun K hK => ?_) AllReadyH.nil
        rw [if_pos (by rfl)]
        go_simp
        refine (TZ.out _ A.out).mono ?_
        rintro e z9 ⟨rfl, hB⟩
        have q9 := A.out.trans (hB.mono A.out.size)
        clear A hB
        have A : Hid (Below wr.heap.size wr z9) := q9
        clear q9
        (try go_wp2_with fail)
        refine hK.out _ _ (HS.out _ A.out) (fun _ => ?_)
        clear hK K
        (try simp only [Act.put, List.setIfInBounds_toArray, List.set_cons_zero, List.set_cons_succ])
        generalize z9 = z1 at A ⊢
        refine wpAnyH_take (i := 20) (v := .agg #[.int .i64 (x : Int), .int .i64 (y : Int), .int .i64 (z : Int)]) ov20 (by kernel_rfl) (by kernel_rfl) (by kernel_rfl) (fun _ _ _ h => h) (Or.inl ⟨by rfl, fun V' hS => ?_⟩) (HS.out _ A.out) ?_
        · go_simp
        simp only [Act.put, List.setIfInBounds_toArray, List.set_cons_zero, List.set_cons_succ]
        refine wpAnyH_take (i := 21) (v := .bool false) ov21 (by kernel_rfl) (by kernel_rfl) (by kernel_rfl) (fun _ _ _ h => h) (Or.inl ⟨by rfl, fun V' hS => ?_⟩) (HS.out _ A.out) ?_
        · exact (by have := ty_neq (x : Int) (y : Int) (z : Int) V'; go_simp)
        simp only [Act.put, List.setIfInBounds_toArray, List.set_cons_zero, List.set_cons_succ]
        refine wpAnyH_take (i := 22) (v := .bool false) ov22 (by kernel_rfl) (by kernel_rfl) (by kernel_rfl) (fun _ _ _ h => h) (Or.inl ⟨by rfl, fun V' hS => ?_⟩) (HS.out _ A.out) ?_
        · go_simp
        simp only [Act.put, List.setIfInBounds_toArray, List.set_cons_zero, List.set_cons_succ]
        refine wpAnyH_take (i := 23) (v := .pointer (some ⟨bx, 1, none⟩)) ov23 (by kernel_rfl) (by kernel_rfl) (by kernel_rfl) (fun _ _ _ h => h) (Or.inl ⟨by rfl, fun V' hS => ?_⟩) (HS.out _ A.out) ?_
        · go_simp
        simp only [Act.put, List.setIfInBounds_toArray, List.set_cons_zero, List.set_cons_succ]
        refine wpAnyH_take (i := 24) (v := .slice (some ⟨g2, a2, none⟩) n cc) ov24 (by kernel_rfl) (by kernel_rfl) (by kernel_rfl) (fun _ _ _ h => h) (Or.inl ⟨by rfl, fun V' hS => ?_⟩) (HS.out _ A.out) ?_
        · have c0 := hS.2.1
          go_simp
        simp only [Act.put, List.setIfInBounds_toArray, List.set_cons_zero, List.set_cons_succ]
        refine wpAnyH_take (i := 25) (v := .int .i64 (k : Int)) ov25 (by kernel_rfl) (by kernel_rfl) (by kernel_rfl) (fun _ _ _ h => h) (Or.inl ⟨by rfl, fun V' hS => ?_⟩) (HS.out _ A.out) ?_
        · go_simp
        simp only [Act.put, List.setIfInBounds_toArray, List.set_cons_zero, List.set_cons_succ]
        refine wpAnyH_take (i := 26) (v := .pointer (some ⟨g2, a2 + k, none⟩)) ov26 (by kernel_rfl) (by kernel_rfl) (by kernel_rfl) (fun _ _ _ h => h) (Or.inl ⟨by rfl, fun V' hS => ?_⟩) (HS.out _ A.out) ?_
        · go_simp
        simp only [Act.put, List.setIfInBounds_toArray, List.set_cons_zero, List.set_cons_succ]
        refine wpAnyH_take (i := 27) (v := u1) ov27 (by kernel_rfl) (by kernel_rfl) (by kernel_rfl) (fun _ _ _ h => h) (Or.inl ⟨by rfl, fun V' hS => ?_⟩) (HS.out _ A.out) ?_
        · have c0 := hS.2.2.2.2.2.2.2.2.1
          go_simp
        simp only [Act.put, List.setIfInBounds_toArray, List.set_cons_zero, List.set_cons_succ]
        refine wpAnyH_take (i := 28) (v := .slice (some ⟨g, a, none⟩) L uc) ov28 (by kernel_rfl) (by kernel_rfl) (by kernel_rfl) (fun _ _ _ h => h) (Or.inl ⟨by rfl, fun V' hS => ?_⟩) (HS.out _ A.out) ?_
        · go_simp
        simp only [Act.put, List.setIfInBounds_toArray, List.set_cons_zero, List.set_cons_succ]
        refine wpAnyH_take (i := 29) (v := .pointer (some ⟨b5, 3, none⟩)) ov29 (by kernel_rfl) (by kernel_rfl) (by kernel_rfl) (fun _ _ _ h => h) (Or.inl ⟨by rfl, fun V' hS => ?_⟩) (HS.out _ A.out) ?_
        · go_simp
        simp only [Act.put, List.setIfInBounds_toArray, List.set_cons_zero, List.set_cons_succ]
        refine wpAnyH_take (i := 30) (v := .slice (some ⟨g3, 0, none⟩) q gc) ov30 (by kernel_rfl) (by kernel_rfl) (by kernel_rfl) (fun _ _ _ h => h) (Or.inl ⟨by rfl, fun V' hS => ?_⟩) (HS.out _ A.out) ?_
        · have c0 := hS.2.2.1
          go_simp
        simp only [Act.put, List.setIfInBounds_toArray, List.set_cons_zero, List.set_cons_succ]
        refine wpAnyH_take (i := 31) (v := .int .i64 (k : Int)) ov31 (by kernel_rfl) (by kernel_rfl) (by kernel_rfl) (fun _ _ _ h => h) (Or.inl ⟨by rfl, fun V' hS => ?_⟩) (HS.out _ A.out) ?_
        · go_simp
        simp only [Act.put, List.setIfInBounds_toArray, List.set_cons_zero, List.set_cons_succ]
        refine wpAnyH_take (i := 32) (v := .pointer (some ⟨g3, k, none⟩)) ov32 (by kernel_rfl) (by kernel_rfl) (by kernel_rfl) (fun _ _ _ h => h) (Or.inl ⟨by rfl, fun V' hS => ?_⟩) (HS.out _ A.out) ?_
        · go_simp
        simp only [Act.put, List.setIfInBounds_toArray, List.set_cons_zero, List.set_cons_succ]
        refine wpAnyH_take (i := 33) (v := .int .i64 (pk : Int)) ov33 (by kernel_rfl) (by kernel_rfl) (by kernel_rfl) (fun _ _ _ h => h) (Or.inl ⟨by rfl, fun V' hS => ?_⟩) (HS.out _ A.out) ?_
        · have c0 := hS.2.2.2.2.2.2.2.2.2.1
          go_simp
        simp only [Act.put, List.setIfInBounds_toArray, List.set_cons_zero, List.set_cons_succ]
        refine wpAnyH_take (i := 34) (v := .pointer (some ⟨b5, 3, none⟩)) ov34 (by kernel_rfl) (by kernel_rfl) (by kernel_rfl) (fun _ _ _ h => h) (Or.inl ⟨by rfl, fun V' hS => ?_⟩) (HS.out _ A.out) ?_
        · go_simp
        simp only [Act.put, List.setIfInBounds_toArray, List.set_cons_zero, List.set_cons_succ]
        refine wpAnyH_take (i := 35) (v := .slice (some ⟨g3, 0, none⟩) q gc) ov35 (by kernel_rfl) (by kernel_rfl) (by kernel_rfl) (fun _ _ _ h => h) (Or.inl ⟨by rfl, fun V' hS => ?_⟩) (HS.out _ A.out) ?_
        · have c0 := hS.2.2.1
          go_simp
        simp only [Act.put, List.setIfInBounds_toArray, List.set_cons_zero, List.set_cons_succ]
        refine wpAnyH_take (i := 36) (v := .int .i64 (k : Int)) ov36 (by kernel_rfl) (by kernel_rfl) (by kernel_rfl) (fun _ _ _ h => h) (Or.inl ⟨by rfl, fun V' hS => ?_⟩) (HS.out _ A.out) ?_
        · go_simp
        simp only [Act.put, List.setIfInBounds_toArray, List.set_cons_zero, List.set_cons_succ]
        refine wpAnyH_take (i := 37) (v := .int .i64 (k1 : Int)) ov37 (by kernel_rfl) (by kernel_rfl) (by kernel_rfl) (fun _ _ _ h => h) (Or.inl ⟨by rfl, fun V' hS => ?_⟩) (HS.out _ A.out) ?_
        · go_simp
        simp only [Act.put, List.setIfInBounds_toArray, List.set_cons_zero, List.set_cons_succ]
        refine wpAnyH_take (i := 38) (v := .pointer (some ⟨g3, k1, none⟩)) ov38 (by kernel_rfl) (by kernel_rfl) (by kernel_rfl) (fun _ _ _ h => h) (Or.inl ⟨by rfl, fun V' hS => ?_⟩) (HS.out _ A.out) ?_
        · go_simp
        simp only [Act.put, List.setIfInBounds_toArray, List.set_cons_zero, List.set_cons_succ]
        refine wpAnyH_take (i := 39) (v := .int .i64 (pl : Int)) ov39 (by kernel_rfl) (by kernel_rfl) (by kernel_rfl) (fun _ _ _ h => h) (Or.inl ⟨by rfl, fun V' hS => ?_⟩) (HS.out _ A.out) ?_
        · have c0 := hS.2.2.2.2.2.2.2.2.2.2
          go_simp
        simp only [Act.put, List.setIfInBounds_toArray, List.set_cons_zero, List.set_cons_succ]
        refine wpAnyH_take (i := 40) (v := .slice d9 l9 c9) ov40 (by kernel_rfl) (by kernel_rfl) (by kernel_rfl) (fun _ _ _ h => h) (Or.inl ⟨by rfl, fun V' hS => ?_⟩) (HS.out _ A.out) ?_
        · have c0 := HSL.out V'
          go_simp
        simp only [Act.put, List.setIfInBounds_toArray, List.set_cons_zero, List.set_cons_succ]
        refine wpAnyH_ready (rs := [41]) (by kernel_rfl) (by simp) ?_
        refine AllReadyH.cons ov41 (fun K hK => ?_) AllReadyH.nil
        rw [if_pos (by rfl)]
        go_simp
        refine (sameT_is _ _ _ _ (HU.out _ A.out) (HSB.out _ (M.out.past A.out).u)).mono ?_
        rintro e z9 ⟨rfl, hB⟩
        have q9 := A.out.trans (hB.mono A.out.size)
        clear A hB
        have A : Hid (Below wr.heap.size wr z9) := q9
        clear q9
        (try go_wp2_with fail)
        refine hK.out _ _ (HS.out _ A.out) (fun _ => ?_)
        clear hK K
        (try simp only [Act.put, List.setIfInBounds_toArray, List.set_cons_zero, List.set_cons_succ])
        generalize z9 = z1 at A ⊢
        refine wpAnyH_take (i := 42) (v := .bool false) ov42 (by kernel_rfl) (by kernel_rfl) (by kernel_rfl) (fun _ _ _ h => h) (Or.inl ⟨by rfl, fun V' hS => ?_⟩) (HS.out _ A.out) ?_
        · go_simp
        simp only [Act.put, List.setIfInBounds_toArray, List.set_cons_zero, List.set_cons_succ]
        refine wpAnyH_take (i := 43) (v := .bool false) ov43 (by kernel_rfl) (by kernel_rfl) (by kernel_rfl) (fun _ _ _ h => h) (Or.inl ⟨by rfl, fun V' hS => ?_⟩) (HS.out _ A.out) ?_
        · go_simp
        simp only [Act.put, List.setIfInBounds_toArray, List.set_cons_zero, List.set_cons_succ]
        refine wpAnyH_done (by kernel_rfl) ?_ _
        clear HH
        have M9 : Hid (PtM bx b5 P R C w z1 (.slice (some ⟨g1, a1, none⟩) n tc) (.slice (some ⟨g2, a2, none⟩) n cc) (.slice sa m sc) (.slice da dl dc) (.slice (some ⟨g, a, none⟩) L uc) (.slice (some ⟨g3, 0, none⟩) q gc) [.slice (some ⟨g1, a1, none⟩) n tc, .slice (some ⟨g2, a2, none⟩) n cc, .slice sa m sc, .slice da dl dc, .int .i64 (D : Int)] [.int .i64 (E4 : Int), .int .i64 (n : Int), .int .i64 (m : Int), .slice (some ⟨g3, 0, none⟩) q gc, .int .i64 (p : Int), .int .i64 (D : Int)] c b q) := M.out.past A.out
        clear M HS HU HSB HSL TZ A
        go_wp2
        go_roundw
        case rel => exact ⟨k1, rfl, by have := HK.out; have := HK1.out; omega, M9.out⟩
        case measure => (simp [intOf]; have := HK.out; have := HK1.out; omega)
end Go.Proofs.Ytndhabhlajldeaa
/- vouchtop's helpers: equal, of what is the same; least. -/
namespace Go.Proofs.Ytndhabhlajldeaa
open Go.RowKit
theorem top_boxes (W : World) (L4 L5 : List Value) : CBox ((W.alloc (.cells L4.toArray 28)).alloc (.cells L5.toArray 47)) W.heap.size 28 L4 ∧ CBox ((W.alloc (.cells L4.toArray 28)).alloc (.cells L5.toArray 47)) (W.heap.size + 1) 47 L5 ∧ Below W.heap.size W ((W.alloc (.cells L4.toArray 28)).alloc (.cells L5.toArray 47)) := by
  have b1 := below_alloc W (.cells L4.toArray 28)
  have b2 := below_alloc (W.alloc (.cells L4.toArray 28)) (.cells L5.toArray 47)
  have s1 : (W.alloc (.cells L4.toArray 28)).heap.size = W.heap.size + 1 := by simp
  have c2 := CBox.new (W.alloc (.cells L4.toArray 28)) 47 L5
  rw [s1] at c2
  exact ⟨(CBox.new W _ L4).past b2, c2, b1.trans (b2.mono (by omega))⟩
def turnB : List Nat := [238, 0, 1, 1, 0, 4, 2, 0, 1, 0, 1, 255, 0, 0, 0, 0, 128, 0, 0, 0]
theorem turn_prs : prs turnB false = .error (51, 0) := rfl
theorem turn_byt : Byt turnB := by unfold Byt; decide
set_option maxHeartbeats 8000000 in
set_option maxRecDepth 100000 in
theorem topleast_is (w : World) : Calls Try.prog 48 #[] w fun e w' => e = .returned (.bool true) ∧ Below w.heap.size w w' := by
  have M0 : Hid (CBox (w.alloc (.cells #[.int .u8 239, .int .u8 0, .int .u8 1, .int .u8 1, .int .u8 0, .int .u8 4, .int .u8 2, .int .u8 0, .int .u8 1, .int .u8 0, .int .u8 1, .int .u8 255, .int .u8 0, .int .u8 0, .int .u8 0, .int .u8 0, .int .u8 128, .int .u8 0, .int .u8 0, .int .u8 0] 5)) w.heap.size 5 [.int .u8 239, .int .u8 0, .int .u8 1, .int .u8 1, .int .u8 0, .int .u8 4, .int .u8 2, .int .u8 0, .int .u8 1, .int .u8 0, .int .u8 1, .int .u8 255, .int .u8 0, .int .u8 0, .int .u8 0, .int .u8 0, .int .u8 128, .int .u8 0, .int .u8 0, .int .u8 0] ∧ Below w.heap.size w (w.alloc (.cells #[.int .u8 239, .int .u8 0, .int .u8 1, .int .u8 1, .int .u8 0, .int .u8 4, .int .u8 2, .int .u8 0, .int .u8 1, .int .u8 0, .int .u8 1, .int .u8 255, .int .u8 0, .int .u8 0, .int .u8 0, .int .u8 0, .int .u8 128, .int .u8 0, .int .u8 0, .int .u8 0] 5))) := ⟨CBox.new w 5 [.int .u8 239, .int .u8 0, .int .u8 1, .int .u8 1, .int .u8 0, .int .u8 4, .int .u8 2, .int .u8 0, .int .u8 1, .int .u8 0, .int .u8 1, .int .u8 255, .int .u8 0, .int .u8 0, .int .u8 0, .int .u8 0, .int .u8 128, .int .u8 0, .int .u8 0, .int .u8 0], below_alloc _ _⟩
  go_enter Try.func48, Try.ntmps48
  go_upto_region 2 with fail
  generalize hbw : w.heap.size = bw at M0 ⊢
  have GB : Hid (w.heap.size = bw) := hbw
  have GE : Hid (bw ≤ w.heap.size) := by unfold Hid; omega
  clear hbw
  generalize w.alloc _ = W1 at M0 ⊢
  obtain ⟨c0, hc0⟩ : ∃ c0, prs leastB false = .ok c0 := ⟨_, least_prs⟩
  have PX : Hid (∀ (W : World) (R : Nat → Prop) (u : Value), BL R W u leastB → Calls Try.prog 31 #[u, .bool false] W fun e w' => (∃ ta tc ca cc sa sc da dc, e = .returned (.tuple #[.agg #[.slice ta c0.ts.length tc, .slice ca c0.cs.length cc, .slice sa c0.ss.length sc, .slice da c0.d.length dc, .int .i64 c0.n], .agg #[.int .i64 0, .slice none 0 0, .int .i64 0, .int .i64 0]])) ∧ Below W.heap.size W w') := fun W R u q => (parse_ans W u leastB false q least_byt (by decide)).mono fun e w' q9 => by
    rw [hc0] at q9
    obtain ⟨⟨ta, tc, ca, cc, sa, sc, da, dc, e9, _⟩, hB⟩ := q9
    exact ⟨⟨ta, tc, ca, cc, sa, sc, da, dc, e9⟩, hB⟩
  have PY : Hid (∀ (W : World) (R : Nat → Prop) (u : Value), BL R W u turnB → Calls Try.prog 31 #[u, .bool false] W fun e w' => (∃ ta tc ca cc sa sc da dc, e = .returned (.tuple #[.agg #[.slice ta con0.ts.length tc, .slice ca con0.cs.length cc, .slice sa con0.ss.length sc, .slice da con0.d.length dc, .int .i64 con0.n], .agg #[.int .i64 51, .slice none 0 0, .int .i64 0, .int .i64 0]])) ∧ Below W.heap.size W w') := fun W R u q => (parse_ans W u turnB false q turn_byt (by decide)).mono fun e w' q9 => by
    rw [turn_prs] at q9
    obtain ⟨⟨ta, tc, ca, cc, sa, sc, da, dc, e9, _⟩, hB⟩ := q9
    exact ⟨⟨ta, tc, ca, cc, sa, sc, da, dc, e9⟩, hB⟩
  clear hc0
  have HD : Hid (∀ W, CBox W bw 5 [.int .u8 239, .int .u8 0, .int .u8 1, .int .u8 1, .int .u8 0, .int .u8 4, .int .u8 2, .int .u8 0, .int .u8 1, .int .u8 0, .int .u8 1, .int .u8 255, .int .u8 0, .int .u8 0, .int .u8 0, .int .u8 0, .int .u8 128, .int .u8 0, .int .u8 0, .int .u8 0] → BL (fun _ => True) W (.slice (some ⟨bw, 0, none⟩) 20 20) leastB) := fun W hW => SL.box (n := 20) (s := 1) hW rfl (by decide) trivial
  have HD2 : Hid (∀ W, CBox W bw 5 [.int .u8 238, .int .u8 0, .int .u8 1, .int .u8 1, .int .u8 0, .int .u8 4, .int .u8 2, .int .u8 0, .int .u8 1, .int .u8 0, .int .u8 1, .int .u8 255, .int .u8 0, .int .u8 0, .int .u8 0, .int .u8 0, .int .u8 128, .int .u8 0, .int .u8 0, .int .u8 0] → BL (fun _ => True) W (.slice (some ⟨bw, 0, none⟩) 20 20) turnB) := fun W hW => SL.box (n := 20) (s := 1) hW rfl (by decide) trivial
  go_upto_region 3 with (go_at_call 31; refine (PX.out _ _ _ (HD.out _ M0.out.1)).mono ?_; rintro e w2 ⟨⟨ta, tc, ca, cc, sa, sc, da, dc, rfl⟩, hB⟩; (have M1 : Hid (CBox w2 bw 5 [.int .u8 239, .int .u8 0, .int .u8 1, .int .u8 1, .int .u8 0, .int .u8 4, .int .u8 2, .int .u8 0, .int .u8 1, .int .u8 0, .int .u8 1, .int .u8 255, .int .u8 0, .int .u8 0, .int .u8 0, .int .u8 0, .int .u8 128, .int .u8 0, .int .u8 0, .int .u8 0] ∧ Below bw w w2) := ⟨M0.out.1.past hB, M0.out.2.trans (hB.mono (Nat.le_trans GE.out M0.out.2.size))⟩); (clear hB))
  have T2 := top_boxes w2 [.slice ta c0.ts.length tc, .slice ca c0.cs.length cc, .slice sa c0.ss.length sc, .slice da c0.d.length dc, .int .i64 c0.n] [.int .i64 0, .slice none 0 0, .int .i64 0, .int .i64 0]
  have M2 : Hid (CBox ((w2.alloc (.cells #[.slice ta c0.ts.length tc, .slice ca c0.cs.length cc, .slice sa c0.ss.length sc, .slice da c0.d.length dc, .int .i64 c0.n] 28)).alloc (.cells #[.int .i64 0, .slice none 0 0, .int .i64 0, .int .i64 0] 47)) bw 5 [.int .u8 239, .int .u8 0, .int .u8 1, .int .u8 1, .int .u8 0, .int .u8 4, .int .u8 2, .int .u8 0, .int .u8 1, .int .u8 0, .int .u8 1, .int .u8 255, .int .u8 0, .int .u8 0, .int .u8 0, .int .u8 0, .int .u8 128, .int .u8 0, .int .u8 0, .int .u8 0] ∧ Below bw w ((w2.alloc (.cells #[.slice ta c0.ts.length tc, .slice ca c0.cs.length cc, .slice sa c0.ss.length sc, .slice da c0.d.length dc, .int .i64 c0.n] 28)).alloc (.cells #[.int .i64 0, .slice none 0 0, .int .i64 0, .int .i64 0] 47)) ∧ CBox ((w2.alloc (.cells #[.slice ta c0.ts.length tc, .slice ca c0.cs.length cc, .slice sa c0.ss.length sc, .slice da c0.d.length dc, .int .i64 c0.n] 28)).alloc (.cells #[.int .i64 0, .slice none 0 0, .int .i64 0, .int .i64 0] 47)) (w2.heap.size + 1) 47 [.int .i64 0, .slice none 0 0, .int .i64 0, .int .i64 0] ∧ bw < w2.heap.size) := ⟨M1.out.1.past T2.2.2, M1.out.2.trans (T2.2.2.mono (Nat.le_trans GE.out M1.out.2.size)), T2.2.1, M1.out.1.lt⟩
  have HB3 : Hid (bw ≠ w2.heap.size + 1) := by have := M2.out.2.2.2; unfold Hid; omega
  have M3 : Hid (CBox ((w2.alloc (.cells #[.slice ta c0.ts.length tc, .slice ca c0.cs.length cc, .slice sa c0.ss.length sc, .slice da c0.d.length dc, .int .i64 c0.n] 28)).alloc (.cells #[.int .i64 0, .slice none 0 0, .int .i64 0, .int .i64 0] 47)) bw 5 [.int .u8 239, .int .u8 0, .int .u8 1, .int .u8 1, .int .u8 0, .int .u8 4, .int .u8 2, .int .u8 0, .int .u8 1, .int .u8 0, .int .u8 1, .int .u8 255, .int .u8 0, .int .u8 0, .int .u8 0, .int .u8 0, .int .u8 128, .int .u8 0, .int .u8 0, .int .u8 0] ∧ Below bw w ((w2.alloc (.cells #[.slice ta c0.ts.length tc, .slice ca c0.cs.length cc, .slice sa c0.ss.length sc, .slice da c0.d.length dc, .int .i64 c0.n] 28)).alloc (.cells #[.int .i64 0, .slice none 0 0, .int .i64 0, .int .i64 0] 47)) ∧ CBox ((w2.alloc (.cells #[.slice ta c0.ts.length tc, .slice ca c0.cs.length cc, .slice sa c0.ss.length sc, .slice da c0.d.length dc, .int .i64 c0.n] 28)).alloc (.cells #[.int .i64 0, .slice none 0 0, .int .i64 0, .int .i64 0] 47)) (w2.heap.size + 1) 47 [.int .i64 0, .slice none 0 0, .int .i64 0, .int .i64 0]) := ⟨M2.out.1, M2.out.2.1, M2.out.2.2.1⟩
  clear T2 M0 M1 M2 PX HD
  generalize w2.heap.size + 1 = b3 at M3 HB3 ⊢
  generalize w2.heap.size = b2 at M3 ⊢
  generalize (w2.alloc _).alloc _ = W2 at M3 ⊢
  have k0 : W2.cell? ⟨bw, 0, none⟩ = some (.int .u8 239) := M3.out.1.cell 0
  have f0 := CBox.frozen M3.out.1 0
  go_upto_region 4 with fail
  have hs : But (fun y => y = bw) W2 (W2.setCell ⟨bw, 0, none⟩ (.int .u8 238)) := (But.refl (fun y => y = bw) W2).setCell ⟨bw, 0, none⟩ _ (Or.inl rfl)
  have M4 : Hid (CBox (W2.setCell ⟨bw, 0, none⟩ (.int .u8 238)) bw 5 [.int .u8 238, .int .u8 0, .int .u8 1, .int .u8 1, .int .u8 0, .int .u8 4, .int .u8 2, .int .u8 0, .int .u8 1, .int .u8 0, .int .u8 1, .int .u8 255, .int .u8 0, .int .u8 0, .int .u8 0, .int .u8 0, .int .u8 128, .int .u8 0, .int .u8 0, .int .u8 0] ∧ Below bw w (W2.setCell ⟨bw, 0, none⟩ (.int .u8 238)) ∧ CBox (W2.setCell ⟨bw, 0, none⟩ (.int .u8 238)) b3 47 [.int .i64 0, .slice none 0 0, .int .i64 0, .int .i64 0]) := ⟨M3.out.1.set 0 _, M3.out.2.1.trans (hs.below (fun g (e : g = bw) => by omega) (Nat.le_trans GE.out M3.out.2.1.size)), M3.out.2.2.but hs (fun (e : b3 = bw) => HB3.out e.symm)⟩
  clear hs k0 f0 M3 HB3
  generalize W2.setCell _ _ = W3 at M4 ⊢
  go_upto_region 5 with (go_at_call 31; refine (PY.out _ _ _ (HD2.out _ M4.out.1)).mono ?_; rintro e w4 ⟨⟨ta', tc', ca', cc', sa', sc', da', dc', rfl⟩, hB⟩; (have M5 : Hid (Below bw w w4 ∧ CBox w4 b3 47 [.int .i64 0, .slice none 0 0, .int .i64 0, .int .i64 0]) := ⟨M4.out.2.1.trans (hB.mono (Nat.le_trans GE.out M4.out.2.1.size)), M4.out.2.2.past hB⟩); (clear hB))
  have T2 := top_boxes w4 [.slice ta' con0.ts.length tc', .slice ca' con0.cs.length cc', .slice sa' con0.ss.length sc', .slice da' con0.d.length dc', .int .i64 con0.n] [.int .i64 51, .slice none 0 0, .int .i64 0, .int .i64 0]
  have M6 : Hid (Below bw w ((w4.alloc (.cells #[.slice ta' con0.ts.length tc', .slice ca' con0.cs.length cc', .slice sa' con0.ss.length sc', .slice da' con0.d.length dc', .int .i64 con0.n] 28)).alloc (.cells #[.int .i64 51, .slice none 0 0, .int .i64 0, .int .i64 0] 47)) ∧ CBox ((w4.alloc (.cells #[.slice ta' con0.ts.length tc', .slice ca' con0.cs.length cc', .slice sa' con0.ss.length sc', .slice da' con0.d.length dc', .int .i64 con0.n] 28)).alloc (.cells #[.int .i64 51, .slice none 0 0, .int .i64 0, .int .i64 0] 47)) b3 47 [.int .i64 0, .slice none 0 0, .int .i64 0, .int .i64 0] ∧ CBox ((w4.alloc (.cells #[.slice ta' con0.ts.length tc', .slice ca' con0.cs.length cc', .slice sa' con0.ss.length sc', .slice da' con0.d.length dc', .int .i64 con0.n] 28)).alloc (.cells #[.int .i64 51, .slice none 0 0, .int .i64 0, .int .i64 0] 47)) (w4.heap.size + 1) 47 [.int .i64 51, .slice none 0 0, .int .i64 0, .int .i64 0]) := ⟨M5.out.1.trans (T2.2.2.mono (Nat.le_trans GE.out M5.out.1.size)), M5.out.2.past T2.2.2, T2.2.1⟩
  clear T2 M4 M5 PY HD2
  generalize w4.heap.size + 1 = b5 at M6 ⊢
  generalize w4.heap.size = b4 at M6 ⊢
  generalize (w4.alloc _).alloc _ = W4 at M6 ⊢
  have a0 : W4.cell? ⟨b3, 0, none⟩ = some (.int .i64 0) := M6.out.2.1.cell 0
  have d0 : W4.cell? ⟨b5, 0, none⟩ = some (.int .i64 51) := M6.out.2.2.cell 0
  go_wp2
  go_ret
  exact ⟨rfl, by rw [GB.out]; exact M6.out.1⟩
end Go.Proofs.Ytndhabhlajldeaa
/- What is refused: why and where; whole and open. -/
namespace Go.Proofs.Ytndhabhlajldeaa
/-- an error that tells something, at a place within the bytes -/
def Gd {α : Type} (b : List Nat) (r : Except Er α) : Prop := ∀ c a, r = .error (c, a) → 0 < c ∧ a ≤ b.length
theorem gd_ok {α : Type} (b : List Nat) (x : α) : Gd b (.ok x : Except Er α) := fun _ _ h => by cases h
theorem gd_bind {α β : Type} {b : List Nat} {x : Except Er α} {f : α → Except Er β} (h : Gd b x) (k : ∀ v, x = .ok v → Gd b (f v)) : Gd b (x.bind f) := by
  cases x with
  | error er =>
    intro c a e
    exact h c a (by
      have : (Except.error er : Except Er β) = .error (c, a) := e
      cases this
      rfl)
  | ok v => exact k v rfl
theorem gd_fld {b : List Nat} {k w why : Nat} {p : Nat → Bool} (hw : 0 < why ∨ ∀ n, p n = true) : Gd b (fld b k w why p) := by
  intro c a e
  unfold fld at e
  split at e
  · cases e
    exact ⟨by omega, by omega⟩
  · split at e
    · cases e
    · rename_i h1 h2
      cases e
      refine ⟨?_, by omega⟩
      rcases hw with h | h
      · exact h
      · exact absurd (h _) h2
theorem gd_lens {b : List Nat} {w : Nat} : ∀ (m k : Nat), Gd b (lens b w k m)
  | 0, k => gd_ok b _
  | m + 1, k => by
    rw [lens]
    exact gd_bind (gd_fld (Or.inl (by omega))) fun n _ => gd_bind (gd_lens m _) fun r _ => gd_ok b _
theorem gd_tys {b : List Nat} : ∀ (m k i : Nat), Gd b (tys b k i m)
  | 0, k, i => gd_ok b _
  | m + 1, k, i => by
    rw [tys]
    refine gd_bind ?_ fun t _ => gd_bind (gd_tys m _ _) fun r _ => gd_ok b _
    unfold tyAt
    exact gd_bind (gd_fld (Or.inl (by omega))) fun x _ => gd_bind (gd_fld (Or.inl (by omega))) fun y _ => gd_bind (gd_fld (Or.inl (by omega))) fun z _ => gd_ok b _
theorem gd_end {b : List Nat} (k : Nat) (cs ss : List Nat) : Gd b (hdEnd b k cs ss) := by
  unfold hdEnd
  exact gd_bind (gd_fld (Or.inr fun _ => rfl)) fun d _ => gd_bind (gd_fld (Or.inl (by omega))) fun _ _ => gd_ok b _
theorem gd_hdr (b : List Nat) : Gd b (hdr b) := by
  unfold hdr
  refine gd_bind (gd_fld (Or.inl (by omega))) fun _ _ => gd_bind (gd_fld (Or.inl (by omega))) fun _ _ => gd_bind (gd_fld (Or.inl (by omega))) fun _ _ => gd_bind (gd_fld (Or.inl (by omega))) fun _ _ => gd_bind (gd_fld (Or.inl (by omega))) fun t _ => gd_bind (gd_fld (Or.inl (by omega))) fun _ _ => gd_bind (gd_fld (Or.inl (by omega))) fun m _ => gd_bind (gd_lens _ _) fun cs _ => ?_
  unfold hdKind
  refine gd_bind (gd_fld (Or.inl (by omega))) fun q _ => ?_
  split
  · unfold hdSubs
    exact gd_bind (gd_fld (Or.inl (by omega))) fun s _ => gd_bind (gd_lens _ _) fun ss _ => gd_bind (gd_fld (Or.inl (by omega))) fun _ _ => gd_end _ _ _
  · exact gd_end _ _ _
theorem gd_msr {b : List Nat} {k n d : Nat} {opn : Bool} : Gd b (msr b k n d opn) := by
  by_cases q1 : b.length < (if opn then k + n else k + n + d)
  · rw [msr_cut q1]
    intro c a e
    cases e
    exact ⟨by omega, Nat.le_refl _⟩
  · by_cases q2 : k + n + d < b.length
    · rw [msr_tail q1 q2]
      intro c a e
      cases e
      exact ⟨by omega, by omega⟩
    · rw [msr_ok q1 q2]
      exact gd_ok b _
theorem gd_prs (b : List Nat) (opn : Bool) : Gd b (prs b opn) := by
  rw [prs_is]
  refine gd_bind (gd_hdr b) fun h _ => gd_bind gd_msr fun _ _ => ?_
  unfold bdy
  exact gd_bind (gd_tys _ _ _) fun ts _ => gd_ok b _
theorem prs_total {b : List Nat} (hb : Byt b) {opn : Bool} {c : Con} (g : prs b opn = .ok c) (hl : b.length ≤ 2097152) : Small c := by
  obtain ⟨hm, hs, _⟩ := prs_ok hb g
  have h1 := congrArg List.length hs
  unfold ser at h1
  simp only [List.length_append] at h1
  have h2 := hm.nt
  have h3 := hm.n2
  have h4 := hm.ns
  unfold Small
  omega
end Go.Proofs.Ytndhabhlajldeaa
