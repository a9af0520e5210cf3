/- Package container: body: what is read behind a header. -/
import Derived.Test.YtndhabhlajldeaaBkv
namespace Go.Proofs.Ytndhabhlajldeaa
open Go.RowKit
/-- a block of some other type than those of a container's lists -/
def Alien (W : World) (q : Nat) : Prop := ∃ t l, CBox W q t l ∧ t ≠ 77 ∧ t ≠ 22 ∧ t ≠ 5
theorem box_type {W : World} {g q : Nat} {t u : TypeId} {l m : List Value} (h : CBox W g t l) (k : CBox W q u m) (ht : t ≠ u) : g ≠ q := by
  rintro rfl
  have h1 : W.heap[g]? = _ := h
  have h2 : W.heap[g]? = _ := k
  rw [h1] at h2
  injection h2 with h2
  injection h2 with _ h2 _
  exact ht h2
/-- types in a block of just their size -/
def TW (B : Nat) (W : World) (v : Value) (l : List Ty) : Prop := ∃ g, v = .slice (some ⟨g, 0, none⟩) l.length l.length ∧ CBox W g 77 (tV l) ∧ B ≤ g
/-- pieces, each in a block of its own -/
def PW (B : Nat) (W : World) (v : Value) (ll : List (List Nat)) : Prop := ∃ g us, v = .slice (some ⟨g, 0, none⟩) ll.length ll.length ∧ CBox W g 22 us ∧ us.length = ll.length ∧ B ≤ g ∧ Own1 B W us ll
theorem TW.alien {B q : Nat} {W W' : World} {v : Value} {l : List Ty} (h : TW B W v l) (k : But (fun y => y = q) W W') (a : Alien W q) : TW B W' v l := by
  obtain ⟨g, e, h1, h2⟩ := h
  obtain ⟨t, m, c, n1, _, _⟩ := a
  exact ⟨g, e, h1.but k (box_type h1 c (Ne.symm n1)), h2⟩
theorem PW.alien {B q : Nat} {W W' : World} {v : Value} {l : List (List Nat)} (h : PW B W v l) (k : But (fun y => y = q) W W') (a : Alien W q) : PW B W' v l := by
  obtain ⟨g, us, e, h1, hl, h2, h3⟩ := h
  obtain ⟨t, m, c, _, n2, n3⟩ := a
  exact ⟨g, us, e, h1.but k (box_type h1 c (Ne.symm n2)), hl, h2, h3.butT k c n3⟩
theorem TW.past {B : Nat} {W W' : World} {v : Value} {l : List Ty} (h : TW B W v l) (k : Below W.heap.size W W') : TW B W' v l := by
  obtain ⟨g, e, h1, h2⟩ := h
  exact ⟨g, e, h1.past k, h2⟩
theorem PW.past {B : Nat} {W W' : World} {v : Value} {l : List (List Nat)} (h : PW B W v l) (k : Below W.heap.size W W') : PW B W' v l := by
  obtain ⟨g, us, e, h1, hl, h2, h3⟩ := h
  exact ⟨g, us, e, h1.past k, hl, h2, h3.but (below_but (S := fun _ => False) k) (fun _ _ => id)⟩
theorem TW.mono {B B' : Nat} {W : World} {v : Value} {l : List Ty} (h : TW B W v l) (k : B' ≤ B) : TW B' W v l := by
  obtain ⟨g, e, h1, h2⟩ := h
  exact ⟨g, e, h1, Nat.le_trans k h2⟩
theorem PW.mono {B B' : Nat} {W : World} {v : Value} {l : List (List Nat)} (h : PW B W v l) (k : B' ≤ B) : PW B' W v l := by
  obtain ⟨g, us, e, h1, hl, h2, h3⟩ := h
  exact ⟨g, us, e, h1, hl, Nat.le_trans k h2, fun i u m hi hm => owns_base (h3 i u m hi hm) k⟩
theorem TW.tl {B : Nat} {W : World} {v : Value} {l : List Ty} (h : TW B W v l) (hl : l.length ≤ 1152921504606846976) : TL (fun g => B ≤ g) W v l := by
  obtain ⟨g, rfl, h1, h2⟩ := h
  exact SL.box h1 (tV_len l) hl h2
theorem PW.pl {B : Nat} {W : World} {v : Value} {ll : List (List Nat)} (h : PW B W v ll) (hl : ll.length ≤ 1152921504606846976) (hx : ∀ x ∈ ll, x.length ≤ 1152921504606846976) : PL (fun g => B ≤ g) W v ll := by
  obtain ⟨g, us, rfl, h1, hn, h2, h3⟩ := h
  refine ⟨us, SL.box h1 (by omega) hl h2, fun i l hi => ?_⟩
  have hlt : i < us.length := by rw [hn]; exact (List.getElem?_eq_some_iff.1 hi).1
  refine ⟨us[i], List.getElem?_eq_getElem hlt, ?_⟩
  have h4 := h3 i us[i] l (List.getElem?_eq_getElem hlt) hi
  exact SL.own h4 (hx l (List.mem_of_getElem? hi)) fun y hy => (h4.lt y hy).1
theorem row_alien {B q n : Nat} {W W' : World} {v : Value} {cs : List Value} (h : W.ownsRow B 5 1 v n cs) (k : But (fun y => y = q) W W') (a : Alien W q) : W'.ownsRow B 5 1 v n cs := owns_row_blockB h fun g hg => k.block g (h.lt g hg).2 fun e => by
  obtain ⟨t, m, c, _, _, n3⟩ := a
  subst e
  rcases h.2 with ⟨rfl, _⟩ | ⟨g', c', cur, rfl, _, hh, _⟩
  · cases hg
  · injection hg with hg
    subst hg
    rw [show W.heap[g']? = _ from c] at hh
    cases hh
    exact n3 rfl
/-- a container in memory of its own -/
def CO (B : Nat) (W : World) (v : Value) (c : Con) : Prop := ∃ tv cv sv dv, v = .agg #[tv, cv, sv, dv, .int .i64 c.n] ∧ TW B W tv c.ts ∧ PW B W cv c.cs ∧ PW B W sv c.ss ∧ W.ownsRow B 5 1 dv c.d.length (bV c.d)
theorem CO.past {B : Nat} {W W' : World} {v : Value} {c : Con} (h : CO B W v c) (k : Below W.heap.size W W') : CO B W' v c := by
  obtain ⟨tv, cv, sv, dv, e, h1, h2, h3, h4⟩ := h
  exact ⟨tv, cv, sv, dv, e, h1.past k, h2.past k, h3.past k, owns_past h4 k⟩
theorem CO.mono {B B' : Nat} {W : World} {v : Value} {c : Con} (h : CO B W v c) (k : B' ≤ B) : CO B' W v c := by
  obtain ⟨tv, cv, sv, dv, e, h1, h2, h3, h4⟩ := h
  exact ⟨tv, cv, sv, dv, e, h1.mono k, h2.mono k, h3.mono k, owns_base h4 k⟩
def con0L : List Value := [.slice none 0 0, .slice none 0 0, .slice none 0 0, .slice none 0 0, .int .i64 0]
/-- in the midst of a body -/
structure BdM (rb b3 b4 b5 : Nat) (w W : World) (bs : Value) (b : List Nat) (k : Nat) (hv sv : Value) (cs ss : List Nat) (d : Nat) (l5 : List Value) : Prop where
  c3 : CBox W b3 84 [hv, sv, .int .u64 (d : Int)]
  c4 : CBox W b4 28 con0L
  c5 : CBox W b5 28 l5
  uc : UL W hv cs
  us : UL W sv ss
  rd : Rdr W rb bs b k
  but : RB rb w W
  g3 : w.heap.size ≤ b3
  g4 : w.heap.size ≤ b4
  g5 : w.heap.size ≤ b5
  ne : b4 ≠ b5
  hr : rb < w.heap.size
theorem BdM.start (rb : Nat) (w : World) (bs : Value) (b : List Nat) (k : Nat) (hv sv : Value) (cs ss : List Nat) (d : Nat) (h : Rdr w rb bs b k) (hc : UL w hv cs) (hs : UL w sv ss) (W1 : World) (W2 : World) (W3 : World) (l5 : List Value)
    (e1 : W1 = w.alloc (.cells #[hv, sv, .int .u64 (d : Int)] 84)) (e2 : W2 = W1.alloc (.cells con0L.toArray 28)) (e3 : W3 = W2.alloc (.cells l5.toArray 28)) :
    BdM rb w.heap.size (w.heap.size + 1) (w.heap.size + 1 + 1) w W3 bs b k hv sv cs ss d l5 := by
  have b1 := below_alloc w (.cells #[hv, sv, .int .u64 (d : Int)] 84)
  have s1 : W1.heap.size = w.heap.size + 1 := by rw [e1]; simp
  have b2 := below_alloc W1 (.cells con0L.toArray 28)
  have s2 : W2.heap.size = w.heap.size + 1 + 1 := by rw [e2]; simp [s1]
  have b3 := below_alloc W2 (.cells l5.toArray 28)
  rw [← e1] at b1
  rw [← e2] at b2
  rw [← e3] at b3
  have c3 : CBox W1 w.heap.size 84 [hv, sv, .int .u64 (d : Int)] := by rw [e1]; exact CBox.new w _ [_, _, _]
  have c4 : CBox W2 W1.heap.size 28 con0L := by rw [e2]; exact CBox.new W1 _ _
  have c5 : CBox W3 W2.heap.size 28 l5 := by rw [e3]; exact CBox.new W2 _ _
  rw [s1] at c4
  rw [s2] at c5
  have hlt := h.box.lt
  exact ⟨(c3.past b2).past b3, c4.past b3, c5, ((hc.past b1).past b2).past b3, ((hs.past b1).past b2).past b3, ((h.past b1).past b2).past b3, ((below_but b1).trans (below_but b2)).trans (below_but b3), by omega, by omega, by omega, by omega, hlt⟩
section
variable {rb b3 b4 b5 k k' d : Nat} {w W W' : World} {bs hv sv : Value} {b cs ss : List Nat} {l5 : List Value}
theorem BdM.read (h : BdM rb b3 b4 b5 w W bs b k hv sv cs ss d l5) (q : RB rb W W') (r : Rdr W' rb bs b k') : BdM rb b3 b4 b5 w W' bs b k' hv sv cs ss d l5 :=
  ⟨h.c3.but q (by have := h.g3; have := h.hr; omega), h.c4.but q (by have := h.g4; have := h.hr; omega), h.c5.but q (by have := h.g5; have := h.hr; omega), h.uc.but2 q h.rd.box (by decide), h.us.but2 q h.rd.box (by decide), r, h.but.trans q, h.g3, h.g4, h.g5, h.ne, h.hr⟩
theorem BdM.ra (h : BdM rb b3 b4 b5 w W bs b k hv sv cs ss d l5) : Alien W rb := ⟨_, _, h.rd.box, by decide, by decide, by decide⟩
theorem BdM.r5 (h : BdM rb b3 b4 b5 w W bs b k hv sv cs ss d l5) : Alien W b5 := ⟨_, _, h.c5, by decide, by decide, by decide⟩
theorem BdM.put (h : BdM rb b3 b4 b5 w W bs b k hv sv cs ss d l5) (j : Nat) (v : Value) : BdM rb b3 b4 b5 w (W.setCell ⟨b5, j, none⟩ v) bs b k hv sv cs ss d (l5.set j v) ∧ But (fun y => y = b5) W (W.setCell ⟨b5, j, none⟩ v) := by
  have hs : But (fun y => y = b5) W (W.setCell ⟨b5, j, none⟩ v) := (But.refl (fun y => y = b5) W).setCell ⟨b5, j, none⟩ _ (Or.inl rfl)
  exact ⟨⟨h.c3.but hs (box_type h.c3 h.c5 (by decide)), h.c4.but hs h.ne, h.c5.set j v, h.uc.but2 hs h.c5 (by decide), h.us.but2 hs h.c5 (by decide), h.rd.keep hs (fun y hy e => by have := h.g5; have := h.hr; omega), h.but.setCell ⟨b5, j, none⟩ _ (Or.inr h.g5), h.g3, h.g4, h.g5, h.ne, h.hr⟩, hs⟩
end
/-- what a body is -/
def bdy (b : List Nat) (k : Nat) (cs ss : List Nat) (d : Nat) : Except Er Con := (tys b k 0 cs.length).bind fun ts => .ok ⟨ts, cuts b (k + 4 * cs.length) cs, cuts b (k + 4 * cs.length + sumL cs) ss, b.drop (k + 4 * cs.length + sumL cs + sumL ss), (d : Int)⟩
set_option maxHeartbeats 4000000 in
set_option maxRecDepth 100000 in
theorem body_is (w : World) (rb : Nat) (bs : Value) (b : List Nat) (k : Nat) (cv sv : Value) (cs ss : List Nat) (d : Nat) (h : Rdr w rb bs b k) (hc : UL w cv cs) (hs : UL w sv ss) (hk : k + 4 * cs.length + sumL cs + sumL ss ≤ b.length) (h1 : cs.length ≤ 1024) (h2 : ss.length ≤ 256) (hd : d ≤ 65535) :
    Calls Try.prog 67 #[.pointer (some ⟨rb, 0, none⟩), .agg #[cv, sv, .int .u64 (d : Int)]] w fun e w' => Out rb w (bdy b k cs ss d) (fun c e w' => (∃ v, e = .returned v ∧ CO w.heap.size w' v c) ∧ RB rb w w') e w' := by
  obtain ⟨ca, rfl⟩ := hc.len
  obtain ⟨sa, rfl⟩ := hs.len
  have wd : IntKind.i64.wrap (d : Int) = (d : Int) := by rw [IntKind.wrap_i64]; omega
  obtain ⟨ba, bc, rfl, hbc, _⟩ := h.by'.len
  have HNE : Hid (w.heap.size ≤ w.heap.size) := Nat.le_refl _
  have M : Hid (BdM rb w.heap.size (w.heap.size + 1) (w.heap.size + 1 + 1) w (((w.alloc (.cells #[.slice ca cs.length cs.length, .slice sa ss.length ss.length, .int .u64 (d : Int)] 84)).alloc (.cells #[.slice none 0 0, .slice none 0 0, .slice none 0 0, .slice none 0 0, .int .i64 0] 28)).alloc (.cells #[.slice none 0 0, .slice none 0 0, .slice none 0 0, .slice none 0 0, .int .i64 (d : Int)] 28)) (.slice ba b.length bc) b k (.slice ca cs.length cs.length) (.slice sa ss.length ss.length) cs ss d [.slice none 0 0, .slice none 0 0, .slice none 0 0, .slice none 0 0, .int .i64 (d : Int)]) := BdM.start rb w _ b k _ _ cs ss d h hc hs _ _ _ _ rfl rfl rfl
  obtain ⟨LL, hLL⟩ : ∃ LL, LL = bdy b k cs ss d := ⟨_, rfl⟩
  rw [← hLL]
  have HE : Hid (LL = (tys b k 0 cs.length).bind fun ts => .ok ⟨ts, cuts b (k + 4 * cs.length) cs, cuts b (k + 4 * cs.length + sumL cs) ss, b.drop (k + 4 * cs.length + sumL cs + sumL ss), (d : Int)⟩) := hLL
  have HBL := h.len
  have HCC : Hid ((cuts b (k + 4 * cs.length) cs).length = cs.length ∧ (cuts b (k + 4 * cs.length + sumL cs) ss).length = ss.length) := ⟨cuts_len .., cuts_len ..⟩
  obtain ⟨k1, hk1⟩ : ∃ k1, k1 = k + 4 * cs.length := ⟨_, rfl⟩
  obtain ⟨k2, hk2⟩ : ∃ k2, k2 = k1 + sumL cs := ⟨_, rfl⟩
  obtain ⟨k3, hk3⟩ : ∃ k3, k3 = k2 + sumL ss := ⟨_, rfl⟩
  have PT : Hid (∀ W bs, Rdr W rb bs b k → Calls Try.prog 99 #[.pointer (some ⟨rb, 0, none⟩), .int .i64 (cs.length : Int)] W fun e w' => Out rb W (tys b k 0 cs.length) (fun l e w' => TyQ rb W w' bs b k1 e l) e w') := fun W bs hW => by rw [hk1]; exact types_is W rb bs b k cs.length hW (by omega) (by omega)
  have PC : Hid (∀ W bs lv, Rdr W rb bs b k1 → UL W lv cs → Calls Try.prog 100 #[.pointer (some ⟨rb, 0, none⟩), lv] W fun e w' => ∃ v, e = .returned v ∧ PcQ rb W w' bs b k2 v (cuts b k1 cs)) := fun W bs lv hW hu => by rw [hk2]; exact pieces_is W rb bs b k1 lv cs hW hu (by omega) (by omega)
  have PS : Hid (∀ W bs lv, Rdr W rb bs b k2 → UL W lv ss → Calls Try.prog 100 #[.pointer (some ⟨rb, 0, none⟩), lv] W fun e w' => ∃ v, e = .returned v ∧ PcQ rb W w' bs b k3 v (cuts b k2 ss)) := fun W bs lv hW hu => by rw [hk3]; exact pieces_is W rb bs b k2 lv ss hW hu (by omega) (by omega)
  have hk33 : k3 ≤ b.length := by omega
  have CL : Hid (∀ (W : World), BL (fun g => g < rb) W (.slice ba b.length bc) b → Calls Try.prog 88 #[.slice (if bc = k3 then ba else ba.map (·.add k3)) (b.length - k3) (bc - k3)] W fun e w' => ∃ v', e = .returned v' ∧ w'.ownsRow W.heap.size 5 1 v' (b.drop k3).length (bV (b.drop k3)) ∧ Below W.heap.size W w') := fun W hW => by
    have e9 := hW.mid k3 b.length hk33 (Nat.le_refl _)
    rw [List.take_of_length_le (by rw [List.length_drop]; exact Nat.le_refl _)] at e9
    exact clone_is W _ (b.drop k3) e9 (by rw [List.length_drop]; omega)
  have hsl : ∀ W : World, Sem.run Try.prog (Instr.slice 22 (.slice ba b.length bc) (some (.int .i64 (k3 : Int))) none none) W = .ok (.slice (if bc = k3 then ba else ba.map (·.add k3)) (b.length - k3) (bc - k3)) W := fun W => slice_i ba b.length bc k3 hk33 W
  have HDL : Hid ((b.drop k3).length = b.length - k3) := by unfold Hid; rw [List.length_drop]
  rw [← hk1, ← hk2, ← hk3] at HE
  rw [← hk1, ← hk2] at HCC
  generalize (if bc = k3 then ba else ba.map (·.add k3)) = da at *
  generalize hnb3 : b.length - k3 = nd at *
  generalize bc - k3 = cd at *
  generalize b.drop k3 = D at *
  generalize cuts b k1 cs = C1 at *
  generalize cuts b k2 ss = C2 at *
  generalize b.length = nb at *
  clear h hc hs hk h1 h2 hd hLL hk1 hk2 hk3 hk33 hbc hnb3
  generalize cs.length = nc at *
  generalize ss.length = ns at *
  have mI : (nb : Int) ≤ 16777216 := by omega
  go_enter Try.func67, Try.ntmps67
  go_upto_region 2 with fail
  generalize hb5 : w.heap.size + 1 + 1 = b5 at M ⊢
  generalize w.heap.size + 1 = b4 at M ⊢
  generalize hb3 : w.heap.size = b3 at M ⊢
  generalize ((w.alloc _).alloc _).alloc _ = W0 at M ⊢
  clear hb5 HBL
  have GB : Hid (w.heap.size = b3) := hb3
  clear hb3 HNE
  have a0 : W0.cell? ⟨b3, 0, none⟩ = some (.slice ca nc nc) := M.out.c3.cell 0
  have FC0 := PT.out W0 _ M.out.rd
  have FC : Hid _ := FC0
  clear FC0 PT
  generalize tys b k 0 nc = FF at *
  cases FF with
  | error er =>
    obtain ⟨ec, ea⟩ := er
    have E0 : Hid (LL = .error (ec, ea)) := HE.out
    go_wp2_with (go_at_call 99; refine Calls.mono FC.out ?_; rintro e w' ⟨rfl, hB⟩; unfold thrown rejV)
    refine ⟨rfl, ?_⟩
    rw [E0.out]
    exact ⟨rfl, M.out.but.trans hB⟩
  | ok ts =>
  have HE : Hid (LL = .ok ⟨ts, C1, C2, D, (d : Int)⟩) := HE.out
  go_upto_region 3 with (go_at_call 99; refine Calls.mono FC.out ?_; rintro e w5 hQ; (obtain ⟨gt, rfl, hC, hg⟩ := TyQ.ex hQ); (have N0 := M.out.read (TyQ.but hQ) (TyQ.rd hQ)); (have z1 : w5.cell? ⟨b5, 0, none⟩ = some (.slice none 0 0) := N0.c5.cell 0); (have z2 := N0.c5.frozen 0))
  have M2 : Hid (BdM rb b3 b4 b5 w (w5.setCell ⟨b5, 0, none⟩ (.slice (some ⟨gt, 0, none⟩) ts.length ts.length)) (.slice ba nb bc) b (k1) (.slice ca nc nc) (.slice sa ns ns) cs ss d [.slice (some ⟨gt, 0, none⟩) ts.length ts.length, .slice none 0 0, .slice none 0 0, .slice none 0 0, .int .i64 (d : Int)]) := (N0.put 0 _).1
  have FT2 : Hid (TW b3 (w5.setCell ⟨b5, 0, none⟩ (.slice (some ⟨gt, 0, none⟩) ts.length ts.length)) (.slice (some ⟨gt, 0, none⟩) ts.length ts.length) ts) := TW.alien ⟨gt, rfl, hC, Nat.le_trans (by have := GB.out; have := M.out.but.size; omega) hg⟩ (N0.put 0 _).2 N0.r5
  clear z1 z2 N0 hQ a0 M 
  clear hC hg FC
  generalize (w5.setCell ⟨b5, 0, none⟩ (.slice (some ⟨gt, 0, none⟩) ts.length ts.length)) = W1 at M2 FT2 ⊢
  have M := M2
  clear M2
  have FT := FT2
  clear FT2
  have HTL : Hid (ts.length = ts.length) := rfl
  generalize hnt : ts.length = nt at *
  have HNT : Hid (ts.length = nt) := hnt
  clear hnt HTL
  have a0 : W1.cell? ⟨b3, 0, none⟩ = some (.slice ca nc nc) := M.out.c3.cell 0
  go_upto_region 4 with (go_at_call 100; refine Calls.mono (PC.out W1 _ _ M.out.rd M.out.uc) ?_; rintro e w5 hQ; (obtain ⟨v8, rfl, hQ⟩ := hQ); (obtain ⟨gc, usc, e8, hC, hl, hg, hO⟩ := PcQ.ex hQ); (subst e8); (have N0 := M.out.read (PcQ.but hQ) (PcQ.rd hQ)); (rw [HCC.out.1]); (have z1 : w5.cell? ⟨b5, 1, none⟩ = some (.slice none 0 0) := N0.c5.cell 1); (have z2 := N0.c5.frozen 1))
  have M2 : Hid (BdM rb b3 b4 b5 w (w5.setCell ⟨b5, 1, none⟩ (.slice (some ⟨gc, 0, none⟩) nc nc)) (.slice ba nb bc) b (k2) (.slice ca nc nc) (.slice sa ns ns) cs ss d [.slice (some ⟨gt, 0, none⟩) nt nt, .slice (some ⟨gc, 0, none⟩) nc nc, .slice none 0 0, .slice none 0 0, .int .i64 (d : Int)]) := (N0.put 1 _).1
  have FT2 : Hid (TW b3 (w5.setCell ⟨b5, 1, none⟩ (.slice (some ⟨gc, 0, none⟩) nc nc)) (.slice (some ⟨gt, 0, none⟩) nt nt) ts) := ((FT.out.alien (PcQ.but hQ) M.out.ra).alien (N0.put 1 _).2 N0.r5)
  have FP2 : Hid (PW b3 (w5.setCell ⟨b5, 1, none⟩ (.slice (some ⟨gc, 0, none⟩) nc nc)) (.slice (some ⟨gc, 0, none⟩) nc nc) C1) := (PW.alien ⟨gc, usc, by rw [HCC.out.1], hC, hl, Nat.le_trans (by have := GB.out; have := M.out.but.size; omega) hg, fun i u m hi hm => owns_base (hO i u m hi hm) (by have := GB.out; have := M.out.but.size; omega)⟩ (N0.put 1 _).2 N0.r5)
  clear z1 z2 N0 hQ a0 M FT
  clear hC hl hg hO PC
  generalize (w5.setCell ⟨b5, 1, none⟩ (.slice (some ⟨gc, 0, none⟩) nc nc)) = W2 at M2 FT2 FP2 ⊢
  have M := M2
  clear M2
  have FT := FT2
  clear FT2
  have FP := FP2
  clear FP2
  have a0 : W2.cell? ⟨b3, 1, none⟩ = some (.slice sa ns ns) := M.out.c3.cell 1
  go_upto_region 5 with (go_at_call 100; refine Calls.mono (PS.out W2 _ _ M.out.rd M.out.us) ?_; rintro e w5 hQ; (obtain ⟨v8, rfl, hQ⟩ := hQ); (obtain ⟨gs, uss, e8, hC, hl, hg, hO⟩ := PcQ.ex hQ); (subst e8); (have N0 := M.out.read (PcQ.but hQ) (PcQ.rd hQ)); (rw [HCC.out.2]); (have z1 : w5.cell? ⟨b5, 2, none⟩ = some (.slice none 0 0) := N0.c5.cell 2); (have z2 := N0.c5.frozen 2))
  have M2 : Hid (BdM rb b3 b4 b5 w (w5.setCell ⟨b5, 2, none⟩ (.slice (some ⟨gs, 0, none⟩) ns ns)) (.slice ba nb bc) b (k3) (.slice ca nc nc) (.slice sa ns ns) cs ss d [.slice (some ⟨gt, 0, none⟩) nt nt, .slice (some ⟨gc, 0, none⟩) nc nc, .slice (some ⟨gs, 0, none⟩) ns ns, .slice none 0 0, .int .i64 (d : Int)]) := (N0.put 2 _).1
  have FT2 : Hid (TW b3 (w5.setCell ⟨b5, 2, none⟩ (.slice (some ⟨gs, 0, none⟩) ns ns)) (.slice (some ⟨gt, 0, none⟩) nt nt) ts) := ((FT.out.alien (PcQ.but hQ) M.out.ra).alien (N0.put 2 _).2 N0.r5)
  have FP2 : Hid (PW b3 (w5.setCell ⟨b5, 2, none⟩ (.slice (some ⟨gs, 0, none⟩) ns ns)) (.slice (some ⟨gc, 0, none⟩) nc nc) C1) := ((FP.out.alien (PcQ.but hQ) M.out.ra).alien (N0.put 2 _).2 N0.r5)
  have FSu2 : Hid (PW b3 (w5.setCell ⟨b5, 2, none⟩ (.slice (some ⟨gs, 0, none⟩) ns ns)) (.slice (some ⟨gs, 0, none⟩) ns ns) C2) := (PW.alien ⟨gs, uss, by rw [HCC.out.2], hC, hl, Nat.le_trans (by have := GB.out; have := M.out.but.size; omega) hg, fun i u m hi hm => owns_base (hO i u m hi hm) (by have := GB.out; have := M.out.but.size; omega)⟩ (N0.put 2 _).2 N0.r5)
  clear z1 z2 N0 hQ a0 M FT FP
  clear hC hl hg hO PS
  generalize (w5.setCell ⟨b5, 2, none⟩ (.slice (some ⟨gs, 0, none⟩) ns ns)) = W3 at M2 FT2 FP2 FSu2 ⊢
  have M := M2
  clear M2
  have FT := FT2
  clear FT2
  have FP := FP2
  clear FP2
  have FSu := FSu2
  clear FSu2
  go_upto_region 5 with fail
  refine wp_region_held_drew (S := fun V' => CBox V' rb 81 [.slice ba nb bc, .int .i64 (k3 : Int)]) (by kernel_rfl) (M.out.rd.box.past below_drew) (fun hHeld => ?_)
  have B0 : Hid (BdM rb b3 b4 b5 w W3.drew (.slice ba nb bc) b (k3) (.slice ca nc nc) (.slice sa ns ns) cs ss d [.slice (some ⟨gt, 0, none⟩) nt nt, .slice (some ⟨gc, 0, none⟩) nc nc, .slice (some ⟨gs, 0, none⟩) ns ns, .slice none 0 0, .int .i64 (d : Int)] ∧ TW b3 W3.drew (.slice (some ⟨gt, 0, none⟩) nt nt) ts ∧ PW b3 W3.drew (.slice (some ⟨gc, 0, none⟩) nc nc) C1 ∧ PW b3 W3.drew (.slice (some ⟨gs, 0, none⟩) ns ns) C2) := ⟨⟨M.out.c3.past below_drew, M.out.c4.past below_drew, M.out.c5.past below_drew, M.out.uc.past below_drew, M.out.us.past below_drew, M.out.rd.past below_drew, M.out.but.trans (below_but below_drew), M.out.g3, M.out.g4, M.out.g5, M.out.ne, M.out.hr⟩, FT.out.past below_drew, FP.out.past below_drew, FSu.out.past below_drew⟩
  clear M FT FP FSu
  generalize W3.drew = z0 at hHeld B0 ⊢
  refine wpAnyH_take (i := 0) (v := .pointer (some ⟨rb, 0, none⟩)) ov0 (by kernel_rfl) (by kernel_rfl) (by kernel_rfl) (fun _ _ _ h => h) (Or.inl ⟨by rfl, fun V' hS => ?_⟩) hHeld ?_
  · go_simp
  simp only [Act.put, List.setIfInBounds_toArray, List.set_cons_zero, List.set_cons_succ]
  refine wpAnyH_take (i := 1) (v := .pointer (some ⟨rb, 0, none⟩)) ov1 (by kernel_rfl) (by kernel_rfl) (by kernel_rfl) (fun _ _ _ h => h) (Or.inl ⟨by rfl, fun V' hS => ?_⟩) hHeld ?_
  · go_simp
  simp only [Act.put, List.setIfInBounds_toArray, List.set_cons_zero, List.set_cons_succ]
  refine wpAnyH_take (i := 2) (v := .pointer (some ⟨rb, 0, none⟩)) ov2 (by kernel_rfl) (by kernel_rfl) (by kernel_rfl) (fun _ _ _ h => h) (Or.inl ⟨by rfl, fun V' hS => ?_⟩) hHeld ?_
  · go_simp
  simp only [Act.put, List.setIfInBounds_toArray, List.set_cons_zero, List.set_cons_succ]
  refine wpAnyH_take (i := 3) (v := .slice ba nb bc) ov3 (by kernel_rfl) (by kernel_rfl) (by kernel_rfl) (fun _ _ _ h => h) (Or.inl ⟨by rfl, fun V' hS => ?_⟩) hHeld ?_
  · have c0 : V'.cell? ⟨rb, 0, none⟩ = some (.slice ba nb bc) := hS.cell 0
    go_simp
  simp only [Act.put, List.setIfInBounds_toArray, List.set_cons_zero, List.set_cons_succ]
  refine wpAnyH_take (i := 4) (v := .pointer (some ⟨rb, 0, none⟩)) ov4 (by kernel_rfl) (by kernel_rfl) (by kernel_rfl) (fun _ _ _ h => h) (Or.inl ⟨by rfl, fun V' hS => ?_⟩) hHeld ?_
  · go_simp
  simp only [Act.put, List.setIfInBounds_toArray, List.set_cons_zero, List.set_cons_succ]
  refine wpAnyH_take (i := 5) (v := .pointer (some ⟨rb, 0, none⟩)) ov5 (by kernel_rfl) (by kernel_rfl) (by kernel_rfl) (fun _ _ _ h => h) (Or.inl ⟨by rfl, fun V' hS => ?_⟩) hHeld ?_
  · go_simp
  simp only [Act.put, List.setIfInBounds_toArray, List.set_cons_zero, List.set_cons_succ]
  refine wpAnyH_take (i := 6) (v := .pointer (some ⟨rb, 1, none⟩)) ov6 (by kernel_rfl) (by kernel_rfl) (by kernel_rfl) (fun _ _ _ h => h) (Or.inl ⟨by rfl, fun V' hS => ?_⟩) hHeld ?_
  · go_simp
  simp only [Act.put, List.setIfInBounds_toArray, List.set_cons_zero, List.set_cons_succ]
  refine wpAnyH_take (i := 7) (v := .int .i64 (k3 : Int)) ov7 (by kernel_rfl) (by kernel_rfl) (by kernel_rfl) (fun _ _ _ h => h) (Or.inl ⟨by rfl, fun V' hS => ?_⟩) hHeld ?_
  · have c0 : V'.cell? ⟨rb, 1, none⟩ = some (.int .i64 (k3 : Int)) := hS.cell 1
    go_simp
  simp only [Act.put, List.setIfInBounds_toArray, List.set_cons_zero, List.set_cons_succ]
  refine wpAnyH_take (i := 8) (v := .slice da nd cd) ov8 (by kernel_rfl) (by kernel_rfl) (by kernel_rfl) (fun _ _ _ h => h) (Or.inl ⟨by rfl, fun V' hS => ?_⟩) hHeld ?_
  · go_simp
  simp only [Act.put, List.setIfInBounds_toArray, List.set_cons_zero, List.set_cons_succ]
  refine wpAnyH_ready (rs := [9]) (by kernel_rfl) (by simp) ?_
  refine AllReadyH.cons ov9 (fun K hK => ?_) AllReadyH.nil
  rw [if_pos (by rfl)]
  go_simp
  refine (CL.out _ (B0.out.1.rd.by')).mono ?_
  rintro e z1 ⟨v3, rfl, hO, hB1⟩
  obtain ⟨a3, c3, e3⟩ := owns_sl hO
  rw [HDL.out] at e3
  subst e3
  have H1 := hHeld.past hB1
  have B1 : Hid (BdM rb b3 b4 b5 w z1 (.slice ba nb bc) b (k3) (.slice ca nc nc) (.slice sa ns ns) cs ss d [.slice (some ⟨gt, 0, none⟩) nt nt, .slice (some ⟨gc, 0, none⟩) nc nc, .slice (some ⟨gs, 0, none⟩) ns ns, .slice none 0 0, .int .i64 (d : Int)] ∧ TW b3 z1 (.slice (some ⟨gt, 0, none⟩) nt nt) ts ∧ PW b3 z1 (.slice (some ⟨gc, 0, none⟩) nc nc) C1 ∧ PW b3 z1 (.slice (some ⟨gs, 0, none⟩) ns ns) C2 ∧ z1.ownsRow b3 5 1 (.slice a3 nd c3) D.length (bV D)) := ⟨⟨B0.out.1.c3.past hB1, B0.out.1.c4.past hB1, B0.out.1.c5.past hB1, B0.out.1.uc.past hB1, B0.out.1.us.past hB1, B0.out.1.rd.past hB1, B0.out.1.but.trans (below_but hB1), B0.out.1.g3, B0.out.1.g4, B0.out.1.g5, B0.out.1.ne, B0.out.1.hr⟩, B0.out.2.1.past hB1, B0.out.2.2.1.past hB1, B0.out.2.2.2.past hB1, owns_base hO (by have := GB.out; have := B0.out.1.but.size; omega)⟩
  clear hO hB1
  (try go_wp2_with fail)
  refine hK.out _ _ H1 (fun _ => ?_)
  clear hK K
  (try simp only [Act.put, List.setIfInBounds_toArray, List.set_cons_zero, List.set_cons_succ])
  refine wpAnyH_take (i := 10) (v := .pointer (some ⟨b5, 3, none⟩)) ov10 (by kernel_rfl) (by kernel_rfl) (by kernel_rfl) (fun _ _ _ h => h) (Or.inl ⟨by rfl, fun V' hS => ?_⟩) H1 ?_
  · go_simp
  simp only [Act.put, List.setIfInBounds_toArray, List.set_cons_zero, List.set_cons_succ]
  refine wpAnyH_ready (rs := [11]) (by kernel_rfl) (by simp) ?_
  refine AllReadyH.cons ov11 (fun K hK => ?_) AllReadyH.nil
  rw [if_pos (by rfl)]
  have k0 : z1.cell? ⟨b5, 3, none⟩ = some (.slice none 0 0) := B1.out.1.c5.cell 3
  have f0 := B1.out.1.c5.frozen 3
  go_simp
  have HS := B1.out.1.put 3 (.slice a3 nd c3)
  have B2 : Hid (BdM rb b3 b4 b5 w (z1.setCell ⟨b5, 3, none⟩ (.slice a3 nd c3)) (.slice ba nb bc) b (k3) (.slice ca nc nc) (.slice sa ns ns) cs ss d [.slice (some ⟨gt, 0, none⟩) nt nt, .slice (some ⟨gc, 0, none⟩) nc nc, .slice (some ⟨gs, 0, none⟩) ns ns, .slice a3 nd c3, .int .i64 (d : Int)] ∧ TW b3 (z1.setCell ⟨b5, 3, none⟩ (.slice a3 nd c3)) (.slice (some ⟨gt, 0, none⟩) nt nt) ts ∧ PW b3 (z1.setCell ⟨b5, 3, none⟩ (.slice a3 nd c3)) (.slice (some ⟨gc, 0, none⟩) nc nc) C1 ∧ PW b3 (z1.setCell ⟨b5, 3, none⟩ (.slice a3 nd c3)) (.slice (some ⟨gs, 0, none⟩) ns ns) C2 ∧ (z1.setCell ⟨b5, 3, none⟩ (.slice a3 nd c3)).ownsRow b3 5 1 (.slice a3 nd c3) D.length (bV D)) := ⟨HS.1, B1.out.2.1.alien HS.2 B1.out.1.r5, B1.out.2.2.1.alien HS.2 B1.out.1.r5, B1.out.2.2.2.1.alien HS.2 B1.out.1.r5, row_alien B1.out.2.2.2.2 HS.2 B1.out.1.r5⟩
  refine hK.out _ (z1.setCell ⟨b5, 3, none⟩ (.slice a3 nd c3)) (HS.1.rd.box) (fun _ => ?_)
  clear hK K
  (try simp only [Act.put, List.setIfInBounds_toArray, List.set_cons_zero, List.set_cons_succ])
  clear k0 f0 HS B1
  generalize (z1.setCell ⟨b5, 3, none⟩ (.slice a3 nd c3)) = z2 at B2 ⊢
  refine wpAnyH_done (by kernel_rfl) ?_ _
  clear hHeld B0
  have a0 : z2.cell? ⟨b5, 0, none⟩ = some (.slice (some ⟨gt, 0, none⟩) nt nt) := B2.out.1.c5.cell 0
  have a1 : z2.cell? ⟨b5, 1, none⟩ = some (.slice (some ⟨gc, 0, none⟩) nc nc) := B2.out.1.c5.cell 1
  have a2 : z2.cell? ⟨b5, 2, none⟩ = some (.slice (some ⟨gs, 0, none⟩) ns ns) := B2.out.1.c5.cell 2
  have a3_ : z2.cell? ⟨b5, 3, none⟩ = some (.slice a3 nd c3) := B2.out.1.c5.cell 3
  have a4 : z2.cell? ⟨b5, 4, none⟩ = some (.int .i64 (d : Int)) := B2.out.1.c5.cell 4
  have k0 : z2.cell? ⟨b4, 0, none⟩ = some (.slice none 0 0) := B2.out.1.c4.cell 0
  have f0 := B2.out.1.c4.frozen 0
  have k1 : z2.cell? ⟨b4, 1, none⟩ = some (.slice none 0 0) := B2.out.1.c4.cell 1
  have f1 := B2.out.1.c4.frozen 1
  have k2 : z2.cell? ⟨b4, 2, none⟩ = some (.slice none 0 0) := B2.out.1.c4.cell 2
  have f2 := B2.out.1.c4.frozen 2
  have k3_ : z2.cell? ⟨b4, 3, none⟩ = some (.slice none 0 0) := B2.out.1.c4.cell 3
  have f3 := B2.out.1.c4.frozen 3
  have k4 : z2.cell? ⟨b4, 4, none⟩ = some (.int .i64 0) := B2.out.1.c4.cell 4
  have f4 := B2.out.1.c4.frozen 4
  have HF : Hid (CBox (((((z2.setCell ⟨b4, 0, none⟩ (.slice (some ⟨gt, 0, none⟩) nt nt)).setCell ⟨b4, 1, none⟩ (.slice (some ⟨gc, 0, none⟩) nc nc)).setCell ⟨b4, 2, none⟩ (.slice (some ⟨gs, 0, none⟩) ns ns)).setCell ⟨b4, 3, none⟩ (.slice a3 nd c3)).setCell ⟨b4, 4, none⟩ (.int .i64 (d : Int))) b4 28 [.slice (some ⟨gt, 0, none⟩) nt nt, .slice (some ⟨gc, 0, none⟩) nc nc, .slice (some ⟨gs, 0, none⟩) ns ns, .slice a3 nd c3, .int .i64 (d : Int)] ∧ CO b3 (((((z2.setCell ⟨b4, 0, none⟩ (.slice (some ⟨gt, 0, none⟩) nt nt)).setCell ⟨b4, 1, none⟩ (.slice (some ⟨gc, 0, none⟩) nc nc)).setCell ⟨b4, 2, none⟩ (.slice (some ⟨gs, 0, none⟩) ns ns)).setCell ⟨b4, 3, none⟩ (.slice a3 nd c3)).setCell ⟨b4, 4, none⟩ (.int .i64 (d : Int))) (.agg #[.slice (some ⟨gt, 0, none⟩) nt nt, .slice (some ⟨gc, 0, none⟩) nc nc, .slice (some ⟨gs, 0, none⟩) ns ns, .slice a3 nd c3, .int .i64 (d : Int)]) ⟨ts, C1, C2, D, (d : Int)⟩ ∧ RB rb w (((((z2.setCell ⟨b4, 0, none⟩ (.slice (some ⟨gt, 0, none⟩) nt nt)).setCell ⟨b4, 1, none⟩ (.slice (some ⟨gc, 0, none⟩) nc nc)).setCell ⟨b4, 2, none⟩ (.slice (some ⟨gs, 0, none⟩) ns ns)).setCell ⟨b4, 3, none⟩ (.slice a3 nd c3)).setCell ⟨b4, 4, none⟩ (.int .i64 (d : Int)))) := by
    have hs : But (fun y => y = b4) z2 (((((z2.setCell ⟨b4, 0, none⟩ (.slice (some ⟨gt, 0, none⟩) nt nt)).setCell ⟨b4, 1, none⟩ (.slice (some ⟨gc, 0, none⟩) nc nc)).setCell ⟨b4, 2, none⟩ (.slice (some ⟨gs, 0, none⟩) ns ns)).setCell ⟨b4, 3, none⟩ (.slice a3 nd c3)).setCell ⟨b4, 4, none⟩ (.int .i64 (d : Int))) := ((((((But.refl (fun y => y = b4) z2).setCell ⟨b4, 0, none⟩ _ (Or.inl rfl)).setCell ⟨b4, 1, none⟩ _ (Or.inl rfl)).setCell ⟨b4, 2, none⟩ _ (Or.inl rfl)).setCell ⟨b4, 3, none⟩ _ (Or.inl rfl)).setCell ⟨b4, 4, none⟩ _ (Or.inl rfl))
    have ra : Alien z2 b4 := ⟨_, _, B2.out.1.c4, by decide, by decide, by decide⟩
    exact ⟨(((((B2.out.1.c4.set 0 _).set 1 _).set 2 _).set 3 _).set 4 _), ⟨_, _, _, _, rfl, B2.out.2.1.alien hs ra, B2.out.2.2.1.alien hs ra, B2.out.2.2.2.1.alien hs ra, row_alien B2.out.2.2.2.2 hs ra⟩, (((((B2.out.1.but.setCell ⟨b4, 0, none⟩ _ (Or.inr B2.out.1.g4)).setCell ⟨b4, 1, none⟩ _ (Or.inr B2.out.1.g4)).setCell ⟨b4, 2, none⟩ _ (Or.inr B2.out.1.g4)).setCell ⟨b4, 3, none⟩ _ (Or.inr B2.out.1.g4)).setCell ⟨b4, 4, none⟩ _ (Or.inr B2.out.1.g4))⟩
  clear B2
  go_wp2
  clear a0 a1 a2 a3_ a4 k0 k1 k2 k3_ k4 f0 f1 f2 f3 f4
  generalize (((((z2.setCell ⟨b4, 0, none⟩ (.slice (some ⟨gt, 0, none⟩) nt nt)).setCell ⟨b4, 1, none⟩ (.slice (some ⟨gc, 0, none⟩) nc nc)).setCell ⟨b4, 2, none⟩ (.slice (some ⟨gs, 0, none⟩) ns ns)).setCell ⟨b4, 3, none⟩ (.slice a3 nd c3)).setCell ⟨b4, 4, none⟩ (.int .i64 (d : Int))) = Z9 at HF ⊢
  refine bodyPost_ret (v := .agg #[.slice (some ⟨gt, 0, none⟩) nt nt, .slice (some ⟨gc, 0, none⟩) nc nc, .slice (some ⟨gs, 0, none⟩) ns ns, .slice a3 nd c3, .int .i64 (d : Int)]) (results_c (p := 4) (ty := 28) Try.results67 _ _ _ ⟨b4, 0, none⟩ rfl (run_loadVar_mid Z9 b4 0 28 [.slice (some ⟨gt, 0, none⟩) nt nt, .slice (some ⟨gc, 0, none⟩) nc nc, .slice (some ⟨gs, 0, none⟩) ns ns, .slice a3 nd c3, .int .i64 (d : Int)] _ HF.out.1.range Try.underlying28 rfl (by kernel_rfl))) rfl ?_
  rw [HE.out]
  exact ⟨⟨_, rfl, by rw [GB.out]; exact HF.out.2.1⟩, HF.out.2.2⟩
end Go.Proofs.Ytndhabhlajldeaa
