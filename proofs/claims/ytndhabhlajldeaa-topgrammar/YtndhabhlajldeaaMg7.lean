/- Package container: body: what is read behind a header. -/
import Derived.Test.YtndhabhlajldeaaMg6
import Derived.Test.YtndhabhlajldeaaMg3
import Derived.Test.YtndhabhlajldeaaMg4
import Derived.Laws.CopyOwn
import Derived.Laws.IdiomCopy
import Derived.Laws.CopyRow
namespace Go.Proofs.Ytndhabhlajldeaa
open Go.RowKit
/-- a block of some other type than those of a container's lists -/
def Alien (W : World) (q : Nat) : Prop := ∃ t l, CBox W q t l ∧ t ≠ 77 ∧ t ≠ 22 ∧ t ≠ 5
theorem box_type {W : World} {g q : Nat} {t u : TypeId} {l m : List Value} (h : CBox W g t l) (k : CBox W q u m) (ht : t ≠ u) : g ≠ q := by
  rintro rfl
  have h1 : W.heap[g]? = _ := h
  have h2 : W.heap[g]? = _ := k
  rw [h1] at h2
  injection h2 with h2
  injection h2 with _ h2 _
  exact ht h2
/-- types in a block of just their size -/
def TW (B : Nat) (W : World) (v : Value) (l : List Ty) : Prop := ∃ g, v = .slice (some ⟨g, 0, none⟩) l.length l.length ∧ CBox W g 77 (tV l) ∧ B ≤ g
/-- pieces, each in a block of its own -/
def PW (B : Nat) (W : World) (v : Value) (ll : List (List Nat)) : Prop := ∃ g us, v = .slice (some ⟨g, 0, none⟩) ll.length ll.length ∧ CBox W g 22 us ∧ us.length = ll.length ∧ B ≤ g ∧ Own1 B W us ll
theorem TW.alien {B q : Nat} {W W' : World} {v : Value} {l : List Ty} (h : TW B W v l) (k : But (fun y => y = q) W W') (a : Alien W q) : TW B W' v l := by
  obtain ⟨g, e, h1, h2⟩ := h
  obtain ⟨t, m, c, n1, _, _⟩ := a
  exact ⟨g, e, h1.but k (box_type h1 c (Ne.symm n1)), h2⟩
theorem PW.alien {B q : Nat} {W W' : World} {v : Value} {l : List (List Nat)} (h : PW B W v l) (k : But (fun y => y = q) W W') (a : Alien W q) : PW B W' v l := by
  obtain ⟨g, us, e, h1, hl, h2, h3⟩ := h
  obtain ⟨t, m, c, _, n2, n3⟩ := a
  exact ⟨g, us, e, h1.but k (box_type h1 c (Ne.symm n2)), hl, h2, h3.butT k c n3⟩
theorem TW.past {B : Nat} {W W' : World} {v : Value} {l : List Ty} (h : TW B W v l) (k : Below W.heap.size W W') : TW B W' v l := by
  obtain ⟨g, e, h1, h2⟩ := h
  exact ⟨g, e, h1.past k, h2⟩
theorem PW.past {B : Nat} {W W' : World} {v : Value} {l : List (List Nat)} (h : PW B W v l) (k : Below W.heap.size W W') : PW B W' v l := by
  obtain ⟨g, us, e, h1, hl, h2, h3⟩ := h
  exact ⟨g, us, e, h1.past k, hl, h2, h3.but (below_but (S := fun _ => False) k) (fun _ _ => id)⟩
theorem TW.mono {B B' : Nat} {W : World} {v : Value} {l : List Ty} (h : TW B W v l) (k : B' ≤ B) : TW B' W v l := by
  obtain ⟨g, e, h1, h2⟩ := h
  exact ⟨g, e, h1, Nat.le_trans k h2⟩
theorem PW.mono {B B' : Nat} {W : World} {v : Value} {l : List (List Nat)} (h : PW B W v l) (k : B' ≤ B) : PW B' W v l := by
  obtain ⟨g, us, e, h1, hl, h2, h3⟩ := h
  exact ⟨g, us, e, h1, hl, Nat.le_trans k h2, fun i u m hi hm => owns_base (h3 i u m hi hm) k⟩
theorem TW.tl {B : Nat} {W : World} {v : Value} {l : List Ty} (h : TW B W v l) (hl : l.length ≤ 1152921504606846976) : TL (fun g => B ≤ g) W v l := by
  obtain ⟨g, rfl, h1, h2⟩ := h
  exact SL.box h1 (tV_len l) hl h2
theorem PW.pl {B : Nat} {W : World} {v : Value} {ll : List (List Nat)} (h : PW B W v ll) (hl : ll.length ≤ 1152921504606846976) (hx : ∀ x ∈ ll, x.length ≤ 1152921504606846976) : PL (fun g => B ≤ g) W v ll := by
  obtain ⟨g, us, rfl, h1, hn, h2, h3⟩ := h
  refine ⟨us, SL.box h1 (by omega) hl h2, fun i l hi => ?_⟩
  have hlt : i < us.length := by rw [hn]; exact (List.getElem?_eq_some_iff.1 hi).1
  refine ⟨us[i], List.getElem?_eq_getElem hlt, ?_⟩
  have h4 := h3 i us[i] l (List.getElem?_eq_getElem hlt) hi
  exact SL.own h4 (hx l (List.mem_of_getElem? hi)) fun y hy => (h4.lt y hy).1
theorem row_alien {B q n : Nat} {W W' : World} {v : Value} {cs : List Value} (h : W.ownsRow B 5 1 v n cs) (k : But (fun y => y = q) W W') (a : Alien W q) : W'.ownsRow B 5 1 v n cs := owns_row_blockB h fun g hg => k.block g (h.lt g hg).2 fun e => by
  obtain ⟨t, m, c, _, _, n3⟩ := a
  subst e
  rcases h.2 with ⟨rfl, _⟩ | ⟨g', c', cur, rfl, _, hh, _⟩
  · cases hg
  · injection hg with hg
    subst hg
    rw [show W.heap[g']? = _ from c] at hh
    cases hh
    exact n3 rfl
/-- a container in memory of its own -/
def CO (B : Nat) (W : World) (v : Value) (c : Con) : Prop := ∃ tv cv sv dv, v = .agg #[tv, cv, sv, dv, .int .i64 c.n] ∧ TW B W tv c.ts ∧ PW B W cv c.cs ∧ PW B W sv c.ss ∧ W.ownsRow B 5 1 dv c.d.length (bV c.d)
theorem CO.past {B : Nat} {W W' : World} {v : Value} {c : Con} (h : CO B W v c) (k : Below W.heap.size W W') : CO B W' v c := by
  obtain ⟨tv, cv, sv, dv, e, h1, h2, h3, h4⟩ := h
  exact ⟨tv, cv, sv, dv, e, h1.past k, h2.past k, h3.past k, owns_past h4 k⟩
theorem CO.mono {B B' : Nat} {W : World} {v : Value} {c : Con} (h : CO B W v c) (k : B' ≤ B) : CO B' W v c := by
  obtain ⟨tv, cv, sv, dv, e, h1, h2, h3, h4⟩ := h
  exact ⟨tv, cv, sv, dv, e, h1.mono k, h2.mono k, h3.mono k, owns_base h4 k⟩
def con0L : List Value := [.slice none 0 0, .slice none 0 0, .slice none 0 0, .slice none 0 0, .int .i64 0]
/-- in the midst of a body -/
structure BdM (rb b3 b4 b5 : Nat) (w W : World) (bs : Value) (b : List Nat) (k : Nat) (hv sv : Value) (cs ss : List Nat) (d : Nat) (l5 : List Value) : Prop where
  c3 : CBox W b3 84 [hv, sv, .int .u64 (d : Int)]
  c4 : CBox W b4 28 con0L
  c5 : CBox W b5 28 l5
  uc : UL W hv cs
  us : UL W sv ss
  rd : Rdr W rb bs b k
  but : RB rb w W
  g3 : w.heap.size ≤ b3
  g4 : w.heap.size ≤ b4
  g5 : w.heap.size ≤ b5
  ne : b4 ≠ b5
  hr : rb < w.heap.size
theorem BdM.start (rb : Nat) (w : World) (bs : Value) (b : List Nat) (k : Nat) (hv sv : Value) (cs ss : List Nat) (d : Nat) (h : Rdr w rb bs b k) (hc : UL w hv cs) (hs : UL w sv ss) (W1 : World) (W2 : World) (W3 : World) (l5 : List Value)
    (e1 : W1 = w.alloc (.cells #[hv, sv, .int .u64 (d : Int)] 84)) (e2 : W2 = W1.alloc (.cells con0L.toArray 28)) (e3 : W3 = W2.alloc (.cells l5.toArray 28)) :
    BdM rb w.heap.size (w.heap.size + 1) (w.heap.size + 1 + 1) w W3 bs b k hv sv cs ss d l5 := by
  have b1 := below_alloc w (.cells #[hv, sv, .int .u64 (d : Int)] 84)
  have s1 : W1.heap.size = w.heap.size + 1 := by rw [e1]; simp
  have b2 := below_alloc W1 (.cells con0L.toArray 28)
  have s2 : W2.heap.size = w.heap.size + 1 + 1 := by rw [e2]; simp [s1]
  have b3 := below_alloc W2 (.cells l5.toArray 28)
  rw [← e1] at b1
  rw [← e2] at b2
  rw [← e3] at b3
  have c3 : CBox W1 w.heap.size 84 [hv, sv, .int .u64 (d : Int)] := by rw [e1]; exact CBox.new w _ [_, _, _]
  have c4 : CBox W2 W1.heap.size 28 con0L := by rw [e2]; exact CBox.new W1 _ _
  have c5 : CBox W3 W2.heap.size 28 l5 := by rw [e3]; exact CBox.new W2 _ _
  rw [s1] at c4
  rw [s2] at c5
  have hlt := h.box.lt
  exact ⟨(c3.past b2).past b3, c4.past b3, c5, ((hc.past b1).past b2).past b3, ((hs.past b1).past b2).past b3, ((h.past b1).past b2).past b3, ((below_but b1).trans (below_but b2)).trans (below_but b3), by omega, by omega, by omega, by omega, hlt⟩
section
variable {rb b3 b4 b5 k k' d : Nat} {w W W' : World} {bs hv sv : Value} {b cs ss : List Nat} {l5 : List Value}
theorem BdM.read (h : BdM rb b3 b4 b5 w W bs b k hv sv cs ss d l5) (q : RB rb W W') (r : Rdr W' rb bs b k') : BdM rb b3 b4 b5 w W' bs b k' hv sv cs ss d l5 :=
  ⟨h.c3.but q (by have := h.g3; have := h.hr; omega), h.c4.but q (by have := h.g4; have := h.hr; omega), h.c5.but q (by have := h.g5; have := h.hr; omega), h.uc.but2 q h.rd.box (by decide), h.us.but2 q h.rd.box (by decide), r, h.but.trans q, h.g3, h.g4, h.g5, h.ne, h.hr⟩
theorem BdM.ra (h : BdM rb b3 b4 b5 w W bs b k hv sv cs ss d l5) : Alien W rb := ⟨_, _, h.rd.box, by decide, by decide, by decide⟩
theorem BdM.r5 (h : BdM rb b3 b4 b5 w W bs b k hv sv cs ss d l5) : Alien W b5 := ⟨_, _, h.c5, by decide, by decide, by decide⟩
theorem BdM.put (h : BdM rb b3 b4 b5 w W bs b k hv sv cs ss d l5) (j : Nat) (v : Value) : BdM rb b3 b4 b5 w (W.setCell ⟨b5, j, none⟩ v) bs b k hv sv cs ss d (l5.set j v) ∧ But (fun y => y = b5) W (W.setCell ⟨b5, j, none⟩ v) := by
  have hs : But (fun y => y = b5) W (W.setCell ⟨b5, j, none⟩ v) := (But.refl (fun y => y = b5) W).setCell ⟨b5, j, none⟩ _ (Or.inl rfl)
  exact ⟨⟨h.c3.but hs (box_type h.c3 h.c5 (by decide)), h.c4.but hs h.ne, h.c5.set j v, h.uc.but2 hs h.c5 (by decide), h.us.but2 hs h.c5 (by decide), h.rd.keep hs (fun y hy e => by have := h.g5; have := h.hr; omega), h.but.setCell ⟨b5, j, none⟩ _ (Or.inr h.g5), h.g3, h.g4, h.g5, h.ne, h.hr⟩, hs⟩
end
/-- what a body is -/
def bdy (b : List Nat) (k : Nat) (cs ss : List Nat) (d : Nat) : Except Er Con := (tys b k 0 cs.length).bind fun ts => .ok ⟨ts, cuts b (k + 4 * cs.length) cs, cuts b (k + 4 * cs.length + sumL cs) ss, b.drop (k + 4 * cs.length + sumL cs + sumL ss), (d : Int)⟩
set_option maxHeartbeats 4000000 in
set_option maxRecDepth 100000 in
theorem body_is (w : World) (rb : Nat) (bs : Value) (b : List Nat) (k : Nat) (cv sv : Value) (cs ss : List Nat) (d : Nat) (h : Rdr w rb bs b k) (hc : UL w cv cs) (hs : UL w sv ss) (hk : k + 4 * cs.length + sumL cs + sumL ss ≤ b.length) (h1 : cs.length ≤ 1024) (h2 : ss.length ≤ 256) (hd : d ≤ 65535) :
    Calls Try.prog 67 #[.pointer (some ⟨rb, 0, none⟩), .agg #[cv, sv, .int .u64 (d : Int)]] w fun e w' => Out rb w (bdy b k cs ss d) (fun c e w' => (∃ v, e = .returned v ∧ CO w.heap.size w' v c) ∧ RB rb w w') e w' := by
  obtain ⟨ca, rfl⟩ := hc.len
  obtain ⟨sa, rfl⟩ := hs.len
  have wd : IntKind.i64.wrap (d : Int) = (d : Int) := by rw [IntKind.wrap_i64]; omega
  obtain ⟨ba, bc, rfl, hbc, _⟩ := h.by'.len
  have HNE : Hid (w.heap.size ≤ w.heap.size) := Nat.le_refl _
  have M : Hid (BdM rb w.heap.size (w.heap.size + 1) (w.heap.size + 1 + 1) w (((w.alloc (.cells #[.slice ca cs.length cs.length, .slice sa ss.length ss.length, .int .u64 (d : Int)] 84)).alloc (.cells #[.slice none 0 0, .slice none 0 0, .slice none 0 0, .slice none 0 0, .int .i64 0] 28)).alloc (.cells #[.slice none 0 0, .slice none 0 0, .slice none 0 0, .slice none 0 0, .int .i64 (d : Int)] 28)) (.slice ba b.length bc) b k (.slice ca cs.length cs.length) (.slice sa ss.length ss.length) cs ss d [.slice none 0 0, .slice none 0 0, .slice none 0 0, .slice none 0 0, .int .i64 (d : Int)]) := BdM.start rb w _ b k _ _ cs ss d h hc hs _ _ _ _ rfl rfl rfl
  obtain ⟨LL, hLL⟩ : ∃ LL, LL = bdy b k cs ss d := ⟨_, rfl⟩
  rw [← hLL]
  have HE : Hid (LL = (tys b k 0 cs.length).bind fun ts => .ok ⟨ts, cuts b (k + 4 * cs.length) cs, cuts b (k + 4 * cs.length + sumL cs) ss, b.drop (k + 4 * cs.length + sumL cs + sumL ss), (d : Int)⟩) := hLL
  have HBL := h.len
  have HCC : Hid ((cuts b (k + 4 * cs.length) cs).length = cs.length ∧ (cuts b (k + 4 * cs.length + sumL cs) ss).length = ss.length) := ⟨cuts_len .., cuts_len ..⟩
  obtain ⟨k1, hk1⟩ : ∃ k1, k1 = k + 4 * cs.length := ⟨_, rfl⟩
  obtain ⟨k2, hk2⟩ : ∃ k2, k2 = k1 + sumL cs := ⟨_, rfl⟩
  obtain ⟨k3, hk3⟩ : ∃ k3, k3 = k2 + sumL ss := ⟨_, rfl⟩
  have PT : Hid (∀ W bs, Rdr W rb bs b k → Calls Try.prog 99 #[.pointer (some ⟨rb, 0, none⟩), .int .i64 (cs.length : Int)] W fun e w' => Out rb W (tys b k 0 cs.length) (fun l e w' => TyQ rb W w' bs b k1 e l) e w') := fun W bs hW => by rw [hk1]; exact types_is W rb bs b k cs.length hW (by omega) (by omega)
  have PC : Hid (∀ W bs lv, Rdr W rb bs b k1 → UL W lv cs → Calls Try.prog 100 #[.pointer (some ⟨rb, 0, none⟩), lv] W fun e w' => ∃ v, e = .returned v ∧ PcQ rb W w' bs b k2 v (cuts b k1 cs)) := fun W bs lv hW hu => by rw [hk2]; exact pieces_is W rb bs b k1 lv cs hW hu (by omega) (by omega)
  have PS : Hid (∀ W bs lv, Rdr W rb bs b k2 → UL W lv ss → Calls Try.prog 100 #[.pointer (some ⟨rb, 0, none⟩), lv] W fun e w' => ∃ v, e = .returned v ∧ PcQ rb W w' bs b k3 v (cuts b k2 ss)) := fun W bs lv hW hu => by rw [hk3]; exact pieces_is W rb bs b k2 lv ss hW hu (by omega) (by omega)
  have hk33 : k3 ≤ b.length := by omega
  have CL : Hid (∀ (W : World), BL (fun g => g < rb) W (.slice ba b.length bc) b → Calls Try.prog 88 #[.slice (if bc = k3 then ba else ba.map (·.add k3)) (b.length - k3) (bc - k3)] W fun e w' => ∃ v', e = .returned v' ∧ w'.ownsRow W.heap.size 5 1 v' (b.drop k3).length (bV (b.drop k3)) ∧ Below W.heap.size W w') := fun W hW => by
    have e9 := hW.mid k3 b.length hk33 (Nat.le_refl _)
    rw [List.take_of_length_le (by rw [List.length_drop]; exact Nat.le_refl _)] at e9
    exact clone_is W _ (b.drop k3) e9 (by rw [List.length_drop]; omega)
  have hsl : ∀ W : World, Sem.run Try.prog (Instr.slice 22 (.slice ba b.length bc) (some (.int .i64 (k3 : Int))) none none) W = .ok (.slice (if bc = k3 then ba else ba.map (·.add k3)) (b.length - k3) (bc - k3)) W := fun W => slice_i ba b.length bc k3 hk33 W
  have HDL : Hid ((b.drop k3).length = b.length - k3) := by unfold Hid; rw [List.length_drop]
  rw [← hk1, ← hk2, ← hk3] at HE
  rw [← hk1, ← hk2] at HCC
  generalize (if bc = k3 then ba else ba.map (·.add k3)) = da at *
  generalize hnb3 : b.length - k3 = nd at *
  generalize bc - k3 = cd at *
  generalize b.drop k3 = D at *
  generalize cuts b k1 cs = C1 at *
  generalize cuts b k2 ss = C2 at *
  generalize b.length = nb at *
  clear h hc hs hk h1 h2 hd hLL hk1 hk2 hk3 hk33 hbc hnb3
  generalize cs.length = nc at *
  generalize ss.length = ns at *
  have mI : (nb : Int) ≤ 16777216 := by omega
  go_enter Try.func67, Try.ntmps67
  go_upto_region 2 with fail
  generalize hb5 : w.heap.size + 1 + 1 = b5 at M ⊢
  generalize w.heap.size + 1 = b4 at M ⊢
  generalize hb3 : w.heap.size = b3 at M ⊢
  generalize ((w.alloc _).alloc _).alloc _ = W0 at M ⊢
  clear hb5 HBL
  have GB : Hid (w.heap.size = b3) := hb3
  clear hb3 HNE
  have a0 : W0.cell? ⟨b3, 0, none⟩ = some (.slice ca nc nc) := M.out.c3.cell 0
  have FC0 := PT.out W0 _ M.out.rd
  have FC : Hid _ := FC0
  clear FC0 PT
  generalize tys b k 0 nc = FF at *
  cases FF with
  | error er =>
    obtain ⟨ec, ea⟩ := er
    have E0 : Hid (LL = .error (ec, ea)) := HE.out
    go_wp2_with (go_at_call 99; refine Calls.mono FC.out ?_; rintro e w' ⟨rfl, hB⟩; unfold thrown rejV)
    refine ⟨rfl, ?_⟩
    rw [E0.out]
    exact ⟨rfl, M.out.but.trans hB⟩
  | ok ts =>
  have HE : Hid (LL = .ok ⟨ts, C1, C2, D, (d : Int)⟩) := HE.out
  go_upto_region 3 with (go_at_call 99; refine Calls.mono FC.out ?_; rintro e w5 hQ; (obtain ⟨gt, rfl, hC, hg⟩ := TyQ.ex hQ); (have N0 := M.out.read (TyQ.but hQ) (TyQ.rd hQ)); (have z1 : w5.cell? ⟨b5, 0, none⟩ = some (.slice none 0 0) := N0.c5.cell 0); (have z2 := N0.c5.frozen 0))
  have M2 : Hid (BdM rb b3 b4 b5 w (w5.setCell ⟨b5, 0, none⟩ (.slice (some ⟨gt, 0, none⟩) ts.length ts.length)) (.slice ba nb bc) b (k1) (.slice ca nc nc) (.slice sa ns ns) cs ss d [.slice (some ⟨gt, 0, none⟩) ts.length ts.length, .slice none 0 0, .slice none 0 0, .slice none 0 0, .int .i64 (d : Int)]) := (N0.put 0 _).1
  have FT2 : Hid (TW b3 (w5.setCell ⟨b5, 0, none⟩ (.slice (some ⟨gt, 0, none⟩) ts.length ts.length)) (.slice (some ⟨gt, 0, none⟩) ts.length ts.length) ts) := TW.alien ⟨gt, rfl, hC, Nat.le_trans (by have := GB.out; have := M.out.but.size; omega) hg⟩ (N0.put 0 _).2 N0.r5
  clear z1 z2 N0 hQ a0 M 
  clear hC hg FC
  generalize (w5.setCell ⟨b5, 0, none⟩ (.slice (some ⟨gt, 0, none⟩) ts.length ts.length)) = W1 at M2 FT2 ⊢
  have M := M2
  clear M2
  have FT := FT2
  clear FT2
  have HTL : Hid (ts.length = ts.length) := rfl
  generalize hnt : ts.length = nt at *
  have HNT : Hid (ts.length = nt) := hnt
  clear hnt HTL
  have a0 : W1.cell? ⟨b3, 0, none⟩ = some (.slice ca nc nc) := M.out.c3.cell 0
  go_upto_region 4 with (go_at_call 100; refine Calls.mono (PC.out W1 _ _ M.out.rd M.out.uc) ?_; rintro e w5 hQ; (obtain ⟨v8, rfl, hQ⟩ := hQ); (obtain ⟨gc, usc, e8, hC, hl, hg, hO⟩ := PcQ.ex hQ); (subst e8); (have N0 := M.out.read (PcQ.but hQ) (PcQ.rd hQ)); (rw [HCC.out.1]); (have z1 : w5.cell? ⟨b5, 1, none⟩ = some (.slice none 0 0) := N0.c5.cell 1); (have z2 := N0.c5.frozen 1))
  have M2 : Hid (BdM rb b3 b4 b5 w (w5.setCell ⟨b5, 1, none⟩ (.slice (some ⟨gc, 0, none⟩) nc nc)) (.slice ba nb bc) b (k2) (.slice ca nc nc) (.slice sa ns ns) cs ss d [.slice (some ⟨gt, 0, none⟩) nt nt, .slice (some ⟨gc, 0, none⟩) nc nc, .slice none 0 0, .slice none 0 0, .int .i64 (d : Int)]) := (N0.put 1 _).1
  have FT2 : Hid (TW b3 (w5.setCell ⟨b5, 1, none⟩ (.slice (some ⟨gc, 0, none⟩) nc nc)) (.slice (some ⟨gt, 0, none⟩) nt nt) ts) := ((FT.out.alien (PcQ.but hQ) M.out.ra).alien (N0.put 1 _).2 N0.r5)
  have FP2 : Hid (PW b3 (w5.setCell ⟨b5, 1, none⟩ (.slice (some ⟨gc, 0, none⟩) nc nc)) (.slice (some ⟨gc, 0, none⟩) nc nc) C1) := (PW.alien ⟨gc, usc, by rw [HCC.out.1], hC, hl, Nat.le_trans (by have := GB.out; have := M.out.but.size; omega) hg, fun i u m hi hm => owns_base (hO i u m hi hm) (by have := GB.out; have := M.out.but.size; omega)⟩ (N0.put 1 _).2 N0.r5)
  clear z1 z2 N0 hQ a0 M FT
  clear hC hl hg hO PC
  generalize (w5.setCell ⟨b5, 1, none⟩ (.slice (some ⟨gc, 0, none⟩) nc nc)) = W2 at M2 FT2 FP2 ⊢
  have M := M2
  clear M2
  have FT := FT2
  clear FT2
  have FP := FP2
  clear FP2
  have a0 : W2.cell? ⟨b3, 1, none⟩ = some (.slice sa ns ns) := M.out.c3.cell 1
  go_upto_region 5 with (go_at_call 100; refine Calls.mono (PS.out W2 _ _ M.out.rd M.out.us) ?_; rintro e w5 hQ; (obtain ⟨v8, rfl, hQ⟩ := hQ); (obtain ⟨gs, uss, e8, hC, hl, hg, hO⟩ := PcQ.ex hQ); (subst e8); (have N0 := M.out.read (PcQ.but hQ) (PcQ.rd hQ)); (rw [HCC.out.2]); (have z1 : w5.cell? ⟨b5, 2, none⟩ = some (.slice none 0 0) := N0.c5.cell 2); (have z2 := N0.c5.frozen 2))
  have M2 : Hid (BdM rb b3 b4 b5 w (w5.setCell ⟨b5, 2, none⟩ (.slice (some ⟨gs, 0, none⟩) ns ns)) (.slice ba nb bc) b (k3) (.slice ca nc nc) (.slice sa ns ns) cs ss d [.slice (some ⟨gt, 0, none⟩) nt nt, .slice (some ⟨gc, 0, none⟩) nc nc, .slice (some ⟨gs, 0, none⟩) ns ns, .slice none 0 0, .int .i64 (d : Int)]) := (N0.put 2 _).1
  have FT2 : Hid (TW b3 (w5.setCell ⟨b5, 2, none⟩ (.slice (some ⟨gs, 0, none⟩) ns ns)) (.slice (some ⟨gt, 0, none⟩) nt nt) ts) := ((FT.out.alien (PcQ.but hQ) M.out.ra).alien (N0.put 2 _).2 N0.r5)
  have FP2 : Hid (PW b3 (w5.setCell ⟨b5, 2, none⟩ (.slice (some ⟨gs, 0, none⟩) ns ns)) (.slice (some ⟨gc, 0, none⟩) nc nc) C1) := ((FP.out.alien (PcQ.but hQ) M.out.ra).alien (N0.put 2 _).2 N0.r5)
  have FSu2 : Hid (PW b3 (w5.setCell ⟨b5, 2, none⟩ (.slice (some ⟨gs, 0, none⟩) ns ns)) (.slice (some ⟨gs, 0, none⟩) ns ns) C2) := (PW.alien ⟨gs, uss, by rw [HCC.out.2], hC, hl, Nat.le_trans (by have := GB.out; have := M.out.but.size; omega) hg, fun i u m hi hm => owns_base (hO i u m hi hm) (by have := GB.out; have := M.out.but.size; omega)⟩ (N0.put 2 _).2 N0.r5)
  clear z1 z2 N0 hQ a0 M FT FP
  clear hC hl hg hO PS
  generalize (w5.setCell ⟨b5, 2, none⟩ (.slice (some ⟨gs, 0, none⟩) ns ns)) = W3 at M2 FT2 FP2 FSu2 ⊢
  have M := M2
  clear M2
  have FT := FT2
  clear FT2
  have FP := FP2
  clear FP2
  have FSu := FSu2
  clear FSu2
  go_upto_region 5 with fail
  refine wp_region_held_drew (S := fun V' => CBox V' rb 81 [.slice ba nb bc, .int .i64 (k3 : Int)]) (by kernel_rfl) (M.out.rd.box.past below_drew) (fun hHeld => ?_)
  have B0 : Hid (BdM rb b3 b4 b5 w W3.drew (.slice ba nb bc) b (k3) (.slice ca nc nc) (.slice sa ns ns) cs ss d [.slice (some ⟨gt, 0, none⟩) nt nt, .slice (some ⟨gc, 0, none⟩) nc nc, .slice (some ⟨gs, 0, none⟩) ns ns, .slice none 0 0, .int .i64 (d : Int)] ∧ TW b3 W3.drew (.slice (some ⟨gt, 0, none⟩) nt nt) ts ∧ PW b3 W3.drew (.slice (some ⟨gc, 0, none⟩) nc nc) C1 ∧ PW b3 W3.drew (.slice (some ⟨gs, 0, none⟩) ns ns) C2) := ⟨⟨M.out.c3.past below_drew, M.out.c4.past below_drew, M.out.c5.past below_drew, M.out.uc.past below_drew, M.out.us.past below_drew, M.out.rd.past below_drew, M.out.but.trans (below_but below_drew), M.out.g3, M.out.g4, M.out.g5, M.out.ne, M.out.hr⟩, FT.out.past below_drew, FP.out.past below_drew, FSu.out.past below_drew⟩
  clear M FT FP FSu
  generalize W3.drew = z0 at hHeld B0 ⊢
  refine wpAnyH_take (i := 0) (v := .pointer (some ⟨rb, 0, none⟩)) ov0 (by kernel_rfl) (by kernel_rfl) (by kernel_rfl) (fun _ _ _ h => h) (Or.inl ⟨by rfl, fun V' hS => ?_⟩) hHeld ?_
  · go_simp
  simp only [Act.put, List.setIfInBounds_toArray, List.set_cons_zero, List.set_cons_succ]
  refine wpAnyH_take (i := 1) (v := .pointer (some ⟨rb, 0, none⟩)) ov1 (by kernel_rfl) (by kernel_rfl) (by kernel_rfl) (fun _ _ _ h => h) (Or.inl ⟨by rfl, fun V' hS => ?_⟩) hHeld ?_
  · go_simp
  simp only [Act.put, List.setIfInBounds_toArray, List.set_cons_zero, List.set_cons_succ]
  refine wpAnyH_take (i := 2) (v := .pointer (some ⟨rb, 0, none⟩)) ov2 (by kernel_rfl) (by kernel_rfl) (by kernel_rfl) (fun _ _ _ h => h) (Or.inl ⟨by rfl, fun V' hS => ?_⟩) hHeld ?_
  · go_simp
  simp only [Act.put, List.setIfInBounds_toArray, List.set_cons_zero, List.set_cons_succ]
  refine wpAnyH_take (i := 3) (v := .slice ba nb bc) ov3 (by kernel_rfl) (by kernel_rfl) (by kernel_rfl) (fun _ _ _ h => h) (Or.inl ⟨by rfl, fun V' hS => ?_⟩) hHeld ?_
  · have c0 : V'.cell? ⟨rb, 0, none⟩ = some (.slice ba nb bc) := hS.cell 0
    go_simp
  simp only [Act.put, List.setIfInBounds_toArray, List.set_cons_zero, List.set_cons_succ]
  refine wpAnyH_take (i := 4) (v := .pointer (some ⟨rb, 0, none⟩)) ov4 (by kernel_rfl) (by kernel_rfl) (by kernel_rfl) (fun _ _ _ h => h) (Or.inl ⟨by rfl, fun V' hS => ?_⟩) hHeld ?_
  · go_simp
  simp only [Act.put, List.setIfInBounds_toArray, List.set_cons_zero, List.set_cons_succ]
  refine wpAnyH_take (i := 5) (v := .pointer (some ⟨rb, 0, none⟩)) ov5 (by kernel_rfl) (by kernel_rfl) (by kernel_rfl) (fun _ _ _ h => h) (Or.inl ⟨by rfl, fun V' hS => ?_⟩) hHeld ?_
  · go_simp
  simp only [Act.put, List.setIfInBounds_toArray, List.set_cons_zero, List.set_cons_succ]
  refine wpAnyH_take (i := 6) (v := .pointer (some ⟨rb, 1, none⟩)) ov6 (by kernel_rfl) (by kernel_rfl) (by kernel_rfl) (fun _ _ _ h => h) (Or.inl ⟨by rfl, fun V' hS => ?_⟩) hHeld ?_
  · go_simp
  simp only [Act.put, List.setIfInBounds_toArray, List.set_cons_zero, List.set_cons_succ]
  refine wpAnyH_take (i := 7) (v := .int .i64 (k3 : Int)) ov7 (by kernel_rfl) (by kernel_rfl) (by kernel_rfl) (fun _ _ _ h => h) (Or.inl ⟨by rfl, fun V' hS => ?_⟩) hHeld ?_
  · have c0 : V'.cell? ⟨rb, 1, none⟩ = some (.int .i64 (k3 : Int)) := hS.cell 1
    go_simp
  simp only [Act.put, List.setIfInBounds_toArray, List.set_cons_zero, List.set_cons_succ]
  refine wpAnyH_take (i := 8) (v := .slice da nd cd) ov8 (by kernel_rfl) (by kernel_rfl) (by kernel_rfl) (fun _ _ _ h => h) (Or.inl ⟨by rfl, fun V' hS => ?_⟩) hHeld ?_
  · go_simp
  simp only [Act.put, List.setIfInBounds_toArray, List.set_cons_zero, List.set_cons_succ]
  refine wpAnyH_ready (rs := [9]) (by kernel_rfl) (by simp) ?_
  refine AllReadyH.cons ov9 (fun K hK => ?_) AllReadyH.nil
  rw [if_pos (by rfl)]
  go_simp
  refine (CL.out _ (B0.out.1.rd.by')).mono ?_
  rintro e z1 ⟨v3, rfl, hO, hB1⟩
  obtain ⟨a3, c3, e3⟩ := owns_sl hO
  rw [HDL.out] at e3
  subst e3
  have H1 := hHeld.past hB1
  have B1 : Hid (BdM rb b3 b4 b5 w z1 (.slice ba nb bc) b (k3) (.slice ca nc nc) (.slice sa ns ns) cs ss d [.slice (some ⟨gt, 0, none⟩) nt nt, .slice (some ⟨gc, 0, none⟩) nc nc, .slice (some ⟨gs, 0, none⟩) ns ns, .slice none 0 0, .int .i64 (d : Int)] ∧ TW b3 z1 (.slice (some ⟨gt, 0, none⟩) nt nt) ts ∧ PW b3 z1 (.slice (some ⟨gc, 0, none⟩) nc nc) C1 ∧ PW b3 z1 (.slice (some ⟨gs, 0, none⟩) ns ns) C2 ∧ z1.ownsRow b3 5 1 (.slice a3 nd c3) D.length (bV D)) := ⟨⟨B0.out.1.c3.past hB1, B0.out.1.c4.past hB1, B0.out.1.c5.past hB1, B0.out.1.uc.past hB1, B0.out.1.us.past hB1, B0.out.1.rd.past hB1, B0.out.1.but.trans (below_but hB1), B0.out.1.g3, B0.out.1.g4, B0.out.1.g5, B0.out.1.ne, B0.out.1.hr⟩, B0.out.2.1.past hB1, B0.out.2.2.1.past hB1, B0.out.2.2.2.past hB1, owns_base hO (by have := GB.out; have := B0.out.1.but.size; omega)⟩
  clear hO hB1
  (try go_wp2_with fail)
  refine hK.out _ _ H1 (fun _ => ?_)
  clear hK K
  (try simp only [Act.put, List.setIfInBounds_toArray, List.set_cons_zero, List.set_cons_succ])
  refine wpAnyH_take (i := 10) (v := .pointer (some ⟨b5, 3, none⟩)) ov10 (by kernel_rfl) (by kernel_rfl) (by kernel_rfl) (fun _ _ _ h => h) (Or.inl ⟨by rfl, fun V' hS => ?_⟩) H1 ?_
  · go_simp
  simp only [Act.put, List.setIfInBounds_toArray, List.set_cons_zero, List.set_cons_succ]
  refine wpAnyH_ready (rs := [11]) (by kernel_rfl) (by simp) ?_
  refine AllReadyH.cons ov11 (fun K hK => ?_) AllReadyH.nil
  rw [if_pos (by rfl)]
  have k0 : z1.cell? ⟨b5, 3, none⟩ = some (.slice none 0 0) := B1.out.1.c5.cell 3
  have f0 := B1.out.1.c5.frozen 3
  go_simp
  have HS := B1.out.1.put 3 (.slice a3 nd c3)
  have B2 : Hid (BdM rb b3 b4 b5 w (z1.setCell ⟨b5, 3, none⟩ (.slice a3 nd c3)) (.slice ba nb bc) b (k3) (.slice ca nc nc) (.slice sa ns ns) cs ss d [.slice (some ⟨gt, 0, none⟩) nt nt, .slice (some ⟨gc, 0, none⟩) nc nc, .slice (some ⟨gs, 0, none⟩) ns ns, .slice a3 nd c3, .int .i64 (d : Int)] ∧ TW b3 (z1.setCell ⟨b5, 3, none⟩ (.slice a3 nd c3)) (.slice (some ⟨gt, 0, none⟩) nt nt) ts ∧ PW b3 (z1.setCell ⟨b5, 3, none⟩ (.slice a3 nd c3)) (.slice (some ⟨gc, 0, none⟩) nc nc) C1 ∧ PW b3 (z1.setCell ⟨b5, 3, none⟩ (.slice a3 nd c3)) (.slice (some ⟨gs, 0, none⟩) ns ns) C2 ∧ (z1.setCell ⟨b5, 3, none⟩ (.slice a3 nd c3)).ownsRow b3 5 1 (.slice a3 nd c3) D.length (bV D)) := ⟨HS.1, B1.out.2.1.alien HS.2 B1.out.1.r5, B1.out.2.2.1.alien HS.2 B1.out.1.r5, B1.out.2.2.2.1.alien HS.2 B1.out.1.r5, row_alien B1.out.2.2.2.2 HS.2 B1.out.1.r5⟩
  refine hK.out _ (z1.setCell ⟨b5, 3, none⟩ (.slice a3 nd c3)) (HS.1.rd.box) (fun _ => ?_)
  clear hK K
  (try simp only [Act.put, List.setIfInBounds_toArray, List.set_cons_zero, List.set_cons_succ])
  clear k0 f0 HS B1
  generalize (z1.setCell ⟨b5, 3, none⟩ (.slice a3 nd c3)) = z2 at B2 ⊢
  refine wpAnyH_done (by kernel_rfl) ?_ _
  clear hHeld B0
  have a0 : z2.cell? ⟨b5, 0, none⟩ = some (.slice (some ⟨gt, 0, none⟩) nt nt) := B2.out.1.c5.cell 0
  have a1 : z2.cell? ⟨b5, 1, none⟩ = some (.slice (some ⟨gc, 0, none⟩) nc nc) := B2.out.1.c5.cell 1
  have a2 : z2.cell? ⟨b5, 2, none⟩ = some (.slice (some ⟨gs, 0, none⟩) ns ns) := B2.out.1.c5.cell 2
  have a3_ : z2.cell? ⟨b5, 3, none⟩ = some (.slice a3 nd c3) := B2.out.1.c5.cell 3
  have a4 : z2.cell? ⟨b5, 4, none⟩ = some (.int .i64 (d : Int)) := B2.out.1.c5.cell 4
  have k0 : z2.cell? ⟨b4, 0, none⟩ = some (.slice none 0 0) := B2.out.1.c4.cell 0
  have f0 := B2.out.1.c4.frozen 0
  have k1 : z2.cell? ⟨b4, 1, none⟩ = some (.slice none 0 0) := B2.out.1.c4.cell 1
  have f1 := B2.out.1.c4.frozen 1
  have k2 : z2.cell? ⟨b4, 2, none⟩ = some (.slice none 0 0) := B2.out.1.c4.cell 2
  have f2 := B2.out.1.c4.frozen 2
  have k3_ : z2.cell? ⟨b4, 3, none⟩ = some (.slice none 0 0) := B2.out.1.c4.cell 3
  have f3 := B2.out.1.c4.frozen 3
  have k4 : z2.cell? ⟨b4, 4, none⟩ = some (.int .i64 0) := B2.out.1.c4.cell 4
  have f4 := B2.out.1.c4.frozen 4
  have HF : Hid (CBox (((((z2.setCell ⟨b4, 0, none⟩ (.slice (some ⟨gt, 0, none⟩) nt nt)).setCell ⟨b4, 1, none⟩ (.slice (some ⟨gc, 0, none⟩) nc nc)).setCell ⟨b4, 2, none⟩ (.slice (some ⟨gs, 0, none⟩) ns ns)).setCell ⟨b4, 3, none⟩ (.slice a3 nd c3)).setCell ⟨b4, 4, none⟩ (.int .i64 (d : Int))) b4 28 [.slice (some ⟨gt, 0, none⟩) nt nt, .slice (some ⟨gc, 0, none⟩) nc nc, .slice (some ⟨gs, 0, none⟩) ns ns, .slice a3 nd c3, .int .i64 (d : Int)] ∧ CO b3 (((((z2.setCell ⟨b4, 0, none⟩ (.slice (some ⟨gt, 0, none⟩) nt nt)).setCell ⟨b4, 1, none⟩ (.slice (some ⟨gc, 0, none⟩) nc nc)).setCell ⟨b4, 2, none⟩ (.slice (some ⟨gs, 0, none⟩) ns ns)).setCell ⟨b4, 3, none⟩ (.slice a3 nd c3)).setCell ⟨b4, 4, none⟩ (.int .i64 (d : Int))) (.agg #[.slice (some ⟨gt, 0, none⟩) nt nt, .slice (some ⟨gc, 0, none⟩) nc nc, .slice (some ⟨gs, 0, none⟩) ns ns, .slice a3 nd c3, .int .i64 (d : Int)]) ⟨ts, C1, C2, D, (d : Int)⟩ ∧ RB rb w (((((z2.setCell ⟨b4, 0, none⟩ (.slice (some ⟨gt, 0, none⟩) nt nt)).setCell ⟨b4, 1, none⟩ (.slice (some ⟨gc, 0, none⟩) nc nc)).setCell ⟨b4, 2, none⟩ (.slice (some ⟨gs, 0, none⟩) ns ns)).setCell ⟨b4, 3, none⟩ (.slice a3 nd c3)).setCell ⟨b4, 4, none⟩ (.int .i64 (d : Int)))) := by
    have hs : But (fun y => y = b4) z2 (((((z2.setCell ⟨b4, 0, none⟩ (.slice (some ⟨gt, 0, none⟩) nt nt)).setCell ⟨b4, 1, none⟩ (.slice (some ⟨gc, 0, none⟩) nc nc)).setCell ⟨b4, 2, none⟩ (.slice (some ⟨gs, 0, none⟩) ns ns)).setCell ⟨b4, 3, none⟩ (.slice a3 nd c3)).setCell ⟨b4, 4, none⟩ (.int .i64 (d : Int))) := ((((((But.refl (fun y => y = b4) z2).setCell ⟨b4, 0, none⟩ _ (Or.inl rfl)).setCell ⟨b4, 1, none⟩ _ (Or.inl rfl)).setCell ⟨b4, 2, none⟩ _ (Or.inl rfl)).setCell ⟨b4, 3, none⟩ _ (Or.inl rfl)).setCell ⟨b4, 4, none⟩ _ (Or.inl rfl))
    have ra : Alien z2 b4 := ⟨_, _, B2.out.1.c4, by decide, by decide, by decide⟩
    exact ⟨(((((B2.out.1.c4.set 0 _).set 1 _).set 2 _).set 3 _).set 4 _), ⟨_, _, _, _, rfl, B2.out.2.1.alien hs ra, B2.out.2.2.1.alien hs ra, B2.out.2.2.2.1.alien hs ra, row_alien B2.out.2.2.2.2 hs ra⟩, (((((B2.out.1.but.setCell ⟨b4, 0, none⟩ _ (Or.inr B2.out.1.g4)).setCell ⟨b4, 1, none⟩ _ (Or.inr B2.out.1.g4)).setCell ⟨b4, 2, none⟩ _ (Or.inr B2.out.1.g4)).setCell ⟨b4, 3, none⟩ _ (Or.inr B2.out.1.g4)).setCell ⟨b4, 4, none⟩ _ (Or.inr B2.out.1.g4))⟩
  clear B2
  go_wp2
  clear a0 a1 a2 a3_ a4 k0 k1 k2 k3_ k4 f0 f1 f2 f3 f4
  generalize (((((z2.setCell ⟨b4, 0, none⟩ (.slice (some ⟨gt, 0, none⟩) nt nt)).setCell ⟨b4, 1, none⟩ (.slice (some ⟨gc, 0, none⟩) nc nc)).setCell ⟨b4, 2, none⟩ (.slice (some ⟨gs, 0, none⟩) ns ns)).setCell ⟨b4, 3, none⟩ (.slice a3 nd c3)).setCell ⟨b4, 4, none⟩ (.int .i64 (d : Int))) = Z9 at HF ⊢
  refine bodyPost_ret (v := .agg #[.slice (some ⟨gt, 0, none⟩) nt nt, .slice (some ⟨gc, 0, none⟩) nc nc, .slice (some ⟨gs, 0, none⟩) ns ns, .slice a3 nd c3, .int .i64 (d : Int)]) (results_c (p := 4) (ty := 28) Try.results67 _ _ _ ⟨b4, 0, none⟩ rfl (run_loadVar_mid Z9 b4 0 28 [.slice (some ⟨gt, 0, none⟩) nt nt, .slice (some ⟨gc, 0, none⟩) nc nc, .slice (some ⟨gs, 0, none⟩) ns ns, .slice a3 nd c3, .int .i64 (d : Int)] _ HF.out.1.range Try.underlying28 rfl (by kernel_rfl))) rfl ?_
  rw [HE.out]
  exact ⟨⟨_, rfl, by rw [GB.out]; exact HF.out.2.1⟩, HF.out.2.2⟩
end Go.Proofs.Ytndhabhlajldeaa
/- Package container: Parse. -/
namespace Go.Proofs.Ytndhabhlajldeaa
open Go.RowKit
def rej0L : List Value := [.int .i64 0, .slice none 0 0, .int .i64 0, .int .i64 0]
set_option maxHeartbeats 4000000 in
set_option maxRecDepth 100000 in
theorem catch_p (g : Nat) (c a : Int) (w : World) (h : CBox w g 47 rej0L) :
    CallsD Try.prog 64 #[.pointer (some ⟨g, 0, none⟩)] (.panicking [{ v := .iface 47 (rejV c a), recovered := false }]) w fun e u' w' =>
      e = .returned (.tuple #[]) ∧ u' = .panicking [{ v := .iface 47 (rejV c a), recovered := true }] ∧ w' = (((w.setCell ⟨g, 0, none⟩ (.int .i64 c)).setCell ⟨g, 1, none⟩ (.slice none 0 0)).setCell ⟨g, 2, none⟩ (.int .i64 0)).setCell ⟨g, 3, none⟩ (.int .i64 a) := by
  have c0 : w.cell? ⟨g, 0, none⟩ = some (.int .i64 0) := h.cell 0
  have c1 : w.cell? ⟨g, 1, none⟩ = some (.slice none 0 0) := h.cell 1
  have c2 : w.cell? ⟨g, 2, none⟩ = some (.int .i64 0) := h.cell 2
  have c3 : w.cell? ⟨g, 3, none⟩ = some (.int .i64 0) := h.cell 3
  have f0 := h.frozen 0
  have f1 := h.frozen 1
  have f2 := h.frozen 2
  have f3 := h.frozen 3
  have hta : ∀ (t : TypeId) (w : World), Sem.run Try.prog (Instr.typeAssert (.iface 47 (.agg #[.int .i64 c, .slice none 0 0, .int .i64 0, .int .i64 a])) t 47 false) w = .ok (.agg #[.int .i64 c, .slice none 0 0, .int .i64 0, .int .i64 a]) w := fun _ _ => by kernel_rfl
  refine callsD_of_wpS Try.func64 rfl fun c₀ cs hu => ?_
  apply wpS_seq
  apply wpS_region
  simp [wpOpsS, go_sem, recoverD, hu, Try.ntmps64, Exit.thenS]
  apply wpS_seq
  apply wpS_region
  simp [wpOpsS, go_sem, Exit.thenS]
  refine wpS_cond (t := true) (by simp [Act.eval, Array.replicate]) ?_
  simp only [if_true]
  apply wpS_region
  simp [wpOpsS, go_sem, rejV, hta, c0, c1, c2, c3, f0, f1, f2, f3, bodyPostS, results, Try.results64]
set_option maxHeartbeats 4000000 in
set_option maxRecDepth 100000 in
theorem catch_i (g : Nat) (w : World) :
    CallsD Try.prog 64 #[.pointer (some ⟨g, 0, none⟩)] .returning w fun e u' w' => e = .returned (.tuple #[]) ∧ u' = .returning ∧ w' = w := by
  refine callsD_of_wpS Try.func64 rfl fun c₀ cs hu => ?_
  apply wpS_seq
  apply wpS_region
  simp [wpOpsS, go_sem, recoverD, hu, Try.ntmps64, Exit.thenS]
  apply wpS_seq
  apply wpS_region
  simp [wpOpsS, go_sem, Exit.thenS]
  refine wpS_cond (t := false) (by simp [Act.eval, Array.replicate]) ?_
  simp only [Bool.false_eq_true, if_false]
  refine wpS_of_wp (wp_skip ?_)
  cases c₀
  simp_all [bodyPostS, results, Try.results64]
theorem sumL_bound : ∀ (l : List Nat) (M : Nat), (∀ x ∈ l, x ≤ M) → sumL l ≤ l.length * M
  | [], M, _ => by simp [sumL]
  | x :: l, M, h => by
    rw [sumL_cons, List.length_cons, Nat.add_mul]
    have h1 := sumL_bound l M (fun y hy => h y (List.mem_cons_of_mem _ hy))
    have h2 := h x (List.mem_cons_self ..)
    omega
theorem hdr_sums {b : List Nat} (hb : Byt b) {h : Hd} (g : hdr b = .ok h) : sumL h.cs ≤ 1024 * 65536 ∧ sumL h.ss ≤ 256 * 4294967296 := by
  have H := hdr_ok hb g
  have h1 := sumL_bound h.cs 65536 (fun x hx => Nat.le_of_lt (H.hc x hx).2)
  have h2 := sumL_bound h.ss 4294967296 (fun x hx => Nat.le_of_lt (H.hs x hx).2)
  have h3 : h.cs.length * 65536 ≤ 1024 * 65536 := Nat.mul_le_mul_right _ H.c1
  have h4 : h.ss.length * 4294967296 ≤ 256 * 4294967296 := Nat.mul_le_mul_right _ H.s1
  omega
theorem prs_is (b : List Nat) (opn : Bool) : prs b opn = (hdr b).bind fun h => (msr b h.e (4 * h.cs.length + sumL h.cs + sumL h.ss) h.d opn).bind fun _ => bdy b h.e h.cs h.ss h.d := by
  unfold prs
  cases hdr b with
  | error er => rfl
  | ok h =>
    show (if _ then _ else _) = (msr b h.e (4 * h.cs.length + sumL h.cs + sumL h.ss) h.d opn).bind _
    have e1 : h.e + (4 * h.cs.length + sumL h.cs + sumL h.ss) = h.e + 4 * h.cs.length + sumL h.cs + sumL h.ss := by omega
    unfold msr
    rw [e1]
    by_cases q1 : b.length < (if opn = true then h.e + 4 * h.cs.length + sumL h.cs + sumL h.ss else h.e + 4 * h.cs.length + sumL h.cs + sumL h.ss + h.d)
    · rw [if_pos q1, if_pos q1]; rfl
    · rw [if_neg q1, if_neg q1]
      by_cases q2 : h.e + 4 * h.cs.length + sumL h.cs + sumL h.ss + h.d < b.length
      · rw [if_pos q2, if_pos q2]; rfl
      · rw [if_neg q2, if_neg q2]; rfl
theorem msr_fits {b : List Nat} {k n d : Nat} {opn : Bool} (h : msr b k n d opn = .ok ()) : k + n ≤ b.length := by
  by_cases q : b.length < (if opn then k + n else k + n + d)
  · rw [msr_cut q] at h
    cases h
  · cases opn
    · have q2 : ¬ b.length < k + n + d := q
      omega
    · have q2 : ¬ b.length < k + n := q
      omega
/-- what Parse answers -/
def PrA (B : Nat) (r : Except Er Con) (e : Ending) (w' : World) : Prop :=
  match r with
  | .ok c => ∃ v, e = .returned (.tuple #[v, rejV 0 0]) ∧ CO B w' v c
  | .error (c, a) => e = .returned (.tuple #[.agg #[.slice none 0 0, .slice none 0 0, .slice none 0 0, .slice none 0 0, .int .i64 0], rejV c a])
theorem results_2c {fn : Func} {p q : Tmp} {ty tz : TypeId} (h : fn.results = #[.cell p ty, .cell q tz]) (tmps : Array Value) (P : Program) (w : World) (a b : Addr) (ha : tmps.getD p undef = .pointer (some a)) (hb : tmps.getD q undef = .pointer (some b)) {v u : Value} (hl : (loadVar ty a).run P w = .ok v w) (hm : (loadVar tz b).run P w = .ok u w) : (results fn tmps).run P w = .ok (.tuple #[v, u]) w := by
  have ha' : tmps[p]?.getD undef = .pointer (some a) := by simpa using ha
  have hb' : tmps[q]?.getD undef = .pointer (some b) := by simpa using hb
  simp only [results, h]
  simp [ha', hb', hl, hm, asAddr]
/-- what was thrown is told -/
theorem caught (w' : World) (b4 b5 : Nat) (c a : Int) (tmps : Array Value) (h4 : CBox w' b4 28 con0L) (h5 : CBox w' b5 47 rej0L) (ne : b4 ≠ b5) (ht4 : tmps.getD 4 undef = .pointer (some ⟨b4, 0, none⟩)) (ht5 : tmps.getD 5 undef = .pointer (some ⟨b5, 0, none⟩)) (R : Ending → World → Prop)
    (hR : ∀ w'', But (fun y => y = b5) w' w'' → R (.returned (.tuple #[.agg #[.slice none 0 0, .slice none 0 0, .slice none 0 0, .slice none 0 0, .int .i64 0], rejV c a])) w'') :
    Leaves Try.prog Try.f31 tmps R [{ target := .fn (.func 64) #[.pointer (some ⟨b5, 0, none⟩)], args := #[] }] (.panicking [{ v := .iface 47 (rejV c a), recovered := false }]) w' := by
  refine leaves_cons (f := 64) (args := #[.pointer (some ⟨b5, 0, none⟩)]) (by simp) (by simp [go_sem]) ?_
  refine (catch_p b5 c a w' h5).mono ?_
  rintro e u' w'' ⟨rfl, rfl, e9⟩
  have hs : But (fun y => y = b5) w' w'' := by
    rw [e9]
    exact ((((But.refl (fun y => y = b5) w').setCell ⟨b5, 0, none⟩ _ (Or.inl rfl)).setCell ⟨b5, 1, none⟩ _ (Or.inl rfl)).setCell ⟨b5, 2, none⟩ _ (Or.inl rfl)).setCell ⟨b5, 3, none⟩ _ (Or.inl rfl)
  have c5 : CBox w'' b5 47 [.int .i64 c, .slice none 0 0, .int .i64 0, .int .i64 a] := by
    rw [e9]
    exact (((h5.set 0 _).set 1 _).set 2 _).set 3 _
  have c4 : CBox w'' b4 28 con0L := h4.but hs ne
  clear e9
  show Leaves Try.prog Try.f31 tmps R [] .returning w''
  exact ⟨_, results_2c (p := 4) (q := 5) (ty := 28) (tz := 47) Try.results31 _ _ _ ⟨b4, 0, none⟩ ⟨b5, 0, none⟩ ht4 ht5 (run_loadVar_mid w'' b4 0 28 con0L _ c4.range Try.underlying28 rfl (by kernel_rfl)) (run_loadVar_mid w'' b5 0 47 [.int .i64 c, .slice none 0 0, .int .i64 0, .int .i64 a] _ c5.range Try.underlying47 rfl (by kernel_rfl)), hR w'' hs⟩
/-- what was read is told -/
theorem told (w' : World) (b4 b5 : Nat) (l4 : List Value) (tmps : Array Value) (h5 : CBox w' b5 47 rej0L) (ht4 : tmps.getD 4 undef = .pointer (some ⟨b4, 0, none⟩)) (ht5 : tmps.getD 5 undef = .pointer (some ⟨b5, 0, none⟩)) (R : Ending → World → Prop)
    (hld : (loadVar 28 ⟨b4, 0, none⟩).run Try.prog w' = .ok (.agg l4.toArray) w')
    (hR : R (.returned (.tuple #[.agg l4.toArray, rejV 0 0])) w') :
    Leaves Try.prog Try.f31 tmps R [{ target := .fn (.func 64) #[.pointer (some ⟨b5, 0, none⟩)], args := #[] }] .returning w' := by
  refine leaves_cons (f := 64) (args := #[.pointer (some ⟨b5, 0, none⟩)]) (by simp) (by simp [go_sem]) ?_
  refine (catch_i b5 w').mono ?_
  rintro e u' w'' ⟨rfl, rfl, e9⟩
  have e8 := e9.symm
  clear e9
  subst e8
  show Leaves Try.prog Try.f31 tmps R [] .returning w'
  exact ⟨_, results_2c (p := 4) (q := 5) (ty := 28) (tz := 47) Try.results31 _ _ _ ⟨b4, 0, none⟩ ⟨b5, 0, none⟩ ht4 ht5 hld (run_loadVar_mid w' b5 0 47 rej0L _ h5.range Try.underlying47 rfl (by kernel_rfl)), hR⟩
/-- in the midst of Parse -/
structure PsM (b4 b5 b6 : Nat) (w W : World) (bs : Value) (b : List Nat) (k : Nat) : Prop where
  c4 : CBox W b4 28 con0L
  c5 : CBox W b5 47 rej0L
  rd : Rdr W b6 bs b k
  bel : Below w.heap.size w W
  g4 : w.heap.size ≤ b4
  g5 : b4 < b5
  g6 : b5 < b6
theorem PsM.past {b4 b5 b6 k : Nat} {w W W' : World} {bs : Value} {b : List Nat} (h : PsM b4 b5 b6 w W bs b k) (q : Below W.heap.size W W') : PsM b4 b5 b6 w W' bs b k := ⟨h.c4.past q, h.c5.past q, h.rd.past q, h.bel.trans (q.mono h.bel.size), h.g4, h.g5, h.g6⟩
theorem PsM.read {b4 b5 b6 k k' : Nat} {w W W' : World} {bs : Value} {b : List Nat} (h : PsM b4 b5 b6 w W bs b k) (q : RB b6 W W') (r : Rdr W' b6 bs b k') : PsM b4 b5 b6 w W' bs b k' :=
  ⟨h.c4.but q (by have := h.g5; have := h.g6; omega), h.c5.but q (by have := h.g6; omega), r, h.bel.trans (q.below (fun y e => by have := h.g4; have := h.g5; have := h.g6; omega) h.bel.size), h.g4, h.g5, h.g6⟩
theorem PsM.thrown {b4 b5 b6 k : Nat} {w W W' : World} {bs : Value} {b : List Nat} (h : PsM b4 b5 b6 w W bs b k) (q : RB b6 W W') : CBox W' b4 28 con0L ∧ CBox W' b5 47 rej0L ∧ b4 ≠ b5 ∧ ∀ W'', But (fun y => y = b5) W' W'' → Below w.heap.size w W'' := by
  have h4 := h.g4
  have h5 := h.g5
  have h6 := h.g6
  refine ⟨h.c4.but q (by omega), h.c5.but q (by omega), by omega, fun W'' k2 => ?_⟩
  have b1 : Below w.heap.size w W' := h.bel.trans (q.below (fun y e => by omega) h.bel.size)
  exact b1.trans (k2.below (fun y e => by omega) b1.size)
theorem PsM.bel6 {b4 b5 b6 k : Nat} {w W W' : World} {bs : Value} {b : List Nat} (h : PsM b4 b5 b6 w W bs b k) (q : RB b6 W W') : Below w.heap.size w W' :=
  h.bel.trans (q.below (fun y e => by have := h.g4; have := h.g5; have := h.g6; omega) h.bel.size)
theorem CO.alien {B q : Nat} {W W' : World} {v : Value} {c : Con} (h : CO B W v c) (k : But (fun y => y = q) W W') (a : Alien W q) : CO B W' v c := by
  obtain ⟨tv, cv, sv, dv, e, h1, h2, h3, h4⟩ := h
  exact ⟨tv, cv, sv, dv, e, h1.alien k a, h2.alien k a, h3.alien k a, row_alien h4 k a⟩
set_option maxHeartbeats 4000000 in
set_option maxRecDepth 100000 in
theorem parse_is {P : Nat → Prop} (w : World) (v : Value) (b : List Nat) (opn : Bool) (h : BL P w v b) (hb : Byt b) (hl : b.length ≤ 16777216) :
    Calls Try.prog 31 #[v, .bool opn] w fun e w' => PrA w.heap.size (prs b opn) e w' ∧ Below w.heap.size w w' := by
  obtain ⟨ba, bc, rfl, hbc, _⟩ := h.len
  have hmf : ∀ (fn : Fn) (first cap : Array Value) (w : World), (Instr.makeFunc fn first cap).run Try.prog w = .ok (.func fn first cap) w := fun _ _ _ _ => rfl
  obtain ⟨LL, hLL⟩ : ∃ LL, LL = prs b opn := ⟨_, rfl⟩
  rw [← hLL]
  have HE : Hid (LL = (hdr b).bind fun h => (msr b h.e (4 * h.cs.length + sumL h.cs + sumL h.ss) h.d opn).bind fun _ => bdy b h.e h.cs h.ss h.d) := by unfold Hid; rw [hLL, prs_is]
  have HBY : Hid (Byt b) := hb
  have M : Hid (PsM w.heap.size (w.heap.size + 1) (w.heap.size + 1 + 1) w (((w.alloc (.cells #[.slice none 0 0, .slice none 0 0, .slice none 0 0, .slice none 0 0, .int .i64 0] 28)).alloc (.cells #[.int .i64 0, .slice none 0 0, .int .i64 0, .int .i64 0] 47)).alloc (.cells #[.slice ba b.length bc, .int .i64 0] 81)) (.slice ba b.length bc) b 0) := by
    have b1 := below_alloc w (.cells con0L.toArray 28)
    have b2 := below_alloc (w.alloc (.cells con0L.toArray 28)) (.cells rej0L.toArray 47)
    have b3 := below_alloc ((w.alloc (.cells con0L.toArray 28)).alloc (.cells rej0L.toArray 47)) (.cells #[.slice ba b.length bc, .int .i64 0] 81)
    have c4 := CBox.new w 28 con0L
    have c5 := CBox.new (w.alloc (.cells con0L.toArray 28)) 47 rej0L
    have c6 := CBox.new ((w.alloc (.cells con0L.toArray 28)).alloc (.cells rej0L.toArray 47)) 81 [.slice ba b.length bc, .int .i64 0]
    have s1 : (w.alloc (.cells con0L.toArray 28)).heap.size = w.heap.size + 1 := by simp
    have s2 : ((w.alloc (.cells con0L.toArray 28)).alloc (.cells rej0L.toArray 47)).heap.size = w.heap.size + 1 + 1 := by simp
    rw [s1] at c5
    rw [s2] at c6
    have hw : BL (fun g => g < w.heap.size + 1 + 1) w (.slice ba b.length bc) b := h.mono fun g _ hg => by omega
    have bb : Below w.heap.size w (((w.alloc (.cells con0L.toArray 28)).alloc (.cells rej0L.toArray 47)).alloc (.cells #[.slice ba b.length bc, .int .i64 0] 81)) := (b1.trans (b2.mono (by omega))).trans (b3.mono (by omega))
    exact ⟨(c4.past b2).past b3, c5.past b3, ⟨c6, hw.past bb, hb, hl⟩, bb, by omega, by omega, by omega⟩
  have HL : Hid (b.length ≤ 16777216) := hl
  clear h hLL hb hbc
  go_enter_defers Try.func31, Try.ntmps31
  go_upto_region 3 with fail
  generalize w.heap.size + 1 + 1 = b6 at M ⊢
  generalize w.heap.size + 1 = b5 at M ⊢
  generalize hb4 : w.heap.size = b4 at M ⊢
  generalize ((w.alloc _).alloc _).alloc _ = W0 at M ⊢
  have GB : Hid (w.heap.size = b4) := hb4
  clear hb4
  have FC0 := header_is W0 b6 _ b M.out.rd
  have FC : Hid _ := FC0
  have HSM : Hid (∀ h, hdr b = .ok h → sumL h.cs ≤ 1024 * 65536 ∧ sumL h.ss ≤ 256 * 4294967296) := fun h g => hdr_sums HBY.out g
  clear FC0
  generalize hdr b = FF at *
  cases FF with
  | error er =>
    obtain ⟨ec, ea⟩ := er
    have E0 : Hid (LL = .error (ec, ea)) := HE.out
    go_wp2_with (go_at_call 65; refine Calls.mono FC.out ?_; rintro e w' ⟨rfl, hB⟩; unfold thrown rejV)
    obtain ⟨q4, q5, qn, qb⟩ := M.out.thrown hB
    exact caught w' b4 b5 ec ea _ q4 q5 qn rfl rfl _ (fun w'' k => ⟨by rw [E0.out]; exact rfl, qb w'' k⟩)
  | ok hh =>
  have HE : Hid (LL = (msr b hh.e (4 * hh.cs.length + sumL hh.cs + sumL hh.ss) hh.d opn).bind fun _ => bdy b hh.e hh.cs hh.ss hh.d) := HE.out
  have HS : Hid (sumL hh.cs ≤ 1024 * 65536 ∧ sumL hh.ss ≤ 256 * 4294967296) := HSM.out hh rfl
  clear HSM
  obtain ⟨cs, ss, d, k⟩ := hh
  dsimp only at HE HS
  go_upto_region 4 with (go_at_call 65; refine Calls.mono FC.out ?_; rintro e w5 hQ; (obtain ⟨cv, sv, rfl, hc, hs⟩ := HdQ.ex hQ); (have N0 := M.out.read (HdQ.but hQ) (HdQ.rd hQ)); (have HB9 := And.intro (HdQ.kl hQ) (And.intro (HdQ.dl hQ) (And.intro (HdQ.cl hQ) (HdQ.sl hQ)))); (dsimp only at hc hs HB9 N0); (obtain ⟨ca, rfl⟩ := hc.len); (obtain ⟨sa, rfl⟩ := hs.len); (have HC9 : Hid (UL w5 (.slice ca cs.length cs.length) cs ∧ UL w5 (.slice sa ss.length ss.length) ss) := ⟨hc, hs⟩); (have N9 : Hid (PsM b4 b5 b6 w w5 (.slice ba b.length bc) b k) := N0); (have HQB : Hid (k ≤ b.length ∧ d ≤ 65535 ∧ cs.length ≤ 1024 ∧ ss.length ≤ 256) := HB9); (clear hc hs N0 HB9 hQ))
  have M2 : Hid (PsM b4 b5 b6 w (w5.alloc (.cells #[.slice ca cs.length cs.length, .slice sa ss.length ss.length, .int .u64 (d : Int)] 84)) (.slice ba b.length bc) b k ∧ CBox (w5.alloc (.cells #[.slice ca cs.length cs.length, .slice sa ss.length ss.length, .int .u64 (d : Int)] 84)) w5.heap.size 84 [.slice ca cs.length cs.length, .slice sa ss.length ss.length, .int .u64 (d : Int)] ∧ UL (w5.alloc (.cells #[.slice ca cs.length cs.length, .slice sa ss.length ss.length, .int .u64 (d : Int)] 84)) (.slice ca cs.length cs.length) cs ∧ UL (w5.alloc (.cells #[.slice ca cs.length cs.length, .slice sa ss.length ss.length, .int .u64 (d : Int)] 84)) (.slice sa ss.length ss.length) ss ∧ w5.heap.size ≠ b6) := ⟨N9.out.past (below_alloc _ _), CBox.new _ _ [_, _, _], HC9.out.1.past (below_alloc _ _), HC9.out.2.past (below_alloc _ _), by have := N9.out.rd.box.lt; omega⟩
  clear HC9 N9 FC M
  generalize w5.alloc _ = W1 at M2 ⊢
  generalize w5.heap.size = b7 at M2 ⊢
  have MC := measure_is W1 b6 _ b k d _ _ cs ss opn M2.out.1.rd M2.out.2.2.1 M2.out.2.2.2.1 (by have h1 := HQB.out; have h2 := HS.out; have h3 := HL.out; omega) (by have h1 := HQB.out; omega)
  have MK : Hid (msr b k (4 * cs.length + sumL cs + sumL ss) d opn = .ok () → k + 4 * cs.length + sumL cs + sumL ss ≤ b.length) := fun q => by have := msr_fits q; omega
  have BC : Hid (∀ W, Rdr W b6 (.slice ba b.length bc) b k → UL W (.slice ca cs.length cs.length) cs → UL W (.slice sa ss.length ss.length) ss → k + 4 * cs.length + sumL cs + sumL ss ≤ b.length → Calls Try.prog 67 #[.pointer (some ⟨b6, 0, none⟩), .agg #[.slice ca cs.length cs.length, .slice sa ss.length ss.length, .int .u64 (d : Int)]] W fun e w' => Out b6 W (bdy b k cs ss d) (fun c e w' => (∃ v, e = .returned v ∧ CO W.heap.size w' v c) ∧ RB b6 W w') e w') := fun W r u1 u2 hk => body_is W b6 _ b k _ _ cs ss d r u1 u2 hk (by have h1 := HQB.out; omega) (by have h1 := HQB.out; omega) (by have h1 := HQB.out; omega)
  have MC2 : Hid _ := MC
  clear MC HS
  generalize msr b k (4 * cs.length + sumL cs + sumL ss) d opn = MM at *
  have a0 : W1.cell? ⟨b7, 0, none⟩ = some (.slice ca cs.length cs.length) := M2.out.2.1.cell 0
  have a1 : W1.cell? ⟨b7, 1, none⟩ = some (.slice sa ss.length ss.length) := M2.out.2.1.cell 1
  have a2 : W1.cell? ⟨b7, 2, none⟩ = some (.int .u64 (d : Int)) := M2.out.2.1.cell 2
  have M : Hid (PsM b4 b5 b6 w W1 (.slice ba b.length bc) b k) := M2.out.1
  generalize hnc : cs.length = nc at *
  generalize hns : ss.length = ns at *
  generalize hnb : b.length = nb at *
  clear hnc hns hnb hl
  cases MM with
  | error er =>
    obtain ⟨ec, ea⟩ := er
    have E0 : Hid (LL = .error (ec, ea)) := HE.out
    go_wp2_with (go_at_call 66; refine Calls.mono MC2.out ?_; rintro e w' ⟨rfl, hB⟩; unfold thrown rejV)
    obtain ⟨q4, q5, qn, qb⟩ := M.out.thrown hB
    exact caught w' b4 b5 ec ea _ q4 q5 qn rfl rfl _ (fun w'' k => ⟨by rw [E0.out]; exact rfl, qb w'' k⟩)
  | ok uu =>
  have HE : Hid (LL = bdy b k cs ss d) := HE.out
  go_upto_region 5 with (go_at_call 66; refine Calls.mono MC2.out ?_; rintro e w6 ⟨rfl, hB⟩)
  have M3 : Hid (PsM b4 b5 b6 w w6 (.slice ba nb bc) b k ∧ CBox w6 b7 84 [.slice ca nc nc, .slice sa ns ns, .int .u64 (d : Int)]) := ⟨M2.out.1.past hB, M2.out.2.1.past hB⟩
  have FC0 := BC.out w6 M3.out.1.rd (M2.out.2.2.1.past hB) (M2.out.2.2.2.1.past hB) (by first | exact MK.out rfl | exact MK.out trivial)
  have FC : Hid _ := FC0
  have a0 : w6.cell? ⟨b7, 0, none⟩ = some (.slice ca nc nc) := M3.out.2.cell 0
  have a1 : w6.cell? ⟨b7, 1, none⟩ = some (.slice sa ns ns) := M3.out.2.cell 1
  have a2 : w6.cell? ⟨b7, 2, none⟩ = some (.int .u64 (d : Int)) := M3.out.2.cell 2
  clear M2 M FC0 BC MK hB MC2 HQB
  have M : Hid (PsM b4 b5 b6 w w6 (.slice ba nb bc) b k) := M3.out.1
  clear M3
  generalize bdy b k cs ss d = FF at *
  cases FF with
  | error er =>
    obtain ⟨ec, ea⟩ := er
    have E0 : Hid (LL = .error (ec, ea)) := HE.out
    go_wp2_with (go_at_call 67; refine Calls.mono FC.out ?_; rintro e w' ⟨rfl, hB⟩; unfold thrown rejV)
    obtain ⟨q4, q5, qn, qb⟩ := M.out.thrown hB
    exact caught w' b4 b5 ec ea _ q4 q5 qn rfl rfl _ (fun w'' k => ⟨by rw [E0.out]; exact rfl, qb w'' k⟩)
  | ok c =>
  have HE : Hid (LL = .ok c) := HE.out
  have hn45 : ¬ b5 = b4 := by have := M.out.g5; omega
  have hn54 : ¬ b4 = b5 := by have := M.out.g5; omega
  go_wp2_with (go_at_call 67; refine Calls.mono FC.out ?_; rintro e w7 hQ; (obtain ⟨⟨v, rfl, hCO⟩, hB⟩ := hQ); (obtain ⟨tv, cv, sv, dv, rfl, h1, h2, h3, h4⟩ := id hCO); (obtain ⟨gt, rfl, _⟩ := id h1); (obtain ⟨gc, _, rfl, _⟩ := id h2); (obtain ⟨gs, _, rfl, _⟩ := id h3); (obtain ⟨da, dc, rfl⟩ := owns_sl h4); (have N0 : Hid (CBox w7 b4 28 con0L ∧ CBox w7 b5 47 rej0L ∧ b4 ≠ b5 ∧ Below w.heap.size w w7 ∧ CO w6.heap.size w7 (.agg #[.slice (some ⟨gt, 0, none⟩) c.ts.length c.ts.length, .slice (some ⟨gc, 0, none⟩) c.cs.length c.cs.length, .slice (some ⟨gs, 0, none⟩) c.ss.length c.ss.length, .slice da c.d.length dc, .int .i64 c.n]) c) := ⟨(M.out.thrown hB).1, (M.out.thrown hB).2.1, (M.out.thrown hB).2.2.1, M.out.bel6 hB, hCO⟩); (clear hCO h1 h2 h3 h4 hB); (have p0 : w7.cell? ⟨b4, 0, none⟩ = some (.slice none 0 0) := N0.out.1.cell 0); (have q0 := N0.out.1.frozen 0); (have p1 : w7.cell? ⟨b4, 1, none⟩ = some (.slice none 0 0) := N0.out.1.cell 1); (have q1 := N0.out.1.frozen 1); (have p2 : w7.cell? ⟨b4, 2, none⟩ = some (.slice none 0 0) := N0.out.1.cell 2); (have q2 := N0.out.1.frozen 2); (have p3 : w7.cell? ⟨b4, 3, none⟩ = some (.slice none 0 0) := N0.out.1.cell 3); (have q3 := N0.out.1.frozen 3); (have p4 : w7.cell? ⟨b4, 4, none⟩ = some (.int .i64 0) := N0.out.1.cell 4); (have q4 := N0.out.1.frozen 4); (have r0 : w7.cell? ⟨b5, 0, none⟩ = some (.int .i64 0) := N0.out.2.1.cell 0); (have s0 := N0.out.2.1.frozen 0); (have r1 : w7.cell? ⟨b5, 1, none⟩ = some (.slice none 0 0) := N0.out.2.1.cell 1); (have s1 := N0.out.2.1.frozen 1); (have r2 : w7.cell? ⟨b5, 2, none⟩ = some (.int .i64 0) := N0.out.2.1.cell 2); (have s2 := N0.out.2.1.frozen 2); (have r3 : w7.cell? ⟨b5, 3, none⟩ = some (.int .i64 0) := N0.out.2.1.cell 3); (have s3 := N0.out.2.1.frozen 3))
  have HF : Hid (CBox (((((((((w7.setCell ⟨b4, 0, none⟩ (.slice (some ⟨gt, 0, none⟩) c.ts.length c.ts.length)).setCell ⟨b4, 1, none⟩ (.slice (some ⟨gc, 0, none⟩) c.cs.length c.cs.length)).setCell ⟨b4, 2, none⟩ (.slice (some ⟨gs, 0, none⟩) c.ss.length c.ss.length)).setCell ⟨b4, 3, none⟩ (.slice da c.d.length dc)).setCell ⟨b4, 4, none⟩ (.int .i64 c.n)).setCell ⟨b5, 0, none⟩ (.int .i64 0)).setCell ⟨b5, 1, none⟩ (.slice none 0 0)).setCell ⟨b5, 2, none⟩ (.int .i64 0)).setCell ⟨b5, 3, none⟩ (.int .i64 0)) b4 28 [.slice (some ⟨gt, 0, none⟩) c.ts.length c.ts.length, .slice (some ⟨gc, 0, none⟩) c.cs.length c.cs.length, .slice (some ⟨gs, 0, none⟩) c.ss.length c.ss.length, .slice da c.d.length dc, .int .i64 c.n] ∧ CBox (((((((((w7.setCell ⟨b4, 0, none⟩ (.slice (some ⟨gt, 0, none⟩) c.ts.length c.ts.length)).setCell ⟨b4, 1, none⟩ (.slice (some ⟨gc, 0, none⟩) c.cs.length c.cs.length)).setCell ⟨b4, 2, none⟩ (.slice (some ⟨gs, 0, none⟩) c.ss.length c.ss.length)).setCell ⟨b4, 3, none⟩ (.slice da c.d.length dc)).setCell ⟨b4, 4, none⟩ (.int .i64 c.n)).setCell ⟨b5, 0, none⟩ (.int .i64 0)).setCell ⟨b5, 1, none⟩ (.slice none 0 0)).setCell ⟨b5, 2, none⟩ (.int .i64 0)).setCell ⟨b5, 3, none⟩ (.int .i64 0)) b5 47 rej0L ∧ CO w.heap.size (((((((((w7.setCell ⟨b4, 0, none⟩ (.slice (some ⟨gt, 0, none⟩) c.ts.length c.ts.length)).setCell ⟨b4, 1, none⟩ (.slice (some ⟨gc, 0, none⟩) c.cs.length c.cs.length)).setCell ⟨b4, 2, none⟩ (.slice (some ⟨gs, 0, none⟩) c.ss.length c.ss.length)).setCell ⟨b4, 3, none⟩ (.slice da c.d.length dc)).setCell ⟨b4, 4, none⟩ (.int .i64 c.n)).setCell ⟨b5, 0, none⟩ (.int .i64 0)).setCell ⟨b5, 1, none⟩ (.slice none 0 0)).setCell ⟨b5, 2, none⟩ (.int .i64 0)).setCell ⟨b5, 3, none⟩ (.int .i64 0)) (.agg #[.slice (some ⟨gt, 0, none⟩) c.ts.length c.ts.length, .slice (some ⟨gc, 0, none⟩) c.cs.length c.cs.length, .slice (some ⟨gs, 0, none⟩) c.ss.length c.ss.length, .slice da c.d.length dc, .int .i64 c.n]) c ∧ Below w.heap.size w (((((((((w7.setCell ⟨b4, 0, none⟩ (.slice (some ⟨gt, 0, none⟩) c.ts.length c.ts.length)).setCell ⟨b4, 1, none⟩ (.slice (some ⟨gc, 0, none⟩) c.cs.length c.cs.length)).setCell ⟨b4, 2, none⟩ (.slice (some ⟨gs, 0, none⟩) c.ss.length c.ss.length)).setCell ⟨b4, 3, none⟩ (.slice da c.d.length dc)).setCell ⟨b4, 4, none⟩ (.int .i64 c.n)).setCell ⟨b5, 0, none⟩ (.int .i64 0)).setCell ⟨b5, 1, none⟩ (.slice none 0 0)).setCell ⟨b5, 2, none⟩ (.int .i64 0)).setCell ⟨b5, 3, none⟩ (.int .i64 0))) := by
    obtain ⟨h4, h5, n45, hbel, hco⟩ := N0.out
    have k4 : But (fun y => y = b4) w7 (((((w7.setCell ⟨b4, 0, none⟩ (.slice (some ⟨gt, 0, none⟩) c.ts.length c.ts.length)).setCell ⟨b4, 1, none⟩ (.slice (some ⟨gc, 0, none⟩) c.cs.length c.cs.length)).setCell ⟨b4, 2, none⟩ (.slice (some ⟨gs, 0, none⟩) c.ss.length c.ss.length)).setCell ⟨b4, 3, none⟩ (.slice da c.d.length dc)).setCell ⟨b4, 4, none⟩ (.int .i64 c.n)) := ((((((But.refl (fun y => y = b4) w7).setCell ⟨b4, 0, none⟩ _ (Or.inl rfl)).setCell ⟨b4, 1, none⟩ _ (Or.inl rfl)).setCell ⟨b4, 2, none⟩ _ (Or.inl rfl)).setCell ⟨b4, 3, none⟩ _ (Or.inl rfl)).setCell ⟨b4, 4, none⟩ _ (Or.inl rfl))
    have a4 : Alien w7 b4 := ⟨_, _, h4, by decide, by decide, by decide⟩
    have co4 := (hco.mono (show w.heap.size ≤ w6.heap.size by have := M.out.bel.size; have := GB.out; omega)).alien k4 a4
    have c4 : CBox (((((w7.setCell ⟨b4, 0, none⟩ (.slice (some ⟨gt, 0, none⟩) c.ts.length c.ts.length)).setCell ⟨b4, 1, none⟩ (.slice (some ⟨gc, 0, none⟩) c.cs.length c.cs.length)).setCell ⟨b4, 2, none⟩ (.slice (some ⟨gs, 0, none⟩) c.ss.length c.ss.length)).setCell ⟨b4, 3, none⟩ (.slice da c.d.length dc)).setCell ⟨b4, 4, none⟩ (.int .i64 c.n)) b4 28 [.slice (some ⟨gt, 0, none⟩) c.ts.length c.ts.length, .slice (some ⟨gc, 0, none⟩) c.cs.length c.cs.length, .slice (some ⟨gs, 0, none⟩) c.ss.length c.ss.length, .slice da c.d.length dc, .int .i64 c.n] := (((((h4.set 0 _).set 1 _).set 2 _).set 3 _).set 4 _)
    have z5 := h5.but k4 (Ne.symm n45)
    have bl4 : Below w.heap.size w (((((w7.setCell ⟨b4, 0, none⟩ (.slice (some ⟨gt, 0, none⟩) c.ts.length c.ts.length)).setCell ⟨b4, 1, none⟩ (.slice (some ⟨gc, 0, none⟩) c.cs.length c.cs.length)).setCell ⟨b4, 2, none⟩ (.slice (some ⟨gs, 0, none⟩) c.ss.length c.ss.length)).setCell ⟨b4, 3, none⟩ (.slice da c.d.length dc)).setCell ⟨b4, 4, none⟩ (.int .i64 c.n)) := hbel.trans (k4.below (fun y e => by have := GB.out; omega) (by have := hbel.size; have := GB.out; omega))
    generalize (((((w7.setCell ⟨b4, 0, none⟩ (.slice (some ⟨gt, 0, none⟩) c.ts.length c.ts.length)).setCell ⟨b4, 1, none⟩ (.slice (some ⟨gc, 0, none⟩) c.cs.length c.cs.length)).setCell ⟨b4, 2, none⟩ (.slice (some ⟨gs, 0, none⟩) c.ss.length c.ss.length)).setCell ⟨b4, 3, none⟩ (.slice da c.d.length dc)).setCell ⟨b4, 4, none⟩ (.int .i64 c.n)) = Z4 at k4 co4 c4 z5 bl4 ⊢
    have k5 : But (fun y => y = b5) Z4 ((((Z4.setCell ⟨b5, 0, none⟩ (.int .i64 0)).setCell ⟨b5, 1, none⟩ (.slice none 0 0)).setCell ⟨b5, 2, none⟩ (.int .i64 0)).setCell ⟨b5, 3, none⟩ (.int .i64 0)) := (((((But.refl (fun y => y = b5) Z4).setCell ⟨b5, 0, none⟩ _ (Or.inl rfl)).setCell ⟨b5, 1, none⟩ _ (Or.inl rfl)).setCell ⟨b5, 2, none⟩ _ (Or.inl rfl)).setCell ⟨b5, 3, none⟩ _ (Or.inl rfl))
    have a5 : Alien Z4 b5 := ⟨_, _, z5, by decide, by decide, by decide⟩
    exact ⟨c4.but k5 n45, (((z5.set 0 _).set 1 _).set 2 _).set 3 _, co4.alien k5 a5, bl4.trans (k5.below (fun y e => by have := M.out.g5; have := GB.out; omega) (by have := bl4.size; have := GB.out; omega))⟩
  clear p0 q0 p1 q1 p2 q2 p3 q3 p4 q4 r0 s0 r1 s1 r2 s2 r3 s3 N0
  generalize (((((((((w7.setCell ⟨b4, 0, none⟩ (.slice (some ⟨gt, 0, none⟩) c.ts.length c.ts.length)).setCell ⟨b4, 1, none⟩ (.slice (some ⟨gc, 0, none⟩) c.cs.length c.cs.length)).setCell ⟨b4, 2, none⟩ (.slice (some ⟨gs, 0, none⟩) c.ss.length c.ss.length)).setCell ⟨b4, 3, none⟩ (.slice da c.d.length dc)).setCell ⟨b4, 4, none⟩ (.int .i64 c.n)).setCell ⟨b5, 0, none⟩ (.int .i64 0)).setCell ⟨b5, 1, none⟩ (.slice none 0 0)).setCell ⟨b5, 2, none⟩ (.int .i64 0)).setCell ⟨b5, 3, none⟩ (.int .i64 0)) = Z9 at HF ⊢
  exact told Z9 b4 b5 [.slice (some ⟨gt, 0, none⟩) c.ts.length c.ts.length, .slice (some ⟨gc, 0, none⟩) c.cs.length c.cs.length, .slice (some ⟨gs, 0, none⟩) c.ss.length c.ss.length, .slice da c.d.length dc, .int .i64 c.n] _ HF.out.2.1 rfl rfl _ (run_loadVar_mid Z9 b4 0 28 [.slice (some ⟨gt, 0, none⟩) c.ts.length c.ts.length, .slice (some ⟨gc, 0, none⟩) c.cs.length c.cs.length, .slice (some ⟨gs, 0, none⟩) c.ss.length c.ss.length, .slice da c.d.length dc, .int .i64 c.n] _ HF.out.1.range Try.underlying28 rfl (by kernel_rfl)) ⟨by rw [HE.out]; exact ⟨_, rfl, HF.out.2.2.1⟩, HF.out.2.2.2⟩
end Go.Proofs.Ytndhabhlajldeaa
/- The document's containers: what its Parse leans on. -/
namespace Go.Proofs.Ytndhabhlajldeaa
open Go.RowKit
/-- what the document's Parse answers -/
def PrD (B : Nat) (r : Except Er Con) (e : Ending) (w' : World) : Prop :=
  match r with
  | .ok c => ∃ v, e = .returned (.tuple #[v, rejV 0 0]) ∧ CW (fun g => B ≤ g) w' v c
  | .error (c, a) => e = .returned (.tuple #[.agg #[.slice none 0 0, .slice none 0 0, .slice none 0 0, .slice none 0 0, .int .i64 0], rejV c a])
theorem PO.pl {B : Nat} {W : World} {v : Value} {ll : List (List Nat)} (h : PO B W v ll) (hl : ll.length ≤ 1152921504606846976) (hx : ∀ x ∈ ll, x.length ≤ 1152921504606846976) : PL (fun g => B ≤ g) W v ll := by
  obtain ⟨us, h1, h2, h3⟩ := h
  refine ⟨us, SL.own h2 hl fun g hg => (h2.lt g hg).1, fun i l hi => ?_⟩
  have hlt : i < us.length := by rw [h1]; exact (List.getElem?_eq_some_iff.1 hi).1
  refine ⟨us[i], List.getElem?_eq_getElem hlt, ?_⟩
  have h4 := h3 i us[i] l (List.getElem?_eq_getElem hlt) hi
  exact SL.own h4 (hx l (List.mem_of_getElem? hi)) fun y hy => (h4.lt y hy).1
theorem PO.base {B B' : Nat} {W : World} {v : Value} {ll : List (List Nat)} (h : PO B W v ll) (k : B' ≤ B) : PO B' W v ll := by
  obtain ⟨us, h1, h2, h3⟩ := h
  exact ⟨us, h1, owns_base h2 k, fun i u l a b => owns_base (h3 i u l a b) k⟩
/-- the two boxes of an answer -/
def boxes (W : World) (b4 b5 : Nat) (l4 l5 : List Value) : World := (((((((((W.setCell ⟨b4, 0, none⟩ (l4.getD 0 undef)).setCell ⟨b4, 1, none⟩ (l4.getD 1 undef)).setCell ⟨b4, 2, none⟩ (l4.getD 2 undef)).setCell ⟨b4, 3, none⟩ (l4.getD 3 undef)).setCell ⟨b4, 4, none⟩ (l4.getD 4 undef)).setCell ⟨b5, 0, none⟩ (l5.getD 0 undef)).setCell ⟨b5, 1, none⟩ (l5.getD 1 undef)).setCell ⟨b5, 2, none⟩ (l5.getD 2 undef)).setCell ⟨b5, 3, none⟩ (l5.getD 3 undef))
end Go.Proofs.Ytndhabhlajldeaa
/- The document's containers: Parse. -/
namespace Go.Proofs.Ytndhabhlajldeaa
open Go.RowKit
theorem own_box {W : World} {B s n q : Nat} {t u : TypeId} {v : Value} {cs l : List Value} (h : W.ownsRow B t s v n cs) (c : CBox W q u l) (ht : t ≠ u) {g : Nat} (hg : OwnV v g) : g ≠ q := by
  rintro rfl
  rcases h.2 with ⟨rfl, _⟩ | ⟨g', c', cur, rfl, _, hh, _⟩
  · cases hg
  · injection hg with hg
    subst hg
    rw [show W.heap[g']? = _ from c] at hh
    cases hh
    exact ht rfl
theorem PO.but {B : Nat} {S : Nat → Prop} {W W' : World} {v : Value} {ll : List (List Nat)} (h : PO B W v ll) (k : But S W W') (hs : ∀ g, B ≤ g → ¬ S g) : PO B W' v ll := by
  obtain ⟨us, h1, h2, h3⟩ := h
  exact ⟨us, h1, owns_row_blockB h2 fun g hg => k.block g (h2.lt g hg).2 (hs g (h2.lt g hg).1), h3.but k hs⟩
/-- in the midst of the document's Parse -/
structure RPM (bw b5 : Nat) (w W : World) (cv sv : Value) (cs ss : List Nat) : Prop where
  c4 : CBox W bw 28 con0L
  c5 : CBox W b5 47 rej0L
  c : InO (b5 + 1) W cv cs
  s : InO (b5 + 1) W sv ss
  bel : Below bw w W
  g5 : bw < b5
  ge : bw ≤ w.heap.size
  lt : b5 < W.heap.size
theorem RPM.past {bw b5 : Nat} {w W W' : World} {cv sv : Value} {cs ss : List Nat} (h : RPM bw b5 w W cv sv cs ss) (q : Below W.heap.size W W') : RPM bw b5 w W' cv sv cs ss := ⟨h.c4.past q, h.c5.past q, h.c.past q, h.s.past q, h.bel.trans (q.mono (Nat.le_trans h.ge h.bel.size)), h.g5, h.ge, Nat.lt_of_lt_of_le h.lt q.size⟩
/-- the container in the making; Z: where its box was made -/
structure RN (bz : Nat) (Z W : World) (tv xv yv dv : Value) (ts : List Ty) (D : List Nat) (d : Nat) : Prop where
  bel : Below bz Z W
  box : CBox W bz 28 [tv, xv, yv, dv, .int .i64 (d : Int)]
  t : W.ownsRow bz 77 3 tv ts.length (tV ts)
  dd : W.ownsRow bz 5 1 dv D.length (bV D)
  ge : bz ≤ Z.heap.size
section
variable {bz d : Nat} {Z W W' : World} {tv xv yv dv v' : Value} {ts : List Ty} {D : List Nat}
theorem RN.le (h : RN bz Z W tv xv yv dv ts D d) : bz ≤ W.heap.size := Nat.le_trans h.ge h.bel.size
theorem RN.past (h : RN bz Z W tv xv yv dv ts D d) (q : Below W.heap.size W W') : RN bz Z W' tv xv yv dv ts D d := ⟨h.bel.trans (q.mono h.le), h.box.past q, owns_past h.t q, owns_past h.dd q, h.ge⟩
end
end Go.Proofs.Ytndhabhlajldeaa
/- The laws' sameParts, same, rejects, of what is the same. -/
namespace Go.Proofs.Ytndhabhlajldeaa
open Go.RowKit
/-- in the midst of same -/
structure SmM (bw bx by' : Nat) (P R : Nat → Prop) (w W : World) (tv cv sv dv tu cu su du : Value) (c : Con) : Prop where
  c1 : CBox W bx 28 [tv, cv, sv, dv, .int .i64 c.n]
  c2 : CBox W by' 28 [tu, cu, su, du, .int .i64 c.n]
  t1 : TL P W tv c.ts
  t2 : TL R W tu c.ts
  p1 : PL P W cv c.cs
  p2 : PL R W cu c.cs
  s1 : PL P W sv c.ss
  s2 : PL R W su c.ss
  d1 : BL P W dv c.d
  d2 : BL R W du c.d
  bel : Below bw w W
  ge : bw ≤ w.heap.size
theorem SmM.past {bw bx by' : Nat} {P R : Nat → Prop} {w W W' : World} {tv cv sv dv tu cu su du : Value} {c : Con} (h : SmM bw bx by' P R w W tv cv sv dv tu cu su du c) (k : Below W.heap.size W W') : SmM bw bx by' P R w W' tv cv sv dv tu cu su du c :=
  ⟨h.c1.past k, h.c2.past k, h.t1.past k, h.t2.past k, h.p1.past k, h.p2.past k, h.s1.past k, h.s2.past k, h.d1.past k, h.d2.past k, h.bel.trans (k.mono (Nat.le_trans h.ge h.bel.size)), h.ge⟩
theorem ty_neq (x y z : Int) (W : World) : Sem.run Try.prog (binOp BinOp.neq 77 (.agg #[.int .i64 x, .int .i64 y, .int .i64 z]) (.agg #[.int .i64 x, .int .i64 y, .int .i64 z])) W = .ok (.bool false) W := by go_simp
end Go.Proofs.Ytndhabhlajldeaa
/- The laws' rejects, least, able. -/
namespace Go.Proofs.Ytndhabhlajldeaa
open Go.RowKit
def leastC : Con := ⟨[(0, 128, 0)], [[0]], [], [], 0⟩
def leastB : List Nat := [239, 0, 1, 1, 0, 4, 2, 0, 1, 0, 1, 255, 0, 0, 0, 0, 128, 0, 0, 0]
theorem least_may : May leastC := ⟨by decide, by decide, by decide, by decide, by decide, by decide, by decide, by decide, by decide⟩
theorem least_ser : ser leastC = leastB := by decide
theorem least_prs : prs leastB false = .ok leastC := by
  rw [← least_ser]
  exact prs_ser least_may false (fun _ => rfl)
theorem least_byt : Byt leastB := by unfold Byt; decide
theorem CO.cw {B : Nat} {W : World} {v : Value} {c : Con} (h : CO B W v c) (h1 : c.ts.length ≤ 1152921504606846976) (h2 : c.cs.length ≤ 1152921504606846976) (h3 : c.ss.length ≤ 1152921504606846976) (h4 : c.d.length ≤ 1152921504606846976) (hx : ∀ x ∈ c.cs, x.length ≤ 1152921504606846976) (hy : ∀ x ∈ c.ss, x.length ≤ 1152921504606846976) : CW (fun g => B ≤ g) W v c := by
  obtain ⟨tv, cv, sv, dv, e, k1, k2, k3, k4⟩ := h
  exact ⟨tv, cv, sv, dv, e, k1.tl h1, k2.pl h2 hx, k3.pl h3 hy, SL.own k4 h4 fun g hg => (k4.lt g hg).1⟩
end Go.Proofs.Ytndhabhlajldeaa
/- The laws' lent: bytes with marks in the room behind them. -/
namespace Go.Proofs.Ytndhabhlajldeaa
open Go.RowKit
end Go.Proofs.Ytndhabhlajldeaa
/- The laws' kept: are the marks there? -/
namespace Go.Proofs.Ytndhabhlajldeaa
open Go.RowKit
end Go.Proofs.Ytndhabhlajldeaa
/- What both Parses answer, in one form; bytes of one's own that are written over. -/
namespace Go.Proofs.Ytndhabhlajldeaa
open Go.RowKit
/-- the container that is told, the refusal that is told -/
def conOf : Except Er Con → Con
  | .ok c => c
  | .error _ => con0
def rjOf : Except Er Con → Int × Int
  | .ok _ => (0, 0)
  | .error (c, a) => (c, a)
theorem prs_fits {b : List Nat} (hb : Byt b) {opn : Bool} {c : Con} (g : prs b opn = .ok c) : c.ts.length ≤ 1024 ∧ c.cs.length ≤ 1024 ∧ c.ss.length ≤ 256 ∧ c.d.length ≤ 65535 ∧ (∀ x ∈ c.cs, x.length ≤ 65535) ∧ ∀ x ∈ c.ss, x.length ≤ 4294967295 := by
  have M := (prs_ok hb g).1
  have h1 := M.z1
  have h2 := M.z2
  exact ⟨by rw [M.nt]; exact M.n2, M.n2, M.ns, by omega, fun x hx => (chkP_ok _ _ M.pc x hx).2, fun x hx => (chkP_ok _ _ M.ps x hx).2⟩
theorem cw_form {P : Nat → Prop} {W : World} {v : Value} {c : Con} (h : CW P W v c) : ∃ ta tc ca cc sa sc da dc, v = .agg #[.slice ta c.ts.length tc, .slice ca c.cs.length cc, .slice sa c.ss.length sc, .slice da c.d.length dc, .int .i64 c.n] := by
  obtain ⟨tv, cv, sv, dv, rfl, h1, h2, h3, h4⟩ := h
  obtain ⟨ta, tc, rfl, _⟩ := h1.len
  obtain ⟨ca, cc, rfl, _⟩ := h2.len
  obtain ⟨sa, sc, rfl, _⟩ := h3.len
  obtain ⟨da, dc, rfl, _⟩ := h4.len
  exact ⟨ta, tc, ca, cc, sa, sc, da, dc, rfl⟩
/-- an answer, in one form -/
def Ans (B : Nat) (c : Con) (x y : Int) (e : Ending) (w' : World) : Prop := ∃ ta tc ca cc sa sc da dc, e = .returned (.tuple #[.agg #[.slice ta c.ts.length tc, .slice ca c.cs.length cc, .slice sa c.ss.length sc, .slice da c.d.length dc, .int .i64 c.n], .agg #[.int .i64 x, .slice none 0 0, .int .i64 0, .int .i64 y]]) ∧ CW (fun g => B ≤ g) w' (.agg #[.slice ta c.ts.length tc, .slice ca c.cs.length cc, .slice sa c.ss.length sc, .slice da c.d.length dc, .int .i64 c.n]) c
theorem PrD.ans {B : Nat} {r : Except Er Con} {e : Ending} {w' : World} (h : PrD B r e w') : Ans B (conOf r) (rjOf r).1 (rjOf r).2 e w' := by
  cases r with
  | ok c =>
    obtain ⟨v, e9, hw⟩ := h
    obtain ⟨ta, tc, ca, cc, sa, sc, da, dc, rfl⟩ := cw_form hw
    exact ⟨ta, tc, ca, cc, sa, sc, da, dc, e9, hw⟩
  | error er =>
    obtain ⟨ec, ea⟩ := er
    exact ⟨none, 0, none, 0, none, 0, none, 0, h, CW.zero _ _⟩
theorem PrA.ans {B : Nat} {b : List Nat} (hb : Byt b) {opn : Bool} {e : Ending} {w' : World} (h : PrA B (prs b opn) e w') : Ans B (conOf (prs b opn)) (rjOf (prs b opn)).1 (rjOf (prs b opn)).2 e w' := by
  refine PrD.ans ?_
  cases hr : prs b opn with
  | ok c =>
    rw [hr] at h
    obtain ⟨v, e9, hco⟩ := h
    obtain ⟨f1, f2, f3, f4, f5, f6⟩ := prs_fits hb hr
    exact ⟨v, e9, hco.cw (by omega) (by omega) (by omega) (by omega) (fun x hx => Nat.le_trans (f5 x hx) (by omega)) (fun x hx => Nat.le_trans (f6 x hx) (by omega))⟩
  | error er =>
    rw [hr] at h
    obtain ⟨ec, ea⟩ := er
    exact h
theorem parse_ans {P : Nat → Prop} (w : World) (v : Value) (b : List Nat) (opn : Bool) (h : BL P w v b) (hb : Byt b) (hl : b.length ≤ 16777216) :
    Calls Try.prog 31 #[v, .bool opn] w fun e w' => Ans w.heap.size (conOf (prs b opn)) (rjOf (prs b opn)).1 (rjOf (prs b opn)).2 e w' ∧ Below w.heap.size w w' :=
  (parse_is w v b opn h hb hl).mono fun _ _ q => ⟨PrA.ans hb q.1, q.2⟩
end Go.Proofs.Ytndhabhlajldeaa
/- The laws' twin: a container with lists of its own. -/
namespace Go.Proofs.Ytndhabhlajldeaa
open Go.RowKit
/-- a container in lists of its own, those of sections and of nested containers in unlike blocks -/
def DO (B : Nat) (W : World) (v : Value) (c : Con) : Prop := ∃ ta tc ca cc sa sc da dc, v = .agg #[.slice ta c.ts.length tc, .slice ca c.cs.length cc, .slice sa c.ss.length sc, .slice da c.d.length dc, .int .i64 c.n] ∧ W.ownsRow B 77 3 (.slice ta c.ts.length tc) c.ts.length (tV c.ts) ∧ PO B W (.slice ca c.cs.length cc) c.cs ∧ PO B W (.slice sa c.ss.length sc) c.ss ∧ W.ownsRow B 5 1 (.slice da c.d.length dc) c.d.length (bV c.d) ∧ ∀ g, OwnV (.slice sa c.ss.length sc) g → ¬ OwnV (.slice ca c.cs.length cc) g
theorem flat_each {ll : List (List Nat)} {n : Nat} (h : ll.flatten.length ≤ n) : ∀ x ∈ ll, x.length ≤ n := fun _ hx => Nat.le_trans (List.sublist_flatten_of_mem hx).length_le h
theorem DO.cw {B : Nat} {W : World} {v : Value} {c : Con} (h : DO B W v c) (hs : Small c) : CW (fun g => B ≤ g) W v c := by
  obtain ⟨ta, tc, ca, cc, sa, sc, da, dc, rfl, k1, k2, k3, k4, _⟩ := h
  unfold Small at hs
  exact ⟨_, _, _, _, rfl, SL.own k1 (by omega) fun g hg => (k1.lt g hg).1, k2.pl (by omega) (flat_each (by omega)), k3.pl (by omega) (flat_each (by omega)), SL.own k4 (by omega) fun g hg => (k4.lt g hg).1⟩
theorem DO.past {B : Nat} {W W' : World} {v : Value} {c : Con} (h : DO B W v c) (k : Below W.heap.size W W') : DO B W' v c := by
  obtain ⟨ta, tc, ca, cc, sa, sc, da, dc, e, k1, k2, k3, k4, k5⟩ := h
  exact ⟨ta, tc, ca, cc, sa, sc, da, dc, e, owns_past k1 k, k2.past k, k3.past k, owns_past k4 k, k5⟩
theorem PO.lt {B : Nat} {W : World} {v : Value} {ll : List (List Nat)} (h : PO B W v ll) : ∀ g, OwnV v g → B ≤ g ∧ g < W.heap.size := by
  obtain ⟨us, _, h2, _⟩ := h
  exact fun g hg => h2.lt g hg
theorem PO.alien {B q : Nat} {W W' : World} {v : Value} {ll : List (List Nat)} (h : PO B W v ll) (k : But (fun y => y = q) W W') (a : Alien W q) : PO B W' v ll := by
  obtain ⟨us, h1, h2, h3⟩ := h
  obtain ⟨t, m, c, _, n2, n3⟩ := a
  exact ⟨us, h1, owns_row_blockB h2 fun g hg => k.block g (h2.lt g hg).2 fun e => own_box h2 c (Ne.symm n2) hg e, h3.butT k c n3⟩
/-- the lists of a container -/
structure SrC (P : Nat → Prop) (W : World) (tv cv sv dv : Value) (c : Con) : Prop where
  t : TL P W tv c.ts
  p : PL P W cv c.cs
  s : PL P W sv c.ss
  d : BL P W dv c.d
theorem SrC.past {P : Nat → Prop} {W W' : World} {tv cv sv dv : Value} {c : Con} (h : SrC P W tv cv sv dv c) (k : Below W.heap.size W W') : SrC P W' tv cv sv dv c := ⟨h.t.past k, h.p.past k, h.s.past k, h.d.past k⟩
end Go.Proofs.Ytndhabhlajldeaa
/- The laws' weight: how many bytes, types and lists a container has. -/
namespace Go.Proofs.Ytndhabhlajldeaa
open Go.RowKit
end Go.Proofs.Ytndhabhlajldeaa
/- vouchtop's helpers: row, same, rows, big. -/
namespace Go.Proofs.Ytndhabhlajldeaa
open Go.RowKit
theorem owns_take {W : World} {B s n cap m : Nat} {t : TypeId} {a : Option Addr} {xs : List Value} (h : W.ownsRow B t s (.slice a n cap) n xs) (hm : m ≤ n) (ha : 0 < n) : W.ownsRow B t s (.slice a m cap) m (xs.take (m * s)) := by
  have hle : m * s ≤ n * s := Nat.mul_le_mul_right s hm
  refine ⟨by rw [List.length_take, h.1]; omega, ?_⟩
  rcases h.2 with ⟨_, e⟩ | ⟨g, c, cur, e, h1, h2, h3, h4, h5, h6⟩
  · omega
  · injection e with e1 e2 e3
    subst e1 e3
    refine Or.inr ⟨g, cap, cur, rfl, h1, h2, by omega, h4, h5, ?_⟩
    rw [← h6, List.take_take, Nat.min_eq_left hle]
theorem slice_to8 (a : Addr) (n cap j : Nat) (hj : j ≤ cap) (W : World) : Sem.run Try.prog (Instr.slice 22 (.slice (some a) n cap) none (some (.int .i64 (j : Int))) none) W = .ok (.slice (some a) j cap) W := by
  obtain ⟨g, k, p⟩ := a
  simp [Instr.slice, Instr.sliceBounds, run_underlying Try.underlying22, run_sliceBound W .i64 (j : Int) cap _ (by omega) (by omega), Addr.add]
theorem own_addr {W : World} {B n : Nat} {ad : Option Addr} {cap : Nat} {cs : List Value} {t : TypeId} {s : Nat} (h : W.ownsRow B t s (.slice ad n cap) n cs) (h0 : 0 < n) : ∃ a, ad = some a ∧ n ≤ cap := by
  rcases h.2 with ⟨_, e⟩ | ⟨g, c, cur, e, h1, h2, h3, h4, h5, h6⟩
  · omega
  · injection e with e1 e2 e3
    subst e1 e3
    exact ⟨_, rfl, h3⟩
set_option maxHeartbeats 8000000 in
set_option maxRecDepth 100000 in
theorem row_is {P : Nat → Prop} (w : World) (v : Value) (x : List Nat) (h : BL P w v x) (hn : x.length ≤ 16777216) : Calls Try.prog 47 #[v] w fun e w' => ∃ v', e = .returned v' ∧ w'.ownsRow w.heap.size 5 1 v' x.length (bV x) ∧ Below w.heap.size w w' := by
  obtain ⟨ad, cap, rfl, _, _⟩ := h.len
  have HB : Hid (∀ W, Below w.heap.size w W → BL P W (.slice ad x.length cap) x) := fun W hW => h.past hW
  have HLN : Hid (x.length ≤ 16777216) := hn
  clear h hn
  have b0 := below_alloc w (.cells #[] 5)
  have R0 : Hid ((w.alloc (.cells #[] 5)).ownsRow w.heap.size 5 1 (.slice (some ⟨w.heap.size, 0, none⟩) 0 0) ([] : List Nat).length (bV []) ∧ Below w.heap.size w (w.alloc (.cells #[] 5)) ∧ w.heap.size ≤ (w.alloc (.cells #[] 5)).heap.size) := ⟨World.ownsRow_lit w #[] 0 (Nat.le_refl _) (by unfold maxLen; omega) rfl, b0, b0.size⟩
  clear b0
  generalize hnx : x.length = nx at *
  have HNX : Hid (x.length = nx) := hnx
  clear hnx
  go_enter Try.func47, Try.ntmps47
  go_wp2_with (at_builtin; first
    | (refine wpList_appB rfl _ _ rfl w.heap.size R0.out.2.2 (.slice (some ⟨w.heap.size, 0, none⟩) 0 0) [] rfl R0.out.1 (.slice ad nx cap) x rfl (HB.out _ R0.out.2.1) (by rw [HNX.out]; have := HLN.out; simp only [List.length_nil]; omega) ?_
       intro v1 w1 hA
       have RA : w1.ownsRow w.heap.size 5 1 v1 x.length (bV x) := hA.row
       have RB : Below w.heap.size w w1 := R0.out.2.1.trans (hA.but.below (fun g hg => (World.ownsRow.lt R0.out.1 g hg).1) R0.out.2.2)
       obtain ⟨oa, oc, rfl⟩ := owns_sl RA
       rw [HNX.out] at RA
       have b1 := below_alloc w1 (.cells #[.int .u8 171, .int .u8 172] 5)
       have R1 : Hid ((w1.alloc (.cells #[.int .u8 171, .int .u8 172] 5)).ownsRow w.heap.size 5 1 (.slice oa nx oc) nx (bV x) ∧ Below w.heap.size w (w1.alloc (.cells #[.int .u8 171, .int .u8 172] 5)) ∧ BL (fun _ => True) (w1.alloc (.cells #[.int .u8 171, .int .u8 172] 5)) (.slice (some ⟨w1.heap.size, 0, none⟩) 2 2) [171, 172]) := ⟨owns_past RA b1, RB.trans (b1.mono RB.size), (BL.new w1 [171, 172] (by decide)).mono fun _ _ _ => trivial⟩
       (rw [HNX.out])
       clear RA RB b1 hA R0)
    | (refine wpList_appB rfl _ _ rfl w.heap.size R1.out.2.1.size (.slice oa nx oc) x rfl (by rw [HNX.out]; exact R1.out.1) (.slice (some ⟨w1.heap.size, 0, none⟩) 2 2) [171, 172] rfl R1.out.2.2 (by rw [HNX.out]; have := HLN.out; simp only [List.length_cons, List.length_nil]; omega) ?_
       intro v2 w2 hA
       have RA : w2.ownsRow w.heap.size 5 1 v2 (x ++ [171, 172]).length (bV (x ++ [171, 172])) := hA.row
       have RB : Below w.heap.size w w2 := R1.out.2.1.trans (hA.but.below (fun g hg => (World.ownsRow.lt R1.out.1 g hg).1) R1.out.2.1.size)
       have eL : (x ++ [171, 172]).length = nx + 2 := by rw [List.length_append, HNX.out]; rfl
       obtain ⟨pa, pc, rfl⟩ := owns_sl RA
       rw [eL] at RA
       obtain ⟨p, rfl, hpc⟩ := own_addr RA (by omega)
       have RT := owns_take RA (m := nx) (by omega) (by omega)
       have eT : (bV (x ++ [171, 172])).take (nx * 1) = bV x := by rw [Nat.mul_one, bV_app, List.take_append_of_le_length (by rw [bV_len, HNX.out]; exact Nat.le_refl _), List.take_of_length_le (by rw [bV_len, HNX.out]; exact Nat.le_refl _)]
       rw [eT] at RT
       have R2 : Hid (w2.ownsRow w.heap.size 5 1 (.slice (some p) nx pc) nx (bV x) ∧ Below w.heap.size w w2) := ⟨RT, RB⟩
       have hsl : ∀ W, Sem.run Try.prog (Instr.slice 22 (.slice (some p) (nx + 2) pc) none (some (.int .i64 (nx : Int))) none) W = .ok (.slice (some p) nx pc) W := fun W => slice_to8 p (nx + 2) pc nx (by omega) W
       (rw [eL])
       clear RA RB RT eL eT hA R1 hpc))
  go_ret
  exact ⟨_, rfl, R2.out.1, R2.out.2⟩
set_option maxHeartbeats 4000000 in
set_option maxRecDepth 100000 in
theorem topsame_is {P R : Nat → Prop} (w : World) (v u : Value) (x y : List Nat) (h : BL P w v x) (k : BL R w u y) : Calls Try.prog 50 #[v, u] w fun e w' => e = .returned (.bool (decide (x = y))) ∧ Below w.heap.size w w' := by
  obtain ⟨ad, cap, rfl, _, hx⟩ := h.len
  obtain ⟨bd, bp, rfl, _, hy⟩ := k.len
  have HX : Hid (∀ W, Below w.heap.size w W → BL P W (.slice ad x.length cap) x) := fun W hW => h.past hW
  have HY' : Hid (∀ W, Below w.heap.size w W → BL R W (.slice bd y.length bp) y) := fun W hW => k.past hW
  have nI : (x.length : Int) ≤ 1152921504606846976 := by omega
  clear h k
  by_cases e : x.length = y.length
  rotate_left
  · have ne : decide (x = y) = false := by simp only [decide_eq_false_iff_not]; exact fun q => e (by rw [q])
    rw [ne]
    generalize x.length = n at *
    generalize y.length = m at *
    have eI : ¬ (n : Int) = (m : Int) := by omega
    go_enter Try.func50, Try.ntmps50
    go_wp2
    go_ret
    exact ⟨rfl, Below.refl _ _⟩
  rw [← e] at HY' ⊢
  have HE : Hid (y.length = x.length) := e.symm
  clear e
  generalize hN : x.length = n at *
  have HN : Hid (x.length = n) := hN
  clear hN
  go_enter Try.func50, Try.ntmps50
  go_wp2
  go_loopw [5] (fun s5 wr => ∃ k : Nat, s5 = .int .i64 (k : Int) ∧ k ≤ n ∧ x.take k = y.take k ∧ Below w.heap.size w wr) (fun s5 _ => n - (intOf s5).toNat)
  case atStart => exact ⟨0, rfl, by omega, rfl, Below.refl _ _⟩
  case round =>
    obtain ⟨k, rfl, hk, ht, hw⟩ := hrel
    have HW : Hid (Below w.heap.size w wr) := hw
    clear hw
    have HT : Hid (x.take k = y.take k) := ht
    clear ht
    by_cases e : k = n
    · have e9 := e.symm
      clear e
      subst e9
      have E0 : Hid (decide (x = y) = true) := by
        unfold Hid
        have h9 := HT.out
        rw [List.take_of_length_le (by have := HN.out; omega), List.take_of_length_le (by have := HN.out; have := HE.out; omega)] at h9
        simp [h9]
      go_wp2
      go_ret
      exact ⟨by rw [E0.out] <;> rfl, HW.out⟩
    · have kn : (k : Int) < (n : Int) := by omega
      obtain ⟨p, hp⟩ : ∃ p, x[k]? = some p := ⟨x[k]'(by have := HN.out; omega), List.getElem?_eq_getElem _⟩
      obtain ⟨q, hq⟩ : ∃ q, y[k]? = some q := ⟨y[k]'(by have := HN.out; have := HE.out; omega), List.getElem?_eq_getElem _⟩
      obtain ⟨g1, a1, e1, c1⟩ := (HX.out wr HW.out).get hp
      obtain ⟨g2, a2, e2, c2⟩ := (HY'.out wr HW.out).get hq
      subst e1 e2
      by_cases e3 : p = q
      · have HS : Hid (x.take (k + 1) = y.take (k + 1)) := by unfold Hid; rw [take_snoc hp, take_snoc hq, HT.out, e3]
        subst e3
        clear hp hq e
        go_upto_region 6 with fail
        go_quiet (fail)
        go_wp2
        go_roundw
        case rel => exact ⟨k + 1, by first | rfl | go_num, by omega, HS.out, below_dn HW.out _⟩
        case measure => simp [intOf]; omega
      · have E0 : Hid (decide (x = y) = false) := by
          unfold Hid
          simp only [decide_eq_false_iff_not]
          intro q9
          rw [q9, hq] at hp
          exact e3 (Option.some.inj hp).symm
        have pq : ¬ (p : Int) = (q : Int) := by omega
        clear hp hq e
        go_upto_region 6 with fail
        go_quiet (fail)
        go_wp2
        go_ret
        exact ⟨by rw [E0.out] <;> rfl, below_dn HW.out _⟩
end Go.Proofs.Ytndhabhlajldeaa
