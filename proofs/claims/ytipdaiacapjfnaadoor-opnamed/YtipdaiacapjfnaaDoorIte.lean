/- op.ByName. -/
import Derived.Test.YtipdaiacapjfnaaDoorItc
import Derived.Test.YtipdaiacapjfnaaDoorRgn
namespace Go.Proofs.YtipdaiacapjfnaaDoor
open Go.RowKit Go.Shelf
attribute [local go_sem] Oper.semAt_some
/-- a row's block that may be written -/
def Op7f (W : World) (b : Nat) (c : Int) (s : ByteArray) (i j k g : Int) (e : Bool) : Prop := Op7 W b c s i j k g e ∧ (W.frozen? ⟨b, 0, none⟩ = false ∧ W.frozen? ⟨b, 1, none⟩ = false ∧ W.frozen? ⟨b, 2, none⟩ = false ∧ W.frozen? ⟨b, 3, none⟩ = false ∧ W.frozen? ⟨b, 4, none⟩ = false ∧ W.frozen? ⟨b, 5, none⟩ = false ∧ W.frozen? ⟨b, 6, none⟩ = false)
theorem op7f_own {β : Type} (b : Nat) (c : Int) (s : ByteArray) (i j k g : Int) (e : Bool) : Own (fun (_ : β) W => Op7f W b c s i j k g e) := fun _ A B row h hg hr => by
  obtain ⟨⟨h0, h1, h2, h3, h4, h5, h6⟩, f0, f1, f2, f3, f4, f5, f6⟩ := h
  exact ⟨⟨cell_kept h0 hg hr, cell_kept h1 hg hr, cell_kept h2 hg hr, cell_kept h3 hg hr, cell_kept h4 hg hr, cell_kept h5 hg hr, cell_kept h6 hg hr⟩, (frozen_kept h0 hg hr).trans f0, (frozen_kept h1 hg hr).trans f1, (frozen_kept h2 hg hr).trans f2, (frozen_kept h3 hg hr).trans f3, (frozen_kept h4 hg hr).trans f4, (frozen_kept h5 hg hr).trans f5, (frozen_kept h6 hg hr).trans f6⟩
theorem Op7f.new (W : World) (c : Int) (s : ByteArray) (i j k g : Int) (e : Bool) : Op7f (W.alloc (.cells #[.int .i64 c, .string s, .int .i64 i, .int .i64 j, .int .i64 k, .int .i64 g, .bool e] 24)) W.heap.size c s i j k g e := by
  refine ⟨Op7.new W c s i j k g e, ?_, ?_, ?_, ?_, ?_, ?_, ?_⟩ <;> go_simp
theorem results_two {fn : Func} {p q : Tmp} {ty ty2 : TypeId} (h : fn.results = #[.cell p ty, .cell q ty2]) (tmps : Array Value) (P : Program) (w : World) (a b : Addr) (ha : tmps.getD p undef = .pointer (some a)) (hb : tmps.getD q undef = .pointer (some b)) {v x : Value} (hl : (loadVar ty a).run P w = .ok v w) (hl2 : (loadVar ty2 b).run P w = .ok x w) : (results fn tmps).run P w = .ok (.tuple #[v, x]) w := by
  have ha' : tmps[p]?.getD undef = .pointer (some a) := by simpa using ha
  have hb' : tmps[q]?.getD undef = .pointer (some b) := by simpa using hb
  simp only [results, h]
  simp [ha', hb', hl, hl2, asAddr]
/-- does a row have this name? -/
def nameEq (s : ByteArray) (x : OpC) : Bool := (nameT x.1).toList == s.toList
/-- none of these has the name -/
def NoneYet (s : ByteArray) (pre : List OpC) : Prop := ∀ y ∈ pre, nameEq s y = false
theorem NoneYet.snoc {s : ByteArray} {pre : List OpC} {x : OpC} (h : NoneYet s pre) (hx : nameEq s x = false) : NoneYet s (pre ++ [x]) := fun y hy => by
  rcases List.mem_append.1 hy with h1 | h1
  · exact h y h1
  · rw [List.mem_singleton.1 h1]; exact hx
/-- the last of these has it, and lies as the result -/
def FoundAt (s : ByteArray) (b : Nat) (cd : Code) (pre : List OpC) (W : World) : Prop := ∃ x : OpC, Op7 W b (x.1 : Int) (nameT x.1) (immT x.1) (inT x.1) (outT x.1) (gasT x.1) (endsT x.1) ∧ W.cell? ⟨b + 1, 0, none⟩ = some (.bool true) ∧ cd = .ret ∧ ∃ p, pre = p ++ [x] ∧ NoneYet s p ∧ nameEq s x = true
set_option maxRecDepth 100000 in
set_option maxHeartbeats 2000000 in
theorem byName_in (s : ByteArray) (w : World) (hN : Nms w) : CallsIn Fence.wide 10 Tryd.prog 13 #[.string s] w fun e w' => Below w.heap.size w w' ∧
    ((∃ pre x, pre ++ [x] <+: opsUpto 256 ∧ NoneYet s pre ∧ nameEq s x = true ∧ e = .returned (.tuple #[opv x.1, .bool true])) ∨
     (NoneYet s (opsUpto 256) ∧ e = .returned (.tuple #[opz, .bool false]))) := by
  refine callsIn_of_wp_marks Tryd.func13 rfl trivial ?_ rfl
  simp only [Tryd.ntmps13, List.size_toArray, List.length_cons, List.length_nil, Nat.reduceAdd, Nat.reduceSub, Array.replicate_succ, Array.replicate_zero, List.push_toArray, List.append_toArray, List.nil_append, List.cons_append]
  gi_wp2_with (refine ⟨trivial, ?_⟩; gi_at_call 15; refine (callsIn_wide.2 (all_is _)).mono ?_; rintro e w' ⟨rfl, hw⟩; rw [hw]; clear hw)
  have hnN : ∀ k g, tabOf k = some g → g < w.heap.size := fun k g hk => World.block_lt_of_cell? w _ (hN k g hk 0 (by omega))
  have bK := ((Boxed.new w 9 (.string s)).alloc (.cells #[.int .i64 0, .string ⟨#[]⟩, .int .i64 0, .int .i64 0, .int .i64 0, .int .i64 0, .bool false] 24)).alloc (.cells #[.bool false] 4)
  have bO := op7f_own (β := Unit) _ _ _ _ _ _ _ _ () _ _ none (Op7f.new (w.alloc (.cells #[.string s] 9)) 0 ⟨#[]⟩ 0 0 0 0 false) (World.grownBy_alloc _ (.cells #[.bool false] 4) none) (fun r e => by cases e)
  have bR := Boxed.new ((w.alloc (.cells #[.string s] 9)).alloc (.cells #[.int .i64 0, .string ⟨#[]⟩, .int .i64 0, .int .i64 0, .int .i64 0, .int .i64 0, .bool false] 24)) 4 (.bool false)
  simp only [World.size_alloc] at bR bO
  have hB0 : Below w.heap.size w (((w.alloc (.cells #[.string s] 9)).alloc (.cells #[.int .i64 0, .string ⟨#[]⟩, .int .i64 0, .int .i64 0, .int .i64 0, .int .i64 0, .bool false] 24)).alloc (.cells #[.bool false] 4)) := (((Below.refl _ w).alloc (Nat.le_refl _) _).alloc (by simp) _).alloc (by simp; omega) _
  have hsz : (((w.alloc (.cells #[.string s] 9)).alloc (.cells #[.int .i64 0, .string ⟨#[]⟩, .int .i64 0, .int .i64 0, .int .i64 0, .int .i64 0, .bool false] 24)).alloc (.cells #[.bool false] 4)).heap.size = w.heap.size + 3 := by simp
  obtain ⟨W0, hW0⟩ : ∃ W0, ((w.alloc (.cells #[.string s] 9)).alloc (.cells #[.int .i64 0, .string ⟨#[]⟩, .int .i64 0, .int .i64 0, .int .i64 0, .int .i64 0, .bool false] 24)).alloc (.cells #[.bool false] 4) = W0 := ⟨_, rfl⟩
  rw [hW0] at bK bO bR hB0 hsz ⊢
  clear hW0
  refine wpIn_rangeFunc_ownH (F := Fence.wide) rfl (by omega) (gf := 29) (lb := #[]) rfl trivial (enters_of Tryd.func29 (by kernel_rfl) rfl)
    (all_stops 9 (by omega) w.heap.size W0 (hN.past hB0) hnN) belowK_t (belowK_b (by omega)) (Below.refl _ _) (fun _ => rfl)
    (fun pre W => ((Boxed W w.heap.size 9 (.string s) ∧ Op7f W (w.heap.size + 1) 0 ⟨#[]⟩ 0 0 0 0 false) ∧ Boxed W (w.heap.size + 1 + 1) 4 (.bool false)) ∧ (Below w.heap.size w W ∧ NoneYet s pre))
    (fun cd pre W => FoundAt s (w.heap.size + 1) cd pre W ∧ Below w.heap.size w W)
    (OwnFrom.and (OwnFrom.and (OwnFrom.and (Own.from (boxed_own _ _ _) _) (Own.from (op7f_own _ _ _ _ _ _ _ _) _)) (Own.from (boxed_own _ _ _) _)) (OwnFrom.and (ownFrom_below (Nat.le_refl _) (by omega)) (fun _ _ _ _ h _ _ => h)))
    (fun cd => OwnFrom.and (Own.from (fun pre A B row h hg hr => by obtain ⟨x, ⟨h0, h1, h2, h3, h4, h5, h6⟩, cT, rest⟩ := h; exact ⟨x, ⟨cell_kept h0 hg hr, cell_kept h1 hg hr, cell_kept h2 hg hr, cell_kept h3 hg hr, cell_kept h4 hg hr, cell_kept h5 hg hr, cell_kept h6 hg hr⟩, cell_kept cT hg hr, rest⟩) _) (ownFrom_below (Nat.le_refl _) (by omega)))
    ⟨⟨⟨bK, bO⟩, bR⟩, hB0, fun y hy => (by cases hy)⟩
    (fun x a' W => ∃ Bx, w.heap.size + 1 + 1 < Bx ∧ Op7 W Bx (x.1 : Int) (nameT x.1) (immT x.1) (inT x.1) (outT x.1) (gasT x.1) (endsT x.1) ∧ a' = { tmps := #[.string s, .pointer (some ⟨w.heap.size, 0, none⟩), .pointer (some ⟨w.heap.size + 1, 0, none⟩), .pointer (some ⟨w.heap.size + 1 + 1, 0, none⟩), .pointer (some ⟨Bx, 0, none⟩), .func (.func 29) #[] #[], opv x.1, undef, undef, undef, undef, undef, undef], defers := [] })
    (fun x a' _ X Y row hs hg hr => by obtain ⟨Bx, h1, ⟨h0, g1, h2, h3, h4, h5, h6⟩, e⟩ := hs; have hr' : ∀ r, row = some r → ∃ o : Obj, X.heap[r]? = some o ∧ o.isCells = false := fun r e => (hr r e).2; exact ⟨Bx, h1, ⟨cell_kept h0 hg hr', cell_kept g1 hg hr', cell_kept h2 hg hr', cell_kept h3 hg hr', cell_kept h4 hg hr', cell_kept h5 hg hr', cell_kept h6 hg hr'⟩, e⟩)
    ?assign ?body ?done ?stop
  case assign =>
    rintro l pre x W K ⟨⟨⟨bK1, bO1⟩, bR1⟩, hB1, hp⟩ hK
    have hx : opv x.1 = .agg #[.int .i64 (x.1 : Int), .string (nameT x.1), .int .i64 (immT x.1), .int .i64 (inT x.1), .int .i64 (outT x.1), .int .i64 (gasT x.1), .bool (endsT x.1)] := rfl
    gi_wp2
    exact hK _ _ ((KeepsOthers.alloc _ _).from _) ((Below.refl _ W).alloc hB1.size _) ⟨⟨⟨bK1.alloc _, op7f_own (β := Unit) _ _ _ _ _ _ _ _ () _ _ none bO1 (World.grownBy_alloc _ _ none) (fun r e => by cases e)⟩, bR1.alloc _⟩, hB1.alloc hB1.size _, hp⟩ ⟨W.heap.size, bR1.lt, Op7.new W _ _ _ _ _ _ _, rfl⟩
  case body =>
    rintro l pre ⟨c, hc, hop⟩ a' W hl ⟨r, hr⟩ ⟨⟨⟨bK1, bO1⟩, bR1⟩, hB1, hp⟩ ⟨Bx, hBx, oX, rfl⟩ hlt
    obtain ⟨x0, x1, x2, x3, x4, x5, x6⟩ := oX
    have cK := bK1.cell
    cases hm : nameEq s ⟨c, hc, hop⟩ with
    | false =>
      have hm2 : ((nameT c).toList == s.toList) = false := hm
      gi_wp2
      exact ⟨KeepsFrom.refl _ _, Below.refl _ _, ⟨⟨⟨bK1, bO1⟩, bR1⟩, hB1, hp.snoc hm⟩⟩
    | true =>
      have hm2 : ((nameT c).toList == s.toList) = true := hm
      obtain ⟨⟨d0, d1, d2, d3, d4, d5, d6⟩, f0, f1, f2, f3, f4, f5, f6⟩ := bO1
      have cR := bR1.cell
      have fR := bR1.frozen
      gi_wp2
      refine ⟨KeepsOthers.from ?_ _, ?_, ?_⟩
      · repeat' (first | with_reducible exact KeepsOthers.setCell _ _ _ | with_reducible refine KeepsOthers.trans ?_ (KeepsOthers.setCell _ _ _))
      · refine ⟨⟨c, hc, hop⟩, ⟨?_, ?_, ?_, ?_, ?_, ?_, ?_⟩, ?_, rfl, pre, rfl, hp, hm⟩ <;> go_simp
      · repeat' (first | with_reducible exact hB1 | with_reducible refine Below.setCell ?_ ?_ _ | (simp; done) | (simp; omega))
  case done =>
    rintro D zs W hD rfl ⟨⟨⟨bK1, bO1⟩, bR1⟩, hB1, hp⟩ hK
    have hDl : D < W.heap.size := (Array.getElem?_eq_some_iff.1 hK).1
    obtain ⟨⟨d0, d1, d2, d3, d4, d5, d6⟩, f0, f1, f2, f3, f4, f5, f6⟩ := bO1
    have cR := bR1.cell
    have fR := bR1.frozen
    gi_wp2
    refine (?_ : ∀ V : World, (KeepsOthers W V ∧ Below w.heap.size w V ∧ Op7 V (w.heap.size + 1) 0 ⟨#[]⟩ 0 0 0 0 false ∧ V.cell? ⟨w.heap.size + 1 + 1, 0, none⟩ = some (.bool false)) → _) _ ⟨?_, ?_, ⟨?_, ?_, ?_, ?_, ?_, ?_, ?_⟩, ?_⟩
    · rintro V ⟨hV, hBv, oV, cV⟩
      have hK9 : V.heap[D]? = some (.deferred (some [])) := hV.same D _ hK rfl
      refine ⟨by simp, .inl ⟨_, _, rfl, run_takeDeferred hK9, ?_⟩⟩
      have hg := grownBy_putObj' V D (.deferred none)
      have hr9 : ∀ r, some D = some r → ∃ o : Obj, V.heap[r]? = some o ∧ o.isCells = false := fun r e => by cases e; exact ⟨_, hK9, rfl⟩
      obtain ⟨h0, h1, h2, h3, h4, h5, h6⟩ := oV
      have e0 := cell_kept h0 hg hr9
      have e1 := cell_kept h1 hg hr9
      have e2 := cell_kept h2 hg hr9
      have e3 := cell_kept h3 hg hr9
      have e4 := cell_kept h4 hg hr9
      have e5 := cell_kept h5 hg hr9
      have e6 := cell_kept h6 hg hr9
      have e7 := cell_kept cV hg hr9
      have hBf := hBv.trans (belowK_b (w := w) (Nat.le_refl _) _ D _ (.deferred none) (by omega) hK9 rfl rfl)
      exact ⟨_, results_two rfl _ _ _ ⟨w.heap.size + 1, 0, none⟩ ⟨w.heap.size + 1 + 1, 0, none⟩ rfl rfl (by go_simp; rfl) (by go_simp), hBf, .inr ⟨hp, rfl⟩⟩
    · repeat' (first | with_reducible exact KeepsOthers.setCell _ _ _ | with_reducible refine KeepsOthers.trans ?_ (KeepsOthers.setCell _ _ _))
    · repeat' (first | with_reducible exact hB1 | with_reducible refine Below.setCell ?_ ?_ _ | (simp; done) | (simp; omega))
    all_goals go_simp
  case stop =>
    rintro D c pre W hD hpre ⟨⟨x, oX, cT, rfl, p, rfl, hp, hx⟩, hB1⟩ hK
    gi_wp2
    refine ⟨by simp, .inl ⟨_, _, rfl, run_takeDeferred hK, ?_⟩⟩
    have hg := grownBy_putObj' W D (.deferred none)
    have hr9 : ∀ r, some D = some r → ∃ o : Obj, W.heap[r]? = some o ∧ o.isCells = false := fun r e => by cases e; exact ⟨_, hK, rfl⟩
    obtain ⟨h0, h1, h2, h3, h4, h5, h6⟩ := oX
    have e0 := cell_kept h0 hg hr9
    have e1 := cell_kept h1 hg hr9
    have e2 := cell_kept h2 hg hr9
    have e3 := cell_kept h3 hg hr9
    have e4 := cell_kept h4 hg hr9
    have e5 := cell_kept h5 hg hr9
    have e6 := cell_kept h6 hg hr9
    have e7 := cell_kept cT hg hr9
    have hBf := hB1.trans (belowK_b (w := w) (Nat.le_refl _) _ D _ (.deferred none) (by omega) hK rfl rfl)
    exact ⟨_, results_two rfl _ _ _ ⟨w.heap.size + 1, 0, none⟩ ⟨w.heap.size + 1 + 1, 0, none⟩ rfl rfl (by go_simp; rfl) (by go_simp), hBf, .inl ⟨p, x, hpre, hp, hx, rfl⟩⟩
end Go.Proofs.YtipdaiacapjfnaaDoor
