/- Pieces of one's own, each in a block of its own; append of one; the document's copied. -/
import Derived.Test.YtndhabhlajldeaaBrj
import Derived.Test.YtndhabhlajldeaaBri
import Derived.Test.YtndhabhlajldeaaBks
namespace Go.Proofs.Ytndhabhlajldeaa
open Go.RowKit
theorem owns_apart {B B' s s' n n' : Nat} {t t' : TypeId} {W : World} {v v' : Value} {cs cs' : List Value} (h : W.ownsRow B t s v n cs) (h' : W.ownsRow B' t' s' v' n' cs') (ht : t ≠ t') {k : Nat} (hk : OwnV v k) : ¬ OwnV v' k := fun hk' => by
  rcases h.2 with ⟨rfl, _⟩ | ⟨g, c, cur, rfl, _, hh, _⟩
  · cases hk
  · injection hk with hk
    subst hk
    rcases h'.2 with ⟨rfl, _⟩ | ⟨g', c', cur', rfl, _, hh', _⟩
    · cases hk'
    · injection hk' with hk'
      subst hk'
      rw [hh] at hh'
      cases hh'
      exact ht rfl
/-- a list of pieces of one's own -/
def PO (B : Nat) (W : World) (v : Value) (ll : List (List Nat)) : Prop := ∃ us : List Value, us.length = ll.length ∧ W.ownsRow B 22 1 v ll.length us ∧ Own1 B W us ll
theorem PO.nil (B : Nat) (W : World) : PO B W (.slice none 0 0) [] := ⟨[], rfl, World.ownsRow_nil _ _ _ _, fun i u l h => by cases h⟩
theorem PO.past {B : Nat} {W W' : World} {v : Value} {ll : List (List Nat)} (h : PO B W v ll) (k : Below W.heap.size W W') : PO B W' v ll := by
  obtain ⟨us, h1, h2, h3⟩ := h
  exact ⟨us, h1, owns_past h2 k, fun i u l a b => owns_past (h3 i u l a b) k⟩
theorem PO.sl {B : Nat} {W : World} {v : Value} {ll : List (List Nat)} (h : PO B W v ll) : ∃ ad cap, v = .slice ad ll.length cap := by
  obtain ⟨us, _, h2, _⟩ := h
  exact owns_sl h2
theorem PO.one {B : Nat} {W : World} {us : List Value} {ll : List (List Nat)} (h : us.length = ll.length) (h3 : Own1 B W us ll) : ∀ u ∈ us, u.oneCell' = true := fun u hu => by
  obtain ⟨i, hi⟩ := List.getElem?_of_mem hu
  have hl : i < ll.length := by rw [← h]; exact (List.getElem?_eq_some_iff.1 hi).1
  obtain ⟨ad, cap, rfl⟩ := owns_sl (h3 i u _ hi (List.getElem?_eq_getElem hl))
  rfl
/-- append of one piece -/
theorem wpList_appP {w : World} {ops : Array Oper} {rest : List Oper} {o : Oper} {a : Act} {Q : Exit → Act → World → Prop} (hgd : o.guard = none) (s x : Operand)
    (ho : o.op = .call { callee := .builtin .append, args := #[s, x], argTypes := #[26, 26] }) (B : Nat) (hB : B ≤ w.heap.size) (v : Value) (ll : List (List Nat)) (hs : a.eval s = v) (hown : PO B w v ll)
    (u : Value) (l : List Nat) (hu : w.ownsRow B 5 1 u l.length (bV l)) (hx : a.eval x = .slice (some ⟨w.heap.size, 0, none⟩) 1 1) (hn : ll.length + 1 ≤ 2199023255552)
    (h : ∀ v' w', PO B w' v' (ll ++ [l]) → Below B w w' → wpList Try.prog ops Q rest (a.put o.dst v') w') : wpList Try.prog ops Q (o :: rest) a (w.alloc (.cells #[u] 22)) :=
  wpList_plain hgd fun _ hK => by
    obtain ⟨us, hl, hr, h1⟩ := hown
    obtain ⟨ad, cap, rfl⟩ := owns_sl hr
    obtain ⟨ua, uc, rfl⟩ := owns_sl hu
    refine wp_apps s x 26 22 ho (.slice none 0 0) 1 24 Try.underlying26 Try.infoB rfl (by omega) (by omega) B (Nat.le_trans hB (below_alloc _ _).size) ad ll.length cap us hs (owns_past hr (below_alloc _ _)) ⟨w.heap.size, 0, none⟩ 1 1 [.slice ua l.length uc] hx rfl (fun j c hj => ?_) (fun y hy => by rw [List.mem_singleton.1 hy]; rfl) hn (fun ad' cap' w' q1 q2 q3 => ?_)
    · have hj0 : j = 0 := by have := (List.getElem?_eq_some_iff.1 hj).1; simpa using this
      subst hj0
      rw [Addr.add_mid]
      have := (CBox.new w 22 [.slice ua l.length uc]).cell 0
      rw [Nat.zero_add]
      exact this.trans hj
    · have b1 : But (OwnV (.slice ad ll.length cap)) w (w.alloc (.cells #[.slice ua l.length uc] 22)) := below_but (below_alloc _ _)
      have b2 : But (OwnV (.slice ad ll.length cap)) w w' := b1.trans (q2.mono fun k hk => own_iff.1 hk)
      have keep : ∀ {y : Value} {m : List Nat}, w.ownsRow B 5 1 y m.length (bV m) → w'.ownsRow B 5 1 y m.length (bV m) := fun hy => owns_row_blockB hy fun g hg => b2.block g (hy.lt g hg).2 fun e => owns_apart hr hy (by decide) e hg
      refine hK _ _ (h _ _ ⟨us ++ [.slice ua l.length uc], by simp [hl], by rw [List.length_append]; exact q1, ?_⟩ (b2.below (fun k e => (hr.lt k e).1) hB))
      have h2 : Own1 B w' us (ll ++ [l]) := fun i y m hi hm => by
        have hlt : i < ll.length := by rw [← hl]; exact (List.getElem?_eq_some_iff.1 hi).1
        rw [List.getElem?_append_left hlt] at hm
        exact keep (h1 i y m hi hm)
      exact h2.snoc (by rw [hl]; simp) (keep hu)
set_option maxHeartbeats 4000000 in
set_option maxRecDepth 100000 in
theorem copied_is {P : Nat → Prop} (w : World) (v : Value) (ll : List (List Nat)) (h : PL P w v ll) (hn : ll.length + ll.flatten.length ≤ 16777216) : Calls Try.prog 63 #[v] w fun e w' => ∃ v', e = .returned v' ∧ PO w.heap.size w' v' ll ∧ Below w.heap.size w w' := by
  obtain ⟨ad, cap, rfl, _, _⟩ := h.len
  have HPL : Hid (∀ W, Below w.heap.size w W → PL P W (.slice ad ll.length cap) ll) := fun W hW => h.past hW
  have nI : (ll.length : Int) ≤ 16777216 := by omega
  have HF : Hid (ll.length + ll.flatten.length ≤ 16777216) := hn
  have M0 : Hid (PO w.heap.size w (.slice none 0 0) [] ∧ Below w.heap.size w w) := ⟨PO.nil _ _, Below.refl _ _⟩
  generalize hN : ll.length = n at *
  have HN : Hid (ll.length = n) := hN
  clear h hn hN
  generalize hbw : w.heap.size = bw at *
  have GE : Hid (bw ≤ w.heap.size) := by unfold Hid; omega
  clear hbw
  go_enter Try.func63, Try.ntmps63
  go_wp2
  go_loopw [3, 4] (fun s3 s4 wr => ∃ k : Nat, s4 = .int .i64 (k : Int) ∧ k ≤ n ∧ PO bw wr s3 (ll.take k) ∧ Below bw w wr) (fun _ s4 _ => n - (intOf s4).toNat)
  case atStart => exact ⟨0, rfl, by omega, M0.out.1, M0.out.2⟩
  case round =>
    obtain ⟨k, rfl, hk, hP, hB⟩ := hrel
    have M : Hid (PO bw wr u3 (ll.take k) ∧ Below bw w wr) := ⟨hP, hB⟩
    clear hP hB M0
    by_cases e : k = n
    rotate_left
    · have kn : (k : Int) < (n : Int) := by omega
      obtain ⟨x, hx⟩ : ∃ x, ll[k]? = some x := ⟨ll[k]'(by have := HN.out; omega), List.getElem?_eq_getElem _⟩
      obtain ⟨g, a, u, eg, hcell, hb⟩ := (HPL.out wr M.out.2).get hx
      subst eg
      have HBx : Hid (BL P wr u x) := hb
      have HXX : Hid (ll.take (k + 1) = ll.take k ++ [x]) := by unfold Hid; rw [List.take_add_one, hx]; rfl
      have HLe : Hid (([] : List Nat).length + x.length ≤ 2199023255552) := by
        unfold Hid
        have h1 := HF.out
        have h2 := (List.sublist_flatten_of_mem (List.mem_of_getElem? hx)).length_le
        simp only [List.length_nil]
        omega
      have HLk : Hid ((ll.take k).length + 1 ≤ 2199023255552) := by unfold Hid; rw [List.length_take]; omega
      have GW : Hid (bw ≤ wr.heap.size) := Nat.le_trans GE.out M.out.2.size
      clear hx hb e
      go_wp2_with (at_builtin; first
        | (refine wpList_appB rfl _ _ rfl bw GW.out (.slice none 0 0) [] rfl (World.ownsRow_nil _ _ _ _) u x rfl HBx.out HLe.out ?_
           intro v1 w1 hA
           have M1 : Hid (w1.ownsRow bw 5 1 v1 x.length (bV x) ∧ Below wr.heap.size wr w1) := ⟨hA.row, hA.nil_below⟩
           clear hA
           obtain ⟨d1, c1, rfl⟩ := owns_sl M1.out.1)
        | (refine wpList_appP rfl _ _ rfl bw (Nat.le_trans GW.out M1.out.2.size) u3 (ll.take k) rfl (M.out.1.past M1.out.2) _ x M1.out.1 rfl HLk.out ?_
           intro v2 w2 hP hB
           have M2 : Hid (PO bw w2 v2 (ll.take (k + 1)) ∧ Below bw w w2) := ⟨by rw [HXX.out]; exact hP, M.out.2.trans ((M1.out.2.mono GW.out).trans hB)⟩
           clear hP hB))
      clear M M1 hcell
      go_roundw
      case rel => exact ⟨k + 1, by first | rfl | go_num, by omega, M2.out.1, M2.out.2⟩
      case measure => simp [intOf]; omega
    have e9 := e.symm
    clear e
    subst e9
    have M2 : Hid (PO bw wr u3 ll) := by have := M.out.1; rwa [List.take_of_length_le (by have := HN.out; omega)] at this
    go_wp2
    go_ret
    exact ⟨u3, rfl, M2.out, M.out.2⟩
end Go.Proofs.Ytndhabhlajldeaa
