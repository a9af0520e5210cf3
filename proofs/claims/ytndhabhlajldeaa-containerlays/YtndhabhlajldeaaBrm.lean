/- The laws' helpers: own, ownParts. -/
import Derived.Test.YtndhabhlajldeaaBrl
namespace Go.Proofs.Ytndhabhlajldeaa
open Go.RowKit
set_option maxHeartbeats 4000000 in
set_option maxRecDepth 100000 in
theorem own_is {P : Nat → Prop} (w : World) (v : Value) (x : List Nat) (h : BL P w v x) (hn : x.length ≤ 16777216) : Calls Try.prog 32 #[v] w fun e w' => ∃ v', e = .returned v' ∧ w'.ownsRow w.heap.size 5 1 v' x.length (bV x) ∧ Below w.heap.size w w' := by
  obtain ⟨ad, cap, rfl, _, _⟩ := h.len
  have HB : Hid (BL P w (.slice ad x.length cap) x) := h
  have HLe : Hid (([] : List Nat).length + x.length ≤ 2199023255552) := by unfold Hid; simp only [List.length_nil]; omega
  clear h
  go_enter Try.func32, Try.ntmps32
  go_wp2_with (at_builtin; refine wpList_appB rfl _ _ rfl w.heap.size (Nat.le_refl _) (.slice none 0 0) [] rfl (World.ownsRow_nil _ _ _ _) _ x rfl HB.out HLe.out ?_; intro v1 w1 hA)
  go_ret
  exact ⟨v1, rfl, hA.row, hA.nil_below⟩
set_option maxHeartbeats 4000000 in
set_option maxRecDepth 100000 in
theorem ownParts_is {P : Nat → Prop} (w : World) (v : Value) (ll : List (List Nat)) (h : PL P w v ll) (hn : ll.length + ll.flatten.length ≤ 16777216) : Calls Try.prog 55 #[v] w fun e w' => ∃ v', e = .returned v' ∧ PO w.heap.size w' v' ll ∧ Below w.heap.size w w' := by
  obtain ⟨ad, cap, rfl, _, _⟩ := h.len
  have HPL : Hid (∀ W, Below w.heap.size w W → PL P W (.slice ad ll.length cap) ll) := fun W hW => h.past hW
  have nI : (ll.length : Int) ≤ 16777216 := by omega
  have HF : Hid (ll.length + ll.flatten.length ≤ 16777216) := hn
  have M0 : Hid (PO w.heap.size w (.slice none 0 0) [] ∧ Below w.heap.size w w) := ⟨PO.nil _ _, Below.refl _ _⟩
  generalize hN : ll.length = n at *
  have HN : Hid (ll.length = n) := hN
  clear h hn hN
  generalize hbw : w.heap.size = bw at *
  have GE : Hid (bw ≤ w.heap.size) := by unfold Hid; omega
  clear hbw
  go_enter Try.func55, Try.ntmps55
  go_wp2
  go_loopw [3, 4] (fun s3 s4 wr => ∃ k : Nat, s4 = .int .i64 (k : Int) ∧ k ≤ n ∧ PO bw wr s3 (ll.take k) ∧ Below bw w wr) (fun _ s4 _ => n - (intOf s4).toNat)
  case atStart => exact ⟨0, rfl, by omega, M0.out.1, M0.out.2⟩
  case round =>
    obtain ⟨k, rfl, hk, hP, hB⟩ := hrel
    have M : Hid (PO bw wr u3 (ll.take k) ∧ Below bw w wr) := ⟨hP, hB⟩
    clear hP hB M0
    by_cases e : k = n
    rotate_left
    · have kn : (k : Int) < (n : Int) := by omega
      obtain ⟨x, hx⟩ : ∃ x, ll[k]? = some x := ⟨ll[k]'(by have := HN.out; omega), List.getElem?_eq_getElem _⟩
      obtain ⟨g, a, u, eg, hcell, hb⟩ := (HPL.out wr M.out.2).get hx
      subst eg
      have HXX : Hid (ll.take (k + 1) = ll.take k ++ [x]) := by unfold Hid; rw [List.take_add_one, hx]; rfl
      have OW : Hid (Calls Try.prog 32 #[u] wr fun e w' => ∃ v', e = .returned v' ∧ w'.ownsRow wr.heap.size 5 1 v' x.length (bV x) ∧ Below wr.heap.size wr w') := own_is wr u x hb (by
        have h1 := HF.out
        have h2 := (List.sublist_flatten_of_mem (List.mem_of_getElem? hx)).length_le
        omega)
      have HLk : Hid ((ll.take k).length + 1 ≤ 2199023255552) := by unfold Hid; rw [List.length_take]; omega
      have GW : Hid (bw ≤ wr.heap.size) := Nat.le_trans GE.out M.out.2.size
      clear hx hb e
      go_wp2_with (first
        | (go_at_call 32
           refine OW.out.mono ?_
           rintro e w1 ⟨v1, rfl, hO, hB⟩
           have M1 : Hid (w1.ownsRow bw 5 1 v1 x.length (bV x) ∧ Below wr.heap.size wr w1) := ⟨owns_base hO GW.out, hB⟩
           clear hO hB
           obtain ⟨d1, c1, rfl⟩ := owns_sl M1.out.1)
        | (at_builtin
           refine wpList_appP rfl _ _ rfl bw (Nat.le_trans GW.out M1.out.2.size) u3 (ll.take k) rfl (M.out.1.past M1.out.2) _ x M1.out.1 rfl HLk.out ?_
           intro v2 w2 hP hB
           have M2 : Hid (PO bw w2 v2 (ll.take (k + 1)) ∧ Below bw w w2) := ⟨by rw [HXX.out]; exact hP, M.out.2.trans ((M1.out.2.mono GW.out).trans hB)⟩
           clear hP hB))
      clear M M1 hcell
      go_roundw
      case rel => exact ⟨k + 1, by first | rfl | go_num, by omega, M2.out.1, M2.out.2⟩
      case measure => simp [intOf]; omega
    have e9 := e.symm
    clear e
    subst e9
    have M2 : Hid (PO bw wr u3 ll) := by have := M.out.1; rwa [List.take_of_length_le (by have := HN.out; omega)] at this
    go_wp2
    go_ret
    exact ⟨u3, rfl, M2.out, M.out.2⟩
end Go.Proofs.Ytndhabhlajldeaa
