/- The document's All: its rows, by rising codes, as a list of its own. -/
import Derived.Test.YtbhldmfnhlifpaaDoorRvh
import Derived.Test.YtbhldmfnhlifpaaDoorItz
import Derived.OwnWalk
import Derived.Laws.OwnMore
import Derived.Deep.DeepCutAuto
import Derived.Deep.RegionHeld3
namespace Go.Proofs.YtbhldmfnhlifpaaDoor
open Go.RowKit
theorem Tryd.infoOp : (Tryd.prog.info? 55).map (fun i => (i.zero, i.size, i.bytes)) = some (some (.agg #[.int .i64 0, .string ⟨#[]⟩, .int .i64 0, .int .i64 0, .int .i64 0, .int .i64 0, .bool false]), 7, 64) := by kernel_rfl
/-- the cells of a row -/
def row7 (x : OpC) : List Value := [.int .i64 (x.1 : Int), .string (nameT x.1), .int .i64 (immT x.1), .int .i64 (inT x.1), .int .i64 (outT x.1), .int .i64 (gasT x.1), .bool (endsT x.1)]
def rows7 (l : List OpC) : List Value := l.flatMap row7
theorem rows7_snoc (l : List OpC) (x : OpC) : rows7 (l ++ [x]) = rows7 l ++ row7 x := by simp [rows7]
theorem owns_below {B : Nat} {e : TypeId} {k : Nat} {v : Value} {n : Nat} {xs : List Value} {w w' : World} (h : w.ownsRow B e k v n xs) (hb : Below w.heap.size w w') : w'.ownsRow B e k v n xs :=
  h.kept (row := none) ⟨hb.os, hb.tape, hb.output, hb.size, fun j hj _ => hb.block j hj⟩ (by cases hv : v.ownBlock <;> simp)
/-- a list of rows on the way -/
def AllUp (w : World) (k : Nat) (v : Value) (W : World) : Prop := W.ownsRow w.heap.size 55 7 v (opsUpto k).length (rows7 (opsUpto k)) ∧ Below w.heap.size w W
theorem AllUp.past {w W W' : World} {k : Nat} {v : Value} (h : AllUp w k v W) (hB : Below W.heap.size W W') : AllUp w k v W' := ⟨owns_below h.1 hB, h.2.trans (hB.mono h.2.size)⟩
theorem AllUp.no {w W : World} {k : Nat} {v : Value} (h : AllUp w k v W) (ho : isOp k = false) : AllUp w (k + 1) v W := by unfold AllUp; rw [opsUpto_no k ho]; exact h
theorem AllUp.yes {w wr w1 : World} {k : Nat} {v v' : Value} {o : Obj} (hk : k < 256 ∧ isOp k = true) (h : AllUp w k v wr) {xs : List Value} (hx : xs = row7 ⟨k, hk⟩)
    (hown' : w1.ownsRow w.heap.size 55 7 v' ((opsUpto k).length + 1) (rows7 (opsUpto k) ++ xs)) (hg : (wr.alloc o).grownBy w1 v.ownBlock) : AllUp w (k + 1) v' w1 := by
  subst hx
  refine ⟨?_, Below.grown (h.2.alloc h.2.size o) hg (by have := h.2.size; simp; omega) (fun q hq => (h.1.lt q hq).1)⟩
  rw [opsUpto_yes k hk, rows7_snoc, List.length_append]
  exact hown'
set_option maxHeartbeats 2000000 in
set_option maxRecDepth 100000 in
theorem rall_is (w : World) : Calls Tryd.prog 66 #[] w fun e w' => ∃ v, e = .returned v ∧ AllUp w 256 v w' := by
  obtain ⟨i0, hi, hz0, hz1, hz2⟩ := info_parts Tryd.infoOp
  go_enter Tryd.func66, Tryd.ntmps66
  go_wp2
  go_loopw [1, 2] (fun s1 s2 wx => ∃ k : Nat, k ≤ 256 ∧ s2 = .int .i64 (k : Int) ∧ AllUp w k s1 wx) (fun _ s2 _ => 256 - (intOf s2).toNat)
  case atStart => exact ⟨0, by omega, rfl, World.ownsRow_nil _ _ _ _, Below.refl _ _⟩
  case round =>
    obtain ⟨k, hk, rfl, hA⟩ := hrel
    have HA : Hid (AllUp w k u1 wr) := hA
    clear hA
    by_cases hkk : k < 256
    · have kI : (k : Int) < 256 := by omega
      have hl := opsUpto_len k
      cases ho : isOp k with
      | true =>
        have R1 : Hid (∀ W : World, Calls Tryd.prog 70 #[.int .i64 (k : Int)] W fun e w' => e = .returned (.tuple #[opv k, .bool true]) ∧ Below W.heap.size W w') := fun W => by have := rof_any (k : Int) W; rw [show opB (k : Int) = true by (unfold opB; rw [decide_eq_true (by omega), Int.toNat_natCast, ho]; rfl), show opV (k : Int) = opv k by (unfold opV; rw [show opB (k : Int) = true by (unfold opB; rw [decide_eq_true (by omega), Int.toNat_natCast, ho]; rfl), if_pos rfl, Int.toNat_natCast])] at this; exact this
        have HX : Hid ([.int .i64 (k : Int), .string (nameT k), .int .i64 (immT k), .int .i64 (inT k), .int .i64 (outT k), .int .i64 (gasT k), .bool (endsT k)] = row7 ⟨k, hkk, ho⟩) := rfl
        unfold opv at R1
        generalize nameT k = s at R1 HX
        generalize immT k = i1 at R1 HX
        generalize inT k = i2 at R1 HX
        generalize outT k = i3 at R1 HX
        generalize gasT k = i4 at R1 HX
        generalize endsT k = b5 at R1 HX
        go_upto_region 6 with (go_at_call 70; refine (R1.out _).mono ?_; rintro e w1 ⟨rfl, hB⟩; (have A1 : Hid (AllUp w k u1 w1) := HA.out.past hB); clear hB HA)
        have A2 : Hid (AllUp w k u1 (w1.alloc (.cells #[.int .i64 (k : Int), .string s, .int .i64 i1, .int .i64 i2, .int .i64 i3, .int .i64 i4, .bool b5] 55))) := A1.out.past ((Below.refl _ _).alloc (Nat.le_refl _) _)
        have O1 : Hid (Op7 (w1.alloc (.cells #[.int .i64 (k : Int), .string s, .int .i64 i1, .int .i64 i2, .int .i64 i3, .int .i64 i4, .bool b5] 55)) w1.heap.size (k : Int) s i1 i2 i3 i4 b5) := Op7.new w1 _ s i1 i2 i3 i4 b5
        generalize w1.alloc (.cells #[.int .i64 (k : Int), .string s, .int .i64 i1, .int .i64 i2, .int .i64 i3, .int .i64 i4, .bool b5] 55) = w2 at A2 O1 ⊢
        generalize w1.heap.size = q1 at O1 ⊢
        clear A1 R1
        have sz := A2.out.2.size
        obtain ⟨d0, d1, d2, d3, d4, d5, d6⟩ := O1.out
        go_wp2_with (at_builtin; refine wpList_append_own _ rfl _ _ 98 rfl w.heap.size 55 i0 (.agg #[.int .i64 0, .string ⟨#[]⟩, .int .i64 0, .int .i64 0, .int .i64 0, .int .i64 0, .bool false]) 7 64 Tryd.underlying98 hi hz0 hz1 hz2 rfl (by decide) _ _ _ rfl (World.ownsRow.alloc A2.out.1 _) ⟨w2.heap.size, 0, none⟩ 1 1 [.int .i64 (k : Int), .string s, .int .i64 i1, .int .i64 i2, .int .i64 i3, .int .i64 i4, .bool b5] rfl rfl (fun i u hi => (by have hj0 : i = 0 ∨ i = 1 ∨ i = 2 ∨ i = 3 ∨ i = 4 ∨ i = 5 ∨ i = 6 := (by have := (List.getElem?_eq_some_iff.1 hi).1; simp at this; omega); rcases hj0 with rfl | rfl | rfl | rfl | rfl | rfl | rfl <;> (simp at hi; subst hi; simp [Addr.add]))) (fun u hu => (by simp at hu; rcases hu with rfl | rfl | rfl | rfl | rfl | rfl | rfl <;> rfl)) (by unfold maxLen; omega) (by omega) (by simp; omega) ?_; intro v' w3 hown' hgrow _)
        have A3 : Hid (AllUp w (k + 1) v' w3) := AllUp.yes ⟨hkk, ho⟩ A2.out HX.out hown' hgrow
        clear hown' hgrow d0 d1 d2 d3 d4 d5 d6
        go_wp2
        go_roundw
        case rel => exact ⟨k + 1, by omega, by go_num, A3.out⟩
        case measure => first | go_num | (show _ < _; simp [intOf]; omega)
      | false =>
        have R1 : Hid (∀ W : World, Calls Tryd.prog 70 #[.int .i64 (k : Int)] W fun e w' => e = .returned (.tuple #[.agg #[.int .i64 0, .string ⟨#[]⟩, .int .i64 0, .int .i64 0, .int .i64 0, .int .i64 0, .bool false], .bool false]) ∧ Below W.heap.size W w') := fun W => by have := rof_any (k : Int) W; rw [show opB (k : Int) = false by (unfold opB; rw [decide_eq_true (by omega), Int.toNat_natCast, ho]; rfl), show opV (k : Int) = opz by (unfold opV; rw [show opB (k : Int) = false by (unfold opB; rw [decide_eq_true (by omega), Int.toNat_natCast, ho]; rfl), if_neg (by decide)])] at this; exact this
        go_upto_region 6 with (go_at_call 70; refine (R1.out _).mono ?_; rintro e w1 ⟨rfl, hB⟩; (have A1 : Hid (AllUp w k u1 w1) := HA.out.past hB); clear hB HA)
        have A2 : Hid (AllUp w (k + 1) u1 (w1.alloc (.cells #[.int .i64 0, .string ⟨#[]⟩, .int .i64 0, .int .i64 0, .int .i64 0, .int .i64 0, .bool false] 55))) := (A1.out.past ((Below.refl _ _).alloc (Nat.le_refl _) _)).no ho
        clear A1 R1
        go_wp2
        go_roundw
        case rel => exact ⟨k + 1, by omega, by go_num, A2.out⟩
        case measure => first | go_num | (show _ < _; simp [intOf]; omega)
    · obtain rfl : k = 256 := by omega
      go_wp2
      go_ret
      exact ⟨_, rfl, HA.out⟩
end Go.Proofs.YtbhldmfnhlifpaaDoor
