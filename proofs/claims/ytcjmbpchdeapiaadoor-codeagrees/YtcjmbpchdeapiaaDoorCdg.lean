/- Package code: Leads. -/
import Derived.Test.YtcjmbpchdeapiaaDoorCdf
namespace Go.Proofs.YtcjmbpchdeapiaaDoor
open Go.RowKit
theorem owns_lower {B B' : Nat} {e : TypeId} {k : Nat} {v : Value} {n : Nat} {xs : List Value} {w : World} (h : w.ownsRow B e k v n xs) (hb : B' ≤ B) : w.ownsRow B' e k v n xs :=
  ⟨h.1, h.2.imp id fun ⟨g, c, cur, h1, h2, h3⟩ => ⟨g, c, cur, h1, Nat.le_trans hb h2, h3⟩⟩
/-- an instruction in a block -/
def Ins4 (W : World) (q : Nat) (x0 C : Int) (v : Value) (x3 : Int) : Prop := W.cell? ⟨q, 0, none⟩ = some (.int .i64 x0) ∧ W.cell? ⟨q, 1, none⟩ = some (.int .i64 C) ∧ W.cell? ⟨q, 2, none⟩ = some v ∧ W.cell? ⟨q, 3, none⟩ = some (.int .i64 x3)
theorem Ins4.new (W : World) (x0 C : Int) (ad : Option Addr) (n cap : Nat) (x3 : Int) : Ins4 (W.alloc (.cells #[.int .i64 x0, .int .i64 C, .slice ad n cap, .int .i64 x3] 40)) W.heap.size x0 C (.slice ad n cap) x3 := by
  refine ⟨?_, ?_, ?_, ?_⟩ <;> go_simp
theorem Ins4.past {W W' : World} {q : Nat} {x0 C x3 : Int} {v : Value} (h : Ins4 W q x0 C v x3) (hB : Below W.heap.size W W') : Ins4 W' q x0 C v x3 := by
  have l := World.block_lt_of_cell? W _ h.1
  obtain ⟨h0, h1, h2, h3⟩ := h
  exact ⟨(hB.cell (p := ⟨q, 0, none⟩) l).trans h0, (hB.cell (p := ⟨q, 1, none⟩) l).trans h1, (hB.cell (p := ⟨q, 2, none⟩) l).trans h2, (hB.cell (p := ⟨q, 3, none⟩) l).trans h3⟩
set_option maxHeartbeats 1000000 in
set_option maxRecDepth 100000 in
theorem leads_none (w : World) (hN : Nms w) (x0 C x3 : Int) (v : Value) (m : Nat) (b : Nat → Nat) (hm : m ≤ 140737488355328) (hv : BytesOf w v m b) (h : standsV x0 C x3 m (b 0) = false ∨ (C ≠ 224 ∧ C ≠ 225 ∧ C ≠ 226)) : Calls Tryd.prog 39 #[.agg #[.int .i64 x0, .int .i64 C, v, .int .i64 x3]] w fun e w' => e = .returned (.slice none 0 0) ∧ Below w.heap.size w w' := by
  have HS : Hid (∀ W : World, Below w.heap.size w W → Calls Tryd.prog 52 #[.agg #[.int .i64 x0, .int .i64 C, v, .int .i64 x3]] W fun e w' => e = .returned (.bool (standsV x0 C x3 m (b 0))) ∧ Below W.heap.size W w') := fun W hB => stands_is W (hN.past hB) x0 C x3 v m b hm (hv.below rfl hB)
  obtain ⟨ad, cap, rfl, _⟩ := hv
  have B0 : Hid (Below w.heap.size w (w.alloc (.cells #[.int .i64 x0, .int .i64 C, .slice ad m cap, .int .i64 x3] 40))) := (Below.refl _ w).alloc (Nat.le_refl _) _
  have I0 : Hid (Ins4 (w.alloc (.cells #[.int .i64 x0, .int .i64 C, .slice ad m cap, .int .i64 x3] 40)) w.heap.size x0 C (.slice ad m cap) x3) := Ins4.new w x0 C ad m cap x3
  cases hs : standsV x0 C x3 m (b 0) with
  | false =>
    rw [hs] at HS
    obtain ⟨c0, c1, c2, c3⟩ := I0.out
    go_enter Tryd.func39, Tryd.ntmps39
    go_wp2_with (go_at_call 52; refine (HS.out _ B0.out).mono ?_; rintro e w1 ⟨rfl, hB⟩; (have B1 : Hid (Below w.heap.size w w1) := B0.out.trans (hB.mono B0.out.size)); clear hB)
    go_ret
    exact ⟨rfl, B1.out⟩
  | true =>
    rw [hs] at HS
    obtain ⟨n0, n1, n2⟩ := h.resolve_left (by rw [hs]; simp)
    obtain ⟨c0, c1, c2, c3⟩ := I0.out
    go_enter Tryd.func39, Tryd.ntmps39
    go_upto_region 3 with (go_at_call 52; refine (HS.out _ B0.out).mono ?_; rintro e w1 ⟨rfl, hB⟩; (have B1 : Hid (Below w.heap.size w w1) := B0.out.trans (hB.mono B0.out.size)); (have I1 : Hid (Ins4 w1 w.heap.size x0 C (.slice ad m cap) x3) := I0.out.past hB); clear hB)
    clear c0 c1 c2 c3
    obtain ⟨c0, c1, c2, c3⟩ := I1.out
    go_wp2
    go_ret
    exact ⟨rfl, B1.out⟩
theorem stands_parts {x0 C x3 : Int} {m b0 : Nat} (h : standsV x0 C x3 m b0 = true) : 0 ≤ x0 ∧ x0 ≤ 1048576 ∧ x3 = x0 + 1 + m ∧ opB C = true ∧ fitsB (immT C.toNat) m b0 = true := by
  unfold standsV at h
  rw [Bool.and_eq_true, Bool.and_eq_true, decide_eq_true_eq] at h
  exact ⟨h.1.1, h.1.2.1, h.1.2.2, h.2.1, h.2.2⟩
theorem imm_jumps : immT 224 = 2 ∧ immT 225 = 2 ∧ immT 226 = -1 := by decide +kernel
set_option maxHeartbeats 1000000 in
set_option maxRecDepth 100000 in
theorem leads_one (w : World) (hN : Nms w) (x0 C x3 : Int) (v : Value) (m : Nat) (b : Nat → Nat) (hm : m ≤ 140737488355328) (hv : BytesOf w v m b) (hcp : ∀ ad cap, v = .slice ad m cap → m ≤ cap) (hs : standsV x0 C x3 m (b 0) = true) (hC : C = 224 ∨ C = 225) : Calls Tryd.prog 39 #[.agg #[.int .i64 x0, .int .i64 C, v, .int .i64 x3]] w fun e w' => ∃ pl, e = .returned pl ∧ w'.ownsRow w.heap.size 3 1 pl 1 (tgL x3 b 1) ∧ Below w.heap.size w w' := by
  have HS : Hid (∀ W : World, Below w.heap.size w W → Calls Tryd.prog 52 #[.agg #[.int .i64 x0, .int .i64 C, v, .int .i64 x3]] W fun e w' => e = .returned (.bool true) ∧ Below W.heap.size W w') := fun W hB => by have := stands_is W (hN.past hB) x0 C x3 v m b hm (hv.below rfl hB); rw [hs] at this; exact this
  obtain ⟨p0, p1, p2, _, p4⟩ := stands_parts hs
  have hm2 : m = 2 := by
    unfold fitsB at p4
    rcases hC with rfl | rfl
    · rw [show (224 : Int).toNat = 224 from rfl, imm_jumps.1, if_neg (by decide), decide_eq_true_eq] at p4; omega
    · rw [show (225 : Int).toNat = 225 from rfl, imm_jumps.2.1, if_neg (by decide), decide_eq_true_eq] at p4; omega
  subst hm2
  obtain ⟨ad, cap, rfl, hb, _, hc⟩ := hv
  obtain ⟨g, o, rfl, hcc⟩ := hc (by omega)
  have hcap := hcp _ _ rfl
  have gl := World.block_lt_of_cell? w _ (hcc 0 (by omega))
  have HT : Hid (∀ W : World, Below w.heap.size w W → Calls Tryd.prog 53 #[.int .i64 x3, .slice (some ⟨g, o, none⟩) 2 cap] W fun e w' => ∃ pl, e = .returned pl ∧ w'.ownsRow w.heap.size 3 1 pl 1 (tgL x3 b 1) ∧ Below w.heap.size w w') := fun W hB => (targets_is W x3 ⟨by omega, by omega⟩ g o 1 cap b (by omega) (by omega) hb (fun j hj => (hB.cell (p := ⟨g, o + j, none⟩) gl).trans (hcc j (by omega))) ⟨g, o, none⟩ (fun _ => rfl)).mono fun e w' ⟨pl, he, ho, hb2⟩ => ⟨pl, he, owns_lower ho hB.size, hB.trans (hb2.mono hB.size)⟩
  have B0 : Hid (Below w.heap.size w (w.alloc (.cells #[.int .i64 x0, .int .i64 C, .slice (some ⟨g, o, none⟩) 2 cap, .int .i64 x3] 40))) := (Below.refl _ w).alloc (Nat.le_refl _) _
  have I0 : Hid (Ins4 (w.alloc (.cells #[.int .i64 x0, .int .i64 C, .slice (some ⟨g, o, none⟩) 2 cap, .int .i64 x3] 40)) w.heap.size x0 C (.slice (some ⟨g, o, none⟩) 2 cap) x3) := Ins4.new w x0 C _ 2 cap x3
  clear hs p0 p1 p2 p4 hc hcc hb hcp
  rcases hC with rfl | rfl
  all_goals
    obtain ⟨c0, c1, c2, c3⟩ := I0.out
    go_enter Tryd.func39, Tryd.ntmps39
    go_upto_region 3 with (go_at_call 52; refine (HS.out _ B0.out).mono ?_; rintro e w1 ⟨rfl, hB⟩; (have B1 : Hid (Below w.heap.size w w1) := B0.out.trans (hB.mono B0.out.size)); (have I1 : Hid (Ins4 w1 w.heap.size x0 _ (.slice (some ⟨g, o, none⟩) 2 cap) x3) := I0.out.past hB); clear hB)
    clear c0 c1 c2 c3
    obtain ⟨c0, c1, c2, c3⟩ := I1.out
    go_wp2_with (go_at_call 53; refine (HT.out _ B1.out).mono ?_; rintro e w2 ⟨pl, rfl, hR⟩; (have RR : Hid _ := hR); clear hR)
    go_ret
    exact ⟨_, rfl, RR.out⟩
end Go.Proofs.YtcjmbpchdeapiaaDoor
