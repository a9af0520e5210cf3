/- What code.Leads answers, of any instruction. -/
import Derived.Test.YtbhldmfnhlifpaaDoorCdh
import Derived.Test.YtbhldmfnhlifpaaDoorCrd
namespace Go.Proofs.YtbhldmfnhlifpaaDoor
open Go.RowKit
theorem leads_any (w : World) (hN : Nms w) (x0 C x3 : Int) (v : Value) (m : Nat) (b : Nat → Nat) (hm : m ≤ 140737488355328) (hv : BytesOf w v m b) (hcp : ∀ ad cap, v = .slice ad m cap → m ≤ cap) : Calls Tryd.prog 33 #[.agg #[.int .i64 x0, .int .i64 C, v, .int .i64 x3]] w fun e w' => ∃ pl, e = .returned pl ∧ w'.ownsRow w.heap.size 3 1 pl (lgN (standsV x0 C x3 m (b 0)) C (b 0)) (tgL x3 (fun j => b (lgO C + j)) (lgN (standsV x0 C x3 m (b 0)) C (b 0))) ∧ Below w.heap.size w w' := by
  have none (h : standsV x0 C x3 m (b 0) = false ∨ (C ≠ 224 ∧ C ≠ 225 ∧ C ≠ 226)) (hz : lgN (standsV x0 C x3 m (b 0)) C (b 0) = 0) : Calls Tryd.prog 33 #[.agg #[.int .i64 x0, .int .i64 C, v, .int .i64 x3]] w fun e w' => ∃ pl, e = .returned pl ∧ w'.ownsRow w.heap.size 3 1 pl (lgN (standsV x0 C x3 m (b 0)) C (b 0)) (tgL x3 (fun j => b (lgO C + j)) (lgN (standsV x0 C x3 m (b 0)) C (b 0))) ∧ Below w.heap.size w w' := by
    rw [hz]
    exact (leads_none w hN x0 C x3 v m b hm hv h).mono fun e w' ⟨he, hB⟩ => ⟨_, he, World.ownsRow_nil _ _ _ _, hB⟩
  cases hs : standsV x0 C x3 m (b 0) with
  | false => rw [← hs]; exact none (Or.inl hs) (by rw [hs]; unfold lgN; rw [if_neg (by simp)])
  | true =>
    by_cases h1 : C = 224 ∨ C = 225
    · have e1 : lgN true C (b 0) = 1 := by unfold lgN; rw [if_pos rfl, if_pos h1]
      have e2 : lgO C = 0 := by unfold lgO; rw [if_neg (by omega)]
      rw [e1, e2]
      simp only [Nat.zero_add]
      exact leads_one w hN x0 C x3 v m b hm hv hcp hs h1
    · by_cases h2 : C = 226
      · subst h2
        have e1 : lgN true 226 (b 0) = b 0 + 1 := by unfold lgN; rw [if_pos rfl, if_neg (by omega), if_pos rfl]
        have e2 : (fun j => b (lgO 226 + j)) = fun j => b (j + 1) := by funext j; unfold lgO; rw [if_pos rfl, Nat.add_comm]
        rw [e1, e2]
        exact leads_v w hN x0 x3 v m b hm hv hcp hs
      · rw [← hs]
        exact none (Or.inr ⟨fun h => h1 (Or.inl h), fun h => h1 (Or.inr h), h2⟩) (by rw [hs]; unfold lgN; rw [if_pos rfl, if_neg h1, if_neg h2])
end Go.Proofs.YtbhldmfnhlifpaaDoor
