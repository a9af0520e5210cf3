/- CodeOnes. -/
import Derived.Test.YtcjmbpchdeapiaaDoorCrb
namespace Go.Proofs.YtcjmbpchdeapiaaDoor
open Go.RowKit
theorem laid_bytes {W : World} {base g m cap : Nat} {b : Nat → Nat} (hb : ∀ j, b j < 256) (h : W.ownsRow base 5 1 (.slice (some ⟨g, 0, none⟩) (m + 75) cap) (m + 75) (bsL (m + 75) (mkB m b))) : BytesOf W (.slice (some ⟨g, 0, none⟩) m cap) m b ∧ ∀ ad c, Value.slice (some ⟨g, 0, none⟩) m cap = .slice ad m c → m ≤ c := by
  have hc := own_cap h
  refine ⟨⟨_, _, rfl, hb, fun e => (by cases e), fun _ => ⟨g, 0, rfl, fun j hj => ?_⟩⟩, fun ad c e => by cases e; omega⟩
  rw [Nat.zero_add, h.cellAt j (by omega), bsL_get _ _ j (by omega), show mkB m b j = b j by unfold mkB; rw [if_pos hj]]
/-- what both answer at a place -/
theorem one_pair (m : Nat) (b : Nat → Nat) (X : Int) (hm : m ≤ 1000000) : ∃ (x0 C x3 er : Int) (n : Nat) (bf : Nat → Nat),
    (∀ (W : World) (v : Value), Nms W → BytesOf W v m b → (∀ ad cap, v = .slice ad m cap → m ≤ cap) → Calls Tryd.prog 21 #[v, .int .i64 X] W fun e w' => ∃ iv, e = .returned (.tuple #[.agg #[.int .i64 x0, .int .i64 C, iv, .int .i64 x3], .int .i64 er]) ∧ BytesOf w' iv n bf ∧ Below W.heap.size W w') ∧
    (∀ (W : World) (v : Value), BytesOf W v m b → Calls Tryd.prog 25 #[v, .int .i64 X] W fun e w' => ∃ iv, e = .returned (.tuple #[.agg #[.int .i64 x0, .int .i64 C, iv, .int .i64 x3], .int .i64 er]) ∧ BytesOf w' iv n bf ∧ Below W.heap.size W w') := by
  have zb : ∀ W : World, BytesOf W (.slice none 0 0) 0 (fun _ => 0) := fun W => ⟨_, _, rfl, fun _ => by show 0 < 256; omega, fun _ => ⟨rfl, rfl⟩, fun h => absurd rfl h⟩
  by_cases hX : X < 0 ∨ (m : Int) ≤ X
  · exact ⟨0, 0, 0, 1, 0, fun _ => 0, fun W v _ hv _ => (one_arg W v m b X hv hX).mono fun e w' ⟨he, hB⟩ => ⟨_, he, zb _, hB⟩, fun W v hv => (rone_arg W v m b X hv hX).mono fun e w' ⟨he, hB⟩ => ⟨_, he, zb _, hB⟩⟩
  · obtain ⟨A, rfl⟩ : ∃ A : Nat, X = (A : Int) := ⟨X.toNat, by omega⟩
    cases hok : okA b m A with
    | false => exact ⟨0, 0, 0, errA b m A, 0, fun _ => 0, fun W v hN hv _ => (one_no W v m b A hN hv hm hok).mono fun e w' ⟨he, hB⟩ => ⟨_, he, zb _, hB⟩, fun W v hv => (rone_no W v m b A hv hm hok).mono fun e w' ⟨he, hB⟩ => ⟨_, he, zb _, hB⟩⟩
    | true => exact ⟨(A : Int), (b A : Int), (nxA b A : Int), 0, immA b A, fun j => b (A + 1 + j), fun W v hN hv hc => (one_yes W v m b A hN hv hc hm hok).mono fun e w' ⟨q, _, _, he, hB, hI⟩ => ⟨_, he, hI.bytes, hB⟩,
        fun W v hv => (rone_ok W v m b A hv hm hok).mono fun e w' ⟨iv, he, ho, hB⟩ => ⟨iv, he, (own_bytes ho (fun j => by obtain ⟨_, _, _, hb, _⟩ := hv; exact hb _)).1, hB⟩⟩
end Go.Proofs.YtcjmbpchdeapiaaDoor
