/- SpongePermutes: the walk. -/
import Derived.Test.YteggikojfkmbkaaDoorVj
import Derived.Test.YteggikojfkmbkaaDoorKz
namespace Go.Proofs.YteggikojfkmbkaaDoor
open Go.RowKit
set_option maxHeartbeats 1000000 in
set_option maxRecDepth 100000 in
theorem permutes_walk (w : World) (hT : Tabs w) (f : KSt) : Calls Tryd.prog 3 #[.agg (rowL 25 (iv f)).toArray] w fun e w' => e = .returned (.bool true) ∧ Below w.heap.size w w' := by
  have HT : Hid (Tabs w) := hT
  have g2 := hT.lt
  have P1 : Hid (∀ W, Tabs W → Calls Tryd.prog 11 #[.agg (rowL 25 (iv f)).toArray] W fun e w' => e = .returned (.agg (rowL 25 (iv (rndsF 24 f))).toArray) ∧ Below W.heap.size W w') := fun W hW => permute_is f W hW
  have P2 : Hid (∀ W, Calls Tryd.prog 12 #[.agg (rowL 25 (iv f)).toArray] W fun e w' => e = .returned (.agg (rowL 25 (iv (rndsF 24 f))).toArray) ∧ Below W.heap.size W w') := fun W => rpermute_is f W
  have A0 : Hid (Row (w.alloc (.cells (rowL 25 (iv f)).toArray 23)) w.heap.size 25 (iv f)) := Row.new w _ 25 (iv f)
  have W0 : Hid (∀ o, Below w.heap.size w (w.alloc o)) := fun o => (Below.refl _ _).alloc (Nat.le_refl _) _
  generalize iv (rndsF 24 f) = pf at P1 P2
  generalize iv f = u at *
  clear hT
  go_enter Tryd.func3, Tryd.ntmps3
  have e2 : ∀ W : World, Sem.run Tryd.prog (Op.equalIn 10000 23 (.agg (rowL 25 pf).toArray) (.agg (rowL 25 pf).toArray)) W = .ok true W := fun W => by rw [eq25_run, (rowEq_iff 25 pf pf).2 fun _ _ => rfl]
  go_upto_region 2 with (first
    | refine load25 u (w.heap.size) rfl _ rfl rfl (Row.range A0.out) ?_
    | (go_at_call 11; refine (P1.out _ (Tabs.below HT.out (W0.out _) g2)).mono ?_; rintro e v1 ⟨rfl, hB⟩; (have W1 : Hid (Below w.heap.size w v1) := (W0.out _).trans (hB.mono (by simp))); (have A1 : Hid (Row v1 w.heap.size 25 u) := A0.out.below hB (A0.out.lt (by omega))); clear hB A0)
    | (refine store25_new pf rfl _ _ rfl rfl rfl W1.out ?_; intro v2 hr hw hB; (have W2 : Hid (Below w.heap.size w v2) := hw); (have A2 : Hid (Row v2 (w.heap.size) 25 u) := Row.below A1.out hB (Row.lt A1.out (by omega))); (have C2 : Hid (Row v2 v1.heap.size 25 pf) := hr); clear hr hw hB))
  go_upto_region 3 with (first
    | refine load25 u (w.heap.size) rfl _ rfl rfl (Row.range A2.out) ?_
    | (go_at_call 12; refine (P2.out _).mono ?_; rintro e v3 ⟨rfl, hB⟩; (have W3 : Hid (Below w.heap.size w v3) := Below.trans W2.out (hB.mono W2.out.size)); (have C3 : Hid (Row v3 (v1.heap.size) 25 pf) := Row.below C2.out hB (Row.lt C2.out (by omega))); clear hB)
    | (refine store25_new pf rfl _ _ rfl rfl rfl W3.out ?_; intro v4 hr hw hB; (have W4 : Hid (Below w.heap.size w v4) := hw); (have C4 : Hid (Row v4 (v1.heap.size) 25 pf) := Row.below C3.out hB (Row.lt C3.out (by omega))); (have D4 : Hid (Row v4 v3.heap.size 25 pf) := hr); clear hr hw hB))
  go_wp2_with (first
    | refine load25 pf (v1.heap.size) rfl _ rfl rfl (Row.range C4.out) ?_
    | refine load25 pf (v3.heap.size) rfl _ rfl rfl (Row.range D4.out) ?_)
  go_ret
  exact ⟨rfl, W4.out⟩
end Go.Proofs.YteggikojfkmbkaaDoor
