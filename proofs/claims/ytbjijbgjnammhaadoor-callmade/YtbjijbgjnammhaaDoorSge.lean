/- CallMade: the walk. -/
import Derived.Test.YtbjijbgjnammhaaDoorSgc
import Derived.Test.YtbjijbgjnammhaaDoorSgd
namespace Go.Proofs.YtbjijbgjnammhaaDoor
open Go.RowKit
/-- no address, no salt -/
def uz : Nat → Nat := fun _ => 0
def xz : Wds.W4 := ⟨0, 0, 0, 0⟩
theorem uz_lt (i : Nat) : uz i < 256 := by unfold uz; omega
theorem xz_w : Wds.IsW (Wds.V xz.a xz.b xz.c xz.d) xz.a xz.b xz.c xz.d := Wds.isW_mk (by unfold Wds.U64 xz Wds.Bd; decide) (by unfold Wds.U64 xz Wds.Bd; decide) (by unfold Wds.U64 xz Wds.Bd; decide) (by unfold Wds.U64 xz Wds.Bd; decide)
theorem w4_v (x : Wds.W4) : x.v = .agg #[.int .u64 x.a, .int .u64 x.b, .int .u64 x.c, .int .u64 x.d] := rfl
theorem uz_row : rowB 20 (fun i => ((uz i : Nat) : Int)) = rowB 20 (fun _ => 0) := rowB_ext (fun _ _ => rfl)
theorem xz_v : xz.v = .agg #[.int .u64 0, .int .u64 0, .int .u64 0, .int .u64 0] := rfl
theorem rowEq_self (n : Nat) (f : Nat → Int) : rowEq n f f = true := (rowEq_iff n f f).2 fun _ _ => rfl
theorem eq20_val (F : Nat → Int) (V : World) : Sem.run Tryd.prog (Op.equalIn 10000 23 (.agg (rowB 20 F).toArray) (.agg (rowB 20 F).toArray)) V = .ok true V := by
  have q1 := eq20_run F F V
  rw [rowEq_self] at q1
  exact q1
theorem eql20 {a : Act} {o : Oper} (F : Nat → Int) (x y : Operand) (ho : o.op = .binOp .eql 23 x y 23) (hx : a.eval x = .agg (rowB 20 F).toArray) (hy : a.eval y = .agg (rowB 20 F).toArray) (V : World) : (execOp a.eval o).run Tryd.prog V = .ok (.value (.bool true)) V := by
  have q1 := eq20_val F V
  unfold execOp
  simp only [ho, hx, hy]
  go_simp
/-- what the law holds -/
structure CM (w : World) (u : Nat → Nat) (x : Wds.W4) (p3 : Nat) (V : World) : Prop where
  by_ : RowB V w.heap.size 20 (fun i => (u i : Int))
  sal : Wds.Box V p3 x.a x.b x.c x.d
  tab : Tabs V
  bel : Below w.heap.size w V
theorem CM.past {w : World} {u : Nat → Nat} {x : Wds.W4} {p3 : Nat} {V V' : World} (h : CM w u x p3 V) (k : Below V.heap.size V V') : CM w u x p3 V' :=
  ⟨h.by_.past k, h.sal.below k h.sal.lt, h.tab.past k, h.bel.trans (k.mono h.bel.size)⟩
set_option maxHeartbeats 4000000 in
set_option maxRecDepth 100000 in
theorem callMade_walk (w : World) (hT : Tabs w) (u : Nat → Nat) (hu : ∀ i, u i < 256) (x : Wds.W4) (hx : Wds.IsW (Wds.V x.a x.b x.c x.d) x.a x.b x.c x.d) : Calls Tryd.prog 3 #[.agg (rowB 20 (fun i => (u i : Int))).toArray, x.v] w fun e w' => e = .returned (.bool true) ∧ Below w.heap.size w w' := by
  have M1 : Hid (∀ W, Tabs W → Calls Tryd.prog 4 #[.agg (rowB 20 (fun i => (u i : Int))).toArray, .agg #[.int .u64 x.a, .int .u64 x.b, .int .u64 x.c, .int .u64 x.d]] W fun e w' => e = .returned (.agg (rowB 20 (fun i => sumF (madeL u x) (12 + i))).toArray) ∧ Below W.heap.size W w') := fun W h => by
    have k := made_is W h u hu x
    rw [w4_v] at k
    exact k
  have M2 : Hid (∀ W, Calls Tryd.prog 5 #[.agg (rowB 20 (fun i => (u i : Int))).toArray, .agg #[.int .u64 x.a, .int .u64 x.b, .int .u64 x.c, .int .u64 x.d]] W fun e w' => e = .returned (.agg (rowB 20 (fun i => sumF (madeL u x) (12 + i))).toArray) ∧ Below W.heap.size W w') := fun W => by
    have k := rmade_is W u hu x hx
    rw [w4_v] at k
    exact k
  have M3 : Hid (∀ W, Tabs W → Calls Tryd.prog 4 #[.agg (rowB 20 (fun _ => 0)).toArray, .agg #[.int .u64 0, .int .u64 0, .int .u64 0, .int .u64 0]] W fun e w' => e = .returned (.agg (rowB 20 (fun i => sumF (madeL uz xz) (12 + i))).toArray) ∧ Below W.heap.size W w') := fun W h => by
    have k := made_is W h uz uz_lt xz
    rw [uz_row, xz_v] at k
    exact k
  have M4 : Hid (∀ W, Calls Tryd.prog 5 #[.agg (rowB 20 (fun _ => 0)).toArray, .agg #[.int .u64 0, .int .u64 0, .int .u64 0, .int .u64 0]] W fun e w' => e = .returned (.agg (rowB 20 (fun i => sumF (madeL uz xz) (12 + i))).toArray) ∧ Below W.heap.size W w') := fun W => by
    have k := rmade_is W uz uz_lt xz xz_w
    rw [uz_row, xz_v] at k
    exact k
  have HT : Hid (Tabs w) := hT
  clear hu hx hT
  generalize hFX : (fun i => sumF (madeL u x) (12 + i)) = FX at M1 M2
  generalize hF0 : (fun i => sumF (madeL uz xz) (12 + i)) = F0 at M3 M4
  clear hFX hF0
  rw [w4_v]
  go_enter Tryd.func3, Tryd.ntmps3
  go_upto_region 1 with (refine box20 (fun i => (u i : Int)) rfl _ rfl rfl ?_; intro W0 hW0)
  have C0 : CM w u x W0.heap.size (W0.alloc (.cells #[.int .u64 x.a, .int .u64 x.b, .int .u64 x.c, .int .u64 x.d] 26)) := by
    have b1 : Below W0.heap.size W0 (W0.alloc (.cells #[.int .u64 x.a, .int .u64 x.b, .int .u64 x.c, .int .u64 x.d] 26)) := (Below.refl _ _).alloc (Nat.le_refl _) _
    have b2 := hW0.bel.trans (b1.mono hW0.bel.size)
    exact ⟨hW0.row.past b1, Wds.Box.new W0 26 x.a x.b x.c x.d, HT.out.past b2, b2⟩
  clear hW0 HT
  generalize W0.alloc (.cells #[.int .u64 x.a, .int .u64 x.b, .int .u64 x.c, .int .u64 x.d] 26) = W1 at C0 ⊢
  generalize W0.heap.size = p3 at C0 ⊢
  refine wp_region_held_drew (S := CM w u x p3) (by kernel_rfl) (C0.past (Below.refl _ _).drew) (fun hHeld => ?_)
  generalize W1.drew = z0 at hHeld ⊢
  clear C0
  refine wpAnyH_take (i := 0) (v := .agg (rowB 20 (fun i => (u i : Int))).toArray) ov0 (by kernel_rfl) (by kernel_rfl) (by kernel_rfl) (fun _ _ _ h => h) (yieldsIf_load_mid (by rfl) _ _ rfl w.heap.size 0 rfl (rowB 20 (fun i => (u i : Int))) _ (fun _ h => RowB.range h.by_) Tryd.underlying23 rfl (by rw [rowB_len]; kernel_rfl)) hHeld ?_
  simp only [Act.put, List.setIfInBounds_toArray, List.set_cons_zero, List.set_cons_succ]
  refine wpAnyH_take (i := 1) (v := .agg #[.int .u64 x.a, .int .u64 x.b, .int .u64 x.c, .int .u64 x.d]) ov1 (by kernel_rfl) (by kernel_rfl) (by kernel_rfl) (fun _ _ _ h => h) (Or.inl ⟨by rfl, fun V' hS => ?_⟩) hHeld ?_
  · obtain ⟨q0, q1, q2, q3, _⟩ := Wds.Box.facts hS.sal
    go_simp
  simp only [Act.put, List.setIfInBounds_toArray, List.set_cons_zero, List.set_cons_succ]
  refine wpAnyH_take (i := 3) (v := .agg (rowB 20 (fun i => (u i : Int))).toArray) ov3 (by kernel_rfl) (by kernel_rfl) (by kernel_rfl) (fun _ _ _ h => h) (yieldsIf_load_mid (by rfl) _ _ rfl w.heap.size 0 rfl (rowB 20 (fun i => (u i : Int))) _ (fun _ h => RowB.range h.by_) Tryd.underlying23 rfl (by rw [rowB_len]; kernel_rfl)) hHeld ?_
  simp only [Act.put, List.setIfInBounds_toArray, List.set_cons_zero, List.set_cons_succ]
  refine wpAnyH_take (i := 4) (v := .agg #[.int .u64 x.a, .int .u64 x.b, .int .u64 x.c, .int .u64 x.d]) ov4 (by kernel_rfl) (by kernel_rfl) (by kernel_rfl) (fun _ _ _ h => h) (Or.inl ⟨by rfl, fun V' hS => ?_⟩) hHeld ?_
  · obtain ⟨q0, q1, q2, q3, _⟩ := Wds.Box.facts hS.sal
    go_simp
  simp only [Act.put, List.setIfInBounds_toArray, List.set_cons_zero, List.set_cons_succ]
  refine wpAnyH_ready (rs := [2]) (by kernel_rfl) (by simp) ?_
  refine AllReadyH.cons ov2 (fun K hK => ?_) AllReadyH.nil
  rw [if_pos (by rfl)]
  go_simp
  refine (M1.out z0 hHeld.tab).mono ?_
  rintro e w9 ⟨rfl, BK⟩
  have hHeld := hHeld.past BK
  generalize w9 = z0 at hHeld ⊢
  (try go_wp2_with fail)
  refine hK.out _ _ hHeld (fun _ => ?_)
  clear hK K
  (try simp only [Act.put, List.setIfInBounds_toArray, List.set_cons_zero, List.set_cons_succ])
  refine wpAnyH_ready (rs := [5]) (by kernel_rfl) (by simp) ?_
  refine AllReadyH.cons ov5 (fun K hK => ?_) AllReadyH.nil
  rw [if_pos (by rfl)]
  go_simp
  refine (M2.out z0).mono ?_
  rintro e w9 ⟨rfl, BK⟩
  have hHeld := hHeld.past BK
  generalize w9 = z0 at hHeld ⊢
  (try go_wp2_with fail)
  refine hK.out _ _ hHeld (fun _ => ?_)
  clear hK K
  (try simp only [Act.put, List.setIfInBounds_toArray, List.set_cons_zero, List.set_cons_succ])
  refine wpAnyH_take (i := 6) (v := .bool true) ov6 (by kernel_rfl) (by kernel_rfl) (by kernel_rfl) (fun _ _ _ h => h) (Or.inl ⟨by rfl, fun V' hS => ?_⟩) hHeld ?_
  · exact eql20 FX _ _ rfl rfl rfl V'
  simp only [Act.put, List.setIfInBounds_toArray, List.set_cons_zero, List.set_cons_succ]
  refine wpAnyH_take (i := 7) (v := .bool true) ov7 (by kernel_rfl) (by kernel_rfl) (by kernel_rfl) (fun _ _ _ h => h) (Or.inl ⟨by rfl, fun V' hS => ?_⟩) hHeld ?_
  · go_simp
  simp only [Act.put, List.setIfInBounds_toArray, List.set_cons_zero, List.set_cons_succ]
  refine wpAnyH_take (i := 8) (v := .agg (rowB 20 (fun _ => 0)).toArray) ov8 (by kernel_rfl) (by kernel_rfl) (by kernel_rfl) (fun _ _ _ h => h) (Or.inl ⟨by rfl, fun V' hS => ?_⟩) hHeld ?_
  · have q1 := zero20 V'
    go_simp
  simp only [Act.put, List.setIfInBounds_toArray, List.set_cons_zero, List.set_cons_succ]
  refine wpAnyH_take (i := 9) (v := .agg #[.int .u64 0, .int .u64 0, .int .u64 0, .int .u64 0]) ov9 (by kernel_rfl) (by kernel_rfl) (by kernel_rfl) (fun _ _ _ h => h) (Or.inl ⟨by rfl, fun V' hS => ?_⟩) hHeld ?_
  · go_simp
  simp only [Act.put, List.setIfInBounds_toArray, List.set_cons_zero, List.set_cons_succ]
  refine wpAnyH_take (i := 11) (v := .agg (rowB 20 (fun _ => 0)).toArray) ov11 (by kernel_rfl) (by kernel_rfl) (by kernel_rfl) (fun _ _ _ h => h) (Or.inl ⟨by rfl, fun V' hS => ?_⟩) hHeld ?_
  · have q1 := zero20 V'
    go_simp
  simp only [Act.put, List.setIfInBounds_toArray, List.set_cons_zero, List.set_cons_succ]
  refine wpAnyH_take (i := 12) (v := .agg #[.int .u64 0, .int .u64 0, .int .u64 0, .int .u64 0]) ov12 (by kernel_rfl) (by kernel_rfl) (by kernel_rfl) (fun _ _ _ h => h) (Or.inl ⟨by rfl, fun V' hS => ?_⟩) hHeld ?_
  · go_simp
  simp only [Act.put, List.setIfInBounds_toArray, List.set_cons_zero, List.set_cons_succ]
  refine wpAnyH_ready (rs := [10]) (by kernel_rfl) (by simp) ?_
  refine AllReadyH.cons ov10 (fun K hK => ?_) AllReadyH.nil
  rw [if_pos (by rfl)]
  go_simp
  refine (M3.out z0 hHeld.tab).mono ?_
  rintro e w9 ⟨rfl, BK⟩
  have hHeld := hHeld.past BK
  generalize w9 = z0 at hHeld ⊢
  (try go_wp2_with fail)
  refine hK.out _ _ hHeld (fun _ => ?_)
  clear hK K
  (try simp only [Act.put, List.setIfInBounds_toArray, List.set_cons_zero, List.set_cons_succ])
  refine wpAnyH_ready (rs := [13]) (by kernel_rfl) (by simp) ?_
  refine AllReadyH.cons ov13 (fun K hK => ?_) AllReadyH.nil
  rw [if_pos (by rfl)]
  go_simp
  refine (M4.out z0).mono ?_
  rintro e w9 ⟨rfl, BK⟩
  have hHeld := hHeld.past BK
  generalize w9 = z0 at hHeld ⊢
  (try go_wp2_with fail)
  refine hK.out _ _ hHeld (fun _ => ?_)
  clear hK K
  (try simp only [Act.put, List.setIfInBounds_toArray, List.set_cons_zero, List.set_cons_succ])
  refine wpAnyH_take (i := 14) (v := .bool true) ov14 (by kernel_rfl) (by kernel_rfl) (by kernel_rfl) (fun _ _ _ h => h) (Or.inl ⟨by rfl, fun V' hS => ?_⟩) hHeld ?_
  · exact eql20 F0 _ _ rfl rfl rfl V'
  simp only [Act.put, List.setIfInBounds_toArray, List.set_cons_zero, List.set_cons_succ]
  refine wpAnyH_take (i := 15) (v := .bool true) ov15 (by kernel_rfl) (by kernel_rfl) (by kernel_rfl) (fun _ _ _ h => h) (Or.inl ⟨by rfl, fun V' hS => ?_⟩) hHeld ?_
  · go_simp
  simp only [Act.put, List.setIfInBounds_toArray, List.set_cons_zero, List.set_cons_succ]
  refine wpAnyH_take (i := 16) (v := .bool true) ov16 (by kernel_rfl) (by kernel_rfl) (by kernel_rfl) (fun _ _ _ h => h) (Or.inl ⟨by rfl, fun V' hS => ?_⟩) hHeld ?_
  · go_simp
  simp only [Act.put, List.setIfInBounds_toArray, List.set_cons_zero, List.set_cons_succ]
  refine wpAnyH_done (by kernel_rfl) ?_ _
  go_wp2
  go_ret
  exact ⟨rfl, hHeld.bel⟩
end Go.Proofs.YtbjijbgjnammhaaDoor
