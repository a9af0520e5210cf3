/- op.All: the rows by rising codes, as far as they are asked. -/
import Derived.Test.YtbhldmfnhlifpaaDoorOq
import Derived.Test.YtbhldmfnhlifpaaDoorRvh
import Derived.RangeFuncNested
import Derived.RangeFuncBound
import Derived.RangeFuncCalls
import Derived.RangeFuncLeaves
import Derived.Shelf.Abstract
import Derived.Shelf.RegionOpen
import Derived.WalkKit
import Derived.OwnWalkIn
import Derived.TacticsInMore
import Derived.LoopNIn
import Derived.LoopIn
namespace Go.Proofs.YtbhldmfnhlifpaaDoor
open Go.RowKit Go.Shelf
attribute [local go_sem] Oper.semAt_some
/-- the codes of the table -/
abbrev OpC := { c : Nat // c < 256 ∧ isOp c = true }
def opsUpto (k : Nat) : List OpC := (List.range k).filterMap fun c => if h : c < 256 ∧ isOp c = true then some ⟨c, h⟩ else none
theorem opsUpto_yes (k : Nat) (h : k < 256 ∧ isOp k = true) : opsUpto (k + 1) = opsUpto k ++ [⟨k, h⟩] := by
  unfold opsUpto
  rw [List.range_succ, List.filterMap_append]
  simp [h]
theorem opsUpto_no (k : Nat) (h : isOp k = false) : opsUpto (k + 1) = opsUpto k := by
  unfold opsUpto
  rw [List.range_succ, List.filterMap_append]
  simp [h]
theorem opsUpto_len (k : Nat) : (opsUpto k).length ≤ k := by
  unfold opsUpto
  exact Nat.le_trans (List.length_filterMap_le _ _) (by simp)
theorem grown_of_below {W W' : World} (h : Below W.heap.size W W') : W.grownBy W' none := ⟨h.os, h.tape, h.output, h.size, fun k hk _ => h.block k hk⟩
theorem Nms.below {n : Nat} {w W : World} (h : Nms w) (hB : Below n w W) (hg : ∀ k g, tabOf k = some g → g < n) : Nms W := fun k g hk i hi =>
  (hB.cell (p := ⟨g, i, none⟩) (hg k g hk)).trans (h k g hk i hi)
set_option maxRecDepth 100000 in
set_option maxHeartbeats 2000000 in
theorem all1_in (n : Nat) (hn : 1 ≤ n) (l n₀ : Nat) (J Jx : List OpC → World → Prop) (W : World) (hJ : AbidesFrom W.heap.size J)
    (hY : ∀ pre x W, J pre W → pre.length < 256 → YieldAt Fence.wide (n - 1) Tryd.prog l #[opv x.1] W fun e W' =>
      (e = .returned (.bool true) ∧ J (pre ++ [x]) W' ∧ Below n₀ W W') ∨ (e = .returned (.bool false) ∧ Jx (pre ++ [x]) W'))
    (hN : Nms W) (hg : ∀ k g, tabOf k = some g → g < n₀) (h0 : J [] W) :
    CallsIn Fence.wide n Tryd.prog 102 #[.func (.yield l) #[] #[]] W fun e W' => (∃ v, e = .returned v) ∧
      ((∃ ys, ys = opsUpto 256 ∧ J ys W') ∨ (∃ pre, (∃ k, k ≤ 256 ∧ pre = opsUpto k) ∧ Jx pre W')) := by
  refine callsIn_of_wp Tryd.func102 rfl trivial ?_ rfl
  simp only [Tryd.ntmps102, List.size_toArray, List.length_cons, List.length_nil, Nat.reduceAdd, Nat.reduceSub, Array.replicate_succ, Array.replicate_zero, List.push_toArray, List.append_toArray, List.nil_append, List.cons_append]
  gi_wp2
  gi_loopw [5] (fun i wr => ∃ k : Nat, k ≤ 256 ∧ i = .int .i64 (k : Int) ∧ J (opsUpto k) wr ∧ Nms wr) (fun i _ => 256 - (intOf i).toNat)
  case atStart => exact ⟨0, by omega, rfl, h0, hN⟩
  case round =>
    obtain ⟨k, hk, rfl, hJs, hNs⟩ := hrel
    by_cases hlt : k < 256
    · have kI : (k : Int) < 256 := by omega
      cases hop : isOp k with
      | true =>
        have HO : Hid (Calls Tryd.prog 47 #[.int .i64 (k : Int)] wr fun e w' => e = .returned (.tuple #[.agg #[.int .i64 (k : Int), .string (nameT k), .int .i64 (immT k), .int .i64 (inT k), .int .i64 (outT k), .int .i64 (gasT k), .bool (endsT k)], .bool true]) ∧ Below wr.heap.size wr w') := of_is k hlt wr hNs hop
        have HJ : Hid (J (opsUpto k) wr ∧ Nms wr) := ⟨hJs, hNs⟩
        clear hJs hNs
        gi_wp2_with (refine ⟨trivial, ?_⟩; gi_at_call 47; refine (callsIn_wide.2 HO.out).mono ?_; rintro e w1 ⟨rfl, hB⟩; (have hB2 := hB.alloc hB.size (.cells #[.int .i64 (k : Int), .string (nameT k), .int .i64 (immT k), .int .i64 (inT k), .int .i64 (outT k), .int .i64 (gasT k), .bool (endsT k)] 55)); (have HN2 : Hid (Nms (w1.alloc (.cells #[.int .i64 (k : Int), .string (nameT k), .int .i64 (immT k), .int .i64 (inT k), .int .i64 (outT k), .int .i64 (gasT k), .bool (endsT k)] 55))) := HJ.out.2.past hB2); obtain ⟨fn, tmps, assign, body, hy, hR⟩ := hY (opsUpto k) ⟨k, hlt, hop⟩ _ (hJ _ _ _ none HJ.out.1 (grown_of_below hB2) (fun r e => by cases e)) (by have := opsUpto_len k; omega); dsimp only [opv] at hy; clear hB hB2 HO)
        refine hR.mono ?_
        rintro e W3 (⟨rfl, hJ3, hk3⟩ | ⟨rfl, hJx3⟩)
        · gi_wp2
          go_roundw
          case rel => exact ⟨k + 1, by omega, by simp, by rw [opsUpto_yes k ⟨hlt, hop⟩]; exact hJ3, HN2.out.below hk3 hg⟩
          case measure => simp [intOf]; omega
        · gi_wp2
          refine bodyPost_ret (results_none rfl _ _ _) rfl ?_
          exact ⟨⟨_, rfl⟩, .inr ⟨_, ⟨k + 1, by omega, (opsUpto_yes k ⟨hlt, hop⟩).symm⟩, hJx3⟩⟩
      | false =>
        have HO : Hid (Calls Tryd.prog 47 #[.int .i64 (k : Int)] wr fun e w' => e = .returned (.tuple #[.agg #[.int .i64 0, .string ⟨#[]⟩, .int .i64 0, .int .i64 0, .int .i64 0, .int .i64 0, .bool false], .bool false]) ∧ Below wr.heap.size wr w') := by
          have h := of_any (k : Int) wr hNs
          have e1 : opB (k : Int) = false := by unfold opB; rw [Int.toNat_natCast, hop, Bool.and_false]
          have e2 : opV (k : Int) = opz := by unfold opV; rw [e1, if_neg (by decide)]
          rw [e1, e2] at h
          exact h
        have HJ : Hid (J (opsUpto k) wr ∧ Nms wr) := ⟨hJs, hNs⟩
        clear hJs hNs
        gi_wp2_with (refine ⟨trivial, ?_⟩; gi_at_call 47; refine (callsIn_wide.2 HO.out).mono ?_; rintro e w1 ⟨rfl, hB⟩; (have hB2 : Hid (Below wr.heap.size wr (w1.alloc (.cells #[.int .i64 0, .string ⟨#[]⟩, .int .i64 0, .int .i64 0, .int .i64 0, .int .i64 0, .bool false] 55))) := hB.alloc hB.size _); clear hB HO)
        refine ⟨fun _ h => (by cases h), ?_⟩
        gi_wp2
        go_roundw
        case rel => exact ⟨k + 1, by omega, by simp, by rw [opsUpto_no k hop]; exact hJ _ _ _ none HJ.out.1 (grown_of_below hB2.out) (fun r e => by cases e), HJ.out.2.past hB2.out⟩
        case measure => simp [intOf]; omega
    · obtain rfl : k = 256 := by omega
      gi_wp2
      go_end0
      exact ⟨⟨_, rfl⟩, .inl ⟨_, rfl, hJs⟩⟩
theorem opsUpto_prefix (k : Nat) (hk : k ≤ 256) : opsUpto k <+: opsUpto 256 := by
  obtain ⟨d, hd⟩ : ∃ d, k + d = 256 := ⟨256 - k, by omega⟩
  rw [← hd]
  clear hd hk
  induction d with
  | zero => exact List.prefix_refl _
  | succ d ih =>
    refine ih.trans ?_
    by_cases h : k + d < 256 ∧ isOp (k + d) = true
    · rw [show k + (d + 1) = k + d + 1 by omega, opsUpto_yes _ h]; exact List.prefix_append _ _
    · rw [show k + (d + 1) = k + d + 1 by omega]
      unfold opsUpto
      rw [List.range_succ, List.filterMap_append]
      exact List.prefix_append _ _
/-- op.All's rows: all of them, in order; or as many as were asked for -/
theorem all_stops (n : Nat) (hn : 1 ≤ n) (n₀ : Nat) (w : World) (hN : Nms w) (hg : ∀ k g, tabOf k = some g → g < n₀) :
    SeqStopsK Fence.wide n Tryd.prog 102 #[] (fun x : OpC => #[opv x.1]) (Below n₀) (fun ys => ys = opsUpto 256) (fun pre => pre <+: opsUpto 256) 256 w := fun l J Jx W hW hJ _ hY h0 => by
  refine (all1_in n hn l n₀ J Jx W hJ hY (hN.past hW) hg h0).mono ?_
  rintro e W' ⟨he, ⟨ys, rfl, hj⟩ | ⟨pre, ⟨k, hk, rfl⟩, hj⟩⟩
  · exact ⟨he, .inl ⟨_, rfl, hj⟩⟩
  · exact ⟨he, .inr ⟨_, opsUpto_prefix k hk, hj⟩⟩
theorem all_is (w : World) : Calls Tryd.prog 67 #[] w fun e w' => e = .returned (.func (.func 102) #[] #[]) ∧ w' = w := by
  go_enter Tryd.func67, Tryd.ntmps67
  go_wp2
  go_ret
  exact ⟨rfl, rfl⟩
end Go.Proofs.YtbhldmfnhlifpaaDoor
