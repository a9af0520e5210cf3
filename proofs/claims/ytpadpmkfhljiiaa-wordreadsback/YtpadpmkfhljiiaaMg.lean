/- word.Hex, word.Text. -/
import Derived.Test.YtpadpmkfhljiiaaMe
namespace Go.Proofs.Ytpadpmkfhljiiaa
open Go.RowKit
set_option maxHeartbeats 2000000 in
set_option maxRecDepth 100000 in
theorem text_is (A0 A1 A2 A3 N : Nat) (l0 : A0 < 18446744073709551616) (l1 : A1 < 18446744073709551616) (l2 : A2 < 18446744073709551616) (l3 : A3 < 18446744073709551616) (hN : N = A0 + 18446744073709551616 * (A1 + 18446744073709551616 * (A2 + 18446744073709551616 * A3))) (w : World) :
    Calls Try.prog 63 #[.agg #[.int .u64 (A0 : Int), .int .u64 (A1 : Int), .int .u64 (A2 : Int), .int .u64 (A3 : Int)]] w fun e w' => ∃ n, NDig 10 N n ∧ n ≤ 78 ∧ e = .returned (.string (tell 10 N n)) ∧ Below w.heap.size w w' := by
  have K0 : Hid (Bx w [(w.heap.size, (A0 : Int), (A1 : Int), (A2 : Int), (A3 : Int))] (w.alloc (.cells #[.int .u64 (A0 : Int), .int .u64 (A1 : Int), .int .u64 (A2 : Int), .int .u64 (A3 : Int)] 24))) := (Bx.start w).alloc _ _ _ _
  have WR : Hid (∀ w : World, Calls Try.prog 93 #[.agg #[.int .u64 (A0 : Int), .int .u64 (A1 : Int), .int .u64 (A2 : Int), .int .u64 (A3 : Int)], .int .u64 10] w fun e w' => ∃ n, NDig 10 N n ∧ n ≤ 78 ∧ e = .returned (.string (tell 10 N n)) ∧ Below w.heap.size w w') := fun w => write_is A0 A1 A2 A3 10 N l0 l1 l2 l3 hN (by omega) (by omega) w
  clear l0 l1 l2 l3 hN
  go_enter Try.func63, Try.ntmps63
  go_upto_region 1 with fail
  generalize w.alloc (.cells #[.int .u64 (A0 : Int), .int .u64 (A1 : Int), .int .u64 (A2 : Int), .int .u64 (A3 : Int)] 24) = W0 at K0 ⊢
  obtain ⟨c0, c1, c2, c3, z0, z1, z2, z3⟩ := K0.out.f0 (List.Mem.head _)
  go_wp2_with (go_at_call 93; refine (WR.out _).mono ?_; rintro e y1 ⟨n, hn, hn2, rfl, hB⟩)
  go_ret
  exact ⟨n, hn, hn2, rfl, (K0.out.past hB).bel⟩
theorem push_size (l : List Int) : ∀ b : ByteArray, (l.foldl (fun r m => r.push (UInt8.ofNat m.toNat)) b).size = b.size + l.length := by
  induction l with
  | nil => intro b; rfl
  | cons a l ih => intro b; rw [List.foldl_cons, ih, ByteArray.size_push, List.length_cons]; omega
theorem txt_size (u : Nat → Nat) (n : Nat) : (txt u n).size = n := by
  unfold txt
  rw [push_size]; simp
theorem tell_size (B N n : Nat) : (tell B N n).size = n := txt_size _ n
def ox : ByteArray := ⟨#[48, 120]⟩
set_option maxHeartbeats 2000000 in
set_option maxRecDepth 100000 in
theorem hex_is (A0 A1 A2 A3 N : Nat) (l0 : A0 < 18446744073709551616) (l1 : A1 < 18446744073709551616) (l2 : A2 < 18446744073709551616) (l3 : A3 < 18446744073709551616) (hN : N = A0 + 18446744073709551616 * (A1 + 18446744073709551616 * (A2 + 18446744073709551616 * A3))) (w : World) :
    Calls Try.prog 62 #[.agg #[.int .u64 (A0 : Int), .int .u64 (A1 : Int), .int .u64 (A2 : Int), .int .u64 (A3 : Int)]] w fun e w' => ∃ n, NDig 16 N n ∧ n ≤ 78 ∧ e = .returned (.string (ox ++ tell 16 N n)) ∧ Below w.heap.size w w' := by
  have K0 : Hid (Bx w [(w.heap.size, (A0 : Int), (A1 : Int), (A2 : Int), (A3 : Int))] (w.alloc (.cells #[.int .u64 (A0 : Int), .int .u64 (A1 : Int), .int .u64 (A2 : Int), .int .u64 (A3 : Int)] 24))) := (Bx.start w).alloc _ _ _ _
  have WR : Hid (∀ w : World, Calls Try.prog 93 #[.agg #[.int .u64 (A0 : Int), .int .u64 (A1 : Int), .int .u64 (A2 : Int), .int .u64 (A3 : Int)], .int .u64 16] w fun e w' => ∃ n, NDig 16 N n ∧ n ≤ 78 ∧ e = .returned (.string (tell 16 N n)) ∧ Below w.heap.size w w') := fun w => write_is A0 A1 A2 A3 16 N l0 l1 l2 l3 hN (by omega) (by omega) w
  clear l0 l1 l2 l3 hN
  go_enter Try.func62, Try.ntmps62
  go_upto_region 1 with fail
  generalize w.alloc (.cells #[.int .u64 (A0 : Int), .int .u64 (A1 : Int), .int .u64 (A2 : Int), .int .u64 (A3 : Int)] 24) = W0 at K0 ⊢
  obtain ⟨c0, c1, c2, c3, z0, z1, z2, z3⟩ := K0.out.f0 (List.Mem.head _)
  go_wp2_with (go_at_call 93; refine (WR.out _).mono ?_; rintro e y1 ⟨n, hn, hn2, rfl, hB⟩; (have ht : ¬ 9223372036854775807 < 2 + (tell 16 N n).size := by rw [tell_size]; omega))
  go_ret
  refine ⟨n, hn, hn2, ?_, (K0.out.past hB).bel⟩
  rfl
end Go.Proofs.Ytpadpmkfhljiiaa
