/- word.Byte. -/
import Derived.Test.YtpadpmkfhljiiaaBa
namespace Go.Proofs.Ytpadpmkfhljiiaa
open Go.RowKit
set_option maxHeartbeats 1000000 in
set_option maxRecDepth 100000 in
theorem byte_is (k : Nat) (hk : k < 32) (x0 x1 x2 x3 : Int) (w : World) : Calls Try.prog 52 #[.agg #[.int .u64 (k : Int), .int .u64 0, .int .u64 0, .int .u64 0], .agg #[.int .u64 x0, .int .u64 x1, .int .u64 x2, .int .u64 x3]] w fun e w' => e = .returned (.agg #[.int .u64 (bb x0 x1 x2 x3 k), .int .u64 0, .int .u64 0, .int .u64 0]) ∧ Below w.heap.size w w' := by
  have BE : Hid (∀ W : World, Calls Try.prog 85 #[.agg #[.int .u64 (k : Int), .int .u64 0, .int .u64 0, .int .u64 0], .int .u64 32] W fun e w' => e = .returned (.tuple #[.int .u64 (k : Int), .bool true]) ∧ Below W.heap.size W w') := fun W => below_lt (k : Int) 32 _ _ _ _ W (isW_lit _ (by omega) (by omega)) (isW_lit 32 (by omega) (by omega)) (by unfold MM; omega)
  have BY : Hid (∀ W : World, Calls Try.prog 51 #[.agg #[.int .u64 x0, .int .u64 x1, .int .u64 x2, .int .u64 x3]] W fun e w' => e = .returned (.agg (rowB 32 (bb x0 x1 x2 x3)).toArray) ∧ Below W.heap.size W w') := fun W => bytes_is x0 x1 x2 x3 W
  have hr := bb_range x0 x1 x2 x3 k
  obtain ⟨f, ef⟩ : ∃ f, f = bb x0 x1 x2 x3 := ⟨_, rfl⟩
  rw [← ef] at BY hr ⊢
  obtain ⟨y, ey⟩ : ∃ y, y = f k := ⟨_, rfl⟩
  rw [← ey] at hr ⊢
  have EY : Hid (y = f k) := ey
  have wy : IntKind.u64.wrap y = y := by rw [IntKind.wrap_u64]; omega
  have kI : (k : Int) < 32 := by omega
  have kw : IntKind.i64.wrap (k : Int) = (k : Int) := by rw [IntKind.wrap_i64]; omega
  have I0 : Hid (∀ W, W = (((w.alloc (.cells #[.int .u64 (k : Int), .int .u64 0, .int .u64 0, .int .u64 0] 24)).alloc (.cells #[.int .u64 x0, .int .u64 x1, .int .u64 x2, .int .u64 x3] 24)).alloc (.cells #[.int .u64 0, .int .u64 0, .int .u64 0, .int .u64 0] 24)) → Below w.heap.size w W ∧ Box W (w.heap.size + 1) x0 x1 x2 x3 ∧ Box W (w.heap.size + 1 + 1) 0 0 0 0) := fun W e => by
    subst e
    have h1 := (Box.new (w.alloc (.cells #[.int .u64 (k : Int), .int .u64 0, .int .u64 0, .int .u64 0] 24)) 24 x0 x1 x2 x3).alloc (.cells #[.int .u64 0, .int .u64 0, .int .u64 0, .int .u64 0] 24)
    have h2 := Box.new ((w.alloc (.cells #[.int .u64 (k : Int), .int .u64 0, .int .u64 0, .int .u64 0] 24)).alloc (.cells #[.int .u64 x0, .int .u64 x1, .int .u64 x2, .int .u64 x3] 24)) 24 0 0 0 0
    rw [World.size_alloc] at h1
    rw [World.size_alloc, World.size_alloc] at h2
    exact ⟨(((Below.refl _ _).alloc (by omega) _).alloc (by simp) _).alloc (by simp; omega) _, h1, h2⟩
  clear ef hr ey
  go_enter Try.func52, Try.ntmps52
  go_wp2_with fail
  obtain ⟨W0, e0⟩ : ∃ W0, W0 = (((w.alloc (.cells #[.int .u64 (k : Int), .int .u64 0, .int .u64 0, .int .u64 0] 24)).alloc (.cells #[.int .u64 x0, .int .u64 x1, .int .u64 x2, .int .u64 x3] 24)).alloc (.cells #[.int .u64 0, .int .u64 0, .int .u64 0, .int .u64 0] 24)) := ⟨_, rfl⟩
  obtain ⟨b0, b1, b2⟩ := I0.out W0 e0
  have A0 : Hid (Below w.heap.size w W0) := b0
  have A1 : Hid (Box W0 (w.heap.size + 1) x0 x1 x2 x3) := b1
  have A2 : Hid (Box W0 (w.heap.size + 1 + 1) 0 0 0 0) := b2
  rw [← e0]
  clear e0 b0 b1 b2 I0
  refine (BE.out _).mono ?_
  rintro e v1 ⟨rfl, hB⟩
  have C0 : Hid (Below w.heap.size w v1) := Below.trans A0.out (hB.mono A0.out.size)
  have C1 : Hid (Box v1 (w.heap.size + 1) x0 x1 x2 x3) := Box.below A1.out hB (Box.lt A1.out)
  have C2 : Hid (Box v1 (w.heap.size + 1 + 1) 0 0 0 0) := Box.below A2.out hB (Box.lt A2.out)
  clear hB A0 A1 A2 BE
  obtain ⟨p0, p1, p2, p3, _⟩ := Box.facts C1.out
  go_upto_region 4 with fail
  go_wp2_with fail
  refine (BY.out _).mono ?_
  rintro e v2 ⟨rfl, hB⟩
  have D0 : Hid (Below w.heap.size w v2) := Below.trans C0.out (hB.mono C0.out.size)
  have D2 : Hid (Box v2 (w.heap.size + 1 + 1) 0 0 0 0) := Box.below C2.out hB (Box.lt C2.out)
  clear hB C0 C1 C2 BY p0 p1 p2 p3
  obtain ⟨cs, hcs⟩ : ∃ cs, cs = (rowB 32 f).toArray := ⟨_, rfl⟩
  rw [← hcs]
  have HC : Hid (cs = (rowB 32 f).toArray) := hcs
  clear hcs
  go_upto_region 5 with (rw [HC.out]; refine store32_new f rfl _ _ rfl rfl rfl D0.out ?_; intro v3 hr hw hv; (have E0 : Hid (Below w.heap.size w v3) := hw); (have E2 : Hid (Box v3 (w.heap.size + 1 + 1) 0 0 0 0) := Box.below D2.out hv (Box.lt D2.out)); (have c0 := (hr k hk).1); rw [← EY.out] at c0; clear hr hw hv)
  clear D0 D2
  obtain ⟨q0, q1, q2, q3, f0, f1, f2, f3⟩ := Box.facts E2.out
  go_wp2_with (go_at_call 53; refine (fromUint_any _ _).mono ?_; rintro e v4 ⟨rfl, hB⟩; (have F0 : Hid (Below w.heap.size w v4) := Below.trans E0.out (hB.mono E0.out.size)); (have F2 : Hid (Box v4 (w.heap.size + 1 + 1) 0 0 0 0) := Box.below E2.out hB (Box.lt E2.out)); clear hB q0 q1 q2 q3 f0 f1 f2 f3 c0 E0 E2; obtain ⟨q0, q1, q2, q3, f0, f1, f2, f3⟩ := Box.facts F2.out)
  exact bodyPost_ret (v := .agg #[.int .u64 y, .int .u64 0, .int .u64 0, .int .u64 0]) (by simp [results, Try.results52, go_sem, q0, q1, q2, q3]) rfl ⟨rfl, below_put F0.out (by omega) y 0 0 0⟩
end Go.Proofs.Ytpadpmkfhljiiaa
