/- takeOff: a digit's multiple of the divisor is taken off. -/
import Derived.Test.YtpadpmkfhljiiaaEb
import Derived.Deep.CutRange
import Derived.Deep.DeepCutAuto
import Derived.LoopTactic
import Derived.Deep.RegionHeld3
namespace Go.Proofs.Ytpadpmkfhljiiaa
open Go.RowKit
/-- what takeOff answers -/
def OffRes (r0 d : Nat → Int) (n a : Nat) (k : Int) (e : Ending) : Prop := ∃ (s : Nat → Int) (b : Bool), e = .returned (.tuple #[.agg (rowL 9 s).toArray, .bool b]) ∧ Off r0 d n a k s b
/-- while parts are taken off: i of them are -/
structure Tk (w : World) (r0 : Nat → Int) (d0 d1 d2 d3 : Int) (a : Nat) (k : Int) (i : Nat) (c b : Int) (r : Nat → Int) (W : World) : Prop where
  bel : Below w.heap.size w W
  row : Row W w.heap.size 9 r
  box : Box W (w.heap.size + 1) d0 d1 d2 d3
  zer : Row W (w.heap.size + 1 + 1) 9 (fun _ => 0)
  u : ∀ j, U64 (r j)
  same : ∀ j, j < a ∨ a + i ≤ j → r j = r0 j
  eq : nv (sh r0 a) i + (b + c) * Bd ^ i = nv (sh r a) i + k * nv (limb d0 d1 d2 d3) i
  cu : U64 c
  b0 : 0 ≤ b
  b1 : b ≤ 1
theorem Tk.step {w : World} {r0 : Nat → Int} {d0 d1 d2 d3 : Int} {a : Nat} {k : Int} {i : Nat} {c b : Int} {r : Nat → Int} {W : World} (h : Tk w r0 d0 d1 d2 d3 a k i c b r W) {c' p s b' : Int} (e1 : limb d0 d1 d2 d3 i * k + c = c' * Bd + p) (e2 : r0 (a + i) - p - b = s - Bd * b')
    (hc : U64 c') (hs : U64 s) (hb0 : 0 ≤ b') (hb1 : b' ≤ 1) : Tk w r0 d0 d1 d2 d3 a k (i + 1) c' b' (fun j => if j = a + i then s else r j) (W.setCell ⟨w.heap.size, a + i, none⟩ (.int .u64 s)) := by
  refine ⟨h.bel.setCell (Nat.le_refl _) _, h.row.set _ _, h.box.other _ _ (by simp), h.zer.set_other _ _ (by simp; omega), fun j => ?_, fun j hj => ?_, off_step h.eq e1 e2, hc, hb0, hb1⟩
  · split
    · exact hs
    · exact h.u j
  · rw [if_neg (by omega)]; exact h.same j (by omega)
theorem Tk.fin {w : World} {r0 : Nat → Int} {d0 d1 d2 d3 : Int} {a n : Nat} {k : Int} {c b : Int} {r : Nat → Int} {W : World} (h : Tk w r0 d0 d1 d2 d3 a k n c b r W) {s b' : Int} (e2 : r0 (a + n) - c - b = s - Bd * b')
    (hs : U64 s) (hb0 : 0 ≤ b') (hb1 : b' ≤ 1) : Off r0 (limb d0 d1 d2 d3) n a k (fun j => if j = a + n then s else r j) (b' == 0) := by
  refine Off.of (fun j => ?_) (fun j hj => ?_) (off_end h.eq e2) hb0 hb1
  · split
    · exact hs
    · exact h.u j
  · rw [if_neg (by omega)]; exact h.same j (by omega)
theorem Tk.drew {w : World} {r0 : Nat → Int} {d0 d1 d2 d3 : Int} {a n : Nat} {k : Int} {c b : Int} {r : Nat → Int} {W : World} (h : Tk w r0 d0 d1 d2 d3 a k n c b r W) : Tk w r0 d0 d1 d2 d3 a k n c b r W.drew :=
  ⟨h.bel.drew, h.row.drew, h.box.drew, h.zer.drew, h.u, h.same, h.eq, h.cu, h.b0, h.b1⟩
theorem Tk.new (w : World) (r0 : Nat → Int) (d0 d1 d2 d3 : Int) (a : Nat) (k : Int) (hu : ∀ i, U64 (r0 i)) : Tk w r0 d0 d1 d2 d3 a k 0 0 0 r0 (((w.alloc (.cells (rowL 9 r0).toArray 90)).alloc (.cells #[.int .u64 d0, .int .u64 d1, .int .u64 d2, .int .u64 d3] 24)).alloc (.cells (rowL 9 fun _ => 0).toArray 90)) := by
  have h1 := Row.new w 90 9 r0
  have h2 := Box.new (w.alloc (.cells (rowL 9 r0).toArray 90)) 24 d0 d1 d2 d3
  have h3 := Row.new ((w.alloc (.cells (rowL 9 r0).toArray 90)).alloc (.cells #[.int .u64 d0, .int .u64 d1, .int .u64 d2, .int .u64 d3] 24)) 90 9 (fun _ => 0)
  rw [World.size_alloc] at h2 h3
  rw [World.size_alloc] at h3
  refine ⟨?_, (h1.alloc _).alloc _, h2.alloc _, h3, hu, fun j _ => rfl, by simp [nv], ⟨by omega, by unfold Bd; omega⟩, by omega, by omega⟩
  exact (((Below.refl _ _).alloc (by omega) _).alloc (by simp) _).alloc (by simp; omega) _
set_option maxHeartbeats 1000000 in
set_option maxRecDepth 100000 in
theorem takeOff_is (r0 : Nat → Int) (d0 d1 d2 d3 : Int) (n a : Nat) (k : Int) (hu : ∀ i, U64 (r0 i)) (hd0 : U64 d0) (hd1 : U64 d1) (hd2 : U64 d2) (hd3 : U64 d3) (hn : n ≤ 4) (hf : a + n < 9) (hk : U64 k) (w : World) :
    Calls Try.prog 103 #[.agg (rowL 9 r0).toArray, .agg #[.int .u64 d0, .int .u64 d1, .int .u64 d2, .int .u64 d3], .int .i64 (n : Int), .int .i64 (a : Int), .int .u64 k] w fun e w' => OffRes r0 (limb d0 d1 d2 d3) n a k e ∧ Below w.heap.size w w' := by
  have T0 : Hid _ := Tk.new w r0 d0 d1 d2 d3 a k hu
  have HU : Hid (∀ i, U64 (r0 i)) := hu
  have HD : Hid (∀ i, U64 (limb d0 d1 d2 d3 i)) := limb_u64 hd0 hd1 hd2 hd3
  have HK : Hid (U64 k) := hk
  obtain ⟨cs, ecs⟩ : ∃ cs, cs = (rowL 9 r0).toArray := ⟨_, rfl⟩
  rw [← ecs] at T0 ⊢
  clear ecs hu hd0 hd1 hd2 hd3 hk
  go_enter Try.func103, Try.ntmps103
  rw [← zero9] at T0
  go_wp2
  have nI : (n : Int) ≤ 4 := by omega
  have EF : Hid (a + n < 9) := hf
  clear hf
  go_loopw [12, 13, 17] (fun sc sb si wx => ∃ (i : Nat) (c b : Int) (r : Nat → Int), i ≤ n ∧ sc = .int .u64 c ∧ sb = .int .u64 b ∧ si = .int .i64 (i : Int) ∧ Tk w r0 d0 d1 d2 d3 a k i c b r wx) (fun _ _ si _ => n - (intOf si).toNat)
  case atStart => exact ⟨0, 0, 0, r0, by omega, rfl, rfl, rfl, T0.out⟩
  case round =>
    obtain ⟨i, c, b, r, hin, rfl, rfl, rfl, hT⟩ := hrel
    have TT : Hid (Tk w r0 d0 d1 d2 d3 a k i c b r wr) := hT
    clear hT T0
    by_cases hi : i < n
    · have iI : (i : Int) < (n : Int) := by omega
      have i4 : (i : Int) < 4 := by omega
      have cd := TT.out.box.1 i (by omega)
      obtain ⟨q, eq⟩ : ∃ q : Nat, q = a + i := ⟨_, rfl⟩
      have q9 : q < 9 := by have := EF.out; omega
      have ca := (TT.out.row q q9).1
      have fa := (TT.out.row q q9).2
      have hy := HD.out i
      have EY : Hid (limb d0 d1 d2 d3 i = limb d0 d1 d2 d3 i) := rfl
      generalize hyy : limb d0 d1 d2 d3 i = y at cd hy EY
      have HY : Hid (limb d0 d1 d2 d3 i = y) := hyy
      have hx := TT.out.u q
      have HX : Hid (r q = r0 q) := TT.out.same q (by omega)
      generalize hxx : r q = x at ca hx HX
      obtain ⟨h, l, MC, uh, ul, em⟩ := mulAdd_ex y k c hy HK.out TT.out.cu
      obtain ⟨s, b', RC, es, us, l0, l1⟩ := sub64_ex x l b hx ul TT.out.b0 TT.out.b1
      have aI : (a : Int) + (i : Int) = (q : Int) := by omega
      have qw : IntKind.i64.wrap (q : Int) = (q : Int) := by rw [IntKind.wrap_i64]; omega
      have qI : (q : Int) < 9 := by omega
      have EQ : Hid (q = a + i) := eq
      have HMC : Hid _ := MC
      have UU : Hid (U64 h ∧ U64 s ∧ 0 ≤ b' ∧ b' ≤ 1) := ⟨uh, us, l0, l1⟩
      clear MC eq hyy hxx hy hx EY uh ul us l0 l1 q9
      go_upto_region 7 with (go_at_call 100; refine (HMC.out _).mono ?_; rintro e w' ⟨rfl, hw⟩; (have hw2 := hw.symm); clear hw; subst hw2)
      go_wp2
      go_roundw
      case rel =>
        have h9 := TT.out.step (c' := h) (p := l) (s := s) (b' := b') (by rw [HY.out]; exact em.out) (by rw [← EQ.out, ← HX.out]; exact es.out) UU.out.1 UU.out.2.1 UU.out.2.2.1 UU.out.2.2.2
        rw [← EQ.out] at h9
        exact ⟨i + 1, h, b', _, by omega, rfl, rfl, by go_num, h9⟩
      case measure => simp [intOf]; omega
    · obtain rfl : i = n := by omega
      obtain ⟨q, eq⟩ : ∃ q : Nat, q = a + i := ⟨_, rfl⟩
      have q9 : q < 9 := by have := EF.out; omega
      have ca := (TT.out.row q q9).1
      have fa := (TT.out.row q q9).2
      have hx := TT.out.u q
      have HX : Hid (r q = r0 q) := TT.out.same q (by omega)
      generalize hxx : r q = x at ca hx HX
      obtain ⟨s, b', RC, es, us, l0, l1⟩ := sub64_ex x c b hx TT.out.cu TT.out.b0 TT.out.b1
      have aI : (a : Int) + (i : Int) = (q : Int) := by omega
      have qw : IntKind.i64.wrap (q : Int) = (q : Int) := by rw [IntKind.wrap_i64]; omega
      have qI : (q : Int) < 9 := by omega
      have OF : Hid (Off r0 (limb d0 d1 d2 d3) i a k (fun j => if j = q then s else r j) (b' == 0)) := by
        have h9 := TT.out.fin (s := s) (b' := b') (by rw [← eq, ← HX.out]; exact es.out) us l0 l1
        rw [← eq] at h9; exact h9
      have R1 : Hid (Row (wr.setCell ⟨w.heap.size, q, none⟩ (.int .u64 s)) w.heap.size 9 (fun j => if j = q then s else r j)) := TT.out.row.set q s
      have Z1 : Hid (Row (wr.setCell ⟨w.heap.size, q, none⟩ (.int .u64 s)) (w.heap.size + 1 + 1) 9 (fun _ => 0)) := TT.out.zer.set_other _ _ (by simp; omega)
      have B1 : Hid (Below w.heap.size w (wr.setCell ⟨w.heap.size, q, none⟩ (.int .u64 s))) := TT.out.bel.setCell (Nat.le_refl _) _
      clear eq hxx hx us l0 l1 q9
      go_upto_region 10 with fail
      generalize wr.setCell ⟨w.heap.size, q, none⟩ (.int .u64 s) = w1 at R1 Z1 B1 ⊢
      generalize (fun j => if j = q then s else r j) = g at OF R1
      go_wp2_with (first
        | refine load9 g w.heap.size rfl _ rfl rfl (Row.range R1.out) ?_
        | refine store9 g (w.heap.size + 1 + 1) rfl _ _ rfl rfl rfl (Row.there Z1.out) ?_)
      have hW := Row.of_range (v := g) Z1.out
      refine bodyPost_ret (v := .tuple #[.agg (rowL 9 g).toArray, .bool (b' == 0)]) ?_ rfl ⟨⟨g, _, rfl, OF.out⟩, below_setCells (w.heap.size + 1 + 1) (by omega) (rowL 9 g) 0 w1 B1.out⟩
      exact results_ct Try.results103 _ _ _ ⟨w.heap.size + 1 + 1, 0, none⟩ rfl rfl (loadVar9 hW.range)
end Go.Proofs.Ytpadpmkfhljiiaa
