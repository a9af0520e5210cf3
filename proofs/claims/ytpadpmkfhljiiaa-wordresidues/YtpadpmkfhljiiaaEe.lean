/- stretch and squeeze. -/
import Derived.Test.YtpadpmkfhljiiaaEb
import Derived.Test.YtpadpmkfhljiiaaEn
import Derived.Deep.CutRange
import Derived.Deep.DeepCutAuto
import Derived.LoopTactic
import Derived.Deep.RegionHeld3
namespace Go.Proofs.Ytpadpmkfhljiiaa
open Go.RowKit
/-- while it is stretched: i parts are -/
structure St (w : World) (u : Nat → Int) (s i : Nat) (r : Nat → Int) (W : World) : Prop where
  bel : Below w.heap.size w W
  rowu : Row W w.heap.size 8 u
  zer : Row W (w.heap.size + 1) 9 (fun _ => 0)
  row : Row W (w.heap.size + 1 + 1) 9 r
  u64 : ∀ j, U64 (r j)
  top : r i < 2 ^ s
  high : ∀ j, i < j → r j = 0
  eq : nv r (i + 1) = nv u i * 2 ^ s
theorem St.step {w : World} {u : Nat → Int} {s i : Nat} {r : Nat → Int} {W : World} (h : St w u s i r W) {y d : Int} (e : y + d * Bd = u i * 2 ^ s + r i) (hy : U64 y) (hd : U64 d) (hs : d < 2 ^ s) :
    St w u s (i + 1) (fun j => if j = i + 1 then d else if j = i then y else r j) ((W.setCell ⟨w.heap.size + 1 + 1, i, none⟩ (.int .u64 y)).setCell ⟨w.heap.size + 1 + 1, i + 1, none⟩ (.int .u64 d)) := by
  refine ⟨(h.bel.setCell (by simp; omega) _).setCell (by simp; omega) _, (h.rowu.set_other _ _ (by simp; omega)).set_other _ _ (by simp; omega), (h.zer.set_other _ _ (by simp)).set_other _ _ (by simp), (h.row.set _ _).set _ _, fun j => ?_, ?_, fun j hj => ?_, up_step h.eq e⟩
  · split
    · exact hd
    · split
      · exact hy
      · exact h.u64 j
  · simpa using hs
  · rw [if_neg (by omega), if_neg (by omega)]; exact h.high j (by omega)
theorem St.new (w : World) (u : Nat → Int) (s : Nat) : St w u s 0 (fun _ => 0) (((w.alloc (.cells (rowL 8 u).toArray 69)).alloc (.cells (rowL 9 fun _ => 0).toArray 90)).alloc (.cells (rowL 9 fun _ => 0).toArray 90)) := by
  have h1 := Row.new w 69 8 u
  have h2 := Row.new (w.alloc (.cells (rowL 8 u).toArray 69)) 90 9 (fun _ => 0)
  have h3 := Row.new ((w.alloc (.cells (rowL 8 u).toArray 69)).alloc (.cells (rowL 9 fun _ => 0).toArray 90)) 90 9 (fun _ => 0)
  rw [World.size_alloc] at h2 h3
  rw [World.size_alloc] at h3
  refine ⟨?_, (h1.alloc _).alloc _, h2.alloc _, h3, fun j => ⟨by simp, by unfold Bd; simp⟩, two_pos s, fun j _ => rfl, by simp [nv]⟩
  exact (((Below.refl _ _).alloc (by omega) _).alloc (by simp) _).alloc (by simp; omega) _
theorem index8 (u : Nat → Int) (i : Nat) (h : i < 8) (W : World) : Sem.run Try.prog (Instr.index 69 (.agg (rowL 8 u).toArray) (.int .i64 (i : Int))) W = .ok (.int .u64 (u i)) W := by
  obtain rfl | rfl | rfl | rfl | rfl | rfl | rfl | rfl : i = 0 ∨ i = 1 ∨ i = 2 ∨ i = 3 ∨ i = 4 ∨ i = 5 ∨ i = 6 ∨ i = 7 := by omega
  all_goals kernel_rfl
/-- what stretch answers -/
def StRes (u : Nat → Int) (s : Nat) (e : Ending) : Prop := ∃ r : Nat → Int, e = .returned (.agg (rowL 9 r).toArray) ∧ (∀ i, U64 (r i)) ∧ nv r 9 = nv u 8 * 2 ^ s
set_option maxHeartbeats 1000000 in
set_option maxRecDepth 100000 in
theorem stretch_is (u : Nat → Int) (s : Nat) (hs : s < 64) (hu : ∀ i, U64 (u i)) (w : World) :
    Calls Try.prog 101 #[.agg (rowL 8 u).toArray, .int .u64 (s : Int)] w fun e w' => StRes u s e ∧ Below w.heap.size w w' := by
  have T0 : Hid _ := St.new w u s
  have HU : Hid (∀ i, U64 (u i)) := hu
  have IX : Hid _ := index8 u
  have sI : (s : Int) < 64 := by omega
  have s0 : (0 : Int) ≤ 64 - (s : Int) := by omega
  have m5 : min s 64 = s := by omega
  have m6 : min (64 - s) 64 = 64 - s := by omega
  have w3 : IntKind.u64.wrap (64 - (s : Int)) = 64 - (s : Int) := by rw [IntKind.wrap_u64]; omega
  rw [← zero9] at T0
  clear hu
  go_enter Try.func101, Try.ntmps101
  go_wp2_with (refine load8 u w.heap.size rfl _ rfl rfl (Row.range T0.out.rowu) ?_)
  go_loopw [9] (fun si wx => ∃ (i : Nat) (r : Nat → Int), i ≤ 8 ∧ si = .int .i64 (i : Int) ∧ St w u s i r wx) (fun si _ => 8 - (intOf si).toNat)
  case atStart => exact ⟨0, _, by omega, rfl, T0.out⟩
  case round =>
    obtain ⟨i, r, hi8, rfl, hT⟩ := hrel
    have TT : Hid (St w u s i r wr) := hT
    clear hT T0
    by_cases hi : i < 8
    · have iI : (i : Int) < 8 := by omega
      have ix := IX.out i hi
      have c0 := (TT.out.row i (by omega)).1
      have f0 := (TT.out.row i (by omega)).2
      have c1 := (TT.out.row (i + 1) (by omega)).1
      have f1 := (TT.out.row (i + 1) (by omega)).2
      have hx := HU.out i
      have hc0 := (TT.out.u64 i).1
      have hct := TT.out.top
      obtain ⟨x, ex⟩ : ∃ x, u i = x := ⟨_, rfl⟩
      obtain ⟨c, ec⟩ : ∃ c, r i = c := ⟨_, rfl⟩
      obtain ⟨z, ez⟩ : ∃ z, r (i + 1) = z := ⟨_, rfl⟩
      obtain ⟨q, eq⟩ : ∃ q : Nat, i + 1 = q := ⟨_, rfl⟩
      rw [ex] at ix hx
      rw [ec] at c0 hc0 hct
      rw [ez, eq] at c1
      rw [eq] at f1
      obtain ⟨y, d, j0, j1, uy, ud, dt, ey⟩ := up_one x c s hs hx hc0 hct
      have S1 : Hid (St w u s q (fun j => if j = i + 1 then d else if j = i then y else r j) ((wr.setCell ⟨w.heap.size + 1 + 1, i, none⟩ (.int .u64 y)).setCell ⟨w.heap.size + 1 + 1, q, none⟩ (.int .u64 d))) := by
        have h := TT.out.step (y := y) (d := d) (by rw [ex, ec]; exact ey.out) uy ud dt
        rw [eq] at h ⊢; exact h
      have qI : (i : Int) + 1 = (q : Int) := by omega
      have qw : IntKind.i64.wrap (q : Int) = (q : Int) := by rw [IntKind.wrap_i64]; omega
      have q9 : (q : Int) < 9 := by omega
      have qi : ¬ i = q := by omega
      have EQ : Hid (i + 1 = q) := eq
      clear ex ec ez eq hx hc0 hct uy ud dt TT HU
      go_wp2
      go_roundw
      case rel => exact ⟨q, _, by have := EQ.out; omega, by first | rfl | go_num, S1.out⟩
      case measure => simp [intOf]; omega
    · obtain rfl : i = 8 := by omega
      have R1 : Hid (Row wr (w.heap.size + 1 + 1) 9 r) := TT.out.row
      have Z1 : Hid (Row wr (w.heap.size + 1) 9 (fun _ => 0)) := TT.out.zer
      go_wp2_with (first
        | refine load9 r (w.heap.size + 1 + 1) rfl _ rfl rfl (Row.range R1.out) ?_
        | refine store9 r (w.heap.size + 1) rfl _ _ rfl rfl rfl (Row.there Z1.out) ?_)
      have hW := Row.of_range (v := r) Z1.out
      refine bodyPost_ret (v := .agg (rowL 9 r).toArray) ?_ rfl ⟨⟨r, rfl, TT.out.u64, TT.out.eq⟩, below_setCells (w.heap.size + 1) (by omega) (rowL 9 r) 0 wr TT.out.bel⟩
      exact results_c Try.results101 _ _ _ ⟨w.heap.size + 1, 0, none⟩ rfl (loadVar9 hW.range)
set_option maxHeartbeats 1000000 in
set_option maxRecDepth 100000 in
theorem squeeze_is (r : Nat → Int) (s : Nat) (hs : s < 64) (L : Int) (p0 p1 p2 p3 : Int) (hu : ∀ i, U64 (r i)) (h : nv r 9 = L * 2 ^ s) (hM : nv r 9 < MM) (hp : IsW L p0 p1 p2 p3) (w : World) :
    Calls Try.prog 104 #[.agg (rowL 9 r).toArray, .int .u64 (s : Int)] w fun e w' => e = .returned (.agg #[.int .u64 p0, .int .u64 p1, .int .u64 p2, .int .u64 p3]) ∧ Below w.heap.size w w' := by
  obtain ⟨e0, e1, e2, e3⟩ := hp.eq (squeeze_num hu s hs L h hM) rfl
  have t1 : ((s : Int)).toNat = s := by omega
  have t2 : (64 - (s : Int)).toNat = 64 - s := by omega
  rw [dnJ, t1, t2] at e0 e1 e2 e3
  have j0 := e0.symm
  have j1 := e1.symm
  have j2 := e2.symm
  have j3 := e3.symm
  have sI : (s : Int) < 64 := by omega
  have s0 : (0 : Int) ≤ 64 - (s : Int) := by omega
  have m5 : min s 64 = s := by omega
  have m6 : min (64 - s) 64 = 64 - s := by omega
  have w3 : IntKind.u64.wrap (64 - (s : Int)) = 64 - (s : Int) := by rw [IntKind.wrap_u64]; omega
  clear hp h hM hu e0 e1 e2 e3 t1 t2
  show Calls _ _ #[.agg #[.int .u64 (r 0), .int .u64 (r 1), .int .u64 (r 2), .int .u64 (r 3), .int .u64 (r 4), .int .u64 (r 5), .int .u64 (r 6), .int .u64 (r 7), .int .u64 (r 8)], _] _ _
  generalize r 0 = z0 at *
  generalize r 1 = z1 at *
  generalize r 2 = z2 at *
  generalize r 3 = z3 at *
  generalize r 4 = z4 at *
  generalize r 5 = z5 at *
  generalize r 6 = z6 at *
  generalize r 7 = z7 at *
  generalize r 8 = z8 at *
  go_enter Try.func104, Try.ntmps104
  go_wp2
  refine wp_loop_rounds 5 ?_
  rw [rounds_succ]
  go_wp2
  go_region
  go_wp2
  rw [rounds_succ]
  go_wp2
  go_region
  go_wp2
  rw [rounds_succ]
  go_wp2
  go_region
  go_wp2
  rw [rounds_succ]
  go_wp2
  go_region
  go_wp2
  rw [rounds_succ]
  go_wp2
  exact bodyPost_ret (v := .agg #[.int .u64 p0, .int .u64 p1, .int .u64 p2, .int .u64 p3]) (by simp [results, Try.results104, go_sem]) rfl ⟨rfl, by repeat' (first | with_reducible exact Below.refl _ _ | with_reducible exact Below.refl _ _ | with_reducible refine Below.drew ?_ | with_reducible refine bdrewN ?_ _ | with_reducible refine Below.alloc ?_ ?_ _ | with_reducible refine Below.setCell ?_ ?_ _ | omega | (simp; done) | (simp; omega))⟩
end Go.Proofs.Ytpadpmkfhljiiaa
