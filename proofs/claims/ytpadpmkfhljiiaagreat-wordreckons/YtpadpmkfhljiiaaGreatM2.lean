/- The comparisons of package word, for every two words. -/
import Derived.Test.YtpadpmkfhljiiaaGreatM1
import Derived.Deep.RegionWith
import Derived.Deep.RegionHeld3
import Derived.Deep.MidRow
namespace Go.Proofs.YtpadpmkfhljiiaaGreat
open Go.RowKit

set_option maxHeartbeats 400000 in
set_option maxRecDepth 100000 in
theorem lt_any (x y : Int) (a0 a1 a2 a3 b0 b1 b2 b3 : Int) (w : World) (ha : IsW x a0 a1 a2 a3) (hb : IsW y b0 b1 b2 b3) :
    Calls Tryz.prog 96 #[.agg #[.int .u64 a0, .int .u64 a1, .int .u64 a2, .int .u64 a3], .agg #[.int .u64 b0, .int .u64 b1, .int .u64 b2, .int .u64 b3]] w fun e w' => e = .returned (.bool (decide (x % MM < y % MM))) ∧ Below w.heap.size w w' := by
  go_enter Tryz.func96, Tryz.ntmps96
  go_wp2_with fail
  refine (cmp_any x y _ _ _ _ _ _ _ _ _ ha hb).mono ?_
  rintro e w1 ⟨rfl, hB⟩
  have B1 : Below w.heap.size w w1 := Below.trans (by repeat' (first | with_reducible exact Below.refl _ _ | with_reducible exact Below.refl _ _ | with_reducible refine Below.drew ?_ | with_reducible refine bdrewN ?_ _ | with_reducible refine Below.alloc ?_ ?_ _ | with_reducible refine Below.setCell ?_ ?_ _ | omega | (simp; done) | (simp; omega))) (hB.mono (by first | omega | (simp; done) | (simp; omega)))
  clear hB
  generalize hr : cmpv (x % MM) (y % MM) = r
  have HR : Hid (cmpv (x % MM) (y % MM) = r) := hr
  clear hr
  go_wp2
  go_ret
  exact ⟨ret_bool (by rw [← HR.out]; exact cmpv_lt _ _), by repeat' (first | with_reducible exact B1 | with_reducible exact Below.refl _ _ | with_reducible refine Below.drew ?_ | with_reducible refine bdrewN ?_ _ | with_reducible refine Below.alloc ?_ ?_ _ | with_reducible refine Below.setCell ?_ ?_ _ | omega | (simp; done) | (simp; omega))⟩

set_option maxHeartbeats 400000 in
set_option maxRecDepth 100000 in
theorem gt_any (x y : Int) (a0 a1 a2 a3 b0 b1 b2 b3 : Int) (w : World) (ha : IsW x a0 a1 a2 a3) (hb : IsW y b0 b1 b2 b3) :
    Calls Tryz.prog 99 #[.agg #[.int .u64 a0, .int .u64 a1, .int .u64 a2, .int .u64 a3], .agg #[.int .u64 b0, .int .u64 b1, .int .u64 b2, .int .u64 b3]] w fun e w' => e = .returned (.bool (decide (y % MM < x % MM))) ∧ Below w.heap.size w w' := by
  go_enter Tryz.func99, Tryz.ntmps99
  go_wp2_with fail
  refine (cmp_any x y _ _ _ _ _ _ _ _ _ ha hb).mono ?_
  rintro e w1 ⟨rfl, hB⟩
  have B1 : Below w.heap.size w w1 := Below.trans (by repeat' (first | with_reducible exact Below.refl _ _ | with_reducible exact Below.refl _ _ | with_reducible refine Below.drew ?_ | with_reducible refine bdrewN ?_ _ | with_reducible refine Below.alloc ?_ ?_ _ | with_reducible refine Below.setCell ?_ ?_ _ | omega | (simp; done) | (simp; omega))) (hB.mono (by first | omega | (simp; done) | (simp; omega)))
  clear hB
  generalize hr : cmpv (x % MM) (y % MM) = r
  have HR : Hid (cmpv (x % MM) (y % MM) = r) := hr
  clear hr
  go_wp2
  go_ret
  exact ⟨ret_bool (by rw [← HR.out]; exact cmpv_gt _ _), by repeat' (first | with_reducible exact B1 | with_reducible exact Below.refl _ _ | with_reducible refine Below.drew ?_ | with_reducible refine bdrewN ?_ _ | with_reducible refine Below.alloc ?_ ?_ _ | with_reducible refine Below.setCell ?_ ?_ _ | omega | (simp; done) | (simp; omega))⟩

set_option maxHeartbeats 400000 in
set_option maxRecDepth 100000 in
theorem eq_any (x y : Int) (a0 a1 a2 a3 b0 b1 b2 b3 : Int) (w : World) (ha : IsW x a0 a1 a2 a3) (hb : IsW y b0 b1 b2 b3) :
    Calls Tryz.prog 153 #[.agg #[.int .u64 a0, .int .u64 a1, .int .u64 a2, .int .u64 a3], .agg #[.int .u64 b0, .int .u64 b1, .int .u64 b2, .int .u64 b3]] w fun e w' => e = .returned (.bool (decide (x % MM = y % MM))) ∧ Below w.heap.size w w' := by
  have hq := eqw_run a0 a1 a2 a3 b0 b1 b2 b3
  go_enter Tryz.func153, Tryz.ntmps153
  go_wp2
  go_ret
  exact ⟨ret_bool (ha.eqw hb), by repeat' (first | with_reducible exact Below.refl _ _ | with_reducible exact Below.refl _ _ | with_reducible refine Below.drew ?_ | with_reducible refine bdrewN ?_ _ | with_reducible refine Below.alloc ?_ ?_ _ | with_reducible refine Below.setCell ?_ ?_ _ | omega | (simp; done) | (simp; omega))⟩

set_option maxHeartbeats 400000 in
set_option maxRecDepth 100000 in
theorem isZero_any (x : Int) (a0 a1 a2 a3 : Int) (w : World) (ha : IsW x a0 a1 a2 a3) :
    Calls Tryz.prog 155 #[.agg #[.int .u64 a0, .int .u64 a1, .int .u64 a2, .int .u64 a3]] w fun e w' => e = .returned (.bool (decide (x % MM = 0))) ∧ Below w.heap.size w w' := by
  have hq := eqw_run a0 a1 a2 a3 0 0 0 0
  go_enter Tryz.func155, Tryz.ntmps155
  go_wp2
  go_ret
  exact ⟨ret_bool (ha.eqw isW_0), by repeat' (first | with_reducible exact Below.refl _ _ | with_reducible exact Below.refl _ _ | with_reducible refine Below.drew ?_ | with_reducible refine bdrewN ?_ _ | with_reducible refine Below.alloc ?_ ?_ _ | with_reducible refine Below.setCell ?_ ?_ _ | omega | (simp; done) | (simp; omega))⟩

set_option maxHeartbeats 400000 in
set_option maxRecDepth 100000 in
theorem negative_any (x : Int) (a0 a1 a2 a3 : Int) (w : World) (ha : IsW x a0 a1 a2 a3) :
    Calls Tryz.prog 91 #[.agg #[.int .u64 a0, .int .u64 a1, .int .u64 a2, .int .u64 a3]] w fun e w' => e = .returned (.bool (decide (MM / 2 ≤ x % MM))) ∧ Below w.heap.size w w' := by
  go_enter Tryz.func91, Tryz.ntmps91
  go_wp2
  go_ret
  exact ⟨ret_bool ha.neg, by repeat' (first | with_reducible exact Below.refl _ _ | with_reducible exact Below.refl _ _ | with_reducible refine Below.drew ?_ | with_reducible refine bdrewN ?_ _ | with_reducible refine Below.alloc ?_ ?_ _ | with_reducible refine Below.setCell ?_ ?_ _ | omega | (simp; done) | (simp; omega))⟩

set_option maxHeartbeats 400000 in
set_option maxRecDepth 100000 in
theorem flipSign_any (x : Int) (a0 a1 a2 a3 : Int) (w : World) (ha : IsW x a0 a1 a2 a3) :
    Calls Tryz.prog 97 #[.agg #[.int .u64 a0, .int .u64 a1, .int .u64 a2, .int .u64 a3]] w fun e w' => ∃ s0 s1 s2 s3 : Int, e = .returned (.agg #[.int .u64 s0, .int .u64 s1, .int .u64 s2, .int .u64 s3]) ∧ IsW (x + MM / 2) s0 s1 s2 s3 ∧ Below w.heap.size w w' := by
  go_enter Tryz.func97, Tryz.ntmps97
  go_wp2
  exact bodyPost_ret (v := .agg #[.int .u64 a0, .int .u64 a1, .int .u64 a2, .int .u64 (bits BinOp.xor IntKind.u64 a3 9223372036854775808)]) (by simp [results, Tryz.results97, go_sem]) rfl
    ⟨_, _, _, _, rfl, ha.flip, by repeat' (first | with_reducible exact Below.refl _ _ | with_reducible exact Below.refl _ _ | with_reducible refine Below.drew ?_ | with_reducible refine bdrewN ?_ _ | with_reducible refine Below.alloc ?_ ?_ _ | with_reducible refine Below.setCell ?_ ?_ _ | omega | (simp; done) | (simp; omega))⟩

set_option maxHeartbeats 400000 in
set_option maxRecDepth 100000 in
theorem slt_any (x y : Int) (a0 a1 a2 a3 b0 b1 b2 b3 : Int) (w : World) (ha : IsW x a0 a1 a2 a3) (hb : IsW y b0 b1 b2 b3) :
    Calls Tryz.prog 26 #[.agg #[.int .u64 a0, .int .u64 a1, .int .u64 a2, .int .u64 a3], .agg #[.int .u64 b0, .int .u64 b1, .int .u64 b2, .int .u64 b3]] w fun e w' => e = .returned (.bool (decide ((x + MM / 2) % MM < (y + MM / 2) % MM))) ∧ Below w.heap.size w w' := by
  go_enter Tryz.func26, Tryz.ntmps26
  go_wp2
  go_region_held3 (fun w' => Below w.heap.size w w' ∧ w.heap.size + 1 < w'.heap.size ∧ w'.cell? ⟨w.heap.size, 0, none⟩ = some (.int .u64 a0) ∧ w'.cell? ⟨w.heap.size, 1, none⟩ = some (.int .u64 a1) ∧ w'.cell? ⟨w.heap.size, 2, none⟩ = some (.int .u64 a2) ∧ w'.cell? ⟨w.heap.size, 3, none⟩ = some (.int .u64 a3) ∧ w'.cell? ⟨w.heap.size + 1, 0, none⟩ = some (.int .u64 b0) ∧ w'.cell? ⟨w.heap.size + 1, 1, none⟩ = some (.int .u64 b1) ∧ w'.cell? ⟨w.heap.size + 1, 2, none⟩ = some (.int .u64 b2) ∧ w'.cell? ⟨w.heap.size + 1, 3, none⟩ = some (.int .u64 b3)) (first | (have hzz := hB3.size; go_split_ands; (try dsimp only); refine ⟨?_, ?_, ?_, ?_, ?_, ?_, ?_, ?_, ?_, ?_⟩ <;> first | (with_reducible refine Below.trans ?_ (hB3.mono ?_) <;> first | with_reducible assumption | omega | ((try simp at hzz); omega) | (simp; omega) | ((repeat' (first | with_reducible exact Below.refl _ _ | with_reducible exact Below.refl _ _ | with_reducible refine Below.drew ?_ | with_reducible refine bdrewN ?_ _ | with_reducible refine Below.alloc ?_ ?_ _ | with_reducible refine Below.setCell ?_ ?_ _ | omega | (simp; done) | (simp; omega))); done)) | ((try simp at hzz); omega) | (with_reducible refine (hB3.cell ?_).trans ?_ <;> first | with_reducible assumption | omega | (simp; done) | (simp; omega) | (go_simp; done)) | (with_reducible refine (hB3.frozen ?_).trans ?_ <;> first | with_reducible assumption | omega | (simp; done) | (simp; omega) | (go_simp; done))) | (have hzz := hB2.size; go_split_ands; (try dsimp only); refine ⟨?_, ?_, ?_, ?_, ?_, ?_, ?_, ?_, ?_, ?_⟩ <;> first | (with_reducible refine Below.trans ?_ (hB2.mono ?_) <;> first | with_reducible assumption | omega | ((try simp at hzz); omega) | (simp; omega) | ((repeat' (first | with_reducible exact Below.refl _ _ | with_reducible exact Below.refl _ _ | with_reducible refine Below.drew ?_ | with_reducible refine bdrewN ?_ _ | with_reducible refine Below.alloc ?_ ?_ _ | with_reducible refine Below.setCell ?_ ?_ _ | omega | (simp; done) | (simp; omega))); done)) | ((try simp at hzz); omega) | (with_reducible refine (hB2.cell ?_).trans ?_ <;> first | with_reducible assumption | omega | (simp; done) | (simp; omega) | (go_simp; done)) | (with_reducible refine (hB2.frozen ?_).trans ?_ <;> first | with_reducible assumption | omega | (simp; done) | (simp; omega) | (go_simp; done))) | (have hzz := hB1.size; go_split_ands; (try dsimp only); refine ⟨?_, ?_, ?_, ?_, ?_, ?_, ?_, ?_, ?_, ?_⟩ <;> first | (with_reducible refine Below.trans ?_ (hB1.mono ?_) <;> first | with_reducible assumption | omega | ((try simp at hzz); omega) | (simp; omega) | ((repeat' (first | with_reducible exact Below.refl _ _ | with_reducible exact Below.refl _ _ | with_reducible refine Below.drew ?_ | with_reducible refine bdrewN ?_ _ | with_reducible refine Below.alloc ?_ ?_ _ | with_reducible refine Below.setCell ?_ ?_ _ | omega | (simp; done) | (simp; omega))); done)) | ((try simp at hzz); omega) | (with_reducible refine (hB1.cell ?_).trans ?_ <;> first | with_reducible assumption | omega | (simp; done) | (simp; omega) | (go_simp; done)) | (with_reducible refine (hB1.frozen ?_).trans ?_ <;> first | with_reducible assumption | omega | (simp; done) | (simp; omega) | (go_simp; done))) | ((try dsimp only); refine ⟨?_, ?_, ?_, ?_, ?_, ?_, ?_, ?_, ?_, ?_⟩ <;> first | with_reducible assumption | (simp; done) | (go_simp; done) | ((repeat' (first | with_reducible exact Below.refl _ _ | with_reducible exact Below.refl _ _ | with_reducible refine Below.drew ?_ | with_reducible refine bdrewN ?_ _ | with_reducible refine Below.alloc ?_ ?_ _ | with_reducible refine Below.setCell ?_ ?_ _ | omega | (simp; done) | (simp; omega))); done))) (first
    | (go_at_call_of 97 (a0); refine (flipSign_any x _ _ _ _ _ ha).mono ?_; rintro e w1 ⟨s0, s1, s2, s3, rfl, hs, hB1⟩)
    | (go_at_call_of 97 (b0); refine (flipSign_any y _ _ _ _ _ hb).mono ?_; rintro e w2 ⟨t0, t1, t2, t3, rfl, ht, hB2⟩)
    | (go_at_call 96; refine (lt_any _ _ _ _ _ _ _ _ _ _ _ hs ht).mono ?_; rintro e w3 ⟨rfl, hB3⟩))
  go_split_ands
  go_wp2
  go_ret
  exact ⟨rfl, by assumption⟩

set_option maxHeartbeats 400000 in
set_option maxRecDepth 100000 in
theorem sgt_any (x y : Int) (a0 a1 a2 a3 b0 b1 b2 b3 : Int) (w : World) (ha : IsW x a0 a1 a2 a3) (hb : IsW y b0 b1 b2 b3) :
    Calls Tryz.prog 28 #[.agg #[.int .u64 a0, .int .u64 a1, .int .u64 a2, .int .u64 a3], .agg #[.int .u64 b0, .int .u64 b1, .int .u64 b2, .int .u64 b3]] w fun e w' => e = .returned (.bool (decide ((y + MM / 2) % MM < (x + MM / 2) % MM))) ∧ Below w.heap.size w w' := by
  go_enter Tryz.func28, Tryz.ntmps28
  go_wp2
  go_region_held3 (fun w' => Below w.heap.size w w' ∧ w.heap.size + 1 < w'.heap.size ∧ w'.cell? ⟨w.heap.size, 0, none⟩ = some (.int .u64 a0) ∧ w'.cell? ⟨w.heap.size, 1, none⟩ = some (.int .u64 a1) ∧ w'.cell? ⟨w.heap.size, 2, none⟩ = some (.int .u64 a2) ∧ w'.cell? ⟨w.heap.size, 3, none⟩ = some (.int .u64 a3) ∧ w'.cell? ⟨w.heap.size + 1, 0, none⟩ = some (.int .u64 b0) ∧ w'.cell? ⟨w.heap.size + 1, 1, none⟩ = some (.int .u64 b1) ∧ w'.cell? ⟨w.heap.size + 1, 2, none⟩ = some (.int .u64 b2) ∧ w'.cell? ⟨w.heap.size + 1, 3, none⟩ = some (.int .u64 b3)) (first | (have hzz := hB3.size; go_split_ands; (try dsimp only); refine ⟨?_, ?_, ?_, ?_, ?_, ?_, ?_, ?_, ?_, ?_⟩ <;> first | (with_reducible refine Below.trans ?_ (hB3.mono ?_) <;> first | with_reducible assumption | omega | ((try simp at hzz); omega) | (simp; omega) | ((repeat' (first | with_reducible exact Below.refl _ _ | with_reducible exact Below.refl _ _ | with_reducible refine Below.drew ?_ | with_reducible refine bdrewN ?_ _ | with_reducible refine Below.alloc ?_ ?_ _ | with_reducible refine Below.setCell ?_ ?_ _ | omega | (simp; done) | (simp; omega))); done)) | ((try simp at hzz); omega) | (with_reducible refine (hB3.cell ?_).trans ?_ <;> first | with_reducible assumption | omega | (simp; done) | (simp; omega) | (go_simp; done)) | (with_reducible refine (hB3.frozen ?_).trans ?_ <;> first | with_reducible assumption | omega | (simp; done) | (simp; omega) | (go_simp; done))) | (have hzz := hB2.size; go_split_ands; (try dsimp only); refine ⟨?_, ?_, ?_, ?_, ?_, ?_, ?_, ?_, ?_, ?_⟩ <;> first | (with_reducible refine Below.trans ?_ (hB2.mono ?_) <;> first | with_reducible assumption | omega | ((try simp at hzz); omega) | (simp; omega) | ((repeat' (first | with_reducible exact Below.refl _ _ | with_reducible exact Below.refl _ _ | with_reducible refine Below.drew ?_ | with_reducible refine bdrewN ?_ _ | with_reducible refine Below.alloc ?_ ?_ _ | with_reducible refine Below.setCell ?_ ?_ _ | omega | (simp; done) | (simp; omega))); done)) | ((try simp at hzz); omega) | (with_reducible refine (hB2.cell ?_).trans ?_ <;> first | with_reducible assumption | omega | (simp; done) | (simp; omega) | (go_simp; done)) | (with_reducible refine (hB2.frozen ?_).trans ?_ <;> first | with_reducible assumption | omega | (simp; done) | (simp; omega) | (go_simp; done))) | (have hzz := hB1.size; go_split_ands; (try dsimp only); refine ⟨?_, ?_, ?_, ?_, ?_, ?_, ?_, ?_, ?_, ?_⟩ <;> first | (with_reducible refine Below.trans ?_ (hB1.mono ?_) <;> first | with_reducible assumption | omega | ((try simp at hzz); omega) | (simp; omega) | ((repeat' (first | with_reducible exact Below.refl _ _ | with_reducible exact Below.refl _ _ | with_reducible refine Below.drew ?_ | with_reducible refine bdrewN ?_ _ | with_reducible refine Below.alloc ?_ ?_ _ | with_reducible refine Below.setCell ?_ ?_ _ | omega | (simp; done) | (simp; omega))); done)) | ((try simp at hzz); omega) | (with_reducible refine (hB1.cell ?_).trans ?_ <;> first | with_reducible assumption | omega | (simp; done) | (simp; omega) | (go_simp; done)) | (with_reducible refine (hB1.frozen ?_).trans ?_ <;> first | with_reducible assumption | omega | (simp; done) | (simp; omega) | (go_simp; done))) | ((try dsimp only); refine ⟨?_, ?_, ?_, ?_, ?_, ?_, ?_, ?_, ?_, ?_⟩ <;> first | with_reducible assumption | (simp; done) | (go_simp; done) | ((repeat' (first | with_reducible exact Below.refl _ _ | with_reducible exact Below.refl _ _ | with_reducible refine Below.drew ?_ | with_reducible refine bdrewN ?_ _ | with_reducible refine Below.alloc ?_ ?_ _ | with_reducible refine Below.setCell ?_ ?_ _ | omega | (simp; done) | (simp; omega))); done))) (first
    | (go_at_call_of 97 (a0); refine (flipSign_any x _ _ _ _ _ ha).mono ?_; rintro e w1 ⟨s0, s1, s2, s3, rfl, hs, hB1⟩)
    | (go_at_call_of 97 (b0); refine (flipSign_any y _ _ _ _ _ hb).mono ?_; rintro e w2 ⟨t0, t1, t2, t3, rfl, ht, hB2⟩)
    | (go_at_call 99; refine (gt_any _ _ _ _ _ _ _ _ _ _ _ hs ht).mono ?_; rintro e w3 ⟨rfl, hB3⟩))
  go_split_ands
  go_wp2
  go_ret
  exact ⟨rfl, by assumption⟩
end Go.Proofs.YtpadpmkfhljiiaaGreat
/- What Do reaches: the table of deeds, and the first of them. -/
namespace Go.Proofs.YtpadpmkfhljiiaaGreat
open Go.RowKit

theorem results_cell {fn : Func} {p : Tmp} {ty : TypeId} (h : fn.results = #[.cell p ty]) (tmps : Array Value) (P : Program) (w : World) :
    (results fn tmps).run P w = ((asAddr (tmps.getD p undef)).run P w).andThen fun a w₁ => ((loadVar ty a).run P w₁).andThen fun v w₂ => .ok v w₂ := by
  simp only [results, h]
  simp [Sem.run_bind, Result.andThen]
  split <;> (try rfl)
  split <;> simp_all
theorem bsetCells {B : Nat} {a : World} {b : Nat} : ∀ (vs : List Value) (o : Nat) {w : World}, Below B a w → B ≤ b → Below B a (w.setCells b o vs)
  | [], _, _, h, _ => h
  | _ :: r, o, _, h, hb => bsetCells r (o + 1) (h.setCell (p := ⟨b, o, none⟩) hb _) hb
theorem size_setCells {b : Nat} : ∀ (vs : List Value) (o : Nat) (w : World), (w.setCells b o vs).heap.size = w.heap.size
  | [], _, _ => rfl
  | v :: r, o, w => by rw [World.setCells, size_setCells r (o + 1)]; simp [World.setCell]
/-- The table that deeds makes. -/
def tbl : List Value := [.nilFunc, .func (.func 135) #[] #[], .func (.func 136) #[] #[], .func (.func 137) #[] #[], .func (.func 138) #[] #[], .func (.func 139) #[] #[], .func (.func 140) #[] #[], .func (.func 141) #[] #[], .func (.func 142) #[] #[], .func (.func 143) #[] #[], .func (.func 144) #[] #[], .func (.func 146) #[] #[], .nilFunc, .nilFunc, .nilFunc, .nilFunc, .func (.func 147) #[] #[], .func (.func 149) #[] #[], .func (.func 150) #[] #[], .func (.func 151) #[] #[], .func (.func 152) #[] #[], .func (.func 154) #[] #[], .func (.func 156) #[] #[], .func (.func 157) #[] #[], .func (.func 158) #[] #[], .func (.func 159) #[] #[], .func (.func 160) #[] #[], .func (.func 161) #[] #[], .func (.func 162) #[] #[], .func (.func 163) #[] #[], .func (.func 164) #[] #[]]
theorem there_new (w : World) (C : Array Value) (t : TypeId) : (w.alloc (.cells C t)).there w.heap.size 0 C.size := by
  intro j hj
  have hb : (w.alloc (.cells C t)).heap[w.heap.size]? = some (.cells C t) := by show (w.heap.push _)[w.heap.size]? = _; simp
  refine ⟨?_, ?_⟩
  · simp only [World.cell?, hb]; simp [hj]
  · simp only [World.frozen?, hb]; simp
set_option maxHeartbeats 400000 in
set_option maxRecDepth 100000 in
theorem deeds_any (w : World) : Calls Tryz.prog 111 #[] w fun e w' => e = .returned (.agg tbl.toArray) ∧ Below w.heap.size w w' := by
  go_enter Tryz.func111, Tryz.ntmps111
  go_wp2_with (refine wpList_store_mid rfl 93 _ _ rfl w.heap.size 0 tbl.toArray rfl rfl ?_ (by kernel_rfl) (by kernel_rfl) ?_)
  · exact there_new w _ _
  · have ht := there_new w #[.nilFunc, .nilFunc, .nilFunc, .nilFunc, .nilFunc, .nilFunc, .nilFunc, .nilFunc, .nilFunc, .nilFunc, .nilFunc, .nilFunc, .nilFunc, .nilFunc, .nilFunc, .nilFunc, .nilFunc, .nilFunc, .nilFunc, .nilFunc, .nilFunc, .nilFunc, .nilFunc, .nilFunc, .nilFunc, .nilFunc, .nilFunc, .nilFunc, .nilFunc, .nilFunc, .nilFunc] 93
    have hr := World.rangeAt_setCells_same _ w.heap.size 0 tbl ht
    have hl := run_loadVar_mid (P := Tryz.prog) _ w.heap.size 0 93 tbl _ hr Tryz.underlying93 rfl (by kernel_rfl)
    refine bodyPost_ret (v := .agg tbl.toArray) ?_ rfl ⟨rfl, bsetCells _ _ (by repeat' (first | with_reducible exact Below.refl _ _ | with_reducible exact Below.refl _ _ | with_reducible refine Below.drew ?_ | with_reducible refine bdrewN ?_ _ | with_reducible refine Below.alloc ?_ ?_ _ | with_reducible refine Below.setCell ?_ ?_ _ | omega | (simp; done) | (simp; omega))) (Nat.le_refl _)⟩
    rw [results_cell (fn := Tryz.f111) Tryz.results111]
    simp only [Act.put, Array.getD_eq_getD_getElem?, List.getElem?_toArray, List.getElem?_cons_zero, Option.getD_some, asAddr, Sem.run_pure, Result.andThen_ok, hl]
theorem store_tbl {ops : Array Oper} {rest : List Oper} {op : Oper} {a : Act} {w : World} {Q : Exit → Act → World → Prop} (hgd : op.guard = none) (x y : Operand) (ho : op.op = .store 93 x y)
    (b : Nat) (hx : a.eval x = .pointer (some ⟨b, 0, none⟩)) (hy : a.eval y = .agg tbl.toArray) (ht : w.there b 0 31)
    (h : ∀ w2, Below b w w2 → w2.heap.size = w.heap.size → w2.rangeAt b 0 tbl → wpList Tryz.prog ops Q rest (a.put op.dst undef) w2) : wpList Tryz.prog ops Q (op :: rest) a w :=
  wpList_store_mid hgd 93 x y ho b 0 tbl.toArray hx hy ht (by kernel_rfl) (by kernel_rfl)
    (h _ (bsetCells _ _ (Below.refl _ _) (Nat.le_refl _)) (size_setCells _ _ _) (World.rangeAt_setCells_same w b 0 tbl ht))

set_option maxHeartbeats 400000 in
set_option maxRecDepth 100000 in
theorem deed1_any (x y : Int) (a0 a1 a2 a3 b0 b1 b2 b3 c0 c1 c2 c3 : Int) (w : World) (ha : IsW x a0 a1 a2 a3) (hb : IsW y b0 b1 b2 b3) :
    Calls Tryz.prog 135 #[.agg #[.int .u64 a0, .int .u64 a1, .int .u64 a2, .int .u64 a3], .agg #[.int .u64 b0, .int .u64 b1, .int .u64 b2, .int .u64 b3], .agg #[.int .u64 c0, .int .u64 c1, .int .u64 c2, .int .u64 c3]] w fun e w' => ∃ s0 s1 s2 s3 : Int, e = .returned (.agg #[.int .u64 s0, .int .u64 s1, .int .u64 s2, .int .u64 s3]) ∧ IsW (x + y) s0 s1 s2 s3 ∧ Below w.heap.size w w' := by
  go_enter Tryz.func135, Tryz.ntmps135
  go_wp2_with fail
  refine (add_any x y _ _ _ _ _ _ _ _ _ ha hb).mono ?_
  rintro e w1 ⟨s0, s1, s2, s3, rfl, hs, hB⟩
  have zz : w.heap.size + 1 + 1 + 1 < w1.heap.size := by have := hB.size; simp at this; omega
  have kk0 : w1.cell? ⟨w.heap.size + 1 + 1 + 1, 0, none⟩ = some (.int .u64 0) := (hB.cell (p := ⟨w.heap.size + 1 + 1 + 1, 0, none⟩) (by first | omega | (simp; done) | (simp; omega))).trans (by go_simp)
  have kk1 : w1.cell? ⟨w.heap.size + 1 + 1 + 1, 1, none⟩ = some (.int .u64 0) := (hB.cell (p := ⟨w.heap.size + 1 + 1 + 1, 1, none⟩) (by first | omega | (simp; done) | (simp; omega))).trans (by go_simp)
  have kk2 : w1.cell? ⟨w.heap.size + 1 + 1 + 1, 2, none⟩ = some (.int .u64 0) := (hB.cell (p := ⟨w.heap.size + 1 + 1 + 1, 2, none⟩) (by first | omega | (simp; done) | (simp; omega))).trans (by go_simp)
  have kk3 : w1.cell? ⟨w.heap.size + 1 + 1 + 1, 3, none⟩ = some (.int .u64 0) := (hB.cell (p := ⟨w.heap.size + 1 + 1 + 1, 3, none⟩) (by first | omega | (simp; done) | (simp; omega))).trans (by go_simp)
  have ff0 : w1.frozen? ⟨w.heap.size + 1 + 1 + 1, 0, none⟩ = false := (hB.frozen (p := ⟨w.heap.size + 1 + 1 + 1, 0, none⟩) (by first | omega | (simp; done) | (simp; omega))).trans (by go_simp)
  have ff1 : w1.frozen? ⟨w.heap.size + 1 + 1 + 1, 1, none⟩ = false := (hB.frozen (p := ⟨w.heap.size + 1 + 1 + 1, 1, none⟩) (by first | omega | (simp; done) | (simp; omega))).trans (by go_simp)
  have ff2 : w1.frozen? ⟨w.heap.size + 1 + 1 + 1, 2, none⟩ = false := (hB.frozen (p := ⟨w.heap.size + 1 + 1 + 1, 2, none⟩) (by first | omega | (simp; done) | (simp; omega))).trans (by go_simp)
  have ff3 : w1.frozen? ⟨w.heap.size + 1 + 1 + 1, 3, none⟩ = false := (hB.frozen (p := ⟨w.heap.size + 1 + 1 + 1, 3, none⟩) (by first | omega | (simp; done) | (simp; omega))).trans (by go_simp)
  have BB : Below w.heap.size w w1 := Below.trans (by repeat' (first | with_reducible exact Below.refl _ _ | with_reducible exact Below.refl _ _ | with_reducible refine Below.drew ?_ | with_reducible refine bdrewN ?_ _ | with_reducible refine Below.alloc ?_ ?_ _ | with_reducible refine Below.setCell ?_ ?_ _ | omega | (simp; done) | (simp; omega))) (hB.mono (by first | omega | (simp; done) | (simp; omega)))
  clear hB
  go_wp2
  exact bodyPost_ret (v := .agg #[.int .u64 s0, .int .u64 s1, .int .u64 s2, .int .u64 s3]) (by simp [results, Tryz.results135, go_sem, kk0, kk1, kk2, kk3]) rfl
    ⟨s0, s1, s2, s3, rfl, hs, by repeat' (first | with_reducible exact BB | with_reducible exact Below.refl _ _ | with_reducible refine Below.drew ?_ | with_reducible refine bdrewN ?_ _ | with_reducible refine Below.alloc ?_ ?_ _ | with_reducible refine Below.setCell ?_ ?_ _ | omega | (simp; done) | (simp; omega))⟩
theorem eqf_run (f : FuncId) (W : World) : (binOp .eql 92 (.func (.func f) #[] #[]) .nilFunc).run Tryz.prog W = .ok (.bool false) W := by kernel_rfl

set_option maxHeartbeats 1000000 in
set_option maxRecDepth 100000 in
theorem do1_any (x y : Int) (a0 a1 a2 a3 b0 b1 b2 b3 c0 c1 c2 c3 : Int) (w : World) (ha : IsW x a0 a1 a2 a3) (hb : IsW y b0 b1 b2 b3) :
    Calls Tryz.prog 56 #[.int .i64 1, .agg #[.int .u64 a0, .int .u64 a1, .int .u64 a2, .int .u64 a3], .agg #[.int .u64 b0, .int .u64 b1, .int .u64 b2, .int .u64 b3], .agg #[.int .u64 c0, .int .u64 c1, .int .u64 c2, .int .u64 c3]] w fun e w' => ∃ s0 s1 s2 s3 : Int, e = .returned (.tuple #[.agg #[.int .u64 s0, .int .u64 s1, .int .u64 s2, .int .u64 s3], .bool true]) ∧ IsW (x + y) s0 s1 s2 s3 ∧ Below w.heap.size w w' := by
  go_enter Tryz.func56, Tryz.ntmps56
  go_wp2_with fail
  refine (deeds_any _).mono ?_
  rintro e w1 ⟨rfl, hB⟩
  have z3 : w.heap.size + 1 + 1 + 1 < w1.heap.size := by have := hB.size; (try simp at this); omega
  have z0 : w.heap.size < w1.heap.size := by omega
  have z1 : w.heap.size + 1 < w1.heap.size := by omega
  have z2 : w.heap.size + 1 + 1 < w1.heap.size := by omega
  have ka0 : w1.cell? ⟨w.heap.size, 0, none⟩ = some (.int .u64 a0) := (hB.cell (p := ⟨w.heap.size, 0, none⟩) (by first | omega | (simp; done) | (simp; omega))).trans (by go_simp)
  have ka1 : w1.cell? ⟨w.heap.size, 1, none⟩ = some (.int .u64 a1) := (hB.cell (p := ⟨w.heap.size, 1, none⟩) (by first | omega | (simp; done) | (simp; omega))).trans (by go_simp)
  have ka2 : w1.cell? ⟨w.heap.size, 2, none⟩ = some (.int .u64 a2) := (hB.cell (p := ⟨w.heap.size, 2, none⟩) (by first | omega | (simp; done) | (simp; omega))).trans (by go_simp)
  have ka3 : w1.cell? ⟨w.heap.size, 3, none⟩ = some (.int .u64 a3) := (hB.cell (p := ⟨w.heap.size, 3, none⟩) (by first | omega | (simp; done) | (simp; omega))).trans (by go_simp)
  have kb0 : w1.cell? ⟨w.heap.size + 1, 0, none⟩ = some (.int .u64 b0) := (hB.cell (p := ⟨w.heap.size + 1, 0, none⟩) (by first | omega | (simp; done) | (simp; omega))).trans (by go_simp)
  have kb1 : w1.cell? ⟨w.heap.size + 1, 1, none⟩ = some (.int .u64 b1) := (hB.cell (p := ⟨w.heap.size + 1, 1, none⟩) (by first | omega | (simp; done) | (simp; omega))).trans (by go_simp)
  have kb2 : w1.cell? ⟨w.heap.size + 1, 2, none⟩ = some (.int .u64 b2) := (hB.cell (p := ⟨w.heap.size + 1, 2, none⟩) (by first | omega | (simp; done) | (simp; omega))).trans (by go_simp)
  have kb3 : w1.cell? ⟨w.heap.size + 1, 3, none⟩ = some (.int .u64 b3) := (hB.cell (p := ⟨w.heap.size + 1, 3, none⟩) (by first | omega | (simp; done) | (simp; omega))).trans (by go_simp)
  have kc0 : w1.cell? ⟨w.heap.size + 1 + 1, 0, none⟩ = some (.int .u64 c0) := (hB.cell (p := ⟨w.heap.size + 1 + 1, 0, none⟩) (by first | omega | (simp; done) | (simp; omega))).trans (by go_simp)
  have kc1 : w1.cell? ⟨w.heap.size + 1 + 1, 1, none⟩ = some (.int .u64 c1) := (hB.cell (p := ⟨w.heap.size + 1 + 1, 1, none⟩) (by first | omega | (simp; done) | (simp; omega))).trans (by go_simp)
  have kc2 : w1.cell? ⟨w.heap.size + 1 + 1, 2, none⟩ = some (.int .u64 c2) := (hB.cell (p := ⟨w.heap.size + 1 + 1, 2, none⟩) (by first | omega | (simp; done) | (simp; omega))).trans (by go_simp)
  have kc3 : w1.cell? ⟨w.heap.size + 1 + 1, 3, none⟩ = some (.int .u64 c3) := (hB.cell (p := ⟨w.heap.size + 1 + 1, 3, none⟩) (by first | omega | (simp; done) | (simp; omega))).trans (by go_simp)
  have kr0 : w1.cell? ⟨w.heap.size + 1 + 1 + 1, 0, none⟩ = some (.int .u64 0) := (hB.cell (p := ⟨w.heap.size + 1 + 1 + 1, 0, none⟩) (by first | omega | (simp; done) | (simp; omega))).trans (by go_simp)
  have kr1 : w1.cell? ⟨w.heap.size + 1 + 1 + 1, 1, none⟩ = some (.int .u64 0) := (hB.cell (p := ⟨w.heap.size + 1 + 1 + 1, 1, none⟩) (by first | omega | (simp; done) | (simp; omega))).trans (by go_simp)
  have kr2 : w1.cell? ⟨w.heap.size + 1 + 1 + 1, 2, none⟩ = some (.int .u64 0) := (hB.cell (p := ⟨w.heap.size + 1 + 1 + 1, 2, none⟩) (by first | omega | (simp; done) | (simp; omega))).trans (by go_simp)
  have kr3 : w1.cell? ⟨w.heap.size + 1 + 1 + 1, 3, none⟩ = some (.int .u64 0) := (hB.cell (p := ⟨w.heap.size + 1 + 1 + 1, 3, none⟩) (by first | omega | (simp; done) | (simp; omega))).trans (by go_simp)
  have fr0 : w1.frozen? ⟨w.heap.size + 1 + 1 + 1, 0, none⟩ = false := (hB.frozen (p := ⟨w.heap.size + 1 + 1 + 1, 0, none⟩) (by first | omega | (simp; done) | (simp; omega))).trans (by go_simp)
  have fr1 : w1.frozen? ⟨w.heap.size + 1 + 1 + 1, 1, none⟩ = false := (hB.frozen (p := ⟨w.heap.size + 1 + 1 + 1, 1, none⟩) (by first | omega | (simp; done) | (simp; omega))).trans (by go_simp)
  have fr2 : w1.frozen? ⟨w.heap.size + 1 + 1 + 1, 2, none⟩ = false := (hB.frozen (p := ⟨w.heap.size + 1 + 1 + 1, 2, none⟩) (by first | omega | (simp; done) | (simp; omega))).trans (by go_simp)
  have fr3 : w1.frozen? ⟨w.heap.size + 1 + 1 + 1, 3, none⟩ = false := (hB.frozen (p := ⟨w.heap.size + 1 + 1 + 1, 3, none⟩) (by first | omega | (simp; done) | (simp; omega))).trans (by go_simp)
  have B1 : Below w.heap.size w w1 := Below.trans (by repeat' (first | with_reducible exact Below.refl _ _ | with_reducible exact Below.refl _ _ | with_reducible refine Below.drew ?_ | with_reducible refine bdrewN ?_ _ | with_reducible refine Below.alloc ?_ ?_ _ | with_reducible refine Below.setCell ?_ ?_ _ | omega | (simp; done) | (simp; omega))) (hB.mono (by first | omega | (simp; done) | (simp; omega)))
  clear hB
  go_wp2_with (refine store_tbl rfl _ _ rfl w1.heap.size rfl rfl (there_new w1 _ _) ?_; intro w2 hB hz2 hr2; change Hid _)
  have y3 : w.heap.size + 1 + 1 + 1 < w2.heap.size := by have := hB.size; (try simp at this); omega
  have y0 : w.heap.size < w2.heap.size := by omega
  have y1 : w.heap.size + 1 < w2.heap.size := by omega
  have y2 : w.heap.size + 1 + 1 < w2.heap.size := by omega
  have zt : w1.heap.size < w2.heap.size := by rw [hz2]; simp
  have kt : w2.cell? ⟨w1.heap.size, 1, none⟩ = some (.func (.func 135) #[] #[]) := hr2 1 _ rfl
  have la0 : w2.cell? ⟨w.heap.size, 0, none⟩ = some (.int .u64 a0) := (hB.cell (p := ⟨w.heap.size, 0, none⟩) (by first | omega | (simp; done) | (simp; omega))).trans (by go_simp)
  have la1 : w2.cell? ⟨w.heap.size, 1, none⟩ = some (.int .u64 a1) := (hB.cell (p := ⟨w.heap.size, 1, none⟩) (by first | omega | (simp; done) | (simp; omega))).trans (by go_simp)
  have la2 : w2.cell? ⟨w.heap.size, 2, none⟩ = some (.int .u64 a2) := (hB.cell (p := ⟨w.heap.size, 2, none⟩) (by first | omega | (simp; done) | (simp; omega))).trans (by go_simp)
  have la3 : w2.cell? ⟨w.heap.size, 3, none⟩ = some (.int .u64 a3) := (hB.cell (p := ⟨w.heap.size, 3, none⟩) (by first | omega | (simp; done) | (simp; omega))).trans (by go_simp)
  have lb0 : w2.cell? ⟨w.heap.size + 1, 0, none⟩ = some (.int .u64 b0) := (hB.cell (p := ⟨w.heap.size + 1, 0, none⟩) (by first | omega | (simp; done) | (simp; omega))).trans (by go_simp)
  have lb1 : w2.cell? ⟨w.heap.size + 1, 1, none⟩ = some (.int .u64 b1) := (hB.cell (p := ⟨w.heap.size + 1, 1, none⟩) (by first | omega | (simp; done) | (simp; omega))).trans (by go_simp)
  have lb2 : w2.cell? ⟨w.heap.size + 1, 2, none⟩ = some (.int .u64 b2) := (hB.cell (p := ⟨w.heap.size + 1, 2, none⟩) (by first | omega | (simp; done) | (simp; omega))).trans (by go_simp)
  have lb3 : w2.cell? ⟨w.heap.size + 1, 3, none⟩ = some (.int .u64 b3) := (hB.cell (p := ⟨w.heap.size + 1, 3, none⟩) (by first | omega | (simp; done) | (simp; omega))).trans (by go_simp)
  have lc0 : w2.cell? ⟨w.heap.size + 1 + 1, 0, none⟩ = some (.int .u64 c0) := (hB.cell (p := ⟨w.heap.size + 1 + 1, 0, none⟩) (by first | omega | (simp; done) | (simp; omega))).trans (by go_simp)
  have lc1 : w2.cell? ⟨w.heap.size + 1 + 1, 1, none⟩ = some (.int .u64 c1) := (hB.cell (p := ⟨w.heap.size + 1 + 1, 1, none⟩) (by first | omega | (simp; done) | (simp; omega))).trans (by go_simp)
  have lc2 : w2.cell? ⟨w.heap.size + 1 + 1, 2, none⟩ = some (.int .u64 c2) := (hB.cell (p := ⟨w.heap.size + 1 + 1, 2, none⟩) (by first | omega | (simp; done) | (simp; omega))).trans (by go_simp)
  have lc3 : w2.cell? ⟨w.heap.size + 1 + 1, 3, none⟩ = some (.int .u64 c3) := (hB.cell (p := ⟨w.heap.size + 1 + 1, 3, none⟩) (by first | omega | (simp; done) | (simp; omega))).trans (by go_simp)
  have lr0 : w2.cell? ⟨w.heap.size + 1 + 1 + 1, 0, none⟩ = some (.int .u64 0) := (hB.cell (p := ⟨w.heap.size + 1 + 1 + 1, 0, none⟩) (by first | omega | (simp; done) | (simp; omega))).trans (by go_simp)
  have lr1 : w2.cell? ⟨w.heap.size + 1 + 1 + 1, 1, none⟩ = some (.int .u64 0) := (hB.cell (p := ⟨w.heap.size + 1 + 1 + 1, 1, none⟩) (by first | omega | (simp; done) | (simp; omega))).trans (by go_simp)
  have lr2 : w2.cell? ⟨w.heap.size + 1 + 1 + 1, 2, none⟩ = some (.int .u64 0) := (hB.cell (p := ⟨w.heap.size + 1 + 1 + 1, 2, none⟩) (by first | omega | (simp; done) | (simp; omega))).trans (by go_simp)
  have lr3 : w2.cell? ⟨w.heap.size + 1 + 1 + 1, 3, none⟩ = some (.int .u64 0) := (hB.cell (p := ⟨w.heap.size + 1 + 1 + 1, 3, none⟩) (by first | omega | (simp; done) | (simp; omega))).trans (by go_simp)
  have gr0 : w2.frozen? ⟨w.heap.size + 1 + 1 + 1, 0, none⟩ = false := (hB.frozen (p := ⟨w.heap.size + 1 + 1 + 1, 0, none⟩) (by first | omega | (simp; done) | (simp; omega))).trans (by go_simp)
  have gr1 : w2.frozen? ⟨w.heap.size + 1 + 1 + 1, 1, none⟩ = false := (hB.frozen (p := ⟨w.heap.size + 1 + 1 + 1, 1, none⟩) (by first | omega | (simp; done) | (simp; omega))).trans (by go_simp)
  have gr2 : w2.frozen? ⟨w.heap.size + 1 + 1 + 1, 2, none⟩ = false := (hB.frozen (p := ⟨w.heap.size + 1 + 1 + 1, 2, none⟩) (by first | omega | (simp; done) | (simp; omega))).trans (by go_simp)
  have gr3 : w2.frozen? ⟨w.heap.size + 1 + 1 + 1, 3, none⟩ = false := (hB.frozen (p := ⟨w.heap.size + 1 + 1 + 1, 3, none⟩) (by first | omega | (simp; done) | (simp; omega))).trans (by go_simp)
  have B2 : Below w.heap.size w w2 := Below.trans (by repeat' (first | with_reducible exact B1 | with_reducible exact Below.refl _ _ | with_reducible refine Below.drew ?_ | with_reducible refine bdrewN ?_ _ | with_reducible refine Below.alloc ?_ ?_ _ | with_reducible refine Below.setCell ?_ ?_ _ | omega | (simp; done) | (simp; omega))) (hB.mono (by first | omega | (simp; done) | (simp; omega)))
  clear hB hr2 hz2 z0 z1 z2 ka0 ka1 ka2 ka3 kb0 kb1 kb2 kb3 kc0 kc1 kc2 kc3 kr0 kr1 kr2 kr3 fr0 fr1 fr2 fr3
  unfold Hid
  have hq := eqf_run 135
  go_wp2
  go_region_held3 (fun w' => w'.cell? ⟨w.heap.size, 0, none⟩ = some (.int .u64 a0) ∧ w'.cell? ⟨w.heap.size, 1, none⟩ = some (.int .u64 a1) ∧ w'.cell? ⟨w.heap.size, 2, none⟩ = some (.int .u64 a2) ∧ w'.cell? ⟨w.heap.size, 3, none⟩ = some (.int .u64 a3) ∧ w'.cell? ⟨w.heap.size + 1, 0, none⟩ = some (.int .u64 b0) ∧ w'.cell? ⟨w.heap.size + 1, 1, none⟩ = some (.int .u64 b1) ∧ w'.cell? ⟨w.heap.size + 1, 2, none⟩ = some (.int .u64 b2) ∧ w'.cell? ⟨w.heap.size + 1, 3, none⟩ = some (.int .u64 b3) ∧ w'.cell? ⟨w.heap.size + 1 + 1, 0, none⟩ = some (.int .u64 c0) ∧ w'.cell? ⟨w.heap.size + 1 + 1, 1, none⟩ = some (.int .u64 c1) ∧ w'.cell? ⟨w.heap.size + 1 + 1, 2, none⟩ = some (.int .u64 c2) ∧ w'.cell? ⟨w.heap.size + 1 + 1, 3, none⟩ = some (.int .u64 c3) ∧ w'.cell? ⟨w1.heap.size, 1, none⟩ = some (.func (.func 135) #[] #[])) (first | ((try dsimp only); refine ⟨?_, ?_, ?_, ?_, ?_, ?_, ?_, ?_, ?_, ?_, ?_, ?_, ?_⟩ <;> first | (simp [*]; done) | (go_simp; done)) | (go_split_ands; (try dsimp only); refine ⟨?_, ?_, ?_, ?_, ?_, ?_, ?_, ?_, ?_, ?_, ?_, ?_, ?_⟩ <;> (refine (hB.cell ?_).trans ?_ <;> first | assumption | omega | (simp; done) | (simp; omega) | (go_simp; done))) | (go_split_ands; (try dsimp only); refine ⟨?_, ?_, ?_, ?_, ?_, ?_, ?_, ?_, ?_, ?_, ?_, ?_, ?_⟩ <;> (go_simp; done))) (first
    | (go_at_call 135
       refine (deed1_any x y _ _ _ _ _ _ _ _ _ _ _ _ _ ha hb).mono ?_
       rintro e w3 ⟨s0, s1, s2, s3, rfl, hs, hB⟩
       have qr0 : w3.cell? ⟨w.heap.size + 1 + 1 + 1, 0, none⟩ = some (.int .u64 0) := (hB.cell (p := ⟨w.heap.size + 1 + 1 + 1, 0, none⟩) (by first | omega | (simp; done) | (simp; omega))).trans (by go_simp)
       have qr1 : w3.cell? ⟨w.heap.size + 1 + 1 + 1, 1, none⟩ = some (.int .u64 0) := (hB.cell (p := ⟨w.heap.size + 1 + 1 + 1, 1, none⟩) (by first | omega | (simp; done) | (simp; omega))).trans (by go_simp)
       have qr2 : w3.cell? ⟨w.heap.size + 1 + 1 + 1, 2, none⟩ = some (.int .u64 0) := (hB.cell (p := ⟨w.heap.size + 1 + 1 + 1, 2, none⟩) (by first | omega | (simp; done) | (simp; omega))).trans (by go_simp)
       have qr3 : w3.cell? ⟨w.heap.size + 1 + 1 + 1, 3, none⟩ = some (.int .u64 0) := (hB.cell (p := ⟨w.heap.size + 1 + 1 + 1, 3, none⟩) (by first | omega | (simp; done) | (simp; omega))).trans (by go_simp)
       have pr0 : w3.frozen? ⟨w.heap.size + 1 + 1 + 1, 0, none⟩ = false := (hB.frozen (p := ⟨w.heap.size + 1 + 1 + 1, 0, none⟩) (by first | omega | (simp; done) | (simp; omega))).trans (by go_simp)
       have pr1 : w3.frozen? ⟨w.heap.size + 1 + 1 + 1, 1, none⟩ = false := (hB.frozen (p := ⟨w.heap.size + 1 + 1 + 1, 1, none⟩) (by first | omega | (simp; done) | (simp; omega))).trans (by go_simp)
       have pr2 : w3.frozen? ⟨w.heap.size + 1 + 1 + 1, 2, none⟩ = false := (hB.frozen (p := ⟨w.heap.size + 1 + 1 + 1, 2, none⟩) (by first | omega | (simp; done) | (simp; omega))).trans (by go_simp)
       have pr3 : w3.frozen? ⟨w.heap.size + 1 + 1 + 1, 3, none⟩ = false := (hB.frozen (p := ⟨w.heap.size + 1 + 1 + 1, 3, none⟩) (by first | omega | (simp; done) | (simp; omega))).trans (by go_simp)
       clear lr0 lr1 lr2 lr3 gr0 gr1 gr2 gr3))
  have B3 : Below w.heap.size w w3 := Below.trans (by repeat' (first | with_reducible exact B2 | with_reducible exact Below.refl _ _ | with_reducible refine Below.drew ?_ | with_reducible refine bdrewN ?_ _ | with_reducible refine Below.alloc ?_ ?_ _ | with_reducible refine Below.setCell ?_ ?_ _ | omega | (simp; done) | (simp; omega))) (hB.mono (by first | omega | (simp; done) | (simp; omega)))
  clear hB
  go_wp2
  exact bodyPost_ret (v := .tuple #[.agg #[.int .u64 s0, .int .u64 s1, .int .u64 s2, .int .u64 s3], .bool true]) (by simp [results, Tryz.results56, go_sem, qr0, qr1, qr2, qr3]) rfl
    ⟨s0, s1, s2, s3, rfl, hs, by repeat' (first | with_reducible exact B3 | with_reducible exact Below.refl _ _ | with_reducible refine Below.drew ?_ | with_reducible refine bdrewN ?_ _ | with_reducible refine Below.alloc ?_ ?_ _ | with_reducible refine Below.setCell ?_ ?_ _ | omega | (simp; done) | (simp; omega))⟩
end Go.Proofs.YtpadpmkfhljiiaaGreat
/- The text of 2, run; and awake: in whatever world it returns true. -/
namespace Go.Proofs.YtpadpmkfhljiiaaGreat
open Go.RowKit
set_option maxHeartbeats 1000000 in
set_option maxRecDepth 100000 in
theorem div64_small (lo y : Int) (w : World) (hy : 0 < y) (hl : U64 lo) :
    Calls Tryz.prog 177 #[.int .u64 0, .int .u64 lo, .int .u64 y] w fun e w' => e = .returned (.tuple #[.int .u64 (lo / y), .int .u64 (lo % y)]) ∧ Below w.heap.size w w' ∧ ∃ n, w' = w.drewN n := by
  have h1 : (y == 0) = false := beq_eq_false_iff_ne.2 (by omega)
  have h2 : decide (y ≤ 0) = false := by simp; omega
  go_enter Tryz.func177, Tryz.ntmps177
  go_wp2
  go_quiet (fail)
  go_wp2
  go_ret2
  refine ⟨?_, by repeat' (first | with_reducible exact Below.refl _ _ | with_reducible exact Below.refl _ _ | with_reducible refine Below.drew ?_ | with_reducible refine bdrewN ?_ _ | with_reducible refine Below.alloc ?_ ?_ _ | with_reducible refine Below.setCell ?_ ?_ _ | omega | (simp; done) | (simp; omega)), _, rfl⟩
  have e1 : lo.tdiv y = lo / y := Int.tdiv_eq_ediv_of_nonneg hl.1
  have e3 : 0 ≤ lo / y := Int.ediv_nonneg hl.1 (by omega)
  have e4 : lo / y ≤ lo := Int.ediv_le_self _ hl.1
  have e5 := hl.2
  unfold Bd at e5
  have e6 : lo / y < 18446744073709551616 := by omega
  have e7 : IntKind.u64.wrap (lo / y) = lo / y := by rw [IntKind.wrap_u64]; exact Int.emod_eq_of_lt e3 e6
  have e2 : lo.tmod y = lo % y := Int.tmod_eq_emod_of_nonneg hl.1
  simp [e1, e2, e7]
set_option maxHeartbeats 1000000 in
set_option maxRecDepth 100000 in
theorem shorten2_any (w : World) :
    Calls Tryz.prog 174 #[.agg #[.int .u64 2, .int .u64 0, .int .u64 0, .int .u64 0], .int .u64 10] w fun e w' => e = .returned (.tuple #[.agg #[.int .u64 0, .int .u64 0, .int .u64 0, .int .u64 0], .int .u64 2]) ∧ Below w.heap.size w w' := by
  go_enter Tryz.func174, Tryz.ntmps174
  go_wp2
  refine wp_loop_rounds 5 ?_
  rw [rounds_succ]
  go_wp2_with (go_at_call 177; refine (div64_small _ _ _ (by omega) (u64_lit _ (by omega) (by omega))).mono ?_; rintro e w' ⟨rfl, hB, n, rfl⟩; clear hB; simp only [Int.zero_ediv, Int.zero_emod])
  rw [rounds_succ]
  go_wp2_with (go_at_call 177; refine (div64_small _ _ _ (by omega) (u64_lit _ (by omega) (by omega))).mono ?_; rintro e w' ⟨rfl, hB, n, rfl⟩; clear hB; simp only [Int.zero_ediv, Int.zero_emod])
  rw [rounds_succ]
  go_wp2_with (go_at_call 177; refine (div64_small _ _ _ (by omega) (u64_lit _ (by omega) (by omega))).mono ?_; rintro e w' ⟨rfl, hB, n, rfl⟩; clear hB; simp only [Int.zero_ediv, Int.zero_emod])
  rw [rounds_succ]
  go_wp2_with (go_at_call 177; refine (div64_small _ _ _ (by omega) (u64_lit _ (by omega) (by omega))).mono ?_; rintro e w' ⟨rfl, hB, n, rfl⟩; clear hB; simp only [show (2 : Int) / 10 = 0 from by decide, show (2 : Int) % 10 = 2 from by decide])
  rw [rounds_succ]
  go_wp2
  exact bodyPost_ret (v := .tuple #[.agg #[.int .u64 0, .int .u64 0, .int .u64 0, .int .u64 0], .int .u64 2]) (by simp [results, Tryz.results174, go_sem]) rfl
    ⟨rfl, by repeat' (first | with_reducible exact Below.refl _ _ | with_reducible exact Below.refl _ _ | with_reducible refine Below.drew ?_ | with_reducible refine bdrewN ?_ _ | with_reducible refine Below.alloc ?_ ?_ _ | with_reducible refine Below.setCell ?_ ?_ _ | omega | (simp; done) | (simp; omega))⟩
set_option maxHeartbeats 1000000 in
set_option maxRecDepth 100000 in
theorem write2_any (w : World) :
    Calls Tryz.prog 119 #[.agg #[.int .u64 2, .int .u64 0, .int .u64 0, .int .u64 0], .int .u64 10] w fun e w' => e = .returned (.string ⟨#[50]⟩) ∧ Below w.heap.size w w' := by
  go_enter Tryz.func119, Tryz.ntmps119
  go_wp2
  refine wp_loop_rounds 1 ?_
  rw [rounds_succ]
  go_wp2_with fail
  refine (shorten2_any _).mono ?_
  rintro e w1 ⟨rfl, hB⟩
  have z1 : w.heap.size + 1 < w1.heap.size := by have := hB.size; (try simp at this); omega
  have z0 : w.heap.size < w1.heap.size := by omega
  have ka0 : w1.cell? ⟨w.heap.size, 0, none⟩ = some (.int .u64 2) := (hB.cell (p := ⟨w.heap.size, 0, none⟩) (by first | omega | (simp; done) | (simp; omega))).trans (by go_simp)
  have ka1 : w1.cell? ⟨w.heap.size, 1, none⟩ = some (.int .u64 0) := (hB.cell (p := ⟨w.heap.size, 1, none⟩) (by first | omega | (simp; done) | (simp; omega))).trans (by go_simp)
  have ka2 : w1.cell? ⟨w.heap.size, 2, none⟩ = some (.int .u64 0) := (hB.cell (p := ⟨w.heap.size, 2, none⟩) (by first | omega | (simp; done) | (simp; omega))).trans (by go_simp)
  have ka3 : w1.cell? ⟨w.heap.size, 3, none⟩ = some (.int .u64 0) := (hB.cell (p := ⟨w.heap.size, 3, none⟩) (by first | omega | (simp; done) | (simp; omega))).trans (by go_simp)
  have fa0 : w1.frozen? ⟨w.heap.size, 0, none⟩ = false := (hB.frozen (p := ⟨w.heap.size, 0, none⟩) (by first | omega | (simp; done) | (simp; omega))).trans (by go_simp)
  have fa1 : w1.frozen? ⟨w.heap.size, 1, none⟩ = false := (hB.frozen (p := ⟨w.heap.size, 1, none⟩) (by first | omega | (simp; done) | (simp; omega))).trans (by go_simp)
  have fa2 : w1.frozen? ⟨w.heap.size, 2, none⟩ = false := (hB.frozen (p := ⟨w.heap.size, 2, none⟩) (by first | omega | (simp; done) | (simp; omega))).trans (by go_simp)
  have fa3 : w1.frozen? ⟨w.heap.size, 3, none⟩ = false := (hB.frozen (p := ⟨w.heap.size, 3, none⟩) (by first | omega | (simp; done) | (simp; omega))).trans (by go_simp)
  have kt : w1.cell? ⟨w.heap.size + 1, 77, none⟩ = some (.int .u8 0) := (hB.cell (p := ⟨w.heap.size + 1, 77, none⟩) (by simp)).trans (by go_simp; rfl)
  have ft : w1.frozen? ⟨w.heap.size + 1, 77, none⟩ = false := (hB.frozen (p := ⟨w.heap.size + 1, 77, none⟩) (by simp)).trans (by go_simp)
  have B1 : Below w.heap.size w w1 := Below.trans (by repeat' (first | with_reducible exact Below.refl _ _ | with_reducible exact Below.refl _ _ | with_reducible refine Below.drew ?_ | with_reducible refine bdrewN ?_ _ | with_reducible refine Below.alloc ?_ ?_ _ | with_reducible refine Below.setCell ?_ ?_ _ | omega | (simp; done) | (simp; omega))) (hB.mono (by first | omega | (simp; done) | (simp; omega)))
  clear hB
  go_wp2_with fail
  refine (isZero_any 0 _ _ _ _ _ isW_0).mono ?_
  rintro e w2 ⟨rfl, hB⟩
  have kt2 : w2.cell? ⟨w.heap.size + 1, 77, none⟩ = some (.int .u8 50) := (hB.cell (p := ⟨w.heap.size + 1, 77, none⟩) (by simp; omega)).trans (by go_simp; rfl)
  have hz2 : decide ((0 : Int) % MM = 0) = true := by simp
  rw [hz2]
  have y1 : w.heap.size + 1 < w2.heap.size := by have := hB.size; (try simp at this); omega
  have y0 : w.heap.size < w2.heap.size := by omega
  have B2 : Below w.heap.size w w2 := Below.trans (by repeat' (first | with_reducible exact B1 | with_reducible exact Below.refl _ _ | with_reducible refine Below.drew ?_ | with_reducible refine bdrewN ?_ _ | with_reducible refine Below.alloc ?_ ?_ _ | with_reducible refine Below.setCell ?_ ?_ _ | omega | (simp; done) | (simp; omega))) (hB.mono (by first | omega | (simp; done) | (simp; omega)))
  clear hB kt ft ka0 ka1 ka2 ka3 fa0 fa1 fa2 fa3 hz2
  have hl : (loadCells ⟨w.heap.size + 1, 77, none⟩ 1).run Tryz.prog w2 = .ok ([(50 : Int)].map (Value.int .u8)).toArray w2 :=
    run_loadCells_list (P := Tryz.prog) w2 ⟨w.heap.size + 1, 77, none⟩ [.int .u8 50] (fun j v hv => by
      have hj : j < 1 := (List.getElem?_eq_some_iff.1 hv).1
      have hj0 : j = 0 := by omega
      subst hj0
      simp at hv
      subst hv
      rw [Addr.add_mid]
      exact kt2)
  have hcv : (convert 35 9 (.slice (some ⟨w.heap.size + 1, 77, none⟩) 1 1)).run Tryz.prog w2 = .ok (.string ⟨#[50]⟩) w2 := by
    rw [run_convert_bytes_string w2 _ _ _ _ _ _ Tryz.underlying35 Tryz.underlying5 Tryz.underlying9, run_bytesToString w2 _ _ _ _ hl]
    rfl
  clear hl kt2
  go_wp2
  go_ret
  exact ⟨rfl, by repeat' (first | with_reducible exact B2 | with_reducible exact Below.refl _ _ | with_reducible refine Below.drew ?_ | with_reducible refine bdrewN ?_ _ | with_reducible refine Below.alloc ?_ ?_ _ | with_reducible refine Below.setCell ?_ ?_ _ | omega | (simp; done) | (simp; omega))⟩

set_option maxHeartbeats 1000000 in
set_option maxRecDepth 100000 in
theorem text2_any (w : World) :
    Calls Tryz.prog 74 #[.agg #[.int .u64 2, .int .u64 0, .int .u64 0, .int .u64 0]] w fun e w' => e = .returned (.string ⟨#[50]⟩) ∧ Below w.heap.size w w' := by
  go_enter Tryz.func74, Tryz.ntmps74
  go_wp2_with fail
  refine (write2_any _).mono ?_
  rintro e w1 ⟨rfl, hB⟩
  have B1 : Below w.heap.size w w1 := Below.trans (by repeat' (first | with_reducible exact Below.refl _ _ | with_reducible exact Below.refl _ _ | with_reducible refine Below.drew ?_ | with_reducible refine bdrewN ?_ _ | with_reducible refine Below.alloc ?_ ?_ _ | with_reducible refine Below.setCell ?_ ?_ _ | omega | (simp; done) | (simp; omega))) (hB.mono (by first | omega | (simp; done) | (simp; omega)))
  clear hB
  go_wp2
  go_ret
  exact ⟨rfl, by repeat' (first | with_reducible exact B1 | with_reducible exact Below.refl _ _ | with_reducible refine Below.drew ?_ | with_reducible refine bdrewN ?_ _ | with_reducible refine Below.alloc ?_ ?_ _ | with_reducible refine Below.setCell ?_ ?_ _ | omega | (simp; done) | (simp; omega))⟩

set_option maxHeartbeats 1000000 in
set_option maxRecDepth 100000 in
theorem awake_any (w : World) :
    Calls Tryz.prog 21 #[] w fun e w' => e = .returned (.bool true) ∧ Below w.heap.size w w' := by
  have hq : ∀ (a0 a1 a2 a3 : Int) , ∀ W : World, _ := fun a0 a1 a2 a3 W => eqw_run a0 a1 a2 a3 4 0 0 0 W
  go_enter Tryz.func21, Tryz.ntmps21
  go_wp2_with fail
  refine (do1_any 2 2 _ _ _ _ _ _ _ _ _ _ _ _ _ isW_2 isW_2).mono ?_
  rintro e w1 ⟨s0, s1, s2, s3, rfl, hs, hB⟩
  obtain ⟨rfl, rfl, rfl, rfl⟩ := hs.eq isW_4 rfl
  have z0 : w.heap.size < w1.heap.size := by have := hB.size; (try simp at this); omega
  have ka0 : w1.cell? ⟨w.heap.size, 0, none⟩ = some (.int .u64 2) := (hB.cell (p := ⟨w.heap.size, 0, none⟩) (by first | omega | (simp; done) | (simp; omega))).trans (by go_simp)
  have ka1 : w1.cell? ⟨w.heap.size, 1, none⟩ = some (.int .u64 0) := (hB.cell (p := ⟨w.heap.size, 1, none⟩) (by first | omega | (simp; done) | (simp; omega))).trans (by go_simp)
  have ka2 : w1.cell? ⟨w.heap.size, 2, none⟩ = some (.int .u64 0) := (hB.cell (p := ⟨w.heap.size, 2, none⟩) (by first | omega | (simp; done) | (simp; omega))).trans (by go_simp)
  have ka3 : w1.cell? ⟨w.heap.size, 3, none⟩ = some (.int .u64 0) := (hB.cell (p := ⟨w.heap.size, 3, none⟩) (by first | omega | (simp; done) | (simp; omega))).trans (by go_simp)
  have B1 : Below w.heap.size w w1 := Below.trans (by repeat' (first | with_reducible exact Below.refl _ _ | with_reducible exact Below.refl _ _ | with_reducible refine Below.drew ?_ | with_reducible refine bdrewN ?_ _ | with_reducible refine Below.alloc ?_ ?_ _ | with_reducible refine Below.setCell ?_ ?_ _ | omega | (simp; done) | (simp; omega))) (hB.mono (by first | omega | (simp; done) | (simp; omega)))
  clear hB hs
  go_wp2_with fail
  refine (add_any 2 2 _ _ _ _ _ _ _ _ _ isW_2 isW_2).mono ?_
  rintro e w2 ⟨t0, t1, t2, t3, rfl, ht, hB⟩
  obtain ⟨rfl, rfl, rfl, rfl⟩ := ht.eq isW_4 rfl
  have y0 : w.heap.size < w2.heap.size := by have := hB.size; (try simp at this); omega
  have y1 : w1.heap.size < w2.heap.size := by have := hB.size; simp at this; omega
  have la0 : w2.cell? ⟨w.heap.size, 0, none⟩ = some (.int .u64 2) := (hB.cell (p := ⟨w.heap.size, 0, none⟩) (by first | omega | (simp; done) | (simp; omega))).trans (by go_simp)
  have la1 : w2.cell? ⟨w.heap.size, 1, none⟩ = some (.int .u64 0) := (hB.cell (p := ⟨w.heap.size, 1, none⟩) (by first | omega | (simp; done) | (simp; omega))).trans (by go_simp)
  have la2 : w2.cell? ⟨w.heap.size, 2, none⟩ = some (.int .u64 0) := (hB.cell (p := ⟨w.heap.size, 2, none⟩) (by first | omega | (simp; done) | (simp; omega))).trans (by go_simp)
  have la3 : w2.cell? ⟨w.heap.size, 3, none⟩ = some (.int .u64 0) := (hB.cell (p := ⟨w.heap.size, 3, none⟩) (by first | omega | (simp; done) | (simp; omega))).trans (by go_simp)
  have lb0 : w2.cell? ⟨w1.heap.size, 0, none⟩ = some (.int .u64 4) := (hB.cell (p := ⟨w1.heap.size, 0, none⟩) (by first | omega | (simp; done) | (simp; omega))).trans (by go_simp)
  have lb1 : w2.cell? ⟨w1.heap.size, 1, none⟩ = some (.int .u64 0) := (hB.cell (p := ⟨w1.heap.size, 1, none⟩) (by first | omega | (simp; done) | (simp; omega))).trans (by go_simp)
  have lb2 : w2.cell? ⟨w1.heap.size, 2, none⟩ = some (.int .u64 0) := (hB.cell (p := ⟨w1.heap.size, 2, none⟩) (by first | omega | (simp; done) | (simp; omega))).trans (by go_simp)
  have lb3 : w2.cell? ⟨w1.heap.size, 3, none⟩ = some (.int .u64 0) := (hB.cell (p := ⟨w1.heap.size, 3, none⟩) (by first | omega | (simp; done) | (simp; omega))).trans (by go_simp)
  have B2 : Below w.heap.size w w2 := Below.trans (by repeat' (first | with_reducible exact B1 | with_reducible exact Below.refl _ _ | with_reducible refine Below.drew ?_ | with_reducible refine bdrewN ?_ _ | with_reducible refine Below.alloc ?_ ?_ _ | with_reducible refine Below.setCell ?_ ?_ _ | omega | (simp; done) | (simp; omega))) (hB.mono (by first | omega | (simp; done) | (simp; omega)))
  clear hB ka0 ka1 ka2 ka3 ht
  go_wp2_with fail
  refine (text2_any _).mono ?_
  rintro e w3 ⟨rfl, hB⟩
  have B3 : Below w.heap.size w w3 := Below.trans (by repeat' (first | with_reducible exact B2 | with_reducible exact Below.refl _ _ | with_reducible refine Below.drew ?_ | with_reducible refine bdrewN ?_ _ | with_reducible refine Below.alloc ?_ ?_ _ | with_reducible refine Below.setCell ?_ ?_ _ | omega | (simp; done) | (simp; omega))) (hB.mono (by first | omega | (simp; done) | (simp; omega)))
  clear hB
  go_wp2
  go_ret
  exact ⟨rfl, by repeat' (first | with_reducible exact B3 | with_reducible exact Below.refl _ _ | with_reducible refine Below.drew ?_ | with_reducible refine bdrewN ?_ _ | with_reducible refine Below.alloc ?_ ?_ _ | with_reducible refine Below.setCell ?_ ?_ _ | omega | (simp; done) | (simp; omega))⟩
end Go.Proofs.YtpadpmkfhljiiaaGreat
/- Bit by bit, and the law's own constants. -/
namespace Go.Proofs.YtpadpmkfhljiiaaGreat
open Go.RowKit

set_option maxHeartbeats 1000000 in
set_option maxRecDepth 100000 in
theorem xor_any (a0 a1 a2 a3 b0 b1 b2 b3 : Int) (w : World) :
    Calls Tryz.prog 42 #[.agg #[.int .u64 a0, .int .u64 a1, .int .u64 a2, .int .u64 a3], .agg #[.int .u64 b0, .int .u64 b1, .int .u64 b2, .int .u64 b3]] w fun e w' => e = .returned (.agg #[.int .u64 (bits .xor .u64 a0 b0), .int .u64 (bits .xor .u64 a1 b1), .int .u64 (bits .xor .u64 a2 b2), .int .u64 (bits .xor .u64 a3 b3)]) ∧ Below w.heap.size w w' := by
  go_enter Tryz.func42, Tryz.ntmps42
  go_wp2
  refine wp_loop_rounds 5 ?_
  rw [rounds_succ]
  go_wp2
  go_region
  go_wp2
  rw [rounds_succ]
  go_wp2
  go_region
  go_wp2
  rw [rounds_succ]
  go_wp2
  go_region
  go_wp2
  rw [rounds_succ]
  go_wp2
  go_region
  go_wp2
  rw [rounds_succ]
  go_wp2
  exact bodyPost_ret (v := .agg #[.int .u64 (bits .xor .u64 a0 b0), .int .u64 (bits .xor .u64 a1 b1), .int .u64 (bits .xor .u64 a2 b2), .int .u64 (bits .xor .u64 a3 b3)]) (by simp [results, Tryz.results42, go_sem]) rfl ⟨rfl, by repeat' (first | with_reducible exact Below.refl _ _ | with_reducible exact Below.refl _ _ | with_reducible refine Below.drew ?_ | with_reducible refine bdrewN ?_ _ | with_reducible refine Below.alloc ?_ ?_ _ | with_reducible refine Below.setCell ?_ ?_ _ | omega | (simp; done) | (simp; omega))⟩

set_option maxHeartbeats 1000000 in
set_option maxRecDepth 100000 in
theorem and_any (a0 a1 a2 a3 b0 b1 b2 b3 : Int) (w : World) :
    Calls Tryz.prog 38 #[.agg #[.int .u64 a0, .int .u64 a1, .int .u64 a2, .int .u64 a3], .agg #[.int .u64 b0, .int .u64 b1, .int .u64 b2, .int .u64 b3]] w fun e w' => e = .returned (.agg #[.int .u64 (bits .and .u64 a0 b0), .int .u64 (bits .and .u64 a1 b1), .int .u64 (bits .and .u64 a2 b2), .int .u64 (bits .and .u64 a3 b3)]) ∧ Below w.heap.size w w' := by
  go_enter Tryz.func38, Tryz.ntmps38
  go_wp2
  refine wp_loop_rounds 5 ?_
  rw [rounds_succ]
  go_wp2
  go_region
  go_wp2
  rw [rounds_succ]
  go_wp2
  go_region
  go_wp2
  rw [rounds_succ]
  go_wp2
  go_region
  go_wp2
  rw [rounds_succ]
  go_wp2
  go_region
  go_wp2
  rw [rounds_succ]
  go_wp2
  exact bodyPost_ret (v := .agg #[.int .u64 (bits .and .u64 a0 b0), .int .u64 (bits .and .u64 a1 b1), .int .u64 (bits .and .u64 a2 b2), .int .u64 (bits .and .u64 a3 b3)]) (by simp [results, Tryz.results38, go_sem]) rfl ⟨rfl, by repeat' (first | with_reducible exact Below.refl _ _ | with_reducible exact Below.refl _ _ | with_reducible refine Below.drew ?_ | with_reducible refine bdrewN ?_ _ | with_reducible refine Below.alloc ?_ ?_ _ | with_reducible refine Below.setCell ?_ ?_ _ | omega | (simp; done) | (simp; omega))⟩

set_option maxHeartbeats 1000000 in
set_option maxRecDepth 100000 in
theorem or_any (a0 a1 a2 a3 b0 b1 b2 b3 : Int) (w : World) :
    Calls Tryz.prog 40 #[.agg #[.int .u64 a0, .int .u64 a1, .int .u64 a2, .int .u64 a3], .agg #[.int .u64 b0, .int .u64 b1, .int .u64 b2, .int .u64 b3]] w fun e w' => e = .returned (.agg #[.int .u64 (bits .or .u64 a0 b0), .int .u64 (bits .or .u64 a1 b1), .int .u64 (bits .or .u64 a2 b2), .int .u64 (bits .or .u64 a3 b3)]) ∧ Below w.heap.size w w' := by
  go_enter Tryz.func40, Tryz.ntmps40
  go_wp2
  refine wp_loop_rounds 5 ?_
  rw [rounds_succ]
  go_wp2
  go_region
  go_wp2
  rw [rounds_succ]
  go_wp2
  go_region
  go_wp2
  rw [rounds_succ]
  go_wp2
  go_region
  go_wp2
  rw [rounds_succ]
  go_wp2
  go_region
  go_wp2
  rw [rounds_succ]
  go_wp2
  exact bodyPost_ret (v := .agg #[.int .u64 (bits .or .u64 a0 b0), .int .u64 (bits .or .u64 a1 b1), .int .u64 (bits .or .u64 a2 b2), .int .u64 (bits .or .u64 a3 b3)]) (by simp [results, Tryz.results40, go_sem]) rfl ⟨rfl, by repeat' (first | with_reducible exact Below.refl _ _ | with_reducible exact Below.refl _ _ | with_reducible refine Below.drew ?_ | with_reducible refine bdrewN ?_ _ | with_reducible refine Below.alloc ?_ ?_ _ | with_reducible refine Below.setCell ?_ ?_ _ | omega | (simp; done) | (simp; omega))⟩

theorem isW_most : IsW (-1) 18446744073709551615 18446744073709551615 18446744073709551615 18446744073709551615 :=
  isW_of (u64_lit _ (by omega) (by omega)) (u64_lit _ (by omega) (by omega)) (u64_lit _ (by omega) (by omega)) (u64_lit _ (by omega) (by omega)) (-1) (by unfold V Bd MM; omega)
theorem isW_top : IsW (MM / 2) 0 0 0 9223372036854775808 :=
  isW_of (u64_lit _ (by omega) (by omega)) (u64_lit _ (by omega) (by omega)) (u64_lit _ (by omega) (by omega)) (u64_lit _ (by omega) (by omega)) 0 (by unfold V Bd MM; omega)
theorem xor0 {a : Int} (h : U64 a) : bits .xor .u64 a 0 = a := by
  unfold U64 Bd at h
  rw [u64_xor a 0 h.1 h.2 (by omega) (by omega)]
  simp; omega
theorem xor_top {x : Int} (a0 a1 a2 a3 : Int) (w : World) (ha : IsW x a0 a1 a2 a3) :
    Calls Tryz.prog 42 #[.agg #[.int .u64 a0, .int .u64 a1, .int .u64 a2, .int .u64 a3], .agg #[.int .u64 0, .int .u64 0, .int .u64 0, .int .u64 9223372036854775808]] w fun e w' => ∃ s0 s1 s2 s3 : Int, e = .returned (.agg #[.int .u64 s0, .int .u64 s1, .int .u64 s2, .int .u64 s3]) ∧ IsW (x + MM / 2) s0 s1 s2 s3 ∧ Below w.heap.size w w' := by
  refine (xor_any a0 a1 a2 a3 0 0 0 9223372036854775808 w).mono fun e w' ⟨he, hB⟩ => ⟨a0, a1, a2, _, ?_, ha.flip, hB⟩
  rw [he, xor0 ha.u0, xor0 ha.u1, xor0 ha.u2]
end Go.Proofs.YtpadpmkfhljiiaaGreat
