/- What Do reaches: the table of deeds, and the first of them. -/
import Derived.Test.YtpadpmkfhljiiaaGreatMf1
import Derived.Deep.MidRow
import Derived.Laws.MathBits
import Derived.Deep.DeepCutAuto
namespace Go.Proofs.YtpadpmkfhljiiaaGreat
open Go.RowKit

theorem results_cell {fn : Func} {p : Tmp} {ty : TypeId} (h : fn.results = #[.cell p ty]) (tmps : Array Value) (P : Program) (w : World) :
    (results fn tmps).run P w = ((asAddr (tmps.getD p undef)).run P w).andThen fun a w₁ => ((loadVar ty a).run P w₁).andThen fun v w₂ => .ok v w₂ := by
  simp only [results, h]
  simp [Sem.run_bind, Result.andThen]
  split <;> (try rfl)
  split <;> simp_all
theorem bsetCells {B : Nat} {a : World} {b : Nat} : ∀ (vs : List Value) (o : Nat) {w : World}, Below B a w → B ≤ b → Below B a (w.setCells b o vs)
  | [], _, _, h, _ => h
  | _ :: r, o, _, h, hb => bsetCells r (o + 1) (h.setCell (p := ⟨b, o, none⟩) hb _) hb
theorem size_setCells {b : Nat} : ∀ (vs : List Value) (o : Nat) (w : World), (w.setCells b o vs).heap.size = w.heap.size
  | [], _, _ => rfl
  | v :: r, o, w => by rw [World.setCells, size_setCells r (o + 1)]; simp [World.setCell]
/-- The table that deeds makes. -/
def tbl : List Value := [.nilFunc, .func (.func 135) #[] #[], .func (.func 136) #[] #[], .func (.func 137) #[] #[], .func (.func 138) #[] #[], .func (.func 139) #[] #[], .func (.func 140) #[] #[], .func (.func 141) #[] #[], .func (.func 142) #[] #[], .func (.func 143) #[] #[], .func (.func 144) #[] #[], .func (.func 146) #[] #[], .nilFunc, .nilFunc, .nilFunc, .nilFunc, .func (.func 147) #[] #[], .func (.func 149) #[] #[], .func (.func 150) #[] #[], .func (.func 151) #[] #[], .func (.func 152) #[] #[], .func (.func 154) #[] #[], .func (.func 156) #[] #[], .func (.func 157) #[] #[], .func (.func 158) #[] #[], .func (.func 159) #[] #[], .func (.func 160) #[] #[], .func (.func 161) #[] #[], .func (.func 162) #[] #[], .func (.func 163) #[] #[], .func (.func 164) #[] #[]]
theorem there_new (w : World) (C : Array Value) (t : TypeId) : (w.alloc (.cells C t)).there w.heap.size 0 C.size := by
  intro j hj
  have hb : (w.alloc (.cells C t)).heap[w.heap.size]? = some (.cells C t) := by show (w.heap.push _)[w.heap.size]? = _; simp
  refine ⟨?_, ?_⟩
  · simp only [World.cell?, hb]; simp [hj]
  · simp only [World.frozen?, hb]; simp
set_option maxHeartbeats 400000 in
set_option maxRecDepth 100000 in
theorem deeds_any (w : World) : Calls Tryz.prog 111 #[] w fun e w' => e = .returned (.agg tbl.toArray) ∧ Below w.heap.size w w' := by
  go_enter Tryz.func111, Tryz.ntmps111
  go_wp2_with (refine wpList_store_mid rfl 93 _ _ rfl w.heap.size 0 tbl.toArray rfl rfl ?_ (by kernel_rfl) (by kernel_rfl) ?_)
  · exact there_new w _ _
  · have ht := there_new w #[.nilFunc, .nilFunc, .nilFunc, .nilFunc, .nilFunc, .nilFunc, .nilFunc, .nilFunc, .nilFunc, .nilFunc, .nilFunc, .nilFunc, .nilFunc, .nilFunc, .nilFunc, .nilFunc, .nilFunc, .nilFunc, .nilFunc, .nilFunc, .nilFunc, .nilFunc, .nilFunc, .nilFunc, .nilFunc, .nilFunc, .nilFunc, .nilFunc, .nilFunc, .nilFunc, .nilFunc] 93
    have hr := World.rangeAt_setCells_same _ w.heap.size 0 tbl ht
    have hl := run_loadVar_mid (P := Tryz.prog) _ w.heap.size 0 93 tbl _ hr Tryz.underlying93 rfl (by kernel_rfl)
    refine bodyPost_ret (v := .agg tbl.toArray) ?_ rfl ⟨rfl, bsetCells _ _ (by repeat' (first | with_reducible exact Below.refl _ _ | with_reducible exact Below.refl _ _ | with_reducible refine Below.drew ?_ | with_reducible refine bdrewN ?_ _ | with_reducible refine Below.alloc ?_ ?_ _ | with_reducible refine Below.setCell ?_ ?_ _ | omega | (simp; done) | (simp; omega))) (Nat.le_refl _)⟩
    rw [results_cell (fn := Tryz.f111) Tryz.results111]
    simp only [Act.put, Array.getD_eq_getD_getElem?, List.getElem?_toArray, List.getElem?_cons_zero, Option.getD_some, asAddr, Sem.run_pure, Result.andThen_ok, hl]
theorem store_tbl {ops : Array Oper} {rest : List Oper} {op : Oper} {a : Act} {w : World} {Q : Exit → Act → World → Prop} (hgd : op.guard = none) (x y : Operand) (ho : op.op = .store 93 x y)
    (b : Nat) (hx : a.eval x = .pointer (some ⟨b, 0, none⟩)) (hy : a.eval y = .agg tbl.toArray) (ht : w.there b 0 31)
    (h : ∀ w2, Below b w w2 → w2.heap.size = w.heap.size → w2.rangeAt b 0 tbl → wpList Tryz.prog ops Q rest (a.put op.dst undef) w2) : wpList Tryz.prog ops Q (op :: rest) a w :=
  wpList_store_mid hgd 93 x y ho b 0 tbl.toArray hx hy ht (by kernel_rfl) (by kernel_rfl)
    (h _ (bsetCells _ _ (Below.refl _ _) (Nat.le_refl _)) (size_setCells _ _ _) (World.rangeAt_setCells_same w b 0 tbl ht))

set_option maxHeartbeats 400000 in
set_option maxRecDepth 100000 in
theorem deed1_any (x y : Int) (a0 a1 a2 a3 b0 b1 b2 b3 c0 c1 c2 c3 : Int) (w : World) (ha : IsW x a0 a1 a2 a3) (hb : IsW y b0 b1 b2 b3) :
    Calls Tryz.prog 135 #[.agg #[.int .u64 a0, .int .u64 a1, .int .u64 a2, .int .u64 a3], .agg #[.int .u64 b0, .int .u64 b1, .int .u64 b2, .int .u64 b3], .agg #[.int .u64 c0, .int .u64 c1, .int .u64 c2, .int .u64 c3]] w fun e w' => ∃ s0 s1 s2 s3 : Int, e = .returned (.agg #[.int .u64 s0, .int .u64 s1, .int .u64 s2, .int .u64 s3]) ∧ IsW (x + y) s0 s1 s2 s3 ∧ Below w.heap.size w w' := by
  go_enter Tryz.func135, Tryz.ntmps135
  go_wp2_with fail
  refine (add_any x y _ _ _ _ _ _ _ _ _ ha hb).mono ?_
  rintro e w1 ⟨s0, s1, s2, s3, rfl, hs, hB⟩
  have zz : w.heap.size + 1 + 1 + 1 < w1.heap.size := by have := hB.size; simp at this; omega
  have kk0 : w1.cell? ⟨w.heap.size + 1 + 1 + 1, 0, none⟩ = some (.int .u64 0) := (hB.cell (p := ⟨w.heap.size + 1 + 1 + 1, 0, none⟩) (by first | omega | (simp; done) | (simp; omega))).trans (by go_simp)
  have kk1 : w1.cell? ⟨w.heap.size + 1 + 1 + 1, 1, none⟩ = some (.int .u64 0) := (hB.cell (p := ⟨w.heap.size + 1 + 1 + 1, 1, none⟩) (by first | omega | (simp; done) | (simp; omega))).trans (by go_simp)
  have kk2 : w1.cell? ⟨w.heap.size + 1 + 1 + 1, 2, none⟩ = some (.int .u64 0) := (hB.cell (p := ⟨w.heap.size + 1 + 1 + 1, 2, none⟩) (by first | omega | (simp; done) | (simp; omega))).trans (by go_simp)
  have kk3 : w1.cell? ⟨w.heap.size + 1 + 1 + 1, 3, none⟩ = some (.int .u64 0) := (hB.cell (p := ⟨w.heap.size + 1 + 1 + 1, 3, none⟩) (by first | omega | (simp; done) | (simp; omega))).trans (by go_simp)
  have ff0 : w1.frozen? ⟨w.heap.size + 1 + 1 + 1, 0, none⟩ = false := (hB.frozen (p := ⟨w.heap.size + 1 + 1 + 1, 0, none⟩) (by first | omega | (simp; done) | (simp; omega))).trans (by go_simp)
  have ff1 : w1.frozen? ⟨w.heap.size + 1 + 1 + 1, 1, none⟩ = false := (hB.frozen (p := ⟨w.heap.size + 1 + 1 + 1, 1, none⟩) (by first | omega | (simp; done) | (simp; omega))).trans (by go_simp)
  have ff2 : w1.frozen? ⟨w.heap.size + 1 + 1 + 1, 2, none⟩ = false := (hB.frozen (p := ⟨w.heap.size + 1 + 1 + 1, 2, none⟩) (by first | omega | (simp; done) | (simp; omega))).trans (by go_simp)
  have ff3 : w1.frozen? ⟨w.heap.size + 1 + 1 + 1, 3, none⟩ = false := (hB.frozen (p := ⟨w.heap.size + 1 + 1 + 1, 3, none⟩) (by first | omega | (simp; done) | (simp; omega))).trans (by go_simp)
  have BB : Below w.heap.size w w1 := Below.trans (by repeat' (first | with_reducible exact Below.refl _ _ | with_reducible exact Below.refl _ _ | with_reducible refine Below.drew ?_ | with_reducible refine bdrewN ?_ _ | with_reducible refine Below.alloc ?_ ?_ _ | with_reducible refine Below.setCell ?_ ?_ _ | omega | (simp; done) | (simp; omega))) (hB.mono (by first | omega | (simp; done) | (simp; omega)))
  clear hB
  go_wp2
  exact bodyPost_ret (v := .agg #[.int .u64 s0, .int .u64 s1, .int .u64 s2, .int .u64 s3]) (by simp [results, Tryz.results135, go_sem, kk0, kk1, kk2, kk3]) rfl
    ⟨s0, s1, s2, s3, rfl, hs, by repeat' (first | with_reducible exact BB | with_reducible exact Below.refl _ _ | with_reducible refine Below.drew ?_ | with_reducible refine bdrewN ?_ _ | with_reducible refine Below.alloc ?_ ?_ _ | with_reducible refine Below.setCell ?_ ?_ _ | omega | (simp; done) | (simp; omega))⟩
theorem eqf_run (f : FuncId) (W : World) : (binOp .eql 92 (.func (.func f) #[] #[]) .nilFunc).run Tryz.prog W = .ok (.bool false) W := by kernel_rfl

set_option maxHeartbeats 1000000 in
set_option maxRecDepth 100000 in
theorem do1_any (x y : Int) (a0 a1 a2 a3 b0 b1 b2 b3 c0 c1 c2 c3 : Int) (w : World) (ha : IsW x a0 a1 a2 a3) (hb : IsW y b0 b1 b2 b3) :
    Calls Tryz.prog 56 #[.int .i64 1, .agg #[.int .u64 a0, .int .u64 a1, .int .u64 a2, .int .u64 a3], .agg #[.int .u64 b0, .int .u64 b1, .int .u64 b2, .int .u64 b3], .agg #[.int .u64 c0, .int .u64 c1, .int .u64 c2, .int .u64 c3]] w fun e w' => ∃ s0 s1 s2 s3 : Int, e = .returned (.tuple #[.agg #[.int .u64 s0, .int .u64 s1, .int .u64 s2, .int .u64 s3], .bool true]) ∧ IsW (x + y) s0 s1 s2 s3 ∧ Below w.heap.size w w' := by
  go_enter Tryz.func56, Tryz.ntmps56
  go_wp2_with fail
  refine (deeds_any _).mono ?_
  rintro e w1 ⟨rfl, hB⟩
  have z3 : w.heap.size + 1 + 1 + 1 < w1.heap.size := by have := hB.size; (try simp at this); omega
  have z0 : w.heap.size < w1.heap.size := by omega
  have z1 : w.heap.size + 1 < w1.heap.size := by omega
  have z2 : w.heap.size + 1 + 1 < w1.heap.size := by omega
  have ka0 : w1.cell? ⟨w.heap.size, 0, none⟩ = some (.int .u64 a0) := (hB.cell (p := ⟨w.heap.size, 0, none⟩) (by first | omega | (simp; done) | (simp; omega))).trans (by go_simp)
  have ka1 : w1.cell? ⟨w.heap.size, 1, none⟩ = some (.int .u64 a1) := (hB.cell (p := ⟨w.heap.size, 1, none⟩) (by first | omega | (simp; done) | (simp; omega))).trans (by go_simp)
  have ka2 : w1.cell? ⟨w.heap.size, 2, none⟩ = some (.int .u64 a2) := (hB.cell (p := ⟨w.heap.size, 2, none⟩) (by first | omega | (simp; done) | (simp; omega))).trans (by go_simp)
  have ka3 : w1.cell? ⟨w.heap.size, 3, none⟩ = some (.int .u64 a3) := (hB.cell (p := ⟨w.heap.size, 3, none⟩) (by first | omega | (simp; done) | (simp; omega))).trans (by go_simp)
  have kb0 : w1.cell? ⟨w.heap.size + 1, 0, none⟩ = some (.int .u64 b0) := (hB.cell (p := ⟨w.heap.size + 1, 0, none⟩) (by first | omega | (simp; done) | (simp; omega))).trans (by go_simp)
  have kb1 : w1.cell? ⟨w.heap.size + 1, 1, none⟩ = some (.int .u64 b1) := (hB.cell (p := ⟨w.heap.size + 1, 1, none⟩) (by first | omega | (simp; done) | (simp; omega))).trans (by go_simp)
  have kb2 : w1.cell? ⟨w.heap.size + 1, 2, none⟩ = some (.int .u64 b2) := (hB.cell (p := ⟨w.heap.size + 1, 2, none⟩) (by first | omega | (simp; done) | (simp; omega))).trans (by go_simp)
  have kb3 : w1.cell? ⟨w.heap.size + 1, 3, none⟩ = some (.int .u64 b3) := (hB.cell (p := ⟨w.heap.size + 1, 3, none⟩) (by first | omega | (simp; done) | (simp; omega))).trans (by go_simp)
  have kc0 : w1.cell? ⟨w.heap.size + 1 + 1, 0, none⟩ = some (.int .u64 c0) := (hB.cell (p := ⟨w.heap.size + 1 + 1, 0, none⟩) (by first | omega | (simp; done) | (simp; omega))).trans (by go_simp)
  have kc1 : w1.cell? ⟨w.heap.size + 1 + 1, 1, none⟩ = some (.int .u64 c1) := (hB.cell (p := ⟨w.heap.size + 1 + 1, 1, none⟩) (by first | omega | (simp; done) | (simp; omega))).trans (by go_simp)
  have kc2 : w1.cell? ⟨w.heap.size + 1 + 1, 2, none⟩ = some (.int .u64 c2) := (hB.cell (p := ⟨w.heap.size + 1 + 1, 2, none⟩) (by first | omega | (simp; done) | (simp; omega))).trans (by go_simp)
  have kc3 : w1.cell? ⟨w.heap.size + 1 + 1, 3, none⟩ = some (.int .u64 c3) := (hB.cell (p := ⟨w.heap.size + 1 + 1, 3, none⟩) (by first | omega | (simp; done) | (simp; omega))).trans (by go_simp)
  have kr0 : w1.cell? ⟨w.heap.size + 1 + 1 + 1, 0, none⟩ = some (.int .u64 0) := (hB.cell (p := ⟨w.heap.size + 1 + 1 + 1, 0, none⟩) (by first | omega | (simp; done) | (simp; omega))).trans (by go_simp)
  have kr1 : w1.cell? ⟨w.heap.size + 1 + 1 + 1, 1, none⟩ = some (.int .u64 0) := (hB.cell (p := ⟨w.heap.size + 1 + 1 + 1, 1, none⟩) (by first | omega | (simp; done) | (simp; omega))).trans (by go_simp)
  have kr2 : w1.cell? ⟨w.heap.size + 1 + 1 + 1, 2, none⟩ = some (.int .u64 0) := (hB.cell (p := ⟨w.heap.size + 1 + 1 + 1, 2, none⟩) (by first | omega | (simp; done) | (simp; omega))).trans (by go_simp)
  have kr3 : w1.cell? ⟨w.heap.size + 1 + 1 + 1, 3, none⟩ = some (.int .u64 0) := (hB.cell (p := ⟨w.heap.size + 1 + 1 + 1, 3, none⟩) (by first | omega | (simp; done) | (simp; omega))).trans (by go_simp)
  have fr0 : w1.frozen? ⟨w.heap.size + 1 + 1 + 1, 0, none⟩ = false := (hB.frozen (p := ⟨w.heap.size + 1 + 1 + 1, 0, none⟩) (by first | omega | (simp; done) | (simp; omega))).trans (by go_simp)
  have fr1 : w1.frozen? ⟨w.heap.size + 1 + 1 + 1, 1, none⟩ = false := (hB.frozen (p := ⟨w.heap.size + 1 + 1 + 1, 1, none⟩) (by first | omega | (simp; done) | (simp; omega))).trans (by go_simp)
  have fr2 : w1.frozen? ⟨w.heap.size + 1 + 1 + 1, 2, none⟩ = false := (hB.frozen (p := ⟨w.heap.size + 1 + 1 + 1, 2, none⟩) (by first | omega | (simp; done) | (simp; omega))).trans (by go_simp)
  have fr3 : w1.frozen? ⟨w.heap.size + 1 + 1 + 1, 3, none⟩ = false := (hB.frozen (p := ⟨w.heap.size + 1 + 1 + 1, 3, none⟩) (by first | omega | (simp; done) | (simp; omega))).trans (by go_simp)
  have B1 : Below w.heap.size w w1 := Below.trans (by repeat' (first | with_reducible exact Below.refl _ _ | with_reducible exact Below.refl _ _ | with_reducible refine Below.drew ?_ | with_reducible refine bdrewN ?_ _ | with_reducible refine Below.alloc ?_ ?_ _ | with_reducible refine Below.setCell ?_ ?_ _ | omega | (simp; done) | (simp; omega))) (hB.mono (by first | omega | (simp; done) | (simp; omega)))
  clear hB
  go_wp2_with (refine store_tbl rfl _ _ rfl w1.heap.size rfl rfl (there_new w1 _ _) ?_; intro w2 hB hz2 hr2; change Hid _)
  have y3 : w.heap.size + 1 + 1 + 1 < w2.heap.size := by have := hB.size; (try simp at this); omega
  have y0 : w.heap.size < w2.heap.size := by omega
  have y1 : w.heap.size + 1 < w2.heap.size := by omega
  have y2 : w.heap.size + 1 + 1 < w2.heap.size := by omega
  have zt : w1.heap.size < w2.heap.size := by rw [hz2]; simp
  have kt : w2.cell? ⟨w1.heap.size, 1, none⟩ = some (.func (.func 135) #[] #[]) := hr2 1 _ rfl
  have la0 : w2.cell? ⟨w.heap.size, 0, none⟩ = some (.int .u64 a0) := (hB.cell (p := ⟨w.heap.size, 0, none⟩) (by first | omega | (simp; done) | (simp; omega))).trans (by go_simp)
  have la1 : w2.cell? ⟨w.heap.size, 1, none⟩ = some (.int .u64 a1) := (hB.cell (p := ⟨w.heap.size, 1, none⟩) (by first | omega | (simp; done) | (simp; omega))).trans (by go_simp)
  have la2 : w2.cell? ⟨w.heap.size, 2, none⟩ = some (.int .u64 a2) := (hB.cell (p := ⟨w.heap.size, 2, none⟩) (by first | omega | (simp; done) | (simp; omega))).trans (by go_simp)
  have la3 : w2.cell? ⟨w.heap.size, 3, none⟩ = some (.int .u64 a3) := (hB.cell (p := ⟨w.heap.size, 3, none⟩) (by first | omega | (simp; done) | (simp; omega))).trans (by go_simp)
  have lb0 : w2.cell? ⟨w.heap.size + 1, 0, none⟩ = some (.int .u64 b0) := (hB.cell (p := ⟨w.heap.size + 1, 0, none⟩) (by first | omega | (simp; done) | (simp; omega))).trans (by go_simp)
  have lb1 : w2.cell? ⟨w.heap.size + 1, 1, none⟩ = some (.int .u64 b1) := (hB.cell (p := ⟨w.heap.size + 1, 1, none⟩) (by first | omega | (simp; done) | (simp; omega))).trans (by go_simp)
  have lb2 : w2.cell? ⟨w.heap.size + 1, 2, none⟩ = some (.int .u64 b2) := (hB.cell (p := ⟨w.heap.size + 1, 2, none⟩) (by first | omega | (simp; done) | (simp; omega))).trans (by go_simp)
  have lb3 : w2.cell? ⟨w.heap.size + 1, 3, none⟩ = some (.int .u64 b3) := (hB.cell (p := ⟨w.heap.size + 1, 3, none⟩) (by first | omega | (simp; done) | (simp; omega))).trans (by go_simp)
  have lc0 : w2.cell? ⟨w.heap.size + 1 + 1, 0, none⟩ = some (.int .u64 c0) := (hB.cell (p := ⟨w.heap.size + 1 + 1, 0, none⟩) (by first | omega | (simp; done) | (simp; omega))).trans (by go_simp)
  have lc1 : w2.cell? ⟨w.heap.size + 1 + 1, 1, none⟩ = some (.int .u64 c1) := (hB.cell (p := ⟨w.heap.size + 1 + 1, 1, none⟩) (by first | omega | (simp; done) | (simp; omega))).trans (by go_simp)
  have lc2 : w2.cell? ⟨w.heap.size + 1 + 1, 2, none⟩ = some (.int .u64 c2) := (hB.cell (p := ⟨w.heap.size + 1 + 1, 2, none⟩) (by first | omega | (simp; done) | (simp; omega))).trans (by go_simp)
  have lc3 : w2.cell? ⟨w.heap.size + 1 + 1, 3, none⟩ = some (.int .u64 c3) := (hB.cell (p := ⟨w.heap.size + 1 + 1, 3, none⟩) (by first | omega | (simp; done) | (simp; omega))).trans (by go_simp)
  have lr0 : w2.cell? ⟨w.heap.size + 1 + 1 + 1, 0, none⟩ = some (.int .u64 0) := (hB.cell (p := ⟨w.heap.size + 1 + 1 + 1, 0, none⟩) (by first | omega | (simp; done) | (simp; omega))).trans (by go_simp)
  have lr1 : w2.cell? ⟨w.heap.size + 1 + 1 + 1, 1, none⟩ = some (.int .u64 0) := (hB.cell (p := ⟨w.heap.size + 1 + 1 + 1, 1, none⟩) (by first | omega | (simp; done) | (simp; omega))).trans (by go_simp)
  have lr2 : w2.cell? ⟨w.heap.size + 1 + 1 + 1, 2, none⟩ = some (.int .u64 0) := (hB.cell (p := ⟨w.heap.size + 1 + 1 + 1, 2, none⟩) (by first | omega | (simp; done) | (simp; omega))).trans (by go_simp)
  have lr3 : w2.cell? ⟨w.heap.size + 1 + 1 + 1, 3, none⟩ = some (.int .u64 0) := (hB.cell (p := ⟨w.heap.size + 1 + 1 + 1, 3, none⟩) (by first | omega | (simp; done) | (simp; omega))).trans (by go_simp)
  have gr0 : w2.frozen? ⟨w.heap.size + 1 + 1 + 1, 0, none⟩ = false := (hB.frozen (p := ⟨w.heap.size + 1 + 1 + 1, 0, none⟩) (by first | omega | (simp; done) | (simp; omega))).trans (by go_simp)
  have gr1 : w2.frozen? ⟨w.heap.size + 1 + 1 + 1, 1, none⟩ = false := (hB.frozen (p := ⟨w.heap.size + 1 + 1 + 1, 1, none⟩) (by first | omega | (simp; done) | (simp; omega))).trans (by go_simp)
  have gr2 : w2.frozen? ⟨w.heap.size + 1 + 1 + 1, 2, none⟩ = false := (hB.frozen (p := ⟨w.heap.size + 1 + 1 + 1, 2, none⟩) (by first | omega | (simp; done) | (simp; omega))).trans (by go_simp)
  have gr3 : w2.frozen? ⟨w.heap.size + 1 + 1 + 1, 3, none⟩ = false := (hB.frozen (p := ⟨w.heap.size + 1 + 1 + 1, 3, none⟩) (by first | omega | (simp; done) | (simp; omega))).trans (by go_simp)
  have B2 : Below w.heap.size w w2 := Below.trans (by repeat' (first | with_reducible exact B1 | with_reducible exact Below.refl _ _ | with_reducible refine Below.drew ?_ | with_reducible refine bdrewN ?_ _ | with_reducible refine Below.alloc ?_ ?_ _ | with_reducible refine Below.setCell ?_ ?_ _ | omega | (simp; done) | (simp; omega))) (hB.mono (by first | omega | (simp; done) | (simp; omega)))
  clear hB hr2 hz2 z0 z1 z2 ka0 ka1 ka2 ka3 kb0 kb1 kb2 kb3 kc0 kc1 kc2 kc3 kr0 kr1 kr2 kr3 fr0 fr1 fr2 fr3
  unfold Hid
  have hq := eqf_run 135
  go_wp2
  go_region_held3 (fun w' => w'.cell? ⟨w.heap.size, 0, none⟩ = some (.int .u64 a0) ∧ w'.cell? ⟨w.heap.size, 1, none⟩ = some (.int .u64 a1) ∧ w'.cell? ⟨w.heap.size, 2, none⟩ = some (.int .u64 a2) ∧ w'.cell? ⟨w.heap.size, 3, none⟩ = some (.int .u64 a3) ∧ w'.cell? ⟨w.heap.size + 1, 0, none⟩ = some (.int .u64 b0) ∧ w'.cell? ⟨w.heap.size + 1, 1, none⟩ = some (.int .u64 b1) ∧ w'.cell? ⟨w.heap.size + 1, 2, none⟩ = some (.int .u64 b2) ∧ w'.cell? ⟨w.heap.size + 1, 3, none⟩ = some (.int .u64 b3) ∧ w'.cell? ⟨w.heap.size + 1 + 1, 0, none⟩ = some (.int .u64 c0) ∧ w'.cell? ⟨w.heap.size + 1 + 1, 1, none⟩ = some (.int .u64 c1) ∧ w'.cell? ⟨w.heap.size + 1 + 1, 2, none⟩ = some (.int .u64 c2) ∧ w'.cell? ⟨w.heap.size + 1 + 1, 3, none⟩ = some (.int .u64 c3) ∧ w'.cell? ⟨w1.heap.size, 1, none⟩ = some (.func (.func 135) #[] #[])) (first | ((try dsimp only); refine ⟨?_, ?_, ?_, ?_, ?_, ?_, ?_, ?_, ?_, ?_, ?_, ?_, ?_⟩ <;> first | (simp [*]; done) | (go_simp; done)) | (go_split_ands; (try dsimp only); refine ⟨?_, ?_, ?_, ?_, ?_, ?_, ?_, ?_, ?_, ?_, ?_, ?_, ?_⟩ <;> (refine (hB.cell ?_).trans ?_ <;> first | assumption | omega | (simp; done) | (simp; omega) | (go_simp; done))) | (go_split_ands; (try dsimp only); refine ⟨?_, ?_, ?_, ?_, ?_, ?_, ?_, ?_, ?_, ?_, ?_, ?_, ?_⟩ <;> (go_simp; done))) (first
    | (go_at_call 135
       refine (deed1_any x y _ _ _ _ _ _ _ _ _ _ _ _ _ ha hb).mono ?_
       rintro e w3 ⟨s0, s1, s2, s3, rfl, hs, hB⟩
       have qr0 : w3.cell? ⟨w.heap.size + 1 + 1 + 1, 0, none⟩ = some (.int .u64 0) := (hB.cell (p := ⟨w.heap.size + 1 + 1 + 1, 0, none⟩) (by first | omega | (simp; done) | (simp; omega))).trans (by go_simp)
       have qr1 : w3.cell? ⟨w.heap.size + 1 + 1 + 1, 1, none⟩ = some (.int .u64 0) := (hB.cell (p := ⟨w.heap.size + 1 + 1 + 1, 1, none⟩) (by first | omega | (simp; done) | (simp; omega))).trans (by go_simp)
       have qr2 : w3.cell? ⟨w.heap.size + 1 + 1 + 1, 2, none⟩ = some (.int .u64 0) := (hB.cell (p := ⟨w.heap.size + 1 + 1 + 1, 2, none⟩) (by first | omega | (simp; done) | (simp; omega))).trans (by go_simp)
       have qr3 : w3.cell? ⟨w.heap.size + 1 + 1 + 1, 3, none⟩ = some (.int .u64 0) := (hB.cell (p := ⟨w.heap.size + 1 + 1 + 1, 3, none⟩) (by first | omega | (simp; done) | (simp; omega))).trans (by go_simp)
       have pr0 : w3.frozen? ⟨w.heap.size + 1 + 1 + 1, 0, none⟩ = false := (hB.frozen (p := ⟨w.heap.size + 1 + 1 + 1, 0, none⟩) (by first | omega | (simp; done) | (simp; omega))).trans (by go_simp)
       have pr1 : w3.frozen? ⟨w.heap.size + 1 + 1 + 1, 1, none⟩ = false := (hB.frozen (p := ⟨w.heap.size + 1 + 1 + 1, 1, none⟩) (by first | omega | (simp; done) | (simp; omega))).trans (by go_simp)
       have pr2 : w3.frozen? ⟨w.heap.size + 1 + 1 + 1, 2, none⟩ = false := (hB.frozen (p := ⟨w.heap.size + 1 + 1 + 1, 2, none⟩) (by first | omega | (simp; done) | (simp; omega))).trans (by go_simp)
       have pr3 : w3.frozen? ⟨w.heap.size + 1 + 1 + 1, 3, none⟩ = false := (hB.frozen (p := ⟨w.heap.size + 1 + 1 + 1, 3, none⟩) (by first | omega | (simp; done) | (simp; omega))).trans (by go_simp)
       clear lr0 lr1 lr2 lr3 gr0 gr1 gr2 gr3))
  have B3 : Below w.heap.size w w3 := Below.trans (by repeat' (first | with_reducible exact B2 | with_reducible exact Below.refl _ _ | with_reducible refine Below.drew ?_ | with_reducible refine bdrewN ?_ _ | with_reducible refine Below.alloc ?_ ?_ _ | with_reducible refine Below.setCell ?_ ?_ _ | omega | (simp; done) | (simp; omega))) (hB.mono (by first | omega | (simp; done) | (simp; omega)))
  clear hB
  go_wp2
  exact bodyPost_ret (v := .tuple #[.agg #[.int .u64 s0, .int .u64 s1, .int .u64 s2, .int .u64 s3], .bool true]) (by simp [results, Tryz.results56, go_sem, qr0, qr1, qr2, qr3]) rfl
    ⟨s0, s1, s2, s3, rfl, hs, by repeat' (first | with_reducible exact B3 | with_reducible exact Below.refl _ _ | with_reducible refine Below.drew ?_ | with_reducible refine bdrewN ?_ _ | with_reducible refine Below.alloc ?_ ?_ _ | with_reducible refine Below.setCell ?_ ?_ _ | omega | (simp; done) | (simp; omega))⟩
end Go.Proofs.YtpadpmkfhljiiaaGreat
/- The text of 2, run; and awake: in whatever world it returns true. -/
namespace Go.Proofs.YtpadpmkfhljiiaaGreat
open Go.RowKit
set_option maxHeartbeats 1000000 in
set_option maxRecDepth 100000 in
theorem div64_small (lo y : Int) (w : World) (hy : 0 < y) (hl : U64 lo) :
    Calls Tryz.prog 177 #[.int .u64 0, .int .u64 lo, .int .u64 y] w fun e w' => e = .returned (.tuple #[.int .u64 (lo / y), .int .u64 (lo % y)]) ∧ Below w.heap.size w w' ∧ ∃ n, w' = w.drewN n := by
  have h1 : (y == 0) = false := beq_eq_false_iff_ne.2 (by omega)
  have h2 : decide (y ≤ 0) = false := by simp; omega
  go_enter Tryz.func177, Tryz.ntmps177
  go_wp2
  go_quiet (fail)
  go_wp2
  go_ret2
  refine ⟨?_, by repeat' (first | with_reducible exact Below.refl _ _ | with_reducible exact Below.refl _ _ | with_reducible refine Below.drew ?_ | with_reducible refine bdrewN ?_ _ | with_reducible refine Below.alloc ?_ ?_ _ | with_reducible refine Below.setCell ?_ ?_ _ | omega | (simp; done) | (simp; omega)), _, rfl⟩
  have e1 : lo.tdiv y = lo / y := Int.tdiv_eq_ediv_of_nonneg hl.1
  have e3 : 0 ≤ lo / y := Int.ediv_nonneg hl.1 (by omega)
  have e4 : lo / y ≤ lo := Int.ediv_le_self _ hl.1
  have e5 := hl.2
  unfold Bd at e5
  have e6 : lo / y < 18446744073709551616 := by omega
  have e7 : IntKind.u64.wrap (lo / y) = lo / y := by rw [IntKind.wrap_u64]; exact Int.emod_eq_of_lt e3 e6
  have e2 : lo.tmod y = lo % y := Int.tmod_eq_emod_of_nonneg hl.1
  simp [e1, e2, e7]
set_option maxHeartbeats 1000000 in
set_option maxRecDepth 100000 in
theorem shorten2_any (w : World) :
    Calls Tryz.prog 174 #[.agg #[.int .u64 2, .int .u64 0, .int .u64 0, .int .u64 0], .int .u64 10] w fun e w' => e = .returned (.tuple #[.agg #[.int .u64 0, .int .u64 0, .int .u64 0, .int .u64 0], .int .u64 2]) ∧ Below w.heap.size w w' := by
  go_enter Tryz.func174, Tryz.ntmps174
  go_wp2
  refine wp_loop_rounds 5 ?_
  rw [rounds_succ]
  go_wp2_with (go_at_call 177; refine (div64_small _ _ _ (by omega) (u64_lit _ (by omega) (by omega))).mono ?_; rintro e w' ⟨rfl, hB, n, rfl⟩; clear hB; simp only [Int.zero_ediv, Int.zero_emod])
  rw [rounds_succ]
  go_wp2_with (go_at_call 177; refine (div64_small _ _ _ (by omega) (u64_lit _ (by omega) (by omega))).mono ?_; rintro e w' ⟨rfl, hB, n, rfl⟩; clear hB; simp only [Int.zero_ediv, Int.zero_emod])
  rw [rounds_succ]
  go_wp2_with (go_at_call 177; refine (div64_small _ _ _ (by omega) (u64_lit _ (by omega) (by omega))).mono ?_; rintro e w' ⟨rfl, hB, n, rfl⟩; clear hB; simp only [Int.zero_ediv, Int.zero_emod])
  rw [rounds_succ]
  go_wp2_with (go_at_call 177; refine (div64_small _ _ _ (by omega) (u64_lit _ (by omega) (by omega))).mono ?_; rintro e w' ⟨rfl, hB, n, rfl⟩; clear hB; simp only [show (2 : Int) / 10 = 0 from by decide, show (2 : Int) % 10 = 2 from by decide])
  rw [rounds_succ]
  go_wp2
  exact bodyPost_ret (v := .tuple #[.agg #[.int .u64 0, .int .u64 0, .int .u64 0, .int .u64 0], .int .u64 2]) (by simp [results, Tryz.results174, go_sem]) rfl
    ⟨rfl, by repeat' (first | with_reducible exact Below.refl _ _ | with_reducible exact Below.refl _ _ | with_reducible refine Below.drew ?_ | with_reducible refine bdrewN ?_ _ | with_reducible refine Below.alloc ?_ ?_ _ | with_reducible refine Below.setCell ?_ ?_ _ | omega | (simp; done) | (simp; omega))⟩
set_option maxHeartbeats 1000000 in
set_option maxRecDepth 100000 in
theorem write2_any (w : World) :
    Calls Tryz.prog 119 #[.agg #[.int .u64 2, .int .u64 0, .int .u64 0, .int .u64 0], .int .u64 10] w fun e w' => e = .returned (.string ⟨#[50]⟩) ∧ Below w.heap.size w w' := by
  go_enter Tryz.func119, Tryz.ntmps119
  go_wp2
  refine wp_loop_rounds 1 ?_
  rw [rounds_succ]
  go_wp2_with fail
  refine (shorten2_any _).mono ?_
  rintro e w1 ⟨rfl, hB⟩
  have z1 : w.heap.size + 1 < w1.heap.size := by have := hB.size; (try simp at this); omega
  have z0 : w.heap.size < w1.heap.size := by omega
  have ka0 : w1.cell? ⟨w.heap.size, 0, none⟩ = some (.int .u64 2) := (hB.cell (p := ⟨w.heap.size, 0, none⟩) (by first | omega | (simp; done) | (simp; omega))).trans (by go_simp)
  have ka1 : w1.cell? ⟨w.heap.size, 1, none⟩ = some (.int .u64 0) := (hB.cell (p := ⟨w.heap.size, 1, none⟩) (by first | omega | (simp; done) | (simp; omega))).trans (by go_simp)
  have ka2 : w1.cell? ⟨w.heap.size, 2, none⟩ = some (.int .u64 0) := (hB.cell (p := ⟨w.heap.size, 2, none⟩) (by first | omega | (simp; done) | (simp; omega))).trans (by go_simp)
  have ka3 : w1.cell? ⟨w.heap.size, 3, none⟩ = some (.int .u64 0) := (hB.cell (p := ⟨w.heap.size, 3, none⟩) (by first | omega | (simp; done) | (simp; omega))).trans (by go_simp)
  have fa0 : w1.frozen? ⟨w.heap.size, 0, none⟩ = false := (hB.frozen (p := ⟨w.heap.size, 0, none⟩) (by first | omega | (simp; done) | (simp; omega))).trans (by go_simp)
  have fa1 : w1.frozen? ⟨w.heap.size, 1, none⟩ = false := (hB.frozen (p := ⟨w.heap.size, 1, none⟩) (by first | omega | (simp; done) | (simp; omega))).trans (by go_simp)
  have fa2 : w1.frozen? ⟨w.heap.size, 2, none⟩ = false := (hB.frozen (p := ⟨w.heap.size, 2, none⟩) (by first | omega | (simp; done) | (simp; omega))).trans (by go_simp)
  have fa3 : w1.frozen? ⟨w.heap.size, 3, none⟩ = false := (hB.frozen (p := ⟨w.heap.size, 3, none⟩) (by first | omega | (simp; done) | (simp; omega))).trans (by go_simp)
  have kt : w1.cell? ⟨w.heap.size + 1, 77, none⟩ = some (.int .u8 0) := (hB.cell (p := ⟨w.heap.size + 1, 77, none⟩) (by simp)).trans (by go_simp; rfl)
  have ft : w1.frozen? ⟨w.heap.size + 1, 77, none⟩ = false := (hB.frozen (p := ⟨w.heap.size + 1, 77, none⟩) (by simp)).trans (by go_simp)
  have B1 : Below w.heap.size w w1 := Below.trans (by repeat' (first | with_reducible exact Below.refl _ _ | with_reducible exact Below.refl _ _ | with_reducible refine Below.drew ?_ | with_reducible refine bdrewN ?_ _ | with_reducible refine Below.alloc ?_ ?_ _ | with_reducible refine Below.setCell ?_ ?_ _ | omega | (simp; done) | (simp; omega))) (hB.mono (by first | omega | (simp; done) | (simp; omega)))
  clear hB
  go_wp2_with fail
  refine (isZero_any 0 _ _ _ _ _ isW_0).mono ?_
  rintro e w2 ⟨rfl, hB⟩
  have kt2 : w2.cell? ⟨w.heap.size + 1, 77, none⟩ = some (.int .u8 50) := (hB.cell (p := ⟨w.heap.size + 1, 77, none⟩) (by simp; omega)).trans (by go_simp; rfl)
  have hz2 : decide ((0 : Int) % MM = 0) = true := by simp
  rw [hz2]
  have y1 : w.heap.size + 1 < w2.heap.size := by have := hB.size; (try simp at this); omega
  have y0 : w.heap.size < w2.heap.size := by omega
  have B2 : Below w.heap.size w w2 := Below.trans (by repeat' (first | with_reducible exact B1 | with_reducible exact Below.refl _ _ | with_reducible refine Below.drew ?_ | with_reducible refine bdrewN ?_ _ | with_reducible refine Below.alloc ?_ ?_ _ | with_reducible refine Below.setCell ?_ ?_ _ | omega | (simp; done) | (simp; omega))) (hB.mono (by first | omega | (simp; done) | (simp; omega)))
  clear hB kt ft ka0 ka1 ka2 ka3 fa0 fa1 fa2 fa3 hz2
  have hl : (loadCells ⟨w.heap.size + 1, 77, none⟩ 1).run Tryz.prog w2 = .ok ([(50 : Int)].map (Value.int .u8)).toArray w2 :=
    run_loadCells_list (P := Tryz.prog) w2 ⟨w.heap.size + 1, 77, none⟩ [.int .u8 50] (fun j v hv => by
      have hj : j < 1 := (List.getElem?_eq_some_iff.1 hv).1
      have hj0 : j = 0 := by omega
      subst hj0
      simp at hv
      subst hv
      rw [Addr.add_mid]
      exact kt2)
  have hcv : (convert 35 9 (.slice (some ⟨w.heap.size + 1, 77, none⟩) 1 1)).run Tryz.prog w2 = .ok (.string ⟨#[50]⟩) w2 := by
    rw [run_convert_bytes_string w2 _ _ _ _ _ _ Tryz.underlying35 Tryz.underlying5 Tryz.underlying9, run_bytesToString w2 _ _ _ _ hl]
    rfl
  clear hl kt2
  go_wp2
  go_ret
  exact ⟨rfl, by repeat' (first | with_reducible exact B2 | with_reducible exact Below.refl _ _ | with_reducible refine Below.drew ?_ | with_reducible refine bdrewN ?_ _ | with_reducible refine Below.alloc ?_ ?_ _ | with_reducible refine Below.setCell ?_ ?_ _ | omega | (simp; done) | (simp; omega))⟩

set_option maxHeartbeats 1000000 in
set_option maxRecDepth 100000 in
theorem text2_any (w : World) :
    Calls Tryz.prog 74 #[.agg #[.int .u64 2, .int .u64 0, .int .u64 0, .int .u64 0]] w fun e w' => e = .returned (.string ⟨#[50]⟩) ∧ Below w.heap.size w w' := by
  go_enter Tryz.func74, Tryz.ntmps74
  go_wp2_with fail
  refine (write2_any _).mono ?_
  rintro e w1 ⟨rfl, hB⟩
  have B1 : Below w.heap.size w w1 := Below.trans (by repeat' (first | with_reducible exact Below.refl _ _ | with_reducible exact Below.refl _ _ | with_reducible refine Below.drew ?_ | with_reducible refine bdrewN ?_ _ | with_reducible refine Below.alloc ?_ ?_ _ | with_reducible refine Below.setCell ?_ ?_ _ | omega | (simp; done) | (simp; omega))) (hB.mono (by first | omega | (simp; done) | (simp; omega)))
  clear hB
  go_wp2
  go_ret
  exact ⟨rfl, by repeat' (first | with_reducible exact B1 | with_reducible exact Below.refl _ _ | with_reducible refine Below.drew ?_ | with_reducible refine bdrewN ?_ _ | with_reducible refine Below.alloc ?_ ?_ _ | with_reducible refine Below.setCell ?_ ?_ _ | omega | (simp; done) | (simp; omega))⟩

set_option maxHeartbeats 1000000 in
set_option maxRecDepth 100000 in
theorem awake_any (w : World) :
    Calls Tryz.prog 21 #[] w fun e w' => e = .returned (.bool true) ∧ Below w.heap.size w w' := by
  have hq : ∀ (a0 a1 a2 a3 : Int) , ∀ W : World, _ := fun a0 a1 a2 a3 W => eqw_run a0 a1 a2 a3 4 0 0 0 W
  go_enter Tryz.func21, Tryz.ntmps21
  go_wp2_with fail
  refine (do1_any 2 2 _ _ _ _ _ _ _ _ _ _ _ _ _ isW_2 isW_2).mono ?_
  rintro e w1 ⟨s0, s1, s2, s3, rfl, hs, hB⟩
  obtain ⟨rfl, rfl, rfl, rfl⟩ := hs.eq isW_4 rfl
  have z0 : w.heap.size < w1.heap.size := by have := hB.size; (try simp at this); omega
  have ka0 : w1.cell? ⟨w.heap.size, 0, none⟩ = some (.int .u64 2) := (hB.cell (p := ⟨w.heap.size, 0, none⟩) (by first | omega | (simp; done) | (simp; omega))).trans (by go_simp)
  have ka1 : w1.cell? ⟨w.heap.size, 1, none⟩ = some (.int .u64 0) := (hB.cell (p := ⟨w.heap.size, 1, none⟩) (by first | omega | (simp; done) | (simp; omega))).trans (by go_simp)
  have ka2 : w1.cell? ⟨w.heap.size, 2, none⟩ = some (.int .u64 0) := (hB.cell (p := ⟨w.heap.size, 2, none⟩) (by first | omega | (simp; done) | (simp; omega))).trans (by go_simp)
  have ka3 : w1.cell? ⟨w.heap.size, 3, none⟩ = some (.int .u64 0) := (hB.cell (p := ⟨w.heap.size, 3, none⟩) (by first | omega | (simp; done) | (simp; omega))).trans (by go_simp)
  have B1 : Below w.heap.size w w1 := Below.trans (by repeat' (first | with_reducible exact Below.refl _ _ | with_reducible exact Below.refl _ _ | with_reducible refine Below.drew ?_ | with_reducible refine bdrewN ?_ _ | with_reducible refine Below.alloc ?_ ?_ _ | with_reducible refine Below.setCell ?_ ?_ _ | omega | (simp; done) | (simp; omega))) (hB.mono (by first | omega | (simp; done) | (simp; omega)))
  clear hB hs
  go_wp2_with fail
  refine (add_any 2 2 _ _ _ _ _ _ _ _ _ isW_2 isW_2).mono ?_
  rintro e w2 ⟨t0, t1, t2, t3, rfl, ht, hB⟩
  obtain ⟨rfl, rfl, rfl, rfl⟩ := ht.eq isW_4 rfl
  have y0 : w.heap.size < w2.heap.size := by have := hB.size; (try simp at this); omega
  have y1 : w1.heap.size < w2.heap.size := by have := hB.size; simp at this; omega
  have la0 : w2.cell? ⟨w.heap.size, 0, none⟩ = some (.int .u64 2) := (hB.cell (p := ⟨w.heap.size, 0, none⟩) (by first | omega | (simp; done) | (simp; omega))).trans (by go_simp)
  have la1 : w2.cell? ⟨w.heap.size, 1, none⟩ = some (.int .u64 0) := (hB.cell (p := ⟨w.heap.size, 1, none⟩) (by first | omega | (simp; done) | (simp; omega))).trans (by go_simp)
  have la2 : w2.cell? ⟨w.heap.size, 2, none⟩ = some (.int .u64 0) := (hB.cell (p := ⟨w.heap.size, 2, none⟩) (by first | omega | (simp; done) | (simp; omega))).trans (by go_simp)
  have la3 : w2.cell? ⟨w.heap.size, 3, none⟩ = some (.int .u64 0) := (hB.cell (p := ⟨w.heap.size, 3, none⟩) (by first | omega | (simp; done) | (simp; omega))).trans (by go_simp)
  have lb0 : w2.cell? ⟨w1.heap.size, 0, none⟩ = some (.int .u64 4) := (hB.cell (p := ⟨w1.heap.size, 0, none⟩) (by first | omega | (simp; done) | (simp; omega))).trans (by go_simp)
  have lb1 : w2.cell? ⟨w1.heap.size, 1, none⟩ = some (.int .u64 0) := (hB.cell (p := ⟨w1.heap.size, 1, none⟩) (by first | omega | (simp; done) | (simp; omega))).trans (by go_simp)
  have lb2 : w2.cell? ⟨w1.heap.size, 2, none⟩ = some (.int .u64 0) := (hB.cell (p := ⟨w1.heap.size, 2, none⟩) (by first | omega | (simp; done) | (simp; omega))).trans (by go_simp)
  have lb3 : w2.cell? ⟨w1.heap.size, 3, none⟩ = some (.int .u64 0) := (hB.cell (p := ⟨w1.heap.size, 3, none⟩) (by first | omega | (simp; done) | (simp; omega))).trans (by go_simp)
  have B2 : Below w.heap.size w w2 := Below.trans (by repeat' (first | with_reducible exact B1 | with_reducible exact Below.refl _ _ | with_reducible refine Below.drew ?_ | with_reducible refine bdrewN ?_ _ | with_reducible refine Below.alloc ?_ ?_ _ | with_reducible refine Below.setCell ?_ ?_ _ | omega | (simp; done) | (simp; omega))) (hB.mono (by first | omega | (simp; done) | (simp; omega)))
  clear hB ka0 ka1 ka2 ka3 ht
  go_wp2_with fail
  refine (text2_any _).mono ?_
  rintro e w3 ⟨rfl, hB⟩
  have B3 : Below w.heap.size w w3 := Below.trans (by repeat' (first | with_reducible exact B2 | with_reducible exact Below.refl _ _ | with_reducible refine Below.drew ?_ | with_reducible refine bdrewN ?_ _ | with_reducible refine Below.alloc ?_ ?_ _ | with_reducible refine Below.setCell ?_ ?_ _ | omega | (simp; done) | (simp; omega))) (hB.mono (by first | omega | (simp; done) | (simp; omega)))
  clear hB
  go_wp2
  go_ret
  exact ⟨rfl, by repeat' (first | with_reducible exact B3 | with_reducible exact Below.refl _ _ | with_reducible refine Below.drew ?_ | with_reducible refine bdrewN ?_ _ | with_reducible refine Below.alloc ?_ ?_ _ | with_reducible refine Below.setCell ?_ ?_ _ | omega | (simp; done) | (simp; omega))⟩
end Go.Proofs.YtpadpmkfhljiiaaGreat
/- Bit by bit, and the law's own constants. -/
namespace Go.Proofs.YtpadpmkfhljiiaaGreat
open Go.RowKit

end Go.Proofs.YtpadpmkfhljiiaaGreat
/- The comparisons, their answers named. -/
namespace Go.Proofs.YtpadpmkfhljiiaaGreat
open Go.RowKit
end Go.Proofs.YtpadpmkfhljiiaaGreat
/- Products: bits.Mul64, mulAdd, product, Mul: for all numbers. -/
namespace Go.Proofs.YtpadpmkfhljiiaaGreat
open Go.RowKit

end Go.Proofs.YtpadpmkfhljiiaaGreat
/- The plain product of two words, its eight parts; and Mul. -/
namespace Go.Proofs.YtpadpmkfhljiiaaGreat
open Go.RowKit

end Go.Proofs.YtpadpmkfhljiiaaGreat
/- Mul of any two words. -/
namespace Go.Proofs.YtpadpmkfhljiiaaGreat
open Go.RowKit
end Go.Proofs.YtpadpmkfhljiiaaGreat
/- Shifts by words: FromUint, below, signBits. -/
namespace Go.Proofs.YtpadpmkfhljiiaaGreat
open Go.RowKit
set_option maxHeartbeats 400000 in
theorem fromUint_any (n : Int) (w : World) :
    Calls Tryz.prog 66 #[.int .u64 n] w fun e w' => e = .returned (.agg #[.int .u64 n, .int .u64 0, .int .u64 0, .int .u64 0]) ∧ Below w.heap.size w w' := by
  go_enter Tryz.func66, Tryz.ntmps66
  go_wp2
  exact bodyPost_ret (v := .agg #[.int .u64 n, .int .u64 0, .int .u64 0, .int .u64 0]) (by simp [results, Tryz.results66, go_sem]) rfl ⟨rfl, by repeat' (first | with_reducible exact Below.refl _ _ | with_reducible exact Below.refl _ _ | with_reducible refine Below.drew ?_ | with_reducible refine bdrewN ?_ _ | with_reducible refine Below.alloc ?_ ?_ _ | with_reducible refine Below.setCell ?_ ?_ _ | omega | (simp; done) | (simp; omega))⟩

end Go.Proofs.YtpadpmkfhljiiaaGreat
/- Exp: powers, bit by bit. -/
namespace Go.Proofs.YtpadpmkfhljiiaaGreat
open Go.RowKit
/-- block b holds this word, and may be written -/
def Box (W : World) (b : Nat) (a0 a1 a2 a3 : Int) : Prop := (∀ i, i < 4 → W.cell? ⟨b, i, none⟩ = some (.int .u64 (limb a0 a1 a2 a3 i))) ∧ ∀ i, i < 4 → W.frozen? ⟨b, i, none⟩ = false
theorem Box.lt {W : World} {b : Nat} {a0 a1 a2 a3 : Int} (h : Box W b a0 a1 a2 a3) : b < W.heap.size := World.block_lt_of_cell? W _ (h.1 0 (by omega))
theorem Box.below {W W' : World} {B b : Nat} {a0 a1 a2 a3 : Int} (h : Box W b a0 a1 a2 a3) (k : Below B W W') (hb : b < B) : Box W' b a0 a1 a2 a3 :=
  ⟨fun i hi => (k.cell (p := ⟨b, i, none⟩) hb).trans (h.1 i hi), fun i hi => (k.frozen (p := ⟨b, i, none⟩) hb).trans (h.2 i hi)⟩
theorem Box.new (W : World) (t : TypeId) (a0 a1 a2 a3 : Int) : Box (W.alloc (.cells #[.int .u64 a0, .int .u64 a1, .int .u64 a2, .int .u64 a3] t)) W.heap.size a0 a1 a2 a3 :=
  ⟨fun i hi => box_cell W a0 a1 a2 a3 t i hi, fun i _ => by simp [World.frozen?_alloc_at]⟩
theorem Box.alloc {W : World} {b : Nat} {a0 a1 a2 a3 : Int} (h : Box W b a0 a1 a2 a3) (o : Obj) : Box (W.alloc o) b a0 a1 a2 a3 := h.below ((Below.refl _ _).alloc (Nat.le_refl _) _) h.lt
theorem Box.other {W : World} {b : Nat} {a0 a1 a2 a3 : Int} (h : Box W b a0 a1 a2 a3) (p : Addr) (x : Value) (hp : p.block ≠ b) : Box (W.setCell p x) b a0 a1 a2 a3 :=
  ⟨fun i hi => by rw [World.cell?_setCell_other _ _ _ _ (by intro e; subst e; exact hp rfl)]; exact h.1 i hi, fun i hi => by rw [World.frozen?_setCell]; exact h.2 i hi⟩
theorem Box.facts {W : World} {b : Nat} {a0 a1 a2 a3 : Int} (h : Box W b a0 a1 a2 a3) : W.cell? ⟨b, 0, none⟩ = some (.int .u64 a0) ∧ W.cell? ⟨b, 1, none⟩ = some (.int .u64 a1) ∧ W.cell? ⟨b, 2, none⟩ = some (.int .u64 a2) ∧ W.cell? ⟨b, 3, none⟩ = some (.int .u64 a3) ∧
    W.frozen? ⟨b, 0, none⟩ = false ∧ W.frozen? ⟨b, 1, none⟩ = false ∧ W.frozen? ⟨b, 2, none⟩ = false ∧ W.frozen? ⟨b, 3, none⟩ = false :=
  ⟨h.1 0 (by omega), h.1 1 (by omega), h.1 2 (by omega), h.1 3 (by omega), h.2 0 (by omega), h.2 1 (by omega), h.2 2 (by omega), h.2 3 (by omega)⟩
theorem Box.drew {W : World} {b : Nat} {a0 a1 a2 a3 : Int} (h : Box W b a0 a1 a2 a3) : Box W.drew b a0 a1 a2 a3 := h
/-- a word is laid over another -/
def put4 (W : World) (b : Nat) (s0 s1 s2 s3 : Int) : World := (((W.setCell ⟨b, 0, none⟩ (.int .u64 s0)).setCell ⟨b, 1, none⟩ (.int .u64 s1)).setCell ⟨b, 2, none⟩ (.int .u64 s2)).setCell ⟨b, 3, none⟩ (.int .u64 s3)
theorem Box.put {W : World} {b : Nat} {a0 a1 a2 a3 : Int} (h : Box W b a0 a1 a2 a3) (s0 s1 s2 s3 : Int) : Box (put4 W b s0 s1 s2 s3) b s0 s1 s2 s3 := by
  obtain ⟨c0, c1, c2, c3, f0, f1, f2, f3⟩ := h.facts
  unfold put4
  refine ⟨fun i hi => ?_, fun i hi => by simp only [World.frozen?_setCell]; exact h.2 i hi⟩
  obtain rfl | rfl | rfl | rfl : i = 0 ∨ i = 1 ∨ i = 2 ∨ i = 3 := by omega
  all_goals (show _ = some _; go_simp; rfl)
theorem Box.put_other {W : World} {b c : Nat} {a0 a1 a2 a3 : Int} (h : Box W b a0 a1 a2 a3) (hc : c ≠ b) (s0 s1 s2 s3 : Int) : Box (put4 W c s0 s1 s2 s3) b a0 a1 a2 a3 :=
  (((h.other _ _ hc).other _ _ hc).other _ _ hc).other _ _ hc
theorem below_put {B c : Nat} {w W : World} (h : Below B w W) (hc : B ≤ c) (s0 s1 s2 s3 : Int) : Below B w (put4 W c s0 s1 s2 s3) := (((h.setCell hc _).setCell hc _).setCell hc _).setCell hc _
/-- while the power is made -/
structure ExpInv (w : World) (c : Nat) (a0 a1 a2 a3 b0 b1 b2 b3 s0 s1 s2 s3 : Int) (W : World) : Prop where
  bel : Below w.heap.size w W
  ba : Box W w.heap.size a0 a1 a2 a3
  bb : Box W (w.heap.size + 1) b0 b1 b2 b3
  br : Box W (w.heap.size + 1 + 1) 0 0 0 0
  bp : Box W c s0 s1 s2 s3
theorem ExpInv.past {w W W' : World} {c : Nat} {a0 a1 a2 a3 b0 b1 b2 b3 s0 s1 s2 s3 : Int} (h : ExpInv w c a0 a1 a2 a3 b0 b1 b2 b3 s0 s1 s2 s3 W) (k : Below W.heap.size W W') : ExpInv w c a0 a1 a2 a3 b0 b1 b2 b3 s0 s1 s2 s3 W' :=
  ⟨h.bel.trans (k.mono h.bel.size), h.ba.below k h.ba.lt, h.bb.below k h.bb.lt, h.br.below k h.br.lt, h.bp.below k h.bp.lt⟩
theorem ExpInv.put {w W : World} {c : Nat} {a0 a1 a2 a3 b0 b1 b2 b3 s0 s1 s2 s3 : Int} (h : ExpInv w c a0 a1 a2 a3 b0 b1 b2 b3 s0 s1 s2 s3 W) (hc : w.heap.size + 1 + 1 < c) (t0 t1 t2 t3 : Int) : ExpInv w c a0 a1 a2 a3 b0 b1 b2 b3 t0 t1 t2 t3 (put4 W c t0 t1 t2 t3) :=
  ⟨below_put h.bel (by omega) _ _ _ _, h.ba.put_other (by omega) _ _ _ _, h.bb.put_other (by omega) _ _ _ _, h.br.put_other (by omega) _ _ _ _, h.bp.put _ _ _ _⟩
end Go.Proofs.YtpadpmkfhljiiaaGreat
