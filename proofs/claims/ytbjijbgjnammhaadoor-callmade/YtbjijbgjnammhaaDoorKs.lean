/- squeeze: the first four lanes, byte by byte. -/
import Derived.Test.YtbjijbgjnammhaaDoorKl
namespace Go.Proofs.YtbjijbgjnammhaaDoor
open Go.RowKit
/-- the first n cells of block b are the numbers v, and may be written -/
def RowB (w : World) (b n : Nat) (v : Nat → Int) : Prop := ∀ i, i < n → w.cell? ⟨b, i, none⟩ = some (.int .u8 (v i)) ∧ w.frozen? ⟨b, i, none⟩ = false
def rowB (n : Nat) (v : Nat → Int) : List Value := (List.range n).map fun i => .int .u8 (v i)
theorem rowB_len (n : Nat) (v : Nat → Int) : (rowB n v).length = n := by simp [rowB]
theorem rowB_at (n : Nat) (v : Nat → Int) (i : Nat) (h : i < n) : (rowB n v)[i]? = some (.int .u8 (v i)) := by simp [rowB, h]
theorem rowB_ext {n : Nat} {u v : Nat → Int} (h : ∀ i, i < n → u i = v i) : rowB n u = rowB n v := by
  simp only [rowB]; apply List.map_congr_left; intro i hi; rw [h i (List.mem_range.1 hi)]
theorem rowB_one (n : Nat) (v : Nat → Int) : (rowB n v).toArray.all (·.oneCell') = true :=
  all_oneCell_toArray (by intro x hx; simp only [rowB, List.mem_map] at hx; obtain ⟨i, _, rfl⟩ := hx; rfl)
theorem RowB.ext {w : World} {b n : Nat} {u v : Nat → Int} (h : RowB w b n u) (e : ∀ i, i < n → u i = v i) : RowB w b n v := fun i hi => by rw [← e i hi]; exact h i hi
theorem RowB.lt {w : World} {b n : Nat} {v : Nat → Int} (h : RowB w b n v) (hn : 0 < n) : b < w.heap.size := World.block_lt_of_cell? w _ (h 0 hn).1
theorem RowB.below {w w' : World} {B b n : Nat} {v : Nat → Int} (h : RowB w b n v) (k : Below B w w') (hb : b < B) : RowB w' b n v := fun i hi =>
  ⟨(k.cell (p := ⟨b, i, none⟩) hb).trans (h i hi).1, (k.frozen (p := ⟨b, i, none⟩) hb).trans (h i hi).2⟩
theorem RowB.drew {w : World} {b n : Nat} {v : Nat → Int} (h : RowB w b n v) : RowB w.drew b n v := fun i hi => by simpa using h i hi
theorem RowB.alloc {w : World} {b n : Nat} {v : Nat → Int} (h : RowB w b n v) (o : Obj) : RowB (w.alloc o) b n v := fun i hi => by
  have hb := World.block_lt_of_cell? w _ (h i hi).1
  exact ⟨by rw [World.cell?_alloc_lt _ _ _ hb]; exact (h i hi).1, by rw [World.frozen?_alloc_past _ _ _ hb]; exact (h i hi).2⟩
theorem RowB.set_other {w : World} {b n : Nat} {v : Nat → Int} (h : RowB w b n v) (p : Addr) (x : Value) (hp : p.block ≠ b) : RowB (w.setCell p x) b n v := fun i hi =>
  ⟨by rw [World.cell?_setCell_other _ _ _ _ (by intro e; subst e; exact hp rfl)]; exact (h i hi).1, by rw [World.frozen?_setCell]; exact (h i hi).2⟩
theorem RowB.set {w : World} {b n : Nat} {v : Nat → Int} (h : RowB w b n v) (k : Nat) (x : Int) (hk : k < n) : RowB (w.setCell ⟨b, k, none⟩ (.int .u8 x)) b n (fun i => if i = k then x else v i) := fun i hi => by
  refine ⟨?_, by rw [World.frozen?_setCell]; exact (h i hi).2⟩
  dsimp only
  by_cases e : i = k
  · subst e; rw [World.cell?_setCell_same _ _ _ (h i hi).1, if_pos rfl]
  · rw [World.cell?_setCell_other _ _ _ _ (by intro e'; injection e' with _ e' _; exact e e'.symm), if_neg e]; exact (h i hi).1
theorem RowB.new (w : World) (t : TypeId) (n : Nat) (v : Nat → Int) : RowB (w.alloc (.cells (rowB n v).toArray t)) w.heap.size n v := fun i hi => by
  rw [World.cell?_alloc_at _ _ _ _ rfl]
  exact ⟨by simp [rowB, hi], by simp [World.frozen?_alloc_at]⟩
theorem RowB.range {w : World} {b n : Nat} {v : Nat → Int} (h : RowB w b n v) : w.rangeAt b 0 (rowB n v) := fun j x hx => by
  have hj : j < n := by have := (List.getElem?_eq_some_iff.1 hx).1; rwa [rowB_len] at this
  rw [rowB_at n v j hj] at hx; rw [Nat.zero_add, ← hx]; exact (h j hj).1
theorem RowB.there {w : World} {b n : Nat} {v : Nat → Int} (h : RowB w b n v) : w.there b 0 n := fun j hj => by
  rw [Nat.zero_add, (h j hj).1]; exact ⟨rfl, (h j hj).2⟩
theorem RowB.of_range {w : World} {b n : Nat} {u v : Nat → Int} (h : RowB w b n u) : RowB (w.setCells b 0 (rowB n v)) b n v := fun i hi => by
  have := World.rangeAt_setCells_same w b 0 (rowB n v) (by rw [rowB_len]; exact h.there) i _ (rowB_at n v i hi)
  rw [Nat.zero_add] at this
  exact ⟨this, by rw [World.frozen?_setCells]; exact (h i hi).2⟩
theorem zeroB32 : (#[.int .u8 0, .int .u8 0, .int .u8 0, .int .u8 0, .int .u8 0, .int .u8 0, .int .u8 0, .int .u8 0, .int .u8 0, .int .u8 0, .int .u8 0, .int .u8 0, .int .u8 0, .int .u8 0, .int .u8 0, .int .u8 0, .int .u8 0, .int .u8 0, .int .u8 0, .int .u8 0, .int .u8 0, .int .u8 0, .int .u8 0, .int .u8 0, .int .u8 0, .int .u8 0, .int .u8 0, .int .u8 0, .int .u8 0, .int .u8 0, .int .u8 0, .int .u8 0] : Array Value) = (rowB 32 fun _ => 0).toArray := by rfl
theorem store32 {ops : Array Oper} {rest : List Oper} {op : Oper} {a : Act} {w : World} {Q : Exit → Act → World → Prop} (g : Nat → Int) (b : Nat) (hgd : op.guard = none) (x y : Operand) (ho : op.op = .store 31 x y)
    (hx : a.eval x = .pointer (some ⟨b, 0, none⟩)) (hy : a.eval y = .agg (rowB 32 g).toArray) (ht : w.there b 0 32)
    (h : wpList Tryd.prog ops Q rest (a.put op.dst undef) (w.setCells b 0 (rowB 32 g))) : wpList Tryd.prog ops Q (op :: rest) a w :=
  wpList_store_mid hgd 31 x y ho b 0 (rowB 32 g).toArray hx hy (by rw [List.size_toArray, rowB_len]; exact ht) (by rw [List.size_toArray, rowB_len]; kernel_rfl) (rowB_one 32 g) h
theorem load32 {ops : Array Oper} {rest : List Oper} {op : Oper} {a : Act} {w : World} {Q : Exit → Act → World → Prop} (g : Nat → Int) (b : Nat) (hgd : op.guard = none) (x : Operand) (ho : op.op = .load 31 x)
    (hx : a.eval x = .pointer (some ⟨b, 0, none⟩)) (hr : w.rangeAt b 0 (rowB 32 g))
    (h : wpList Tryd.prog ops Q rest (a.put op.dst (.agg (rowB 32 g).toArray)) w) : wpList Tryd.prog ops Q (op :: rest) a w :=
  wpList_load_mid hgd 31 x ho b 0 hx (rowB 32 g) _ hr Tryd.underlying31 rfl (by rw [rowB_len]; kernel_rfl) h
theorem loadVar32 {w : World} {b : Nat} {g : Nat → Int} (h : w.rangeAt b 0 (rowB 32 g)) : (loadVar 31 ⟨b, 0, none⟩).run Tryd.prog w = .ok (.agg (rowB 32 g).toArray) w :=
  run_loadVar_mid w b 0 31 (rowB 32 g) _ h Tryd.underlying31 rfl (by rw [rowB_len]; kernel_rfl)
/-- byte i of the hash that stands in these lanes -/
def hashF (f : KSt) : Nat → Int := fun i => (((f (i / 8)).toNat / 2 ^ (8 * (i % 8)) % 256 : Nat) : Int)
def SqInv (w : World) (f : KSt) (n : Nat) (W : World) : Prop := Below w.heap.size w W ∧ Row W w.heap.size 25 (iv f) ∧ RowB W (w.heap.size + 1) 32 (fun _ => 0) ∧ ∃ u : Nat → Int, RowB W (w.heap.size + 1 + 1) 32 u ∧ ∀ j, j < n → u j = hashF f j
theorem SqInv.step {w W : World} {f : KSt} {n : Nat} (h : SqInv w f n W) (hn : n < 32) {y : Int} (ey : hashF f n = y) : SqInv w f (n + 1) (W.setCell ⟨w.heap.size + 1 + 1, n, none⟩ (.int .u8 y)) := by
  obtain ⟨hB, hA, hZ, u, hU, hu⟩ := h
  refine ⟨hB.setCell (by simp; omega) _, hA.set_other _ _ (by simp; omega), hZ.set_other _ _ (by simp), _, hU.set n y hn, ?_⟩
  intro j hj
  by_cases e : j = n
  · subst e; rw [if_pos rfl, ey]
  · rw [if_neg e, hu j (by omega)]
set_option maxHeartbeats 1000000 in
set_option maxRecDepth 100000 in
theorem squeeze_is (f : KSt) (w : World) : Calls Tryd.prog 17 #[.agg (rowL 25 (iv f)).toArray] w fun e w' => e = .returned (.agg (rowB 32 (hashF f)).toArray) ∧ Below w.heap.size w w' := by
  obtain ⟨cs, hcs⟩ : ∃ cs, cs = (rowL 25 (iv f)).toArray := ⟨_, rfl⟩
  rw [← hcs]
  have HC : Hid (cs = (rowL 25 (iv f)).toArray) := hcs
  clear hcs
  go_enter Tryd.func17, Tryd.ntmps17
  go_wp2
  go_loopw [5] (fun i wr => ∃ k : Nat, k ≤ 32 ∧ i = .int .i64 k ∧ SqInv w f k wr) (fun i _ => 32 - (intOf i).toNat)
  case atStart =>
    rw [zeroB32, HC.out]
    refine ⟨0, Nat.zero_le _, rfl, ?_, ((Row.new w _ 25 (iv f)).alloc _).alloc _, ?_, fun _ => 0, ?_, ?_⟩
    · exact (((Below.refl _ _).alloc (by omega) _).alloc (by simp) _).alloc (by simp; omega) _
    · have := (RowB.new (w.alloc (.cells (rowL 25 (iv f)).toArray 36)) 31 32 fun _ => 0).alloc (.cells (rowB 32 fun _ => 0).toArray 31)
      simpa using this
    · have := RowB.new ((w.alloc (.cells (rowL 25 (iv f)).toArray 36)).alloc (.cells (rowB 32 fun _ => 0).toArray 31)) 31 32 fun _ => 0
      simpa using this
    · intro j hj; omega
  case round =>
    obtain ⟨k, hk, rfl, hI⟩ := hrel
    by_cases hk5 : k < 32
    · have kI : ((k : Int) < 32) := by omega
      obtain ⟨d, ed⟩ : ∃ d : Nat, d = k / 8 := ⟨_, rfl⟩
      obtain ⟨r, er⟩ : ∃ r : Nat, r = k % 8 := ⟨_, rfl⟩
      obtain ⟨s, es⟩ : ∃ s : Nat, s = 8 * r := ⟨_, rfl⟩
      have t1 : Int.tdiv (k : Int) 8 = (d : Int) := by rw [Int.tdiv_eq_ediv_of_nonneg (by omega)]; omega
      have t2 : Int.tmod (k : Int) 8 = (r : Int) := by rw [Int.tmod_eq_emod_of_nonneg (by omega)]; omega
      have t3 : (8 : Int) * (r : Int) = (s : Int) := by omega
      have q1 : IntKind.i64.wrap (d : Int) = (d : Int) := by rw [IntKind.wrap_i64]; omega
      have q2 : IntKind.i64.wrap (r : Int) = (r : Int) := by rw [IntKind.wrap_i64]; omega
      have q3 : IntKind.i64.wrap (s : Int) = (s : Int) := by rw [IntKind.wrap_i64]; omega
      have q5 : min s 64 = s := by omega
      have dI : (d : Int) < 25 := by omega
      have dN : d < 25 := by omega
      have sI : (0 : Int) ≤ (s : Int) := by omega
      have ca := (hI.2.1 d dN).1
      obtain ⟨u, hU, hu⟩ := hI.2.2.2
      have cb := (hU k hk5).1
      have fb := (hU k hk5).2
      obtain ⟨y, ey⟩ : ∃ y, hashF f k = y := ⟨_, rfl⟩
      have HI : Hid _ := hI
      have EY : Hid _ := ey
      have ev : IntKind.u8.wrap (iv f d / 2 ^ s) = y := by
        rw [← ey, hashF, ← ed, ← er, ← es, iv, IntKind.wrap_u8, Int.natCast_emod, Int.natCast_ediv, Int.natCast_pow]; rfl
      generalize iv f d = x at ca ev
      generalize u k = z at cb
      clear hk ed er es hU hu ey hI
      go_wp2
      go_roundw
      case rel => exact ⟨k + 1, by omega, by go_num, SqInv.step HI.out hk5 EY.out⟩
      case measure => simp [intOf]; omega
    · obtain rfl : k = 32 := by omega
      obtain ⟨hB, hA, hZ, u, hU, hu⟩ := hI
      have hl : rowB 32 u = rowB 32 (hashF f) := rowB_ext hu
      have hr := hU.range
      rw [hl] at hr
      have hW := @RowB.of_range wr (w.heap.size + 1) 32 (fun _ => 0) (hashF f) hZ
      have hBW := below_setCells (w.heap.size + 1) (by omega) (rowB 32 (hashF f)) 0 wr hB
      have HA : Hid _ := hr
      have HZ : Hid _ := hZ.there
      clear hr hZ hA hU hu hl
      go_wp2_with (first
        | refine load32 (hashF f) (w.heap.size + 1 + 1) rfl _ rfl rfl HA.out ?_
        | refine store32 (hashF f) (w.heap.size + 1) rfl _ _ rfl rfl rfl HZ.out ?_)
      refine bodyPost_ret (v := .agg (rowB 32 (hashF f)).toArray) ?_ rfl ⟨rfl, hBW⟩
      exact results_cell Tryd.results17 _ _ _ ⟨w.heap.size + 1, 0, none⟩ rfl (loadVar32 hW.range)
end Go.Proofs.YtbjijbgjnammhaaDoor
