/- Rows of bytes; word.Bytes. -/
import Derived.Test.YtbjijbgjnammhaaDoorGnw
import Derived.Deep.RegionHeld3
import Derived.Deep.MidRow
namespace Go.Proofs.YtbjijbgjnammhaaDoor.Wds
open Go.RowKit
theorem below_setCellsB {B : Nat} {a : World} (b : Nat) (hb : B ≤ b) : ∀ (vs : List Value) (o : Nat) (w : World), Below B a w → Below B a (w.setCells b o vs)
  | [], _, _, h => h
  | v :: r, o, w, h => by rw [World.setCells]; exact below_setCellsB b hb r (o + 1) _ (h.setCell hb v)
theorem results_cellB {fn : Func} {p : Tmp} {ty : TypeId} (h : fn.results = #[.cell p ty]) (tmps : Array Value) (P : Program) (w : World) (a : Addr) (ha : tmps.getD p undef = .pointer (some a)) {v : Value} (hl : (loadVar ty a).run P w = .ok v w) : (results fn tmps).run P w = .ok v w := by
  have ha' : tmps[p]?.getD undef = .pointer (some a) := by simpa using ha
  simp only [results, h]
  simp [ha', hl, asAddr]
/-- the first n cells of block b are the numbers v, and may be written -/
def RowB (w : World) (b n : Nat) (v : Nat → Int) : Prop := ∀ i, i < n → w.cell? ⟨b, i, none⟩ = some (.int .u8 (v i)) ∧ w.frozen? ⟨b, i, none⟩ = false
def rowB (n : Nat) (v : Nat → Int) : List Value := (List.range n).map fun i => .int .u8 (v i)
theorem rowB_len (n : Nat) (v : Nat → Int) : (rowB n v).length = n := by simp [rowB]
theorem rowB_at (n : Nat) (v : Nat → Int) (i : Nat) (h : i < n) : (rowB n v)[i]? = some (.int .u8 (v i)) := by simp [rowB, h]
theorem rowB_ext {n : Nat} {u v : Nat → Int} (h : ∀ i, i < n → u i = v i) : rowB n u = rowB n v := by
  simp only [rowB]; apply List.map_congr_left; intro i hi; rw [h i (List.mem_range.1 hi)]
theorem rowB_one (n : Nat) (v : Nat → Int) : (rowB n v).toArray.all (·.oneCell') = true :=
  all_oneCell_toArray (by intro x hx; simp only [rowB, List.mem_map] at hx; obtain ⟨i, _, rfl⟩ := hx; rfl)
theorem RowB.ext {w : World} {b n : Nat} {u v : Nat → Int} (h : RowB w b n u) (e : ∀ i, i < n → u i = v i) : RowB w b n v := fun i hi => by rw [← e i hi]; exact h i hi
theorem RowB.lt {w : World} {b n : Nat} {v : Nat → Int} (h : RowB w b n v) (hn : 0 < n) : b < w.heap.size := World.block_lt_of_cell? w _ (h 0 hn).1
theorem RowB.below {w w' : World} {B b n : Nat} {v : Nat → Int} (h : RowB w b n v) (k : Below B w w') (hb : b < B) : RowB w' b n v := fun i hi =>
  ⟨(k.cell (p := ⟨b, i, none⟩) hb).trans (h i hi).1, (k.frozen (p := ⟨b, i, none⟩) hb).trans (h i hi).2⟩
theorem RowB.drew {w : World} {b n : Nat} {v : Nat → Int} (h : RowB w b n v) : RowB w.drew b n v := fun i hi => by simpa using h i hi
theorem RowB.alloc {w : World} {b n : Nat} {v : Nat → Int} (h : RowB w b n v) (o : Obj) : RowB (w.alloc o) b n v := fun i hi => by
  have hb := World.block_lt_of_cell? w _ (h i hi).1
  exact ⟨by rw [World.cell?_alloc_lt _ _ _ hb]; exact (h i hi).1, by rw [World.frozen?_alloc_past _ _ _ hb]; exact (h i hi).2⟩
theorem RowB.set_other {w : World} {b n : Nat} {v : Nat → Int} (h : RowB w b n v) (p : Addr) (x : Value) (hp : p.block ≠ b) : RowB (w.setCell p x) b n v := fun i hi =>
  ⟨by rw [World.cell?_setCell_other _ _ _ _ (by intro e; subst e; exact hp rfl)]; exact (h i hi).1, by rw [World.frozen?_setCell]; exact (h i hi).2⟩
theorem RowB.set {w : World} {b n : Nat} {v : Nat → Int} (h : RowB w b n v) (k : Nat) (x : Int) (hk : k < n) : RowB (w.setCell ⟨b, k, none⟩ (.int .u8 x)) b n (fun i => if i = k then x else v i) := fun i hi => by
  refine ⟨?_, by rw [World.frozen?_setCell]; exact (h i hi).2⟩
  dsimp only
  by_cases e : i = k
  · subst e; rw [World.cell?_setCell_same _ _ _ (h i hi).1, if_pos rfl]
  · rw [World.cell?_setCell_other _ _ _ _ (by intro e'; injection e' with _ e' _; exact e e'.symm), if_neg e]; exact (h i hi).1
theorem RowB.new (w : World) (t : TypeId) (n : Nat) (v : Nat → Int) : RowB (w.alloc (.cells (rowB n v).toArray t)) w.heap.size n v := fun i hi => by
  rw [World.cell?_alloc_at _ _ _ _ rfl]
  exact ⟨by simp [rowB, hi], by simp [World.frozen?_alloc_at]⟩
theorem RowB.range {w : World} {b n : Nat} {v : Nat → Int} (h : RowB w b n v) : w.rangeAt b 0 (rowB n v) := fun j x hx => by
  have hj : j < n := by have := (List.getElem?_eq_some_iff.1 hx).1; rwa [rowB_len] at this
  rw [rowB_at n v j hj] at hx; rw [Nat.zero_add, ← hx]; exact (h j hj).1
theorem RowB.there {w : World} {b n : Nat} {v : Nat → Int} (h : RowB w b n v) : w.there b 0 n := fun j hj => by
  rw [Nat.zero_add, (h j hj).1]; exact ⟨rfl, (h j hj).2⟩
theorem RowB.of_range {w : World} {b n : Nat} {u v : Nat → Int} (h : RowB w b n u) : RowB (w.setCells b 0 (rowB n v)) b n v := fun i hi => by
  have := World.rangeAt_setCells_same w b 0 (rowB n v) (by rw [rowB_len]; exact h.there) i _ (rowB_at n v i hi)
  rw [Nat.zero_add] at this
  exact ⟨this, by rw [World.frozen?_setCells]; exact (h i hi).2⟩
theorem zeroB32 : (#[.int .u8 0, .int .u8 0, .int .u8 0, .int .u8 0, .int .u8 0, .int .u8 0, .int .u8 0, .int .u8 0, .int .u8 0, .int .u8 0, .int .u8 0, .int .u8 0, .int .u8 0, .int .u8 0, .int .u8 0, .int .u8 0, .int .u8 0, .int .u8 0, .int .u8 0, .int .u8 0, .int .u8 0, .int .u8 0, .int .u8 0, .int .u8 0, .int .u8 0, .int .u8 0, .int .u8 0, .int .u8 0, .int .u8 0, .int .u8 0, .int .u8 0, .int .u8 0] : Array Value) = (rowB 32 fun _ => 0).toArray := by rfl
theorem store32 {ops : Array Oper} {rest : List Oper} {op : Oper} {a : Act} {w : World} {Q : Exit → Act → World → Prop} (g : Nat → Int) (b : Nat) (hgd : op.guard = none) (x y : Operand) (ho : op.op = .store 29 x y)
    (hx : a.eval x = .pointer (some ⟨b, 0, none⟩)) (hy : a.eval y = .agg (rowB 32 g).toArray) (ht : w.there b 0 32)
    (h : wpList Tryd.prog ops Q rest (a.put op.dst undef) (w.setCells b 0 (rowB 32 g))) : wpList Tryd.prog ops Q (op :: rest) a w :=
  wpList_store_mid hgd 29 x y ho b 0 (rowB 32 g).toArray hx hy (by rw [List.size_toArray, rowB_len]; exact ht) (by rw [List.size_toArray, rowB_len]; kernel_rfl) (rowB_one 32 g) h
theorem load32 {ops : Array Oper} {rest : List Oper} {op : Oper} {a : Act} {w : World} {Q : Exit → Act → World → Prop} (g : Nat → Int) (b : Nat) (hgd : op.guard = none) (x : Operand) (ho : op.op = .load 29 x)
    (hx : a.eval x = .pointer (some ⟨b, 0, none⟩)) (hr : w.rangeAt b 0 (rowB 32 g))
    (h : wpList Tryd.prog ops Q rest (a.put op.dst (.agg (rowB 32 g).toArray)) w) : wpList Tryd.prog ops Q (op :: rest) a w :=
  wpList_load_mid hgd 29 x ho b 0 hx (rowB 32 g) _ hr Tryd.underlying29 rfl (by rw [rowB_len]; kernel_rfl) h
theorem loadVar32 {w : World} {b : Nat} {g : Nat → Int} (h : w.rangeAt b 0 (rowB 32 g)) : (loadVar 29 ⟨b, 0, none⟩).run Tryd.prog w = .ok (.agg (rowB 32 g).toArray) w :=
  run_loadVar_mid w b 0 29 (rowB 32 g) _ h Tryd.underlying29 rfl (by rw [rowB_len]; kernel_rfl)
theorem store32_new {ops : Array Oper} {rest : List Oper} {op : Oper} {a : Act} {w W : World} {Q : Exit → Act → World → Prop} (g : Nat → Int) (hgd : op.guard = none) (x y : Operand) (ho : op.op = .store 29 x y)
    (hx : a.eval x = .pointer (some ⟨W.heap.size, 0, none⟩)) (hy : a.eval y = .agg (rowB 32 g).toArray) (hB : Below w.heap.size w W)
    (h : ∀ v, RowB v W.heap.size 32 g → Below w.heap.size w v → Below W.heap.size W v → wpList Tryd.prog ops Q rest (a.put op.dst undef) v) :
    wpList Tryd.prog ops Q (op :: rest) a (W.alloc (.cells #[.int .u8 0, .int .u8 0, .int .u8 0, .int .u8 0, .int .u8 0, .int .u8 0, .int .u8 0, .int .u8 0, .int .u8 0, .int .u8 0, .int .u8 0, .int .u8 0, .int .u8 0, .int .u8 0, .int .u8 0, .int .u8 0, .int .u8 0, .int .u8 0, .int .u8 0, .int .u8 0, .int .u8 0, .int .u8 0, .int .u8 0, .int .u8 0, .int .u8 0, .int .u8 0, .int .u8 0, .int .u8 0, .int .u8 0, .int .u8 0, .int .u8 0, .int .u8 0] 29)) := by
  rw [zeroB32]
  have r0 := RowB.new W 29 32 fun _ => 0
  have b0 : Below W.heap.size W (W.alloc (.cells (rowB 32 fun _ => 0).toArray 29)) := (Below.refl _ _).alloc (by omega) _
  refine store32 g W.heap.size hgd x y ho hx hy r0.there (h _ r0.of_range ?_ (below_setCellsB _ (Nat.le_refl _) _ _ _ b0))
  exact below_setCellsB _ hB.size _ _ _ (hB.trans (b0.mono hB.size))
/-- byte i of a word, number 0 the lowest -/
def bw (x0 x1 x2 x3 : Int) (i : Nat) : Int := limb x0 x1 x2 x3 (i / 8) / 2 ^ (8 * (i % 8)) % 256
def bb (x0 x1 x2 x3 : Int) (j : Nat) : Int := bw x0 x1 x2 x3 (31 - j)
def ByInv (w : World) (x0 x1 x2 x3 : Int) (n : Nat) (W : World) : Prop := Below w.heap.size w W ∧ Box W w.heap.size x0 x1 x2 x3 ∧ RowB W (w.heap.size + 1) 32 (fun _ => 0) ∧ ∃ u : Nat → Int, RowB W (w.heap.size + 1 + 1) 32 u ∧ ∀ j, j < n → u (31 - j) = bw x0 x1 x2 x3 j
theorem ByInv.step {w W : World} {x0 x1 x2 x3 : Int} {n m : Nat} (h : ByInv w x0 x1 x2 x3 n W) (hn : n < 32) (hm : m + n = 31) {y : Int} (ey : bw x0 x1 x2 x3 n = y) : ByInv w x0 x1 x2 x3 (n + 1) (W.setCell ⟨w.heap.size + 1 + 1, m, none⟩ (.int .u8 y)) := by
  obtain ⟨hB, hA, hZ, u, hU, hu⟩ := h
  refine ⟨hB.setCell (by simp; omega) _, hA.other _ _ (by simp; omega), hZ.set_other _ _ (by simp), _, hU.set m y (by omega), ?_⟩
  intro j hj
  by_cases e : j = n
  · subst e; rw [if_pos (by omega), ey]
  · rw [if_neg (by omega), hu j (by omega)]
set_option maxHeartbeats 1000000 in
set_option maxRecDepth 100000 in
theorem bytes_is (x0 x1 x2 x3 : Int) (w : World) : Calls Tryd.prog 6 #[.agg #[.int .u64 x0, .int .u64 x1, .int .u64 x2, .int .u64 x3]] w fun e w' => e = .returned (.agg (rowB 32 (bb x0 x1 x2 x3)).toArray) ∧ Below w.heap.size w w' := by
  go_enter Tryd.func6, Tryd.ntmps6
  go_wp2
  go_loopw [5] (fun i wr => ∃ k : Nat, k ≤ 32 ∧ i = .int .i64 k ∧ ByInv w x0 x1 x2 x3 k wr) (fun i _ => 32 - (intOf i).toNat)
  case atStart =>
    rw [zeroB32]
    refine ⟨0, Nat.zero_le _, rfl, ?_, ((Box.new w _ x0 x1 x2 x3).alloc _).alloc _, ?_, fun _ => 0, ?_, ?_⟩
    · exact (((Below.refl _ _).alloc (by omega) _).alloc (by simp) _).alloc (by simp; omega) _
    · have := (RowB.new (w.alloc (.cells #[.int .u64 x0, .int .u64 x1, .int .u64 x2, .int .u64 x3] 26)) 29 32 fun _ => 0).alloc (.cells (rowB 32 fun _ => 0).toArray 29)
      simpa using this
    · have := RowB.new ((w.alloc (.cells #[.int .u64 x0, .int .u64 x1, .int .u64 x2, .int .u64 x3] 26)).alloc (.cells (rowB 32 fun _ => 0).toArray 29)) 29 32 fun _ => 0
      simpa using this
    · intro j hj; omega
  case round =>
    obtain ⟨k, hk, rfl, hI⟩ := hrel
    by_cases hk5 : k < 32
    · have kI : ((k : Int) < 32) := by omega
      obtain ⟨d, ed⟩ : ∃ d : Nat, d = k / 8 := ⟨_, rfl⟩
      obtain ⟨r, er⟩ : ∃ r : Nat, r = k % 8 := ⟨_, rfl⟩
      obtain ⟨s, es⟩ : ∃ s : Nat, s = 8 * r := ⟨_, rfl⟩
      obtain ⟨m, em⟩ : ∃ m : Nat, m + k = 31 := ⟨31 - k, by omega⟩
      have t0 : (31 : Int) - (k : Int) = (m : Int) := by omega
      have t1 : Int.tdiv (k : Int) 8 = (d : Int) := by rw [Int.tdiv_eq_ediv_of_nonneg (by omega)]; omega
      have t2 : Int.tmod (k : Int) 8 = (r : Int) := by rw [Int.tmod_eq_emod_of_nonneg (by omega)]; omega
      have t3 : (8 : Int) * (r : Int) = (s : Int) := by omega
      have q0 : IntKind.i64.wrap (m : Int) = (m : Int) := by rw [IntKind.wrap_i64]; omega
      have q1 : IntKind.i64.wrap (d : Int) = (d : Int) := by rw [IntKind.wrap_i64]; omega
      have q2 : IntKind.i64.wrap (r : Int) = (r : Int) := by rw [IntKind.wrap_i64]; omega
      have q3 : IntKind.i64.wrap (s : Int) = (s : Int) := by rw [IntKind.wrap_i64]; omega
      have q4 : IntKind.u64.wrap (s : Int) = (s : Int) := by rw [IntKind.wrap_u64]; omega
      have q5 : min s 64 = s := by omega
      have dI : (d : Int) < 4 := by omega
      have mI : (m : Int) < 32 := by omega
      have m0 : (0 : Int) ≤ (m : Int) := by omega
      have sI : (0 : Int) ≤ (s : Int) := by omega
      have ca := hI.2.1.1 d (by omega)
      obtain ⟨u, hU, hu⟩ := hI.2.2.2
      have cb := (hU m (by omega)).1
      have fb := (hU m (by omega)).2
      obtain ⟨y, ey⟩ : ∃ y, bw x0 x1 x2 x3 k = y := ⟨_, rfl⟩
      have HI : Hid _ := hI
      have EY : Hid (bw x0 x1 x2 x3 k = y) := ey
      have EM : Hid (m + k = 31) := em
      have ev : IntKind.u8.wrap (limb x0 x1 x2 x3 d / 2 ^ s) = y := by
        rw [← ey, bw, ← ed, ← er, ← es, IntKind.wrap_u8]
      generalize limb x0 x1 x2 x3 d = z9 at ca ev
      generalize u m = z at cb
      clear hk ed er es hU hu ey hI em
      go_wp2
      go_roundw
      case rel => exact ⟨k + 1, by omega, by go_num, ByInv.step HI.out hk5 EM.out EY.out⟩
      case measure => simp [intOf]; omega
    · obtain rfl : k = 32 := by omega
      obtain ⟨hB, hA, hZ, u, hU, hu⟩ := hI
      have hl : rowB 32 u = rowB 32 (bb x0 x1 x2 x3) := rowB_ext fun i hi => by
        have := hu (31 - i) (by omega)
        rw [show 31 - (31 - i) = i by omega] at this
        exact this
      have hr := hU.range
      rw [hl] at hr
      have hW := @RowB.of_range wr (w.heap.size + 1) 32 (fun _ => 0) (bb x0 x1 x2 x3) hZ
      have hBW := below_setCellsB (w.heap.size + 1) (by omega) (rowB 32 (bb x0 x1 x2 x3)) 0 wr hB
      have HA : Hid _ := hr
      have HZ : Hid _ := hZ.there
      clear hr hZ hA hU hu hl
      go_wp2_with (first
        | refine load32 (bb x0 x1 x2 x3) (w.heap.size + 1 + 1) rfl _ rfl rfl HA.out ?_
        | refine store32 (bb x0 x1 x2 x3) (w.heap.size + 1) rfl _ _ rfl rfl rfl HZ.out ?_)
      refine bodyPost_ret (v := .agg (rowB 32 (bb x0 x1 x2 x3)).toArray) ?_ rfl ⟨rfl, hBW⟩
      exact results_cellB Tryd.results6 _ _ _ ⟨w.heap.size + 1, 0, none⟩ rfl (loadVar32 hW.range)
theorem bb_range (x0 x1 x2 x3 : Int) (j : Nat) : 0 ≤ bb x0 x1 x2 x3 j ∧ bb x0 x1 x2 x3 j < 256 := by unfold bb bw; omega
end Go.Proofs.YtbjijbgjnammhaaDoor.Wds
