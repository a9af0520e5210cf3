/- Rows of 8 and of 9 numbers in a block: that they lie there and may be written; loads, stores, new blocks. -/
import Derived.Test.YtpadpmkfhljiiaaGreatMd2
import Derived.Deep.MidRow
import Derived.Deep.RegionWith
import Derived.Deep.RegionHeld3
namespace Go.Proofs.YtpadpmkfhljiiaaGreat
open Go.RowKit
/-- the first n cells of block b are the numbers v, and may be written -/
def Row (w : World) (b n : Nat) (v : Nat → Int) : Prop := ∀ i, i < n → w.cell? ⟨b, i, none⟩ = some (.int .u64 (v i)) ∧ w.frozen? ⟨b, i, none⟩ = false
def rowL (n : Nat) (v : Nat → Int) : List Value := (List.range n).map fun i => .int .u64 (v i)
theorem rowL_len (n : Nat) (v : Nat → Int) : (rowL n v).length = n := by simp [rowL]
theorem rowL_at (n : Nat) (v : Nat → Int) (i : Nat) (h : i < n) : (rowL n v)[i]? = some (.int .u64 (v i)) := by simp [rowL, h]
theorem rowL_one (n : Nat) (v : Nat → Int) : (rowL n v).toArray.all (·.oneCell') = true :=
  all_oneCell_toArray (by intro x hx; simp only [rowL, List.mem_map] at hx; obtain ⟨i, _, rfl⟩ := hx; rfl)
theorem Row.lt {w : World} {b n : Nat} {v : Nat → Int} (h : Row w b n v) (hn : 0 < n) : b < w.heap.size := World.block_lt_of_cell? w _ (h 0 hn).1
theorem Row.below {w w' : World} {B b n : Nat} {v : Nat → Int} (h : Row w b n v) (k : Below B w w') (hb : b < B) : Row w' b n v := fun i hi =>
  ⟨(k.cell (p := ⟨b, i, none⟩) hb).trans (h i hi).1, (k.frozen (p := ⟨b, i, none⟩) hb).trans (h i hi).2⟩
theorem Row.drew {w : World} {b n : Nat} {v : Nat → Int} (h : Row w b n v) : Row w.drew b n v := fun i hi => by simpa using h i hi
theorem Row.alloc {w : World} {b n : Nat} {v : Nat → Int} (h : Row w b n v) (o : Obj) : Row (w.alloc o) b n v := fun i hi => by
  have hb := World.block_lt_of_cell? w _ (h i hi).1
  exact ⟨by rw [World.cell?_alloc_lt _ _ _ hb]; exact (h i hi).1, by rw [World.frozen?_alloc_past _ _ _ hb]; exact (h i hi).2⟩
theorem Row.set_other {w : World} {b n : Nat} {v : Nat → Int} (h : Row w b n v) (p : Addr) (x : Value) (hp : p.block ≠ b) : Row (w.setCell p x) b n v := fun i hi =>
  ⟨by rw [World.cell?_setCell_other _ _ _ _ (by intro e; subst e; exact hp rfl)]; exact (h i hi).1, by rw [World.frozen?_setCell]; exact (h i hi).2⟩
theorem Row.set {w : World} {b n : Nat} {v : Nat → Int} (h : Row w b n v) (k : Nat) (x : Int) : Row (w.setCell ⟨b, k, none⟩ (.int .u64 x)) b n (fun i => if i = k then x else v i) := fun i hi => by
  refine ⟨?_, by rw [World.frozen?_setCell]; exact (h i hi).2⟩
  dsimp only
  by_cases e : i = k
  · subst e; rw [World.cell?_setCell_same _ _ _ (h i hi).1, if_pos rfl]
  · rw [World.cell?_setCell_other _ _ _ _ (by intro e'; injection e' with _ e' _; exact e e'.symm), if_neg e]; exact (h i hi).1
theorem Row.new (w : World) (t : TypeId) (n : Nat) (v : Nat → Int) : Row (w.alloc (.cells (rowL n v).toArray t)) w.heap.size n v := fun i hi => by
  rw [World.cell?_alloc_at _ _ _ _ rfl]
  exact ⟨by simp [rowL, hi], by simp [World.frozen?_alloc_at]⟩
theorem Row.range {w : World} {b n : Nat} {v : Nat → Int} (h : Row w b n v) : w.rangeAt b 0 (rowL n v) := fun j x hx => by
  have hj : j < n := by have := (List.getElem?_eq_some_iff.1 hx).1; rwa [rowL_len] at this
  rw [rowL_at n v j hj] at hx; rw [Nat.zero_add, ← hx]; exact (h j hj).1
theorem Row.there {w : World} {b n : Nat} {v : Nat → Int} (h : Row w b n v) : w.there b 0 n := fun j hj => by
  rw [Nat.zero_add, (h j hj).1]; exact ⟨rfl, (h j hj).2⟩
theorem Row.of_range {w : World} {b n : Nat} {u v : Nat → Int} (h : Row w b n u) : Row (w.setCells b 0 (rowL n v)) b n v := fun i hi => by
  have := World.rangeAt_setCells_same w b 0 (rowL n v) (by rw [rowL_len]; exact h.there) i _ (rowL_at n v i hi)
  rw [Nat.zero_add] at this
  exact ⟨this, by rw [World.frozen?_setCells]; exact (h i hi).2⟩
theorem Row.set_others {b n c : Nat} {v : Nat → Int} (hc : c ≠ b) : ∀ (vs : List Value) (o : Nat) {w : World}, Row w b n v → Row (w.setCells c o vs) b n v
  | [], _, _, h => h
  | x :: r, o, w, h => by rw [World.setCells]; exact Row.set_others hc r (o + 1) (h.set_other _ _ hc)
theorem Box.set_others {b c : Nat} {a0 a1 a2 a3 : Int} (hc : c ≠ b) : ∀ (vs : List Value) (o : Nat) {w : World}, Box w b a0 a1 a2 a3 → Box (w.setCells c o vs) b a0 a1 a2 a3
  | [], _, _, h => h
  | x :: r, o, w, h => by rw [World.setCells]; exact Box.set_others hc r (o + 1) (h.other _ _ hc)
theorem zero9 : (#[.int .u64 0, .int .u64 0, .int .u64 0, .int .u64 0, .int .u64 0, .int .u64 0, .int .u64 0, .int .u64 0, .int .u64 0] : Array Value) = (rowL 9 fun _ => 0).toArray := by rfl
theorem zero8 : (#[.int .u64 0, .int .u64 0, .int .u64 0, .int .u64 0, .int .u64 0, .int .u64 0, .int .u64 0, .int .u64 0] : Array Value) = (rowL 8 fun _ => 0).toArray := by rfl
theorem below_setCells {B : Nat} {a : World} (b : Nat) (hb : B ≤ b) : ∀ (vs : List Value) (o : Nat) (w : World), Below B a w → Below B a (w.setCells b o vs)
  | [], _, _, h => h
  | v :: r, o, w, h => by rw [World.setCells]; exact below_setCells b hb r (o + 1) _ (h.setCell hb v)
theorem store9 {ops : Array Oper} {rest : List Oper} {op : Oper} {a : Act} {w : World} {Q : Exit → Act → World → Prop} (g : Nat → Int) (b : Nat) (hgd : op.guard = none) (x y : Operand) (ho : op.op = .store 110 x y)
    (hx : a.eval x = .pointer (some ⟨b, 0, none⟩)) (hy : a.eval y = .agg (rowL 9 g).toArray) (ht : w.there b 0 9)
    (h : wpList Tryz.prog ops Q rest (a.put op.dst undef) (w.setCells b 0 (rowL 9 g))) : wpList Tryz.prog ops Q (op :: rest) a w :=
  wpList_store_mid hgd 110 x y ho b 0 (rowL 9 g).toArray hx hy (by rw [List.size_toArray, rowL_len]; exact ht) (by rw [List.size_toArray, rowL_len]; kernel_rfl) (rowL_one 9 g) h
theorem load9 {ops : Array Oper} {rest : List Oper} {op : Oper} {a : Act} {w : World} {Q : Exit → Act → World → Prop} (g : Nat → Int) (b : Nat) (hgd : op.guard = none) (x : Operand) (ho : op.op = .load 110 x)
    (hx : a.eval x = .pointer (some ⟨b, 0, none⟩)) (hr : w.rangeAt b 0 (rowL 9 g))
    (h : wpList Tryz.prog ops Q rest (a.put op.dst (.agg (rowL 9 g).toArray)) w) : wpList Tryz.prog ops Q (op :: rest) a w :=
  wpList_load_mid hgd 110 x ho b 0 hx (rowL 9 g) _ hr Tryz.underlying110 rfl (by rw [rowL_len]; kernel_rfl) h
theorem loadVar9 {w : World} {b : Nat} {g : Nat → Int} (h : w.rangeAt b 0 (rowL 9 g)) : (loadVar 110 ⟨b, 0, none⟩).run Tryz.prog w = .ok (.agg (rowL 9 g).toArray) w :=
  run_loadVar_mid w b 0 110 (rowL 9 g) _ h Tryz.underlying110 rfl (by rw [rowL_len]; kernel_rfl)
theorem store8 {ops : Array Oper} {rest : List Oper} {op : Oper} {a : Act} {w : World} {Q : Exit → Act → World → Prop} (g : Nat → Int) (b : Nat) (hgd : op.guard = none) (x y : Operand) (ho : op.op = .store 69 x y)
    (hx : a.eval x = .pointer (some ⟨b, 0, none⟩)) (hy : a.eval y = .agg (rowL 8 g).toArray) (ht : w.there b 0 8)
    (h : wpList Tryz.prog ops Q rest (a.put op.dst undef) (w.setCells b 0 (rowL 8 g))) : wpList Tryz.prog ops Q (op :: rest) a w :=
  wpList_store_mid hgd 69 x y ho b 0 (rowL 8 g).toArray hx hy (by rw [List.size_toArray, rowL_len]; exact ht) (by rw [List.size_toArray, rowL_len]; kernel_rfl) (rowL_one 8 g) h
theorem load8 {ops : Array Oper} {rest : List Oper} {op : Oper} {a : Act} {w : World} {Q : Exit → Act → World → Prop} (g : Nat → Int) (b : Nat) (hgd : op.guard = none) (x : Operand) (ho : op.op = .load 69 x)
    (hx : a.eval x = .pointer (some ⟨b, 0, none⟩)) (hr : w.rangeAt b 0 (rowL 8 g))
    (h : wpList Tryz.prog ops Q rest (a.put op.dst (.agg (rowL 8 g).toArray)) w) : wpList Tryz.prog ops Q (op :: rest) a w :=
  wpList_load_mid hgd 69 x ho b 0 hx (rowL 8 g) _ hr Tryz.underlying69 rfl (by rw [rowL_len]; kernel_rfl) h
theorem loadVar8 {w : World} {b : Nat} {g : Nat → Int} (h : w.rangeAt b 0 (rowL 8 g)) : (loadVar 69 ⟨b, 0, none⟩).run Tryz.prog w = .ok (.agg (rowL 8 g).toArray) w :=
  run_loadVar_mid w b 0 69 (rowL 8 g) _ h Tryz.underlying69 rfl (by rw [rowL_len]; kernel_rfl)
theorem results_ct {fn : Func} {p q : Tmp} {ty : TypeId} (h : fn.results = #[.cell p ty, .tmp q]) (tmps : Array Value) (P : Program) (w : World) (a : Addr) (ha : tmps.getD p undef = .pointer (some a)) {v x : Value} (hx : tmps.getD q undef = x) (hl : (loadVar ty a).run P w = .ok v w) : (results fn tmps).run P w = .ok (.tuple #[v, x]) w := by
  have ha' : tmps[p]?.getD undef = .pointer (some a) := by simpa using ha
  have hx' : tmps[q]?.getD undef = x := by simpa using hx
  simp only [results, h]
  simp [ha', hx', hl, asAddr]
theorem results_cc {fn : Func} {p q : Tmp} {ty ty2 : TypeId} (h : fn.results = #[.cell p ty, .cell q ty2]) (tmps : Array Value) (P : Program) (w : World) (a b : Addr) (ha : tmps.getD p undef = .pointer (some a)) (hb : tmps.getD q undef = .pointer (some b)) {v x : Value} (hl : (loadVar ty a).run P w = .ok v w) (hl2 : (loadVar ty2 b).run P w = .ok x w) : (results fn tmps).run P w = .ok (.tuple #[v, x]) w := by
  have ha' : tmps[p]?.getD undef = .pointer (some a) := by simpa using ha
  have hb' : tmps[q]?.getD undef = .pointer (some b) := by simpa using hb
  simp only [results, h]
  simp [ha', hb', hl, hl2, asAddr]
theorem results_c {fn : Func} {p : Tmp} {ty : TypeId} (h : fn.results = #[.cell p ty]) (tmps : Array Value) (P : Program) (w : World) (a : Addr) (ha : tmps.getD p undef = .pointer (some a)) {v : Value} (hl : (loadVar ty a).run P w = .ok v w) : (results fn tmps).run P w = .ok v w := by
  have ha' : tmps[p]?.getD undef = .pointer (some a) := by simpa using ha
  simp only [results, h]
  simp [ha', hl, asAddr]
theorem Box.row {w : World} {b : Nat} {a0 a1 a2 a3 : Int} (h : Box w b a0 a1 a2 a3) (i : Nat) (hi : i < 4) : w.cell? ⟨b, i, none⟩ = some (.int .u64 (limb a0 a1 a2 a3 i)) := h.1 i hi
end Go.Proofs.YtpadpmkfhljiiaaGreat
/- The document's 'bit' and 'word'. -/
namespace Go.Proofs.YtpadpmkfhljiiaaGreat
open Go.RowKit
set_option maxHeartbeats 1000000 in
theorem bit_is (W : World) (v : Value) (n : Nat) (d : Nat → Nat) (hv : RowAt W v n d) (i : Nat) (hi : i ≤ 1048576) :
    Calls Tryz.prog 132 #[v, .int .i64 (i : Int)] W fun e w' => e = .returned (.int .i64 ((d (i / 8) / 2 ^ (i % 8) % 2 : Nat) : Int)) ∧ w' = W := by
  obtain ⟨q, eq⟩ : ∃ q : Nat, q = i / 8 := ⟨_, rfl⟩
  obtain ⟨r, er⟩ : ∃ r : Nat, r = i % 8 := ⟨_, rfl⟩
  rw [← eq, ← er]
  have hdb := hv.2.1 q
  obtain ⟨z, ez⟩ : ∃ z, z = d q := ⟨_, rfl⟩
  have DG : Hid (Calls Tryz.prog 123 #[v, .int .i64 (q : Int)] W fun e w' => e = .returned (.int .i64 (z : Int)) ∧ w' = W) := by rw [ez]; exact digit_is W v n d q hv
  rw [← ez] at hdb ⊢
  have t1 : Int.tdiv (i : Int) 8 = (q : Int) := by rw [Int.tdiv_eq_ediv_of_nonneg (by omega)]; omega
  have t2 : Int.tmod (i : Int) 8 = (r : Int) := by rw [Int.tmod_eq_emod_of_nonneg (by omega)]; omega
  have w1 : IntKind.i64.wrap (q : Int) = (q : Int) := by rw [IntKind.wrap_i64]; omega
  have w2 : IntKind.i64.wrap (r : Int) = (r : Int) := by rw [IntKind.wrap_i64]; omega
  have r8 : r < 8 := by omega
  clear eq er hv ez
  go_enter Tryz.func132, Tryz.ntmps132
  go_wp2_with (go_at_call 123; refine Calls.mono DG.out ?_; rintro e0 w' ⟨rfl, hw⟩; (have hw2 := hw.symm); clear hw; subst hw2)
  go_loop [5, 6] (fun c j => ∃ m : Nat, m ≤ r ∧ j = .int .i64 m ∧ c = .int .i64 ((z / 2 ^ m : Nat) : Int)) (fun _ j => r - (intOf j).toNat)
  case atStart => exact ⟨0, by omega, rfl, by rw [Nat.pow_zero, Nat.div_one]⟩
  case round =>
    obtain ⟨m, hm, rfl, rfl⟩ := hrel
    have l1 : z / 2 ^ m ≤ z := Nat.div_le_self _ _
    by_cases hmr : m < r
    · have mI : (m : Int) < (r : Int) := by omega
      have m8 : (m : Int) < 8 := by omega
      have e1 : z / 2 ^ (m + 1) = z / 2 ^ m / 2 := by rw [Nat.pow_succ, Nat.div_div_eq_div_mul]
      have E1 : Hid _ := e1
      generalize z / 2 ^ m = u at e1 l1 E1
      have t3 : Int.tdiv (u : Int) 2 = ((u / 2 : Nat) : Int) := by rw [Int.tdiv_eq_ediv_of_nonneg (by omega)]; omega
      have w3 : IntKind.i64.wrap ((u / 2 : Nat) : Int) = ((u / 2 : Nat) : Int) := by rw [IntKind.wrap_i64]; omega
      clear e1
      go_wp2
      go_round
      case rel => exact ⟨m + 1, by omega, by go_num, by rw [E1.out]; first | rfl | (congr 1; omega)⟩
      case measure => simp [intOf]; omega
    · obtain rfl : m = r := by omega
      have mI : ¬ ((m : Int) < (m : Int)) := by omega
      generalize hu : z / 2 ^ m = u at l1 ⊢
      have HU : Hid (z / 2 ^ m = u) := hu
      clear hu
      have t3 : Int.tmod (u : Int) 2 = ((u % 2 : Nat) : Int) := by rw [Int.tmod_eq_emod_of_nonneg (by omega)]; omega
      have w3 : IntKind.i64.wrap ((u % 2 : Nat) : Int) = ((u % 2 : Nat) : Int) := by rw [IntKind.wrap_i64]; omega
      go_wp2
      go_ret
      exact ⟨ret_int (by rw [← HU.out, Int.natCast_ediv, Int.natCast_pow]; rfl), rfl⟩
theorem dig_bit (X i : Nat) (hi : i < 256) : dig X (i / 8) / 2 ^ (i % 8) % 2 = if X.testBit i then 1 else 0 := by
  have e : (dig X (i / 8)).testBit (i % 8) = X.testBit i := by
    rw [dig, if_pos (by omega), show (256 : Nat) ^ (i / 8) = 2 ^ (8 * (i / 8)) by rw [Nat.pow_mul], show (256 : Nat) = 2 ^ 8 from rfl, Nat.testBit_mod_two_pow, Nat.testBit_div_two_pow]
    rw [show i % 8 + 8 * (i / 8) = i by omega]; simp; omega
  rw [Nat.testBit_eq_decide_div_mod_eq] at e
  rw [← e]
  generalize dig X (i / 8) / 2 ^ (i % 8) = n
  by_cases h : n % 2 = 1
  · simp [h]
  · simp [h]; omega
/-- cells of 64 bits -/
def RowU (W : World) (b n : Nat) (v : Nat → Nat) : Prop := ∀ i, i < n → W.cell? ⟨b, i, none⟩ = some (.int .u64 (v i : Int)) ∧ W.frozen? ⟨b, i, none⟩ = false
theorem RowU.set {w : World} {b n : Nat} {v u : Nat → Nat} (h : RowU w b n v) (k x : Nat) (hk : u k = x) (ho : ∀ i, i < n → i ≠ k → u i = v i) : RowU (w.setCell ⟨b, k, none⟩ (.int .u64 (x : Int))) b n u := fun i hi => by
  refine ⟨?_, by rw [World.frozen?_setCell]; exact (h i hi).2⟩
  by_cases e : i = k
  · subst e; rw [World.cell?_setCell_same _ _ _ (h i hi).1, hk]
  · rw [World.cell?_setCell_other _ _ _ _ (by intro e'; injection e' with _ e' _; exact e e'.symm), ho i hi e]; exact (h i hi).1
/-- what limb q holds while the digits from j on are laid -/
def lw (d : Nat → Nat) (j q : Nat) : Nat := if 8 * q + 8 ≤ j then 0 else if j ≤ 8 * q then dsum (fun r => d (8 * q + r)) 8 else dsum (fun r => d (j + r)) (8 * q + 8 - j)
theorem lw_step (d : Nat → Nat) (j : Nat) : lw d j (j / 8) = lw d (j + 1) (j / 8) * 256 + d j := by
  obtain ⟨q, eq⟩ : ∃ q, q = j / 8 := ⟨_, rfl⟩
  rw [← eq]
  have e0 : ∀ k, dsum (fun r => d (j + r)) (k + 1) = dsum (fun r => d (j + 1 + r)) k * 256 + d j := fun k => by
    rw [dsum_front, Nat.add_zero, Nat.mul_comm, Nat.add_comm]
    congr 2
    apply congrFun
    apply congrArg
    funext r; rw [Nat.add_assoc]
  unfold lw
  rw [if_neg (by omega)]
  by_cases h1 : 8 * q + 8 ≤ j + 1
  · rw [if_pos h1]
    by_cases h2 : j ≤ 8 * q
    · omega
    · rw [if_neg h2, show 8 * q + 8 - j = 0 + 1 by omega, e0]; simp [dsum]
  · rw [if_neg h1, if_neg (show ¬ (j + 1 ≤ 8 * q) by omega)]
    by_cases h2 : j ≤ 8 * q
    · rw [if_pos h2]
      obtain rfl : j = 8 * q := by omega
      rw [show 8 * q + 8 - (8 * q + 1) = 7 by omega]; exact e0 7
    · rw [if_neg h2, show 8 * q + 8 - j = (8 * q + 8 - (j + 1)) + 1 by omega, e0]
theorem lw_other (d : Nat → Nat) (j i : Nat) (h : i ≠ j / 8) : lw d j i = lw d (j + 1) i := by
  unfold lw
  by_cases h1 : 8 * i + 8 ≤ j
  · rw [if_pos h1, if_pos (show 8 * i + 8 ≤ j + 1 by omega)]
  · have h1' : ¬ (8 * i + 8 ≤ j + 1) := by omega
    by_cases h2 : j ≤ 8 * i
    · have h2' : j + 1 ≤ 8 * i := by omega
      rw [if_neg h1, if_pos h2, if_neg h1', if_pos h2']
    · omega
theorem lw_lt {d : Nat → Nat} (hd : ∀ i, d i < 256) (j : Nat) : lw d (j + 1) (j / 8) < 72057594037927936 := by
  unfold lw
  split
  · omega
  · split
    · omega
    · have h := dsum_lt (d := fun r => d (j + 1 + r)) (fun i => hd _) (8 * (j / 8) + 8 - (j + 1))
      have h2 : 256 ^ (8 * (j / 8) + 8 - (j + 1)) ≤ 256 ^ 7 := Nat.pow_le_pow_right (by omega) (by omega)
      have h3 : (256 : Nat) ^ 7 = 72057594037927936 := by decide
      omega
theorem lw_end {d : Nat → Nat} (hd : ∀ i, d i < 256) : IsW (dsum d 32 : Int) (lw d 0 0 : Int) (lw d 0 1 : Int) (lw d 0 2 : Int) (lw d 0 3 : Int) := by
  have hl : ∀ q, lw d 0 q = dsum (fun r => d (8 * q + r)) 8 := fun q => by unfold lw; rw [if_neg (by omega), if_pos (by omega)]
  have hb : ∀ q, lw d 0 q < 18446744073709551616 := fun q => by
    rw [hl]
    have := dsum_lt (d := fun r => d (8 * q + r)) (fun i => hd _) 8
    have h3 : (256 : Nat) ^ 8 = 18446744073709551616 := by decide
    omega
  have hs : dsum d 32 = lw d 0 0 + 18446744073709551616 * (lw d 0 1 + 18446744073709551616 * (lw d 0 2 + 18446744073709551616 * lw d 0 3)) := by
    have a1 := dsum_split d 8 24
    have a2 := dsum_split (fun r => d (8 + r)) 8 16
    have a3 := dsum_split (fun r => d (16 + r)) 8 8
    have p8 : (256 : Nat) ^ 8 = 18446744073709551616 := by decide
    have c1 : (fun r => d (8 + (8 + r))) = fun r => d (16 + r) := by funext r; congr 1; omega
    have c2 : (fun r => d (16 + (8 + r))) = fun r => d (24 + r) := by funext r; congr 1; omega
    have l0 : lw d 0 0 = dsum d 8 := by rw [hl]; exact dsum_ext 8 fun i _ => by simp
    rw [hl 1, hl 2, hl 3, l0]
    simp only [p8] at a1 a2 a3
    rw [c1] at a2
    rw [c2] at a3
    rw [show 8 + 24 = 32 from rfl] at a1
    rw [show 8 + 16 = 24 from rfl] at a2
    rw [show 8 + 8 = 16 from rfl] at a3
    rw [a1, a2, a3]
  have h0 := hb 0
  have h1 := hb 1
  have h2 := hb 2
  have h3 := hb 3
  refine isW_of ⟨by omega, by unfold Bd; omega⟩ ⟨by omega, by unfold Bd; omega⟩ ⟨by omega, by unfold Bd; omega⟩ ⟨by omega, by unfold Bd; omega⟩ 0 ?_
  rw [hs]; unfold V Bd; omega
set_option maxHeartbeats 2000000 in
set_option maxRecDepth 100000 in
theorem word_is (w : World) (v : Value) (n : Nat) (d : Nat → Nat) (hv : RowAt w v n d) :
    Calls Tryz.prog 77 #[v] w fun e w' => ∃ s0 s1 s2 s3 : Int, e = .returned (.agg #[.int .u64 s0, .int .u64 s1, .int .u64 s2, .int .u64 s3]) ∧ IsW (dsum d 32 : Int) s0 s1 s2 s3 ∧ Below w.heap.size w w' := by
  have HV : Hid (RowAt w v n d) := hv
  have HD : Hid _ := hv.2.1
  clear hv
  have B0 : Hid (∀ o1 o2, Below w.heap.size w ((w.alloc o1).alloc o2)) := fun o1 o2 => ((Below.refl _ _).alloc (Nat.le_refl _) _).alloc (by simp) _
  have R0 : Hid (Box ((w.alloc (.cells #[.int .u64 0, .int .u64 0, .int .u64 0, .int .u64 0] 24)).alloc (.cells #[.int .u64 0, .int .u64 0, .int .u64 0, .int .u64 0] 24)) w.heap.size 0 0 0 0) := (Box.new w 24 0 0 0 0).alloc _
  have R1 : Hid (RowU ((w.alloc (.cells #[.int .u64 0, .int .u64 0, .int .u64 0, .int .u64 0] 24)).alloc (.cells #[.int .u64 0, .int .u64 0, .int .u64 0, .int .u64 0] 24)) (w.heap.size + 1) 4 (lw d 32)) := fun i hi => by
    have h := Box.new (w.alloc (.cells #[.int .u64 0, .int .u64 0, .int .u64 0, .int .u64 0] 24)) 24 0 0 0 0
    rw [World.size_alloc] at h
    have h2 := h.1 i hi
    have e : lw d 32 i = 0 := by unfold lw; rw [if_pos (by omega)]
    have e2 : limb 0 0 0 0 i = 0 := by unfold limb; split; rfl; split; rfl; split <;> rfl
    rw [e2] at h2
    exact ⟨by rw [h2, e]; rfl, h.2 i hi⟩
  go_enter Tryz.func77, Tryz.ntmps77
  go_wp2
  go_loopw [4] (fun s wr => ∃ j : Nat, s = .int .i64 ((j : Int) - 1) ∧ j ≤ 32 ∧ Below w.heap.size w wr ∧ Box wr w.heap.size 0 0 0 0 ∧ RowU wr (w.heap.size + 1) 4 (lw d j)) (fun s _ => (intOf s + 1).toNat)
  case atStart => exact ⟨32, rfl, by omega, B0.out _ _, R0.out, R1.out⟩
  case round =>
    obtain ⟨j, rfl, hj, hB, hbx, hR⟩ := hrel
    clear R0 R1 B0
    have HBx : Hid (Box wr w.heap.size 0 0 0 0) := hbx
    have HB : Hid (Below w.heap.size w wr) := hB
    have HRo : Hid (RowU wr (w.heap.size + 1) 4 (lw d j)) := hR
    clear hbx hB hR
    rcases j with _ | j
    · obtain ⟨r0, r1, r2, r3, f0, f1, f2, f3⟩ := Box.facts HBx.out
      have p0 := (HRo.out 0 (by omega)).1
      have p1 := (HRo.out 1 (by omega)).1
      have p2 := (HRo.out 2 (by omega)).1
      have p3 := (HRo.out 3 (by omega)).1
      have HE : Hid _ := lw_end HD.out
      generalize ((lw d 0 0 : Nat) : Int) = s0 at p0 HE
      generalize ((lw d 0 1 : Nat) : Int) = s1 at p1 HE
      generalize ((lw d 0 2 : Nat) : Int) = s2 at p2 HE
      generalize ((lw d 0 3 : Nat) : Int) = s3 at p3 HE
      go_wp2
      exact bodyPost_ret (v := .agg #[.int .u64 s0, .int .u64 s1, .int .u64 s2, .int .u64 s3]) (by simp [results, Tryz.results77, go_sem, r0, r1, r2, r3]) rfl ⟨s0, s1, s2, s3, rfl, HE.out, below_put HB.out (Nat.le_refl _) _ _ _ _⟩
    · rw [show ((j + 1 : Nat) : Int) - 1 = (j : Int) by omega]
      obtain ⟨q, eq⟩ : ∃ q : Nat, q = j / 8 := ⟨_, rfl⟩
      have t1 : Int.tdiv (j : Int) 8 = (q : Int) := by rw [Int.tdiv_eq_ediv_of_nonneg (by omega)]; omega
      have w1 : IntKind.i64.wrap (q : Int) = (q : Int) := by rw [IntKind.wrap_i64]; omega
      have jI : (0 : Int) ≤ (j : Int) := by omega
      have qI : (q : Int) < 4 := by omega
      have q4 : q < 4 := by omega
      have c1 := (HRo.out q q4).1
      have f1 := (HRo.out q q4).2
      have st := lw_step d j
      have lt := lw_lt HD.out j
      have hdj := HD.out j
      rw [← eq] at st lt
      obtain ⟨y, ey⟩ : ∃ y, y = d j := ⟨_, rfl⟩
      have DG : Hid (∀ W : World, Below w.heap.size w W → Calls Tryz.prog 123 #[v, .int .i64 (j : Int)] W fun e w' => e = .returned (.int .i64 (y : Int)) ∧ w' = W) := fun W hW => by rw [ey]; exact digit_is W v n d j (HV.out.below hW)
      rw [← ey] at st hdj
      obtain ⟨z, ez⟩ : ∃ z, z = lw d (j + 1) q := ⟨_, rfl⟩
      obtain ⟨u, eu⟩ : ∃ u, u = lw d j q := ⟨_, rfl⟩
      rw [← ez] at c1 st lt
      rw [← eu] at st
      have m1 : IntKind.u64.wrap ((z : Int) * 256) = ((z * 256 : Nat) : Int) := by rw [IntKind.wrap_u64]; omega
      have m2 : IntKind.u64.wrap (y : Int) = (y : Int) := by rw [IntKind.wrap_u64]; omega
      have m3 : IntKind.u64.wrap (((z * 256 : Nat) : Int) + (y : Int)) = (u : Int) := by rw [IntKind.wrap_u64]; omega
      have m4 : IntKind.u64.wrap ((z : Int) * 256 + (y : Int)) = (u : Int) := by rw [IntKind.wrap_u64]; omega
      have STEP : Hid (∀ W, Below w.heap.size w W → Box W w.heap.size 0 0 0 0 → RowU W (w.heap.size + 1) 4 (lw d (j + 1)) → Below w.heap.size w (W.setCell ⟨w.heap.size + 1, q, none⟩ (.int .u64 (u : Int))) ∧ Box (W.setCell ⟨w.heap.size + 1, q, none⟩ (.int .u64 (u : Int))) w.heap.size 0 0 0 0 ∧ RowU (W.setCell ⟨w.heap.size + 1, q, none⟩ (.int .u64 (u : Int))) (w.heap.size + 1) 4 (lw d j)) := fun W h1 h2 h3 =>
        ⟨h1.setCell (by simp) _, h2.other _ _ (by simp), h3.set q u eu.symm (fun i _ hi => lw_other d j i (by rw [← eq]; exact hi))⟩
      clear st lt hdj ey ez eu eq
      go_upto_region 5 with fail
      go_region_with (go_at_call 123; refine (DG.out _ (Below.drew HB.out)).mono ?_; rintro e0 w' ⟨rfl, hw⟩; (have hw2 := hw.symm); clear hw; subst hw2)
      all_goals
        go_wp2
        go_roundw
        case rel => exact ⟨j, rfl, by omega, Below.drew (STEP.out wr HB.out HBx.out HRo.out).1, Box.drew (STEP.out wr HB.out HBx.out HRo.out).2.1, (STEP.out wr HB.out HBx.out HRo.out).2.2⟩
        case measure => simp [intOf]
end Go.Proofs.YtpadpmkfhljiiaaGreat
/- The document's 'plus' and 'full' (as in Rh, for the seat that has no Sum). -/
namespace Go.Proofs.YtpadpmkfhljiiaaGreat
open Go.RowKit
theorem intsD_set (f : Nat → Nat) (i y : Nat) : intsD (setD f i y) (i + 1) = intsD f i ++ [.int .i64 (y : Int)] := by
  rw [intsD_snoc]
  congr 1
  · simp only [intsD]
    apply List.map_congr_left
    intro j hj
    have : j < i := List.mem_range.1 hj
    rw [setD, if_neg (by omega)]
  · rw [setD, if_pos rfl]
theorem dsum_setD (f : Nat → Nat) (i y : Nat) : dsum (setD f i y) (i + 1) = dsum f i + y * 256 ^ i := by
  rw [dsum, dsum_ext i (d := setD f i y) (e := f) (fun j hj => by rw [setD, if_neg (by omega)])]
  rw [setD, if_pos rfl]
theorem plus_step {f d e : Nat → Nat} {i c nn : Nat} (hnn : nn = d i + e i + c) (h : dsum f i + c * 256 ^ i = dsum d i + dsum e i) : dsum (setD f i (nn % 256)) (i + 1) + nn / 256 * 256 ^ (i + 1) = dsum d (i + 1) + dsum e (i + 1) := by
  rw [dsum_setD, dsum, dsum]
  have h2 : nn / 256 * 256 ^ (i + 1) + nn % 256 * 256 ^ i = nn * 256 ^ i := by
    rw [Nat.pow_succ, Nat.mul_comm (256 ^ i) 256, ← Nat.mul_assoc, ← Nat.add_mul]
    congr 1; omega
  have h3 : nn * 256 ^ i = d i * 256 ^ i + e i * 256 ^ i + c * 256 ^ i := by rw [hnn, Nat.add_mul, Nat.add_mul]
  omega
theorem own_set {W0 wr w1 : World} {v v' : Value} {o : Obj} {f : Nat → Nat} {k y : Nat} (hown : wr.ownsRow W0.heap.size 3 1 v k (intsD f k)) (hB : Below W0.heap.size W0 wr)
    (hown' : w1.ownsRow W0.heap.size 3 1 v' (k + 1) (intsD f k ++ [.int .i64 (y : Int)])) (hg : (wr.alloc o).grownBy w1 v.ownBlock) :
    w1.ownsRow W0.heap.size 3 1 v' (k + 1) (intsD (setD f k y) (k + 1)) ∧ Below W0.heap.size W0 w1 := by
  rw [intsD_set]
  exact ⟨hown', Below.grown (hB.alloc hB.size o) hg (by have := hB.size; simp; omega) (fun q h => (hown.lt q h).1)⟩
/-- what 'plus' gives -/
def PlusRes (d e : Nat → Nat) (K : Nat) (w : World) (r : Ending) (w' : World) : Prop := ∃ x f, r = .returned x ∧ RowAt w' x (K + 1) f ∧ dsum f (K + 1) = dsum d K + dsum e K ∧ Below w.heap.size w w'
set_option maxHeartbeats 4000000 in
set_option maxRecDepth 100000 in
theorem plus_is (w : World) (v u : Value) (n m : Nat) (d e : Nat → Nat) (hv : RowAt w v n d) (hu : RowAt w u m e) (hn : n ≤ 1000) (hm : m ≤ 1000) (K : Nat) (hK : K = max n m) :
    Calls Tryz.prog 78 #[v, u] w (PlusRes d e K w) := by
  have HV : Hid (RowAt w v n d) := hv
  have HU : Hid (RowAt w u m e) := hu
  have HZ : Hid (d K = 0 ∧ e K = 0) := ⟨hv.1 K (by omega), hu.1 K (by omega)⟩
  have HD : Hid (∀ i, d i < 256) := hv.2.1
  have HE : Hid (∀ i, e i < 256) := hu.2.1
  obtain ⟨_, _, _, ad, cap, rfl, _⟩ := hv
  obtain ⟨_, _, _, bd, cap', rfl, _⟩ := hu
  obtain ⟨i0, hi, hz0, hz1, hz2⟩ := info_parts Tryz.infoI
  have LG : Hid (∀ W, Calls Tryz.prog 124 #[.slice ad n cap, .slice bd m cap'] W fun e w' => e = .returned (.int .i64 (K : Int)) ∧ w' = W) := fun W => by rw [hK]; exact longer_is W ad bd n m cap cap'
  have K1 : K ≤ 1000 := by omega
  clear hK
  go_enter Tryz.func78, Tryz.ntmps78
  go_wp2
  go_loopw [5, 6, 7] (fun s5 sc si wr => ∃ (i c : Nat) (f : Nat → Nat), i ≤ K + 1 ∧ c ≤ 1 ∧ (i = K + 1 → c = 0) ∧ sc = .int .i64 c ∧ si = .int .i64 i ∧ (∀ j, f j < 256) ∧ (∀ j, i ≤ j → f j = 0) ∧ dsum f i + c * 256 ^ i = dsum d i + dsum e i ∧ wr.ownsRow w.heap.size 3 1 s5 i (intsD f i) ∧ Below w.heap.size w wr) (fun _ _ si _ => K + 1 - (intOf si).toNat)
  case atStart => exact ⟨0, 0, fun _ => 0, by omega, by omega, fun _ => rfl, rfl, rfl, fun _ => (by decide : (0 : Nat) < 256), fun _ _ => rfl, by simp [dsum], World.ownsRow_nil _ _ _ _, Below.refl _ _⟩
  case round =>
    obtain ⟨i, c, f, hik, hc1, hend, rfl, rfl, hf, hfz, hs, hown, hB⟩ := hrel
    have HOW : Hid _ := hown
    have HB : Hid (Below w.heap.size w wr) := hB
    have HS : Hid _ := hs
    have HF : Hid (∀ j, f j < 256) := hf
    have HFZ : Hid (∀ j, i ≤ j → f j = 0) := hfz
    have b0 := hB.size
    by_cases hi5 : i < K + 1
    · have iI : (i : Int) ≤ (K : Int) := by omega
      obtain ⟨x, ex⟩ : ∃ x, x = d i := ⟨_, rfl⟩
      obtain ⟨y, ey⟩ : ∃ y, y = e i := ⟨_, rfl⟩
      have x256 : x < 256 := by rw [ex]; exact HD.out i
      have y256 : y < 256 := by rw [ey]; exact HE.out i
      have D1 : Hid (Calls Tryz.prog 123 #[.slice ad n cap, .int .i64 (i : Int)] wr fun e w' => e = .returned (.int .i64 (x : Int)) ∧ w' = wr) := by rw [ex]; exact digit_is wr _ n d i (HV.out.below hB)
      have D2 : Hid (Calls Tryz.prog 123 #[.slice bd m cap', .int .i64 (i : Int)] wr fun e w' => e = .returned (.int .i64 (y : Int)) ∧ w' = wr) := by rw [ey]; exact digit_is wr _ m e i (HU.out.below hB)
      obtain ⟨nn, enn⟩ : ∃ nn, nn = x + y + c := ⟨_, rfl⟩
      have ST : Hid (dsum (setD f i (nn % 256)) (i + 1) + nn / 256 * 256 ^ (i + 1) = dsum d (i + 1) + dsum e (i + 1)) := plus_step (by rw [enn, ex, ey]) hs
      have HC : Hid (nn / 256 ≤ 1 ∧ (i + 1 = K + 1 → nn / 256 = 0)) := ⟨by omega, fun h => by
        obtain rfl : i = K := by omega
        have h2 := HZ.out
        rw [← ex, ← ey] at h2
        omega⟩
      have b3 : (x : Int) + (y : Int) + (c : Int) = (nn : Int) := by omega
      have b4 : IntKind.i64.wrap (nn : Int) = (nn : Int) := by rw [IntKind.wrap_i64]; omega
      have b5 : IntKind.i64.wrap ((x : Int) + (y : Int)) = (x : Int) + (y : Int) := by rw [IntKind.wrap_i64]; omega
      obtain ⟨r, er⟩ : ∃ r, r = nn % 256 := ⟨_, rfl⟩
      obtain ⟨c', ec'⟩ : ∃ c', c' = nn / 256 := ⟨_, rfl⟩
      rw [← er, ← ec'] at ST
      rw [← ec'] at HC
      have b6 : Int.tmod (nn : Int) 256 = (r : Int) := by rw [Int.tmod_eq_emod_of_nonneg (by omega)]; omega
      have b7 : Int.tdiv (nn : Int) 256 = (c' : Int) := by rw [Int.tdiv_eq_ediv_of_nonneg (by omega)]; omega
      have t4 : (nn : Int) % 256 = (r : Int) := by omega
      have b8 : IntKind.i64.wrap (r : Int) = (r : Int) := by rw [IntKind.wrap_i64]; omega
      have b9 : IntKind.i64.wrap (c' : Int) = (c' : Int) := by rw [IntKind.wrap_i64]; omega
      have r256 : r < 256 := by omega
      have nnI : (nn : Int) ≤ 511 := by omega
      have iI2 : (i : Int) ≤ 1000 := by omega
      clear er ec' enn ex ey hs hf hfz hown hB hend
      go_upto_region 6 with (go_at_call 124; refine (LG.out _).mono ?_; rintro e0 w' ⟨rfl, hw⟩; (have hw2 := hw.symm); clear hw; subst hw2)
      go_wp2_with fail
      refine Calls.mono D1.out ?_
      rintro e0 w' ⟨rfl, hw⟩
      have hw2 := hw.symm
      clear hw
      subst hw2
      go_wp2_with fail
      refine Calls.mono D2.out ?_
      rintro e0 w' ⟨rfl, hw⟩
      have hw2 := hw.symm
      clear hw
      subst hw2
      go_wp2_with (at_builtin; refine wpList_append_own _ rfl _ _ 61 rfl w.heap.size 3 i0 (.int .i64 0) 1 8 Tryz.underlying61 hi hz0 hz1 hz2 rfl (by decide) _ _ _ rfl (World.ownsRow.alloc HOW.out _) ⟨wr.heap.size, 0, none⟩ 1 1 [.int .i64 (r : Int)] rfl rfl (fun j u hj => (by have hj0 : j = 0 := (by have := (List.getElem?_eq_some_iff.1 hj).1; simpa using this); subst hj0; simp at hj; subst hj; (first | (simp [Addr.add]; done) | (simp [Addr.add]; first | exact t4 | omega)))) (fun u hu => (by rw [List.mem_singleton.1 hu]; rfl)) (by unfold maxLen; omega) (by omega) (by simp; omega) ?_; intro v' w1 hown' hgrow _)
      have R : Hid _ := own_set HOW.out HB.out hown' hgrow
      clear hown' hgrow
      go_wp2
      go_roundw
      case rel => exact ⟨i + 1, c', setD f i r, by omega, HC.out.1, HC.out.2, rfl, by go_num, fun j => setD_lt HF.out i r j r256, fun j hj => by rw [setD, if_neg (by omega)]; exact HFZ.out j (by omega), ST.out, R.out⟩
      case measure => simp [intOf]; omega
    · obtain rfl : i = K + 1 := by omega
      have iI : ¬ (((K + 1 : Nat) : Int) ≤ (K : Int)) := by omega
      have hc0 := hend rfl
      have FSu : Hid (dsum f (K + 1) = dsum d K + dsum e K) := by
        have h := hs
        have e1 : dsum d (K + 1) = dsum d K := by rw [dsum, HZ.out.1]; simp
        have e2 : dsum e (K + 1) = dsum e K := by rw [dsum, HZ.out.2]; simp
        rw [hc0, e1, e2, Nat.zero_mul, Nat.add_zero] at h
        exact h
      clear hs hf hfz hown hB hend
      go_wp2_with (go_at_call 124; refine (LG.out _).mono ?_; rintro e0 w' ⟨rfl, hw⟩; (have hw2 := hw.symm); clear hw; subst hw2)
      go_ret
      exact ⟨_, f, rfl, RowAt.own HOW.out HF.out HFZ.out (by omega), FSu.out, HB.out⟩
theorem dsum_full : dsum (setD (fun _ => 0) 32 1) 33 = 256 ^ 32 := by
  rw [dsum_setD, dsum_zero 32 (fun _ _ => rfl), Nat.zero_add, Nat.one_mul]
set_option maxHeartbeats 1000000 in
set_option maxRecDepth 100000 in
theorem full_is (w : World) : Calls Tryz.prog 82 #[] w fun e w' => ∃ v, e = .returned v ∧ RowAt w' v 33 (setD (fun _ => 0) 32 1) ∧ Below w.heap.size w w' := by
  obtain ⟨i0, hi, hz0, hz1, hz2⟩ := info_parts Tryz.infoI
  go_enter Tryz.func82, Tryz.ntmps82
  go_upto_region 2 with (at_make; refine wpList_make_full _ rfl _ _ 61 rfl w.heap.size 3 i0 (.int .i64 0) 1 Tryz.underlying61 hi hz0 hz1 .i64 .i64 _ _ 33 rfl rfl rfl rfl (by rw [hz2]; omega) (by unfold maxLen; omega) (Nat.le_refl _) ?_; intro v1 hown hgrow; (have R1 : Hid (RowI v1 w.heap.size 33 (fun _ => 0)) := RowI.made hown); (have B1 : Hid (Below w.heap.size w v1) := Below.grown (Below.refl _ _) hgrow (Nat.le_refl _) (fun k h => by cases h)); clear hown hgrow)
  have c := (R1.out 32 (by omega)).1
  have f := (R1.out 32 (by omega)).2
  have R2 : Hid (RowI (v1.setCell ⟨w.heap.size, 32, none⟩ (.int .i64 1)) w.heap.size 33 (setD (fun _ => 0) 32 1)) := RowI.set R1.out 32 1
  have B2 : Hid (Below w.heap.size w (v1.setCell ⟨w.heap.size, 32, none⟩ (.int .i64 1))) := Below.setCell B1.out (Nat.le_refl _) _
  go_wp2
  go_ret
  refine ⟨_, rfl, ?_, B2.out⟩
  have h := RowAt.ofRowI (c := 33) R2.out (fun i => setD_lt (fun _ => (by decide : (0 : Nat) < 256)) 32 1 i (by omega)) (by omega)
  have e : cutD (setD (fun _ => 0) 32 1) 33 = setD (fun _ => 0) 32 1 := by
    funext i
    unfold cutD
    by_cases q : i < 33
    · rw [if_pos q]
    · rw [if_neg q, setD, if_neg (by omega)]
  rw [e] at h
  exact h
end Go.Proofs.YtpadpmkfhljiiaaGreat
/- The document's 'minus'. -/
namespace Go.Proofs.YtpadpmkfhljiiaaGreat
open Go.RowKit
theorem minus_step {f d e : Nat → Nat} {i c y c' : Nat} (hy : y + e i + c = d i + c' * 256) (h : dsum f i + dsum e i = dsum d i + c * 256 ^ i) : dsum (setD f i y) (i + 1) + dsum e (i + 1) = dsum d (i + 1) + c' * 256 ^ (i + 1) := by
  rw [dsum_setD, dsum, dsum, Nat.pow_succ, Nat.mul_comm (256 ^ i) 256, ← Nat.mul_assoc]
  have h2 : (y + e i + c) * 256 ^ i = (d i + c' * 256) * 256 ^ i := by rw [hy]
  rw [Nat.add_mul, Nat.add_mul, Nat.add_mul] at h2
  omega
/-- its block, if it has one, is not below B -/
def Above (x : Value) (B : Nat) : Prop := ∀ g o k c, x = .slice (some ⟨g, o, none⟩) k c → B ≤ g
theorem own_above {W : World} {B n : Nat} {v : Value} {cs : List Value} (h : W.ownsRow B 3 1 v n cs) : Above v B := by
  obtain ⟨_, ⟨rfl, rfl⟩ | ⟨g, c, cur, rfl, hb, hh, _⟩⟩ := h
  · intro g o k c e; cases e
  · intro g' o k c' e; cases e; exact hb
/-- what 'minus' gives -/
def MinusRes (d e : Nat → Nat) (K : Nat) (w : World) (r : Ending) (w' : World) : Prop := ∃ x f, r = .returned x ∧ RowAt w' x K f ∧ dsum f K + dsum e K = dsum d K ∧ Above x w.heap.size ∧ Below w.heap.size w w'
set_option maxHeartbeats 4000000 in
set_option maxRecDepth 100000 in
theorem minus_is (w : World) (v u : Value) (n m : Nat) (d e : Nat → Nat) (hv : RowAt w v n d) (hu : RowAt w u m e) (hn : n ≤ 1000) (hm : m ≤ 1000) (K : Nat) (hK : K = max n m) (hle : dsum e K ≤ dsum d K) :
    Calls Tryz.prog 81 #[v, u] w (MinusRes d e K w) := by
  have HV : Hid (RowAt w v n d) := hv
  have HU : Hid (RowAt w u m e) := hu
  have HD : Hid (∀ i, d i < 256) := hv.2.1
  have HE : Hid (∀ i, e i < 256) := hu.2.1
  have HL : Hid (dsum e K ≤ dsum d K) := hle
  obtain ⟨_, _, _, ad, cap, rfl, _⟩ := hv
  obtain ⟨_, _, _, bd, cap', rfl, _⟩ := hu
  obtain ⟨i0, hi, hz0, hz1, hz2⟩ := info_parts Tryz.infoI
  have LG : Hid (∀ W, Calls Tryz.prog 124 #[.slice ad n cap, .slice bd m cap'] W fun e w' => e = .returned (.int .i64 (K : Int)) ∧ w' = W) := fun W => by rw [hK]; exact longer_is W ad bd n m cap cap'
  have K1 : K ≤ 1000 := by omega
  clear hK hle
  go_enter Tryz.func81, Tryz.ntmps81
  go_wp2
  go_loopw [5, 6, 7] (fun s5 sc si wr => ∃ (i c : Nat) (f : Nat → Nat), i ≤ K ∧ c ≤ 1 ∧ sc = .int .i64 c ∧ si = .int .i64 i ∧ (∀ j, f j < 256) ∧ (∀ j, i ≤ j → f j = 0) ∧ dsum f i + dsum e i = dsum d i + c * 256 ^ i ∧ wr.ownsRow w.heap.size 3 1 s5 i (intsD f i) ∧ Below w.heap.size w wr) (fun _ _ si _ => K - (intOf si).toNat)
  case atStart => exact ⟨0, 0, fun _ => 0, by omega, by omega, rfl, rfl, fun _ => (by decide : (0 : Nat) < 256), fun _ _ => rfl, by simp [dsum], World.ownsRow_nil _ _ _ _, Below.refl _ _⟩
  case round =>
    obtain ⟨i, c, f, hik, hc1, rfl, rfl, hf, hfz, hs, hown, hB⟩ := hrel
    have HOW : Hid _ := hown
    have HB : Hid (Below w.heap.size w wr) := hB
    have HS : Hid _ := hs
    have HF : Hid (∀ j, f j < 256) := hf
    have HFZ : Hid (∀ j, i ≤ j → f j = 0) := hfz
    have b0 := hB.size
    by_cases hi5 : i < K
    · have iI : (i : Int) < (K : Int) := by omega
      obtain ⟨x, ex⟩ : ∃ x, x = d i := ⟨_, rfl⟩
      obtain ⟨y, ey⟩ : ∃ y, y = e i := ⟨_, rfl⟩
      have x256 : x < 256 := by rw [ex]; exact HD.out i
      have y256 : y < 256 := by rw [ey]; exact HE.out i
      have D1 : Hid (Calls Tryz.prog 123 #[.slice ad n cap, .int .i64 (i : Int)] wr fun e w' => e = .returned (.int .i64 (x : Int)) ∧ w' = wr) := by rw [ex]; exact digit_is wr _ n d i (HV.out.below hB)
      have D2 : Hid (Calls Tryz.prog 123 #[.slice bd m cap', .int .i64 (i : Int)] wr fun e w' => e = .returned (.int .i64 (y : Int)) ∧ w' = wr) := by rw [ey]; exact digit_is wr _ m e i (HU.out.below hB)
      obtain ⟨nn, enn⟩ : ∃ nn : Int, (x : Int) - (y : Int) - (c : Int) = nn := ⟨_, rfl⟩
      have b4 : IntKind.i64.wrap nn = nn := by rw [IntKind.wrap_i64]; omega
      have b5 : IntKind.i64.wrap ((x : Int) - (y : Int)) = (x : Int) - (y : Int) := by rw [IntKind.wrap_i64]; omega
      have iI2 : (i : Int) ≤ 1000 := by omega
      obtain ⟨r, c', hrc⟩ : ∃ r c' : Nat, (nn < 0 ∧ nn + 256 = (r : Int) ∧ c' = 1) ∨ (0 ≤ nn ∧ nn = (r : Int) ∧ c' = 0) := by
        by_cases hneg : nn < 0
        · exact ⟨(nn + 256).toNat, 1, Or.inl ⟨hneg, by omega, rfl⟩⟩
        · exact ⟨nn.toNat, 0, Or.inr ⟨by omega, by omega, rfl⟩⟩
      have r256 : r < 256 := by omega
      have ST : Hid (dsum (setD f i r) (i + 1) + dsum e (i + 1) = dsum d (i + 1) + c' * 256 ^ (i + 1)) := minus_step (by rw [← ex, ← ey]; omega) hs
      have rI : (r : Int) < 256 := by omega
      have C1 : Hid (c' ≤ 1) := by unfold Hid; omega
      have b8 : IntKind.i64.wrap (r : Int) = (r : Int) := by rw [IntKind.wrap_i64]; omega
      clear ex ey hs hf hfz hown hB
      go_upto_region 6 with (go_at_call 124; refine (LG.out _).mono ?_; rintro e0 w' ⟨rfl, hw⟩; (have hw2 := hw.symm); clear hw; subst hw2)
      go_wp2_with fail
      refine Calls.mono D1.out ?_
      rintro e0 w' ⟨rfl, hw⟩
      have hw2 := hw.symm
      clear hw
      subst hw2
      go_wp2_with fail
      refine Calls.mono D2.out ?_
      rintro e0 w' ⟨rfl, hw⟩
      have hw2 := hw.symm
      clear hw
      subst hw2
      rcases hrc with ⟨hneg, hr, rfl⟩ | ⟨hpos, rfl, rfl⟩
      · go_wp2_with (at_builtin; refine wpList_append_own _ rfl _ _ 61 rfl w.heap.size 3 i0 (.int .i64 0) 1 8 Tryz.underlying61 hi hz0 hz1 hz2 rfl (by decide) _ _ _ rfl (World.ownsRow.alloc HOW.out _) ⟨wr.heap.size, 0, none⟩ 1 1 [.int .i64 (r : Int)] rfl rfl (fun j u hj => (by have hj0 : j = 0 := (by have := (List.getElem?_eq_some_iff.1 hj).1; simpa using this); subst hj0; simp at hj; subst hj; (first | (simp [Addr.add]; done) | (simp [Addr.add]; omega)))) (fun u hu => (by rw [List.mem_singleton.1 hu]; rfl)) (by unfold maxLen; omega) (by omega) (by simp; omega) ?_; intro v' w1 hown' hgrow _)
        have R : Hid _ := own_set HOW.out HB.out hown' hgrow
        clear hown' hgrow
        go_wp2
        go_roundw
        case rel => exact ⟨i + 1, 1, setD f i r, by omega, C1.out, rfl, by go_num, fun j => setD_lt HF.out i r j r256, fun j hj => by rw [setD, if_neg (by omega)]; exact HFZ.out j (by omega), ST.out, R.out⟩
        case measure => simp [intOf]; omega
      · have rneg : ¬ (r : Int) < 0 := by omega
        go_wp2_with (at_builtin; refine wpList_append_own _ rfl _ _ 61 rfl w.heap.size 3 i0 (.int .i64 0) 1 8 Tryz.underlying61 hi hz0 hz1 hz2 rfl (by decide) _ _ _ rfl (World.ownsRow.alloc HOW.out _) ⟨wr.heap.size, 0, none⟩ 1 1 [.int .i64 (r : Int)] rfl rfl (fun j u hj => (by have hj0 : j = 0 := (by have := (List.getElem?_eq_some_iff.1 hj).1; simpa using this); subst hj0; simp at hj; subst hj; (first | (simp [Addr.add]; done) | (simp [Addr.add]; omega)))) (fun u hu => (by rw [List.mem_singleton.1 hu]; rfl)) (by unfold maxLen; omega) (by omega) (by simp; omega) ?_; intro v' w1 hown' hgrow _)
        have R : Hid _ := own_set HOW.out HB.out hown' hgrow
        clear hown' hgrow
        go_wp2
        go_roundw
        case rel => exact ⟨i + 1, 0, setD f i r, by omega, C1.out, rfl, by go_num, fun j => setD_lt HF.out i r j r256, fun j hj => by rw [setD, if_neg (by omega)]; exact HFZ.out j (by omega), ST.out, R.out⟩
        case measure => simp [intOf]; omega
    · obtain rfl : i = K := by omega
      have FSu : Hid (dsum f i + dsum e i = dsum d i) := by
        have h1 := HL.out
        have h2 := dsum_lt HF.out i
        have h3 := hs
        rcases Nat.lt_or_ge c 1 with h | h
        · obtain rfl : c = 0 := by omega
          rw [Nat.zero_mul, Nat.add_zero] at h3; exact h3
        · obtain rfl : c = 1 := by omega
          rw [Nat.one_mul] at h3
          unfold Hid; omega
      clear hs hf hfz hown hB
      go_wp2_with (go_at_call 124; refine (LG.out _).mono ?_; rintro e0 w' ⟨rfl, hw⟩; (have hw2 := hw.symm); clear hw; subst hw2)
      go_ret
      exact ⟨_, f, rfl, RowAt.own HOW.out HF.out HFZ.out (by omega), FSu.out, own_above HOW.out, HB.out⟩
end Go.Proofs.YtpadpmkfhljiiaaGreat
/- What the document's long division reckons, bit by bit: no Go text. -/
namespace Go.Proofs.YtpadpmkfhljiiaaGreat
theorem half_step (A j : Nat) : A / 2 ^ j = 2 * (A / 2 ^ (j + 1)) + A / 2 ^ j % 2 := by
  rw [Nat.pow_succ, ← Nat.div_div_eq_div_mul]; omega
/-- j bits are still to be done -/
structure Rd (A B n j : Nat) (f : Nat → Nat) (R : Nat) : Prop where
  r : R = A / 2 ^ j % B
  q : dsum f n = A / 2 ^ j / B * 2 ^ j
  lt : ∀ k, f k < 256
  low : ∀ k, 8 * k + 8 ≤ j → f k = 0
  mid : j % 8 ≠ 0 → f (j / 8) + 2 ^ (j % 8) ≤ 256
theorem Rd.start {A B n : Nat} (h : A < 256 ^ n) : Rd A B n (8 * n) (fun _ => 0) 0 := by
  have e : A / 2 ^ (8 * n) = 0 := Nat.div_eq_of_lt (by rw [Nat.pow_mul]; exact h)
  refine ⟨by rw [e]; simp, by rw [e, dsum_zero n (fun _ _ => rfl)]; simp, fun _ => by simp, fun _ _ => rfl, fun h => absurd (by omega) h⟩
theorem Rd.fin {A B n : Nat} {f : Nat → Nat} {R : Nat} (h : Rd A B n 0 f R) : dsum f n = A / B ∧ R = A % B := by
  have h1 := h.r
  have h2 := h.q
  simp only [Nat.pow_zero, Nat.div_one, Nat.mul_one] at h1 h2
  exact ⟨h2, h1⟩
theorem Rd.rlt {A B n j : Nat} {f : Nat → Nat} {R : Nat} (h : Rd A B n j f R) (hB : 0 < B) : R < B := by rw [h.r]; exact Nat.mod_lt _ hB
theorem div_two {t B R b : Nat} (hB : 0 < B) (hR : R = t % B) (_hb : b ≤ 1) : (B ≤ 2 * R + b → (2 * t + b) / B = 2 * (t / B) + 1 ∧ (2 * t + b) % B = 2 * R + b - B) ∧ (2 * R + b < B → (2 * t + b) / B = 2 * (t / B) ∧ (2 * t + b) % B = 2 * R + b) := by
  have h1 := Nat.div_add_mod t B
  have h2 : R < B := by rw [hR]; exact Nat.mod_lt _ hB
  rw [← hR] at h1
  generalize t / B = q at h1 ⊢
  have h3 : 2 * t + b = B * (2 * q) + (2 * R + b) := by rw [← h1, Nat.mul_add, Nat.mul_left_comm]; omega
  refine ⟨fun hge => ?_, fun hlt => ?_⟩
  · have h4 : 2 * t + b = B * (2 * q + 1) + (2 * R + b - B) := by rw [h3, Nat.mul_add, Nat.mul_one]; omega
    refine ⟨?_, ?_⟩
    · rw [h4, Nat.mul_add_div hB, Nat.div_eq_of_lt (by omega), Nat.add_zero]
    · rw [h4, Nat.mul_add_mod, Nat.mod_eq_of_lt (by omega)]
  · refine ⟨?_, ?_⟩
    · rw [h3, Nat.mul_add_div hB, Nat.div_eq_of_lt hlt, Nat.add_zero]
    · rw [h3, Nat.mul_add_mod, Nat.mod_eq_of_lt hlt]
theorem pow_place (j : Nat) : 2 ^ (j % 8) * 256 ^ (j / 8) = 2 ^ j := by
  rw [show (256 : Nat) = 2 ^ 8 from rfl, ← Nat.pow_mul, ← Nat.pow_add]; congr 1; omega
theorem Rd.room {A B n j : Nat} {f : Nat → Nat} {R : Nat} (h : Rd A B n (j + 1) f R) : f (j / 8) + 2 ^ (j % 8) + 2 ^ (j % 8) ≤ 256 := by
  by_cases e : (j + 1) % 8 = 0
  · have h7 : j % 8 = 7 := by omega
    have h0 := h.low (j / 8) (by omega)
    rw [h0, h7]; decide
  · have h1 := h.mid e
    have e1 : (j + 1) / 8 = j / 8 := by omega
    have e2 : (j + 1) % 8 = j % 8 + 1 := by omega
    rw [e1, e2, Nat.pow_succ] at h1
    omega
theorem Rd.yes {A B n j : Nat} {f : Nat → Nat} {R b : Nat} (h : Rd A B n (j + 1) f R) (hB : 0 < B) (hj : j < 8 * n) (hb : b = A / 2 ^ j % 2) (hge : B ≤ 2 * R + b) : Rd A B n j (setD f (j / 8) (f (j / 8) + 2 ^ (j % 8))) (2 * R + b - B) := by
  have hs := half_step A j
  have hr := h.r
  have hq := h.q
  have hm := h.room
  have hp := Nat.two_pow_pos (j % 8)
  rw [← hb] at hs
  generalize A / 2 ^ (j + 1) = t at hs hr hq
  obtain ⟨e1, e2⟩ := (div_two hB hr (by omega)).1 hge
  refine ⟨by rw [hs, e2], ?_, fun k => setD_lt h.lt _ _ k (by omega), fun k hk => ?_, fun _ => ?_⟩
  · have h1 := dsum_set f (j / 8) (f (j / 8) + 2 ^ (j % 8)) n (by omega)
    have h2 := pow_place j
    rw [Nat.add_mul, h2, hq, Nat.pow_succ, Nat.mul_comm (2 ^ j) 2, ← Nat.mul_assoc] at h1
    rw [hs, e1, Nat.add_mul, Nat.one_mul, Nat.mul_comm 2 (t / B)]
    omega
  · rw [setD, if_neg (by omega)]; exact h.low k (by omega)
  · rw [setD, if_pos rfl]; exact hm
theorem Rd.no {A B n j : Nat} {f : Nat → Nat} {R b : Nat} (h : Rd A B n (j + 1) f R) (hB : 0 < B) (hb : b = A / 2 ^ j % 2) (hlt : 2 * R + b < B) : Rd A B n j f (2 * R + b) := by
  have hs := half_step A j
  have hr := h.r
  have hq := h.q
  have hm := h.room
  rw [← hb] at hs
  generalize A / 2 ^ (j + 1) = t at hs hr hq
  obtain ⟨e1, e2⟩ := (div_two hB hr (by omega)).2 hlt
  refine ⟨by rw [hs, e2], ?_, h.lt, fun k hk => h.low k (by omega), fun _ => Nat.le_trans (Nat.le_add_right _ _) hm⟩
  rw [hq, hs, e1, Nat.pow_succ, Nat.mul_comm (2 ^ j) 2, ← Nat.mul_assoc, Nat.mul_comm 2 (t / B)]
end Go.Proofs.YtpadpmkfhljiiaaGreat
/- The document's comparisons. -/
namespace Go.Proofs.YtpadpmkfhljiiaaGreat
open Go.RowKit
theorem dig_all (X : Nat) (h : X < 256 ^ 32) : dsum (dig X) 32 = X := by rw [dig_sum X 32 (by omega), Nat.mod_eq_of_lt h]
theorem mod_nat {x : Int} {a0 a1 a2 a3 : Int} (h : IsW x a0 a1 a2 a3) : ∃ X : Nat, V a0 a1 a2 a3 = (X : Int) ∧ (X : Int) = x % MM ∧ X < 256 ^ 32 := by
  have r := h.range
  have e : (256 ^ 32 : Nat) = 115792089237316195423570985008687907853269984665640564039457584007913129639936 := by decide
  unfold MM at r
  exact ⟨(V a0 a1 a2 a3).toNat, by omega, by rw [← h.2]; omega, by rw [e]; omega⟩
set_option maxHeartbeats 1000000 in
set_option maxRecDepth 100000 in
theorem rcmp_any (x y : Int) (a0 a1 a2 a3 b0 b1 b2 b3 : Int) (w : World) (ha : IsW x a0 a1 a2 a3) (hb : IsW y b0 b1 b2 b3) :
    Calls Tryz.prog 98 #[.agg #[.int .u64 a0, .int .u64 a1, .int .u64 a2, .int .u64 a3], .agg #[.int .u64 b0, .int .u64 b1, .int .u64 b2, .int .u64 b3]] w fun e w' => e = .returned (.int .i64 (cmpv (x % MM) (y % MM))) ∧ Below w.heap.size w w' := by
  obtain ⟨X, hX, eX, lX⟩ := mod_nat ha
  obtain ⟨Y, hY, eY, lY⟩ := mod_nat hb
  have CM : Hid (∀ W v u, RowAt W v 32 (dig X) → RowAt W u 32 (dig Y) → Calls Tryz.prog 118 #[v, u] W fun r w' => r = .returned (.int .i64 (cmpv (x % MM) (y % MM))) ∧ w' = W) := fun W v u hv hu => by
    have h := compare_is W v u 32 32 (dig X) (dig Y) hv hu 32 (by omega)
    rw [dig_all X lX, dig_all Y lY, eX, eY] at h
    exact h
  generalize cmpv (x % MM) (y % MM) = r at CM ⊢
  have OA : Hid (∀ W, Calls Tryz.prog 79 #[.agg #[.int .u64 a0, .int .u64 a1, .int .u64 a2, .int .u64 a3]] W fun e w' => ∃ v, e = .returned v ∧ RowAt w' v 32 (dig X) ∧ Below W.heap.size W w') := fun W => of_is x a0 a1 a2 a3 W ha X hX
  have OB : Hid (∀ W, Calls Tryz.prog 79 #[.agg #[.int .u64 b0, .int .u64 b1, .int .u64 b2, .int .u64 b3]] W fun e w' => ∃ v, e = .returned v ∧ RowAt w' v 32 (dig Y) ∧ Below W.heap.size W w') := fun W => of_is y b0 b1 b2 b3 W hb Y hY
  have hA := (Box.new w 24 a0 a1 a2 a3).alloc (.cells #[.int .u64 b0, .int .u64 b1, .int .u64 b2, .int .u64 b3] 24)
  have hB := Box.new (w.alloc (.cells #[.int .u64 a0, .int .u64 a1, .int .u64 a2, .int .u64 a3] 24)) 24 b0 b1 b2 b3
  rw [World.size_alloc] at hB
  have hW : Below w.heap.size w ((w.alloc (.cells #[.int .u64 a0, .int .u64 a1, .int .u64 a2, .int .u64 a3] 24)).alloc (.cells #[.int .u64 b0, .int .u64 b1, .int .u64 b2, .int .u64 b3] 24)) := by repeat' (first | with_reducible exact Below.refl _ _ | with_reducible exact Below.refl _ _ | with_reducible refine Below.drew ?_ | with_reducible refine bdrewN ?_ _ | with_reducible refine Below.alloc ?_ ?_ _ | with_reducible refine Below.setCell ?_ ?_ _ | omega | (simp; done) | (simp; omega))
  have HAA : Hid _ := hA
  have HBB : Hid _ := hB
  have HWW : Hid _ := hW
  clear ha hb hX hY eX eY lX lY hA hB hW
  go_enter Tryz.func98, Tryz.ntmps98
  go_upto_region 1 with fail
  generalize (w.alloc (.cells #[.int .u64 a0, .int .u64 a1, .int .u64 a2, .int .u64 a3] 24)).alloc (.cells #[.int .u64 b0, .int .u64 b1, .int .u64 b2, .int .u64 b3] 24) = W0 at HAA HBB HWW ⊢
  refine wp_region_held_drew (S := fun w' => Box w' w.heap.size a0 a1 a2 a3 ∧ Box w' (w.heap.size + 1) b0 b1 b2 b3) (by kernel_rfl) ⟨Box.drew HAA.out, Box.drew HBB.out⟩ (fun hHeld => ?_)
  refine wpAnyH_take (i := 0) (v := .agg #[.int .u64 a0, .int .u64 a1, .int .u64 a2, .int .u64 a3]) op0 (by kernel_rfl) (by kernel_rfl) (by kernel_rfl) (fun _ _ _ h => h) (Or.inl ⟨by rfl, fun W hS => ?_⟩) hHeld ?_
  · obtain ⟨c0, c1, c2, c3, _⟩ := Box.facts hS.1
    go_simp
  simp only [Act.put, List.setIfInBounds_toArray, List.set_cons_zero, List.set_cons_succ]
  refine wpAnyH_take (i := 2) (v := .agg #[.int .u64 b0, .int .u64 b1, .int .u64 b2, .int .u64 b3]) op2 (by kernel_rfl) (by kernel_rfl) (by kernel_rfl) (fun _ _ _ h => h) (Or.inl ⟨by rfl, fun W hS => ?_⟩) hHeld ?_
  · obtain ⟨c0, c1, c2, c3, _⟩ := Box.facts hS.2
    go_simp
  simp only [Act.put, List.setIfInBounds_toArray, List.set_cons_zero, List.set_cons_succ]
  refine wpAnyH_ready (rs := [1]) (by kernel_rfl) (by simp) ?_
  refine AllReadyH.cons op1 (fun K hK => ?_) AllReadyH.nil
  · rw [if_pos (by rfl)]
    go_simp
    refine (OA.out _).mono ?_
    rintro e v1 ⟨v, rfl, hv, hB⟩
    have W1 : Hid (Below w.heap.size w v1) := Below.trans HWW.out ((below_undrew hB).mono HWW.out.size)
    have h1 : Box v1 w.heap.size a0 a1 a2 a3 ∧ Box v1 (w.heap.size + 1) b0 b1 b2 b3 := ⟨hHeld.1.below hB hHeld.1.lt, hHeld.2.below hB hHeld.2.lt⟩
    have HVV : Hid (RowAt v1 v 32 (dig X)) := hv
    clear hB hHeld hv
    (try go_wp2_with fail)
    refine hK.out _ _ h1 (fun _ => ?_)
    clear hK K
    refine wpAnyH_ready (rs := [3]) (by kernel_rfl) (by simp) ?_
    refine AllReadyH.cons op3 (fun K hK => ?_) AllReadyH.nil
    rw [if_pos (by rfl)]
    go_simp
    refine (OB.out _).mono ?_
    rintro e v2 ⟨u, rfl, hu, hB⟩
    have W2 : Hid (Below w.heap.size w v2) := Below.trans W1.out (hB.mono W1.out.size)
    have h2 : Box v2 w.heap.size a0 a1 a2 a3 ∧ Box v2 (w.heap.size + 1) b0 b1 b2 b3 := ⟨h1.1.below hB h1.1.lt, h1.2.below hB h1.2.lt⟩
    have C2 : Hid _ := CM.out v2 v u (HVV.out.below hB) hu
    clear hB h1 hu HVV
    (try go_wp2_with fail)
    refine hK.out _ _ h2 (fun _ => ?_)
    clear hK K
    refine wpAnyH_ready (rs := [4]) (by kernel_rfl) (by simp) ?_
    refine AllReadyH.cons op4 (fun K hK => ?_) AllReadyH.nil
    rw [if_pos (by rfl)]
    go_simp
    refine Calls.mono C2.out ?_
    rintro e v3 ⟨rfl, hw⟩
    have hw2 := hw.symm
    clear hw C2
    subst hw2
    (try go_wp2_with fail)
    refine hK.out _ _ h2 (fun _ => ?_)
    clear hK K
    refine wpAnyH_take (i := 5) (v := .int .i64 r) op5 (by kernel_rfl) (by kernel_rfl) (by kernel_rfl) (fun _ _ _ h => h) (Or.inl ⟨by rfl, fun W _ => ?_⟩) h2 ?_
    · go_simp
    simp only [Act.put, List.setIfInBounds_toArray, List.set_cons_zero, List.set_cons_succ]
    refine wpAnyH_done (by kernel_rfl) ?_ _
    go_wp2
    go_ret
    exact ⟨rfl, W2.out⟩
theorem rcmp_is {x y : Int} (a0 a1 a2 a3 b0 b1 b2 b3 : Int) (w : World) (ha : IsW x a0 a1 a2 a3) (hb : IsW y b0 b1 b2 b3) (r : Int) (h : cmpv (x % MM) (y % MM) = r) :
    Calls Tryz.prog 98 #[.agg #[.int .u64 a0, .int .u64 a1, .int .u64 a2, .int .u64 a3], .agg #[.int .u64 b0, .int .u64 b1, .int .u64 b2, .int .u64 b3]] w fun e w' => e = .returned (.int .i64 r) ∧ Below w.heap.size w w' := by
  rw [← h]; exact rcmp_any x y a0 a1 a2 a3 b0 b1 b2 b3 w ha hb
theorem cmpv_eq (x y : Int) : decide (cmpv x y = 0) = decide (x = y) := by
  unfold cmpv
  by_cases h1 : x < y
  · simp [h1]; omega
  · by_cases h2 : y < x
    · simp [h1, h2]; omega
    · simp [h1, h2]; omega
set_option maxHeartbeats 400000 in
theorem rlt_is {x y : Int} (a0 a1 a2 a3 b0 b1 b2 b3 : Int) (w : World) (ha : IsW x a0 a1 a2 a3) (hb : IsW y b0 b1 b2 b3) (r : Bool) (h : decide (x % MM < y % MM) = r) :
    Calls Tryz.prog 166 #[.agg #[.int .u64 a0, .int .u64 a1, .int .u64 a2, .int .u64 a3], .agg #[.int .u64 b0, .int .u64 b1, .int .u64 b2, .int .u64 b3]] w fun e w' => e = .returned (.bool r) ∧ Below w.heap.size w w' := by
  rw [← h, ← cmpv_lt]
  obtain ⟨c, ec⟩ : ∃ c, cmpv (x % MM) (y % MM) = c := ⟨_, rfl⟩
  rw [ec]
  clear h
  go_enter Tryz.func166, Tryz.ntmps166
  go_wp2_with (go_at_call 98; refine (rcmp_is _ _ _ _ _ _ _ _ _ ha hb c ec).mono ?_; rintro e v1 ⟨rfl, hB⟩)
  go_ret
  exact ⟨rfl, Below.trans (by repeat' (first | with_reducible exact Below.refl _ _ | with_reducible exact Below.refl _ _ | with_reducible refine Below.drew ?_ | with_reducible refine bdrewN ?_ _ | with_reducible refine Below.alloc ?_ ?_ _ | with_reducible refine Below.setCell ?_ ?_ _ | omega | (simp; done) | (simp; omega))) (hB.mono (by first | omega | (simp; done) | (simp; omega)))⟩
set_option maxHeartbeats 400000 in
theorem rgt_is {x y : Int} (a0 a1 a2 a3 b0 b1 b2 b3 : Int) (w : World) (ha : IsW x a0 a1 a2 a3) (hb : IsW y b0 b1 b2 b3) (r : Bool) (h : decide (y % MM < x % MM) = r) :
    Calls Tryz.prog 167 #[.agg #[.int .u64 a0, .int .u64 a1, .int .u64 a2, .int .u64 a3], .agg #[.int .u64 b0, .int .u64 b1, .int .u64 b2, .int .u64 b3]] w fun e w' => e = .returned (.bool r) ∧ Below w.heap.size w w' := by
  rw [← h, ← cmpv_gt]
  obtain ⟨c, ec⟩ : ∃ c, cmpv (x % MM) (y % MM) = c := ⟨_, rfl⟩
  rw [ec]
  clear h
  go_enter Tryz.func167, Tryz.ntmps167
  go_wp2_with (go_at_call 98; refine (rcmp_is _ _ _ _ _ _ _ _ _ ha hb c ec).mono ?_; rintro e v1 ⟨rfl, hB⟩)
  go_ret
  exact ⟨rfl, Below.trans (by repeat' (first | with_reducible exact Below.refl _ _ | with_reducible exact Below.refl _ _ | with_reducible refine Below.drew ?_ | with_reducible refine bdrewN ?_ _ | with_reducible refine Below.alloc ?_ ?_ _ | with_reducible refine Below.setCell ?_ ?_ _ | omega | (simp; done) | (simp; omega))) (hB.mono (by first | omega | (simp; done) | (simp; omega)))⟩
set_option maxHeartbeats 400000 in
theorem req_is {x y : Int} (a0 a1 a2 a3 b0 b1 b2 b3 : Int) (w : World) (ha : IsW x a0 a1 a2 a3) (hb : IsW y b0 b1 b2 b3) (r : Bool) (h : decide (x % MM = y % MM) = r) :
    Calls Tryz.prog 168 #[.agg #[.int .u64 a0, .int .u64 a1, .int .u64 a2, .int .u64 a3], .agg #[.int .u64 b0, .int .u64 b1, .int .u64 b2, .int .u64 b3]] w fun e w' => e = .returned (.bool r) ∧ Below w.heap.size w w' := by
  rw [← h, ← cmpv_eq]
  obtain ⟨c, ec⟩ : ∃ c, cmpv (x % MM) (y % MM) = c := ⟨_, rfl⟩
  rw [ec]
  clear h
  go_enter Tryz.func168, Tryz.ntmps168
  go_wp2_with (go_at_call 98; refine (rcmp_is _ _ _ _ _ _ _ _ _ ha hb c ec).mono ?_; rintro e v1 ⟨rfl, hB⟩)
  go_ret
  exact ⟨by first | rfl | (apply ret_bool; simp), Below.trans (by repeat' (first | with_reducible exact Below.refl _ _ | with_reducible exact Below.refl _ _ | with_reducible refine Below.drew ?_ | with_reducible refine bdrewN ?_ _ | with_reducible refine Below.alloc ?_ ?_ _ | with_reducible refine Below.setCell ?_ ?_ _ | omega | (simp; done) | (simp; omega))) (hB.mono (by first | omega | (simp; done) | (simp; omega)))⟩
theorem dsum_pos {d : Nat → Nat} (i : Nat) (hi : d i ≠ 0) : ∀ n, i < n → dsum d n ≠ 0
  | 0, h => absurd h (by omega)
  | n + 1, h => by
    rw [dsum]
    by_cases e : i = n
    · subst e
      have : 0 < d i * 256 ^ i := Nat.mul_pos (by omega) (Nat.pow_pos (by omega))
      omega
    · have := dsum_pos i hi n (by omega); omega
set_option maxHeartbeats 1000000 in
theorem none_is (W : World) (v : Value) (n : Nat) (d : Nat → Nat) (hv : RowAt W v n d) (r : Bool) (hr : decide (dsum d n = 0) = r) :
    Calls Tryz.prog 88 #[v] W fun e w' => e = .returned (.bool r) ∧ w' = W := by
  obtain ⟨hz, hd, hn, ad, cap, rfl, hc⟩ := hv
  have HC : Hid _ := hc
  have HR : Hid _ := hr
  have nI : (n : Int) ≤ 1073741824 := by omega
  clear hz hd hc hr
  go_enter Tryz.func88, Tryz.ntmps88
  go_wp2
  go_loop [3] (fun s => ∃ k : Nat, s = .int .i64 (k : Int) ∧ k ≤ n ∧ (∀ i, i < k → d i = 0)) (fun s => n - (intOf s).toNat)
  case atStart => exact ⟨0, rfl, by omega, fun i hi => absurd hi (by omega)⟩
  case round =>
    obtain ⟨k, rfl, hk, hz⟩ := hrel
    have HZ : Hid _ := hz
    clear hz
    by_cases hkn : k < n
    · have kI : (k : Int) < (n : Int) := by omega
      obtain ⟨g, o, rfl, hcc⟩ := HC.out (by omega)
      have c := hcc k hkn
      obtain ⟨y, ey⟩ : ∃ y, y = d k := ⟨_, rfl⟩
      rw [← ey] at c
      have EY : Hid _ := ey
      clear hcc ey
      by_cases hy : y = 0
      · subst hy
        go_wp2
        go_round
        case rel => exact ⟨k + 1, by go_num, by omega, fun i hi => by by_cases q : i = k; (rw [q, ← EY.out]); exact HZ.out i (by omega)⟩
        case measure => simp [intOf]; omega
      · have yI : ¬ ((y : Int) = 0) := by omega
        go_wp2
        go_ret
        refine ⟨ret_bool ?_, rfl⟩
        rw [← HR.out, decide_eq_false (dsum_pos k (by rw [← EY.out]; exact hy) n hkn)]
    · obtain rfl : k = n := by omega
      go_wp2
      go_ret
      refine ⟨ret_bool ?_, rfl⟩
      rw [← HR.out, decide_eq_true (dsum_zero k HZ.out)]
set_option maxHeartbeats 400000 in
theorem risZero_is {x : Int} (a0 a1 a2 a3 : Int) (w : World) (ha : IsW x a0 a1 a2 a3) (r : Bool) (h : decide (x % MM = 0) = r) :
    Calls Tryz.prog 169 #[.agg #[.int .u64 a0, .int .u64 a1, .int .u64 a2, .int .u64 a3]] w fun e w' => e = .returned (.bool r) ∧ Below w.heap.size w w' := by
  obtain ⟨X, hX, eX, lX⟩ := mod_nat ha
  have NO : Hid (∀ W v, RowAt W v 32 (dig X) → Calls Tryz.prog 88 #[v] W fun e w' => e = .returned (.bool r) ∧ w' = W) := fun W v hv => none_is W v 32 (dig X) hv r (by rw [dig_all X lX, ← h, ← eX]; simp)
  have OA : Hid (∀ W, Calls Tryz.prog 79 #[.agg #[.int .u64 a0, .int .u64 a1, .int .u64 a2, .int .u64 a3]] W fun e w' => ∃ v, e = .returned v ∧ RowAt w' v 32 (dig X) ∧ Below W.heap.size W w') := fun W => of_is x a0 a1 a2 a3 W ha X hX
  clear h ha hX eX lX
  go_enter Tryz.func169, Tryz.ntmps169
  go_wp2_with fail
  refine (OA.out _).mono ?_
  rintro e v1 ⟨v, rfl, hv, hB⟩
  have W1 : Hid (Below w.heap.size w v1) := Below.trans (by repeat' (first | with_reducible exact Below.refl _ _ | with_reducible exact Below.refl _ _ | with_reducible refine Below.drew ?_ | with_reducible refine bdrewN ?_ _ | with_reducible refine Below.alloc ?_ ?_ _ | with_reducible refine Below.setCell ?_ ?_ _ | omega | (simp; done) | (simp; omega))) (hB.mono (by first | omega | (simp; done) | (simp; omega)))
  have N1 : Hid _ := NO.out v1 v hv
  clear hB hv NO OA
  go_wp2_with fail
  refine Calls.mono N1.out ?_
  rintro e v2 ⟨rfl, hw⟩
  have hw2 := hw.symm
  clear hw N1
  subst hw2
  go_wp2
  go_ret
  exact ⟨rfl, W1.out⟩
end Go.Proofs.YtpadpmkfhljiiaaGreat
/- What the document's division asks of its rows: bits, cuts, comparisons. -/
namespace Go.Proofs.YtpadpmkfhljiiaaGreat
open Go.RowKit
theorem RowI.below {W W' : World} {B g N : Nat} {f : Nat → Nat} (h : RowI W g N f) (k : Below B W W') (hb : g < B) : RowI W' g N f := fun j hj =>
  ⟨(k.cell (p := ⟨g, j, none⟩) hb).trans (h j hj).1, (k.frozen (p := ⟨g, j, none⟩) hb).trans (h j hj).2⟩
theorem dsum_at {d : Nat → Nat} (hd : ∀ i, d i < 256) (n k : Nat) (hk : k < n) : ∃ rest, dsum d n / 256 ^ k = d k + 256 * rest := by
  obtain ⟨t, rfl⟩ : ∃ t, n = k + (t + 1) := ⟨n - k - 1, by omega⟩
  rw [dsum_split, dsum_front]
  have h1 := dsum_lt hd k
  rw [Nat.add_comm (dsum d k), Nat.mul_add_div (Nat.pow_pos (by decide)), Nat.div_eq_of_lt h1]
  exact ⟨_, rfl⟩
theorem dsum_bit {d : Nat → Nat} (hd : ∀ i, d i < 256) (n j : Nat) (hj : j < 8 * n) : dsum d n / 2 ^ j % 2 = d (j / 8) / 2 ^ (j % 8) % 2 := by
  obtain ⟨rest, h⟩ := dsum_at hd n (j / 8) (by omega)
  rw [← pow_place j, Nat.mul_comm, ← Nat.div_div_eq_div_mul, h]
  have h8 : j % 8 < 8 := by omega
  generalize d (j / 8) = x
  generalize j % 8 = t at h8
  obtain rfl | rfl | rfl | rfl | rfl | rfl | rfl | rfl : t = 0 ∨ t = 1 ∨ t = 2 ∨ t = 3 ∨ t = 4 ∨ t = 5 ∨ t = 6 ∨ t = 7 := by omega
  all_goals (simp only [Nat.pow_zero, Nat.reducePow]; omega)
theorem dsum_cut {d : Nat → Nat} (hd : ∀ i, d i < 256) (n c : Nat) (h : dsum d n < 256 ^ c) : dsum (cutD d c) (min c n) = dsum d n := by
  by_cases hc : c ≤ n
  · rw [Nat.min_eq_left hc, ← dsum_more (fun i hi => by rw [cutD, if_neg (by omega)]) n hc, cutD_sum hd, Nat.mod_eq_of_lt h]
  · rw [Nat.min_eq_right (by omega), cutD_sum hd, Nat.mod_eq_of_lt h]
theorem RowAt.more {W : World} {v : Value} {n : Nat} {d : Nat → Nat} (h : RowAt W v n d) (m : Nat) (hm : n ≤ m) : dsum d m = dsum d n := dsum_more (fun i hi => h.1 i hi) m hm
theorem one_sum (K : Nat) (h : 1 ≤ K) : dsum oneD K = 1 := by
  rw [dsum_more (n := 1) (fun i hi => by rw [oneD, if_neg (by omega)]) K h]; simp [dsum, oneD]
/-- a row of no digits -/
theorem RowAt.nil (W : World) : RowAt W (.slice none 0 0) 0 (fun _ => 0) := ⟨fun _ _ => rfl, fun _ => by simp, by omega, none, 0, rfl, fun h => absurd rfl h⟩
/-- the rows while it is divided -/
structure Rw (w : World) (v u : Value) (n m : Nat) (d e : Nat → Nat) (gq : Nat) (f : Nat → Nat) (x : Value) (L : Nat) (g : Nat → Nat) (W : World) : Prop where
  bel : Below w.heap.size w W
  av : RowAt W v n d
  bv : RowAt W u m e
  rv : RowAt W x L g
  qv : RowI W gq n f
  ql : gq < W.heap.size
theorem Rw.past {w W W' : World} {v u x y : Value} {n m gq L L' : Nat} {d e f g g' : Nat → Nat} (h : Rw w v u n m d e gq f x L g W) (k : Below W.heap.size W W') (hy : RowAt W' y L' g') : Rw w v u n m d e gq f y L' g' W' :=
  ⟨h.bel.trans (k.mono h.bel.size), h.av.below k, h.bv.below k, hy, h.qv.below k h.ql, Nat.lt_of_lt_of_le h.ql k.size⟩
theorem RowAt.apart {W : World} {x : Value} {L : Nat} {g : Nat → Nat} (h : RowAt W x L g) (B gq o : Nat) (y : Value) (ha : Above x B) (hq : gq < B) : RowAt (W.setCell ⟨gq, o, none⟩ y) x L g := by
  obtain ⟨h1, h2, h3, ad, cap, rfl, hc⟩ := h
  refine ⟨h1, h2, h3, ad, cap, rfl, fun hn => ?_⟩
  obtain ⟨b, p, rfl, hcl⟩ := hc hn
  have hb := ha b p _ _ rfl
  refine ⟨b, p, rfl, fun i hi => ?_⟩
  rw [World.cell?_setCell_other _ _ _ _ (by intro e'; injection e' with e1 _ _; omega)]
  exact hcl i hi
theorem Rw.put {w W : World} {v u x : Value} {n m gq L : Nat} {d e f g : Nat → Nat} (h : Rw w v u n m d e gq f x L g W) (hv : RowAt w v n d) (hu : RowAt w u m e) (o s B : Nat) (hg : w.heap.size = gq) (ha : Above x B) (hq : gq < B) : Rw w v u n m d e gq (setD f o s) x L g (W.setCell ⟨gq, o, none⟩ (.int .i64 (s : Int))) := by
  have hb : Below w.heap.size w (W.setCell ⟨gq, o, none⟩ (.int .i64 (s : Int))) := h.bel.setCell (by simp; omega) _
  exact ⟨hb, hv.below hb, hu.below hb, h.rv.apart B gq o _ ha hq, h.qv.set o s, by simpa using h.ql⟩
end Go.Proofs.YtpadpmkfhljiiaaGreat
/- Arrays of 256 numbers in a block: new ones, loads, stores. -/
namespace Go.Proofs.YtpadpmkfhljiiaaGreat
open Go.RowKit
theorem intsD_len (f : Nat → Nat) (n : Nat) : (intsD f n).length = n := by simp [intsD]
theorem intsD_get (f : Nat → Nat) (n i : Nat) (h : i < n) : (intsD f n)[i]? = some (.int .i64 (f i : Int)) := by simp [intsD, h]
theorem intsD_one (f : Nat → Nat) (n : Nat) : (intsD f n).toArray.all (·.oneCell') = true :=
  all_oneCell_toArray (by intro x hx; simp only [intsD, List.mem_map] at hx; obtain ⟨i, _, rfl⟩ := hx; rfl)
theorem RowI.past {w w' : World} {b n : Nat} {v : Nat → Nat} (h : RowI w b n v) (k : Below w.heap.size w w') : RowI w' b n v := fun i hi =>
  have hb := World.block_lt_of_cell? w _ (h i hi).1
  ⟨(k.cell (p := ⟨b, i, none⟩) hb).trans (h i hi).1, (k.frozen (p := ⟨b, i, none⟩) hb).trans (h i hi).2⟩
theorem RowI.set_other {w : World} {b n : Nat} {v : Nat → Nat} (h : RowI w b n v) (p : Addr) (x : Value) (hp : p.block ≠ b) : RowI (w.setCell p x) b n v := fun i hi =>
  ⟨by rw [World.cell?_setCell_other _ _ _ _ (by intro e; subst e; exact hp rfl)]; exact (h i hi).1, by rw [World.frozen?_setCell]; exact (h i hi).2⟩
theorem RowI.set_others {b n c : Nat} {v : Nat → Nat} (hc : c ≠ b) : ∀ (vs : List Value) (o : Nat) {w : World}, RowI w b n v → RowI (w.setCells c o vs) b n v
  | [], _, _, h => h
  | x :: r, o, w, h => by rw [World.setCells]; exact RowI.set_others hc r (o + 1) (h.set_other _ _ hc)
theorem RowI.ext {w : World} {b n : Nat} {u v : Nat → Nat} (h : RowI w b n u) (e : ∀ i, i < n → u i = v i) : RowI w b n v := fun i hi => by rw [← e i hi]; exact h i hi
theorem RowI.new (w : World) (t : TypeId) (n : Nat) (v : Nat → Nat) : RowI (w.alloc (.cells (intsD v n).toArray t)) w.heap.size n v := fun i hi => by
  rw [World.cell?_alloc_at _ _ _ _ rfl]
  exact ⟨by simp [intsD, hi], by simp [World.frozen?_alloc_at]⟩
theorem RowI.range {w : World} {b n : Nat} {v : Nat → Nat} (h : RowI w b n v) : w.rangeAt b 0 (intsD v n) := fun j x hx => by
  have hj : j < n := by have := (List.getElem?_eq_some_iff.1 hx).1; rwa [intsD_len] at this
  rw [intsD_get v n j hj] at hx; rw [Nat.zero_add, ← hx]; exact (h j hj).1
theorem RowI.there {w : World} {b n : Nat} {v : Nat → Nat} (h : RowI w b n v) : w.there b 0 n := fun j hj => by
  rw [Nat.zero_add, (h j hj).1]; exact ⟨rfl, (h j hj).2⟩
theorem RowI.of_range {w : World} {b n : Nat} {u v : Nat → Nat} (h : RowI w b n u) : RowI (w.setCells b 0 (intsD v n)) b n v := fun i hi => by
  have := World.rangeAt_setCells_same w b 0 (intsD v n) (by rw [intsD_len]; exact h.there) i _ (intsD_get v n i hi)
  rw [Nat.zero_add] at this
  exact ⟨this, by rw [World.frozen?_setCells]; exact (h i hi).2⟩
theorem sz_setCells (b : Nat) : ∀ (vs : List Value) (o : Nat) (w : World), (w.setCells b o vs).heap.size = w.heap.size
  | [], _, _ => rfl
  | x :: r, o, w => by rw [World.setCells, sz_setCells b r (o + 1), World.size_setCell]
theorem zero256 (w : World) : (zeroValue 85).run Tryz.prog w = .ok (.agg (intsD (fun _ => 0) 256).toArray) w := by kernel_rfl
/-- a new block of 256 numbers -/
structure New256 (w W : World) (f : Nat → Nat) : Prop where
  row : RowI W w.heap.size 256 f
  bel : Below w.heap.size w W
  siz : W.heap.size = w.heap.size + 1
theorem New256.of (w : World) (f : Nat → Nat) : New256 w (w.alloc (.cells (intsD f 256).toArray 85)) f := ⟨RowI.new _ _ _ _, (Below.refl _ _).alloc (Nat.le_refl _) _, by simp⟩
theorem alloc256 {ops : Array Oper} {rest : List Oper} {op : Oper} {a : Act} {w : World} {Q : Exit → Act → World → Prop} (hgd : op.guard = none) (ho : op.op = .alloc 85)
    (h : ∀ W, New256 w W (fun _ => 0) → wpList Tryz.prog ops Q rest (a.put op.dst (.pointer (some ⟨w.heap.size, 0, none⟩))) W) : wpList Tryz.prog ops Q (op :: rest) a w := by
  refine wpList_plain hgd fun K hK => ?_
  unfold Oper.wp execOp
  simp only [ho, Sem.run_bind, Instr.alloc, zero256, newVar, newRow, run_newObj_alloc, Sem.run_pure, Result.andThen_ok, Value.cells]
  exact hK _ _ (h _ (New256.of w _))
theorem box256 {ops : Array Oper} {rest : List Oper} {op : Oper} {a : Act} {w : World} {Q : Exit → Act → World → Prop} (f : Nat → Nat) (hgd : op.guard = none) (x : Operand) (ho : op.op = .box 85 x) (hx : a.eval x = .agg (intsD f 256).toArray)
    (h : ∀ W, New256 w W f → wpList Tryz.prog ops Q rest (a.put op.dst (.pointer (some ⟨w.heap.size, 0, none⟩))) W) : wpList Tryz.prog ops Q (op :: rest) a w := by
  refine wpList_plain hgd fun K hK => ?_
  unfold Oper.wp execOp
  simp only [ho, Sem.run_bind, Instr.box, newVar, newRow, run_newObj_alloc, Sem.run_pure, Result.andThen_ok, hx, Value.cells]
  exact hK _ _ (h _ (New256.of w f))
theorem store256 {ops : Array Oper} {rest : List Oper} {op : Oper} {a : Act} {w : World} {Q : Exit → Act → World → Prop} (g : Nat → Nat) (b : Nat) (hgd : op.guard = none) (x y : Operand) (ho : op.op = .store 85 x y)
    (hx : a.eval x = .pointer (some ⟨b, 0, none⟩)) (hy : a.eval y = .agg (intsD g 256).toArray) (ht : w.there b 0 256)
    (h : wpList Tryz.prog ops Q rest (a.put op.dst undef) (w.setCells b 0 (intsD g 256))) : wpList Tryz.prog ops Q (op :: rest) a w :=
  wpList_store_mid hgd 85 x y ho b 0 (intsD g 256).toArray hx hy (by rw [List.size_toArray, intsD_len]; exact ht) (by rw [List.size_toArray, intsD_len]; kernel_rfl) (intsD_one g 256) h
theorem load256 {ops : Array Oper} {rest : List Oper} {op : Oper} {a : Act} {w : World} {Q : Exit → Act → World → Prop} (g : Nat → Nat) (b : Nat) (hgd : op.guard = none) (x : Operand) (ho : op.op = .load 85 x)
    (hx : a.eval x = .pointer (some ⟨b, 0, none⟩)) (hr : RowI w b 256 g)
    (h : wpList Tryz.prog ops Q rest (a.put op.dst (.agg (intsD g 256).toArray)) w) : wpList Tryz.prog ops Q (op :: rest) a w :=
  wpList_load_mid hgd 85 x ho b 0 hx (intsD g 256) _ hr.range Tryz.underlying85 rfl (by rw [intsD_len]; kernel_rfl) h
theorem loadVar256 {w : World} {b : Nat} {g : Nat → Nat} (h : RowI w b 256 g) : (loadVar 85 ⟨b, 0, none⟩).run Tryz.prog w = .ok (.agg (intsD g 256).toArray) w :=
  run_loadVar_mid w b 0 85 (intsD g 256) _ h.range Tryz.underlying85 rfl (by rw [intsD_len]; kernel_rfl)
/-- 'x := a call that gives an array': a new block, and the array laid into it -/
theorem new256 {ops : Array Oper} {rest : List Oper} {op1 op2 : Oper} {a : Act} {w : World} {Q : Exit → Act → World → Prop} (g : Nat → Nat) (h1 : op1.guard = none) (o1 : op1.op = .alloc 85) (t : Tmp) (d1 : op1.dst = some t) (h2 : op2.guard = none) (y : Operand) (o2 : op2.op = .store 85 (.tmp t) y) (d2 : op2.dst = none)
    (hx : (a.put (some t) (.pointer (some ⟨w.heap.size, 0, none⟩))).eval (.tmp t) = .pointer (some ⟨w.heap.size, 0, none⟩)) (hy : (a.put (some t) (.pointer (some ⟨w.heap.size, 0, none⟩))).eval y = .agg (intsD g 256).toArray)
    (h : ∀ W, New256 w W g → wpList Tryz.prog ops Q rest (a.put (some t) (.pointer (some ⟨w.heap.size, 0, none⟩))) W) : wpList Tryz.prog ops Q (op1 :: op2 :: rest) a w := by
  refine alloc256 h1 o1 fun W hW => ?_
  rw [d1]
  refine store256 g w.heap.size h2 _ y o2 hx hy hW.row.there ?_
  rw [d2]
  refine h _ ⟨hW.row.of_range, below_setCells _ (Nat.le_refl _) _ _ _ hW.bel, ?_⟩
  rw [sz_setCells]; exact hW.siz
end Go.Proofs.YtpadpmkfhljiiaaGreat
/- The document's 'bits' of a word. -/
namespace Go.Proofs.YtpadpmkfhljiiaaGreat
open Go.RowKit
/-- bit i of a number -/
def bitf (X i : Nat) : Nat := X / 2 ^ i % 2
theorem bitf_le (X i : Nat) : bitf X i ≤ 1 := by unfold bitf; omega
/-- the first k bits, none behind -/
def upto (f : Nat → Nat) (k i : Nat) : Nat := if i < k then f i else 0
theorem upto_set (f : Nat → Nat) (k : Nat) : setD (upto f k) k (f k) = upto f (k + 1) := by
  funext j
  unfold setD upto
  by_cases h : j = k
  · subst h; rw [if_pos rfl, if_pos (by omega)]
  · rw [if_neg h]
    by_cases h2 : j < k
    · rw [if_pos h2, if_pos (by omega)]
    · rw [if_neg h2, if_neg (by omega)]
theorem dig_bitf (X j : Nat) (hj : j < 256) : dig X (j / 8) / 2 ^ (j % 8) % 2 = bitf X j := by
  rw [dig, if_pos (by omega)]
  unfold bitf
  have e : (2 : Nat) ^ j = 256 ^ (j / 8) * 2 ^ (j % 8) := by
    rw [show (256 : Nat) = 2 ^ 8 by decide, ← Nat.pow_mul, ← Nat.pow_add]; congr 1; omega
  rw [e, ← Nat.div_div_eq_div_mul]
  generalize X / 256 ^ (j / 8) = y
  have h8 : j % 8 < 8 := by omega
  generalize j % 8 = r at h8
  have hr : r = 0 ∨ r = 1 ∨ r = 2 ∨ r = 3 ∨ r = 4 ∨ r = 5 ∨ r = 6 ∨ r = 7 := by omega
  rcases hr with rfl | rfl | rfl | rfl | rfl | rfl | rfl | rfl <;> simp only [Nat.reducePow, Nat.pow_zero] <;> omega
set_option maxHeartbeats 2000000 in
set_option maxRecDepth 100000 in
theorem bits_is (x : Int) (a0 a1 a2 a3 : Int) (w : World) (ha : IsW x a0 a1 a2 a3) (X : Nat) (hX : V a0 a1 a2 a3 = (X : Int)) :
    Calls Tryz.prog 103 #[.agg #[.int .u64 a0, .int .u64 a1, .int .u64 a2, .int .u64 a3]] w fun e w' => e = .returned (.agg (intsD (bitf X) 256).toArray) ∧ Below w.heap.size w w' := by
  have OA : Hid (∀ W, Calls Tryz.prog 79 #[.agg #[.int .u64 a0, .int .u64 a1, .int .u64 a2, .int .u64 a3]] W fun e w' => ∃ v, e = .returned v ∧ RowAt w' v 32 (dig X) ∧ Below W.heap.size W w') := fun W => of_is x a0 a1 a2 a3 W ha X hX
  have B0 : Hid (Below w.heap.size w (w.alloc (.cells #[.int .u64 a0, .int .u64 a1, .int .u64 a2, .int .u64 a3] 24)) ∧ Box (w.alloc (.cells #[.int .u64 a0, .int .u64 a1, .int .u64 a2, .int .u64 a3] 24)) w.heap.size a0 a1 a2 a3 ∧ (w.alloc (.cells #[.int .u64 a0, .int .u64 a1, .int .u64 a2, .int .u64 a3] 24)).heap.size = w.heap.size + 1) := ⟨(Below.refl _ _).alloc (by omega) _, Box.new w 24 a0 a1 a2 a3, by simp⟩
  clear ha hX
  go_enter Tryz.func103, Tryz.ntmps103
  go_upto_region 1 with (refine alloc256 rfl rfl ?_; intro W0 hW0)
  generalize w.alloc (.cells #[.int .u64 a0, .int .u64 a1, .int .u64 a2, .int .u64 a3] 24) = V0 at *
  have K0 : Hid (Below w.heap.size w W0 ∧ Box W0 w.heap.size a0 a1 a2 a3 ∧ RowI W0 (w.heap.size + 1) 256 (fun _ => 0)) := by
    obtain ⟨b1, b2, b3⟩ := B0.out
    exact ⟨b1.trans (hW0.bel.mono b1.size), b2.below hW0.bel b2.lt, by rw [← b3]; exact hW0.row⟩
  rw [B0.out.2.2]
  clear B0 hW0
  obtain ⟨c0, c1, c2, c3, _⟩ := Box.facts K0.out.2.1
  go_upto_region 2 with (go_at_call 79; refine (OA.out _).mono ?_; rintro e v1 ⟨rv, rfl, hrow, hB⟩)
  have K1 : Hid (Below w.heap.size w v1 ∧ RowI v1 (w.heap.size + 1) 256 (fun _ => 0) ∧ RowAt v1 rv 32 (dig X)) := ⟨K0.out.1.trans (hB.mono K0.out.1.size), K0.out.2.2.past hB, hrow⟩
  clear K0 hrow hB c0 c1 c2 c3 OA
  go_wp2_with (refine alloc256 rfl rfl ?_; intro W2 hW2)
  have K2 : Hid (RowI W2 v1.heap.size 256 (upto (bitf X) 0) ∧ Below v1.heap.size v1 W2) := ⟨hW2.row.ext (fun i _ => by unfold upto; rw [if_neg (by omega)]), hW2.bel⟩
  clear hW2
  obtain ⟨l, el⟩ : ∃ l, v1.heap.size = l := ⟨_, rfl⟩
  have EL : Hid (v1.heap.size = l) := el
  rw [el] at K2 ⊢
  clear el
  go_loopw [5] (fun s wr => ∃ k : Nat, s = .int .i64 (k : Int) ∧ k ≤ 256 ∧ RowI wr l 256 (upto (bitf X) k) ∧ Below l v1 wr) (fun s _ => 256 - (intOf s).toNat)
  case atStart => exact ⟨0, rfl, by omega, K2.out.1, K2.out.2⟩
  case round =>
    obtain ⟨k, rfl, hk, hR, hB⟩ := hrel
    clear K2
    have HR : Hid (RowI wr l 256 (upto (bitf X) k)) := hR
    have HB : Hid (Below l v1 wr) := hB
    clear hR hB
    by_cases hk5 : k < 256
    · have kI : (k : Int) < 256 := by omega
      obtain ⟨y, ey⟩ : ∃ y, bitf X k = y := ⟨_, rfl⟩
      have BT : Hid (Calls Tryz.prog 132 #[rv, .int .i64 (k : Int)] wr fun e w' => e = .returned (.int .i64 (y : Int)) ∧ w' = wr) := by
        have h := bit_is wr rv 32 (dig X) (K1.out.2.2.below (by rw [EL.out]; exact HB.out)) k (by omega)
        rw [dig_bitf X k hk5, ey] at h
        exact h
      have N1 : Hid (RowI (wr.setCell ⟨l, k, none⟩ (.int .i64 (y : Int))) l 256 (upto (bitf X) (k + 1)) ∧ Below l v1 (wr.setCell ⟨l, k, none⟩ (.int .i64 (y : Int)))) := by
        refine ⟨?_, HB.out.setCell (Nat.le_refl _) _⟩
        rw [← upto_set, ey]
        exact RowI.set HR.out k y
      have cz := (HR.out k hk5).1
      have fz := (HR.out k hk5).2
      clear ey
      go_wp2_with (go_at_call 132; refine Calls.mono BT.out ?_; rintro e w' ⟨rfl, hw⟩; (have hw2 := hw.symm); clear hw; subst hw2)
      go_roundw
      case rel => exact ⟨k + 1, by go_num, by omega, N1.out.1, N1.out.2⟩
      case measure => simp [intOf]; omega
    · obtain rfl : k = 256 := by omega
      have R1 : Hid (RowI wr (w.heap.size + 1) 256 (fun _ => 0)) := K1.out.2.1.past (by rw [EL.out]; exact HB.out)
      have R2 : Hid (RowI wr l 256 (bitf X)) := HR.out.ext (fun i hi => by unfold upto; rw [if_pos hi])
      have B3 : Hid (Below w.heap.size w wr) := by
        have := K1.out.1.size
        exact K1.out.1.trans (HB.out.mono (by have := EL.out; omega))
      clear HR HB K1
      go_wp2_with (first
        | (refine load256 (bitf X) l rfl _ rfl rfl R2.out ?_)
        | (refine store256 (bitf X) (w.heap.size + 1) rfl _ _ rfl rfl rfl R1.out.there ?_))
      refine bodyPost_ret (v := .agg (intsD (bitf X) 256).toArray) ?_ rfl ⟨rfl, below_setCells _ (by omega) _ _ _ B3.out⟩
      exact results_c Tryz.results103 _ _ _ ⟨w.heap.size + 1, 0, none⟩ rfl (loadVar256 R1.out.of_range)
end Go.Proofs.YtpadpmkfhljiiaaGreat
/- The document's division of rows. -/
namespace Go.Proofs.YtpadpmkfhljiiaaGreat
open Go.RowKit
/-- what the document's 'divide' gives -/
def RDivRes (A B n m : Nat) (w : World) (r : Ending) (w' : World) : Prop := ∃ (q x : Value) (f g : Nat → Nat) (L : Nat), r = .returned (.tuple #[q, x]) ∧ RowAt w' q n f ∧ dsum f n = A / B ∧ RowAt w' x L g ∧ L ≤ m + 2 ∧ dsum g L = A % B ∧ Below w.heap.size w w'
set_option maxHeartbeats 4000000 in
set_option maxRecDepth 100000 in
theorem rdivide_is (w : World) (v u : Value) (n m : Nat) (d e : Nat → Nat) (hv : RowAt w v n d) (hu : RowAt w u m e) (hn : n ≤ 100) (hm : m ≤ 100) (A B : Nat) (hA : dsum d n = A) (hB : dsum e m = B) (hB0 : 0 < B) :
    Calls Tryz.prog 89 #[v, u] w (RDivRes A B n m w) := by
  have HV : Hid (RowAt w v n d) := hv
  have HU : Hid (RowAt w u m e) := hu
  have HA : Hid (dsum d n = A) := hA
  have HBB : Hid (dsum e m = B ∧ 0 < B) := ⟨hB, hB0⟩
  have HD : Hid (∀ i, d i < 256) := hv.2.1
  have HE : Hid (∀ i, e i < 256) := hu.2.1
  obtain ⟨_, _, _, ad, cap, rfl, _⟩ := hv
  obtain ⟨_, _, _, bd, cap', rfl, _⟩ := hu
  obtain ⟨i0, hi, hz0, hz1, hz2⟩ := info_parts Tryz.infoI
  have nI : (n : Int) ≤ 100 := by omega
  have mI : (m : Int) ≤ 100 := by omega
  obtain ⟨m2, em2⟩ : ∃ m2, m2 = m + 2 := ⟨_, rfl⟩
  have m2I : (m : Int) + 2 = (m2 : Int) := by omega
  have m2w : IntKind.i64.wrap (m2 : Int) = (m2 : Int) := by rw [IntKind.wrap_i64]; omega
  have EM2 : Hid (m2 = m + 2) := em2
  clear hA hB hB0 em2
  go_enter Tryz.func89, Tryz.ntmps89
  go_upto_region 2 with (at_make; refine wpList_make_full _ rfl _ _ 61 rfl w.heap.size 3 i0 (.int .i64 0) 1 Tryz.underlying61 hi hz0 hz1 .i64 .i64 _ _ n rfl rfl rfl rfl (by rw [hz2]; omega) (by unfold maxLen; omega) (Nat.le_refl _) ?_; intro v1 hown hgrow; (have R1 : Hid (RowI v1 w.heap.size n (fun _ => 0)) := RowI.made hown); (have B1 : Hid (Below w.heap.size w v1) := Below.grown (Below.refl _ _) hgrow (Nat.le_refl _) (fun k h => by cases h)); (have L1 : Hid (w.heap.size < v1.heap.size) := (hown.lt _ rfl).2); clear hown hgrow)
  have W1 : Hid (Rw w (.slice ad n cap) (.slice bd m cap') n m d e w.heap.size (fun _ => 0) (.slice none 0 0) 0 (fun _ => 0) v1) := ⟨B1.out, HV.out.below B1.out, HU.out.below B1.out, RowAt.nil v1, R1.out, L1.out⟩
  generalize hgq : w.heap.size = gq at W1 R1 L1 ⊢
  have GQ : Hid (w.heap.size = gq) := hgq
  rw [← hgq] at W1
  clear hgq R1 B1 L1
  go_wp2
  go_loopw [7, 8] (fun s7 s8 wx => ∃ (j : Nat) (f g : Nat → Nat) (L : Nat), j ≤ 8 * n ∧ s8 = .int .i64 ((j : Int) - 1) ∧ L ≤ m + 2 ∧ Rd A B n j f (dsum g L) ∧ Rw w (.slice ad n cap) (.slice bd m cap') n m d e gq f s7 L g wx) (fun _ s8 _ => (intOf s8 + 1).toNat)
  case atStart => exact ⟨8 * n, fun _ => 0, fun _ => 0, 0, by omega, by first | rfl | go_num | (congr 1; omega), by omega, Rd.start (by rw [← HA.out]; exact dsum_lt HD.out n), by have h := W1.out; rw [GQ.out] at h; exact h⟩
  case round =>
    obtain ⟨j, f, g, L, hj, rfl, hL, hR, hW⟩ := hrel
    clear W1
    have RD : Hid _ := hR
    have WW : Hid _ := hW
    clear hR hW
    rcases j with _ | j
    · go_wp2
      go_ret2
      obtain ⟨h1, h2⟩ := RD.out.fin
      exact ⟨_, _, _, g, L, rfl, RowAt.ofRowI WW.out.qv RD.out.lt (by omega), by rw [cutD_same]; exact h1, WW.out.rv, hL, h2, WW.out.bel⟩
    · rw [show ((j + 1 : Nat) : Int) - 1 = (j : Int) by omega]
      have jI : (0 : Int) ≤ (j : Int) := by omega
      have jL : (j : Int) ≤ 800 := by omega
      have PL : Hid _ := plus_is wr _ _ L L g g WW.out.rv WW.out.rv (by omega) (by omega) L (by omega)
      go_upto_region 7 with (go_at_call 78; refine Calls.mono PL.out ?_; rintro e1 w1 ⟨x1, f1, rfl, h1, hs1, hB1⟩; (have W1 : Hid (Rw w (.slice ad n cap) (.slice bd m cap') n m d e gq f x1 (L + 1) f1 w1) := WW.out.past hB1 h1); (have S1 : Hid (dsum f1 (L + 1) = 2 * dsum g L) := (by unfold Hid; omega)); clear h1 hs1 hB1)
      clear PL WW
      obtain ⟨b, eb⟩ : ∃ b, b = d (j / 8) / 2 ^ (j % 8) % 2 := ⟨_, rfl⟩
      have b1 : b ≤ 1 := by omega
      have BT : Hid (Calls Tryz.prog 132 #[.slice ad n cap, .int .i64 (j : Int)] w1 fun e w' => e = .returned (.int .i64 (b : Int)) ∧ w' = w1) := by rw [eb]; exact bit_is w1 _ n d W1.out.av j (by omega)
      have EB : Hid (b = A / 2 ^ j % 2) := by unfold Hid; rw [eb, ← HA.out, dsum_bit HD.out n j (by omega)]
      clear eb
      rcases Nat.lt_or_ge b 1 with hb0 | hb0
      · obtain rfl : b = 0 := by omega
        have S2 : Hid (dsum f1 (L + 1) = 2 * dsum g L + 0) := S1.out
        go_upto_region 9 with (go_at_call 132; refine Calls.mono BT.out ?_; rintro e1 w' ⟨rfl, hw⟩; (have hw2 := hw.symm); clear hw; subst hw2)
        clear BT S1
        have CU : Hid _ := cut_is w1 _ (L + 1) f1 W1.out.rv m2 (by omega)
        go_upto_region 10 with (go_at_call 133; refine Calls.mono CU.out ?_; rintro e1 w3 ⟨x3, rfl, h3, hB3⟩; (have W3 : Hid (Rw w (.slice ad n cap) (.slice bd m cap') n m d e gq f x3 (min m2 (L + 1)) (cutD f1 m2) w3) := W1.out.past hB3 h3); clear h3 hB3)
        have S3 : Hid (dsum (cutD f1 m2) (min m2 (L + 1)) = 2 * dsum g L + 0) := by
          have h1 := RD.out.rlt HBB.out.2
          have h2 := dsum_lt HE.out m
          have h4 : 256 ^ m2 = 65536 * 256 ^ m := by rw [EM2.out, Nat.pow_add]; omega
          unfold Hid
          rw [dsum_cut W1.out.rv.2.1 (L + 1) m2 (by rw [S2.out]; have := HBB.out.1; omega)]
          exact S2.out
        obtain ⟨L3, eL3⟩ : ∃ L3, min m2 (L + 1) = L3 := ⟨_, rfl⟩
        have hL3 : L3 ≤ m2 := by omega
        rw [eL3] at W3 S3
        generalize cutD f1 m2 = g3 at W3 S3
        clear CU W1 S2 eL3
        obtain ⟨R', eR'⟩ : ∃ R', R' = 2 * dsum g L + 0 := ⟨_, rfl⟩
        have ER : Hid (R' = 2 * dsum g L + 0) := eR'
        rw [← eR'] at S3
        clear eR'
        have CM : Hid (Calls Tryz.prog 118 #[x3, .slice bd m cap'] w3 fun r w' => r = .returned (.int .i64 (cmpv (R' : Int) (B : Int))) ∧ w' = w3) := by
          have h := compare_is w3 _ _ L3 m g3 e W3.out.rv W3.out.bv m2 (by have := EM2.out; omega)
          rw [W3.out.rv.more m2 hL3, S3.out, W3.out.bv.more m2 (by have := EM2.out; omega), HBB.out.1] at h
          exact h
        by_cases hge : B ≤ R'
        · obtain ⟨cv, ecv, hcv⟩ : ∃ cv : Int, cmpv (R' : Int) (B : Int) = cv ∧ 0 ≤ cv := ⟨_, rfl, by unfold cmpv; rw [if_neg (by omega)]; split <;> omega⟩
          rw [ecv] at CM
          clear ecv
          obtain ⟨K, eK⟩ : ∃ K, K = max L3 m := ⟨_, rfl⟩
          have MI : Hid _ := minus_is w3 _ _ L3 m g3 e W3.out.rv W3.out.bv (by omega) (by omega) K eK (by rw [W3.out.rv.more K (by omega), W3.out.bv.more K (by omega), S3.out, HBB.out.1]; exact hge)
          have EK : Hid (dsum g3 K = R' ∧ dsum e K = B ∧ K ≤ m + 2) := ⟨by rw [W3.out.rv.more K (by omega), S3.out], by rw [W3.out.bv.more K (by omega), HBB.out.1], by have := EM2.out; omega⟩
          clear eK
          go_upto_region 12 with (first
            | (go_at_call 118; refine Calls.mono CM.out ?_; rintro e1 w' ⟨rfl, hw⟩; (have hw2 := hw.symm); clear hw; subst hw2)
            | (go_at_call 81; refine Calls.mono MI.out ?_; rintro e1 w4 ⟨x4, f4, rfl, h4, hs4, hab, hB4⟩; (have AB : Hid (Above x4 w3.heap.size ∧ gq < w3.heap.size) := ⟨hab, W3.out.ql⟩); (have W4 : Hid (Rw w (.slice ad n cap) (.slice bd m cap') n m d e gq f x4 K f4 w4) := W3.out.past hB4 h4); (have S4 : Hid (dsum f4 K = R' - B) := (by have := EK.out; unfold Hid; omega)); clear h4 hs4 hB4 hab))
          clear CM MI W3 S3 hcv
          obtain ⟨t, et⟩ : ∃ t : Nat, t = j % 8 := ⟨_, rfl⟩
          obtain ⟨o, eo⟩ : ∃ o : Nat, o = j / 8 := ⟨_, rfl⟩
          have t1 : Int.tmod (j : Int) 8 = (t : Int) := by rw [Int.tmod_eq_emod_of_nonneg (by omega)]; omega
          have t2 : Int.tdiv (j : Int) 8 = (o : Int) := by rw [Int.tdiv_eq_ediv_of_nonneg (by omega)]; omega
          have tw : IntKind.i64.wrap (t : Int) = (t : Int) := by rw [IntKind.wrap_i64]; omega
          have ow : IntKind.i64.wrap (o : Int) = (o : Int) := by rw [IntKind.wrap_i64]; omega
          have t8 : t < 8 := by omega
          have oN : o < n := by omega
          have oI : (o : Int) < (n : Int) := by omega
          have HT : Hid (t = j % 8 ∧ o = j / 8) := ⟨et, eo⟩
          clear et eo
          go_wp2
          go_loopw [9, 10] (fun s9 s10 wx => ∃ k p : Nat, k ≤ t ∧ p = 2 ^ k ∧ s9 = .int .i64 (p : Int) ∧ s10 = .int .i64 (k : Int) ∧ wx = w4) (fun _ s10 _ => t - (intOf s10).toNat)
          case atStart => exact ⟨0, 1, by omega, rfl, rfl, rfl, rfl⟩
          case round =>
            obtain ⟨k, p, hk, hp, rfl, rfl, hw⟩ := hrel
            have hw2 := hw.symm
            clear hw
            subst hw2
            have p256 : p ≤ 128 := by rw [hp]; exact Nat.le_trans (Nat.pow_le_pow_right (by decide) (show k ≤ 7 by omega)) (by decide)
            have pI : (p : Int) ≤ 128 := by omega
            have HP : Hid (p = 2 ^ k) := hp
            clear hp
            by_cases hkt : k < t
            · have kI : (k : Int) < (t : Int) := by omega
              obtain ⟨p', ep'⟩ : ∃ p' : Nat, p' = 2 * p := ⟨_, rfl⟩
              have q1 : (2 : Int) * (p : Int) = (p' : Int) := by omega
              have q2 : IntKind.i64.wrap (p' : Int) = (p' : Int) := by rw [IntKind.wrap_i64]; omega
              have EP : Hid (p' = 2 ^ (k + 1)) := by unfold Hid; rw [ep', HP.out, Nat.pow_succ]; omega
              clear ep'
              go_wp2
              go_roundw
              case rel => exact ⟨k + 1, p', by omega, EP.out, rfl, by go_num, trivial⟩
              case measure => simp [intOf]; omega
            · obtain rfl : k = t := by omega
              have cq := (W4.out.qv o oN).1
              have fq := (W4.out.qv o oN).2
              have hf := RD.out.lt o
              obtain ⟨y, ey⟩ : ∃ y, f o = y := ⟨_, rfl⟩
              rw [ey] at cq hf
              obtain ⟨s, es⟩ : ∃ s : Nat, s = y + p := ⟨_, rfl⟩
              have s1 : (y : Int) + (p : Int) = (s : Int) := by omega
              have s2 : IntKind.i64.wrap (s : Int) = (s : Int) := by rw [IntKind.wrap_i64]; omega
              have RN : Hid (Rd A B n j (setD f o s) (dsum f4 K)) := by
                obtain ⟨e1, e2⟩ := HT.out
                have h := RD.out.yes HBB.out.2 (by omega) EB.out (by rw [← ER.out]; exact hge)
                rw [← e1, ← e2, ey, ← HP.out, ← es, ← ER.out] at h
                unfold Hid
                rw [S4.out]; exact h
              have WN : Hid (Rw w (.slice ad n cap) (.slice bd m cap') n m d e gq (setD f o s) x4 K f4 (w4.setCell ⟨gq, o, none⟩ (.int .i64 (s : Int)))) := W4.out.put HV.out HU.out o s _ GQ.out AB.out.1 AB.out.2
              clear ey es W4 hf
              go_wp2
              go_roundw
              case rel => exact ⟨j, setD f o s, f4, K, by omega, rfl, EK.out.2.2, RN.out, WN.out⟩
              case measure => simp [intOf]
        · obtain ⟨cv, ecv, hcv⟩ : ∃ cv : Int, cmpv (R' : Int) (B : Int) = cv ∧ cv < 0 := ⟨_, rfl, by unfold cmpv; rw [if_pos (by omega)]; omega⟩
          rw [ecv] at CM
          clear ecv
          have RN : Hid (Rd A B n j f (dsum g3 L3)) := by unfold Hid; rw [S3.out, ER.out]; exact RD.out.no HBB.out.2 EB.out (by rw [← ER.out]; omega)
          have cn : ¬ (0 : Int) ≤ cv := by omega
          go_wp2_with (go_at_call 118; refine Calls.mono CM.out ?_; rintro e1 w' ⟨rfl, hw⟩; (have hw2 := hw.symm); clear hw; subst hw2)
          go_roundw
          case rel => exact ⟨j, f, g3, L3, by omega, rfl, by have := EM2.out; omega, RN.out, W3.out⟩
          case measure => simp [intOf]
      · obtain rfl : b = 1 := by omega
        go_upto_region 8 with (go_at_call 132; refine Calls.mono BT.out ?_; rintro e1 w' ⟨rfl, hw⟩; (have hw2 := hw.symm); clear hw; subst hw2)
        clear BT
        go_upto_region 9 with (first
          | (go_at_call 108; refine (small1_is _).mono ?_; rintro e1 w5 ⟨x5, rfl, h5, hB5⟩; (have W5 : Hid (Rw w (.slice ad n cap) (.slice bd m cap') n m d e gq f x1 (L + 1) f1 w5) := W1.out.past hB5 (W1.out.rv.below hB5)); (have O5 : Hid (RowAt w5 x5 1 oneD) := h5); clear h5 hB5)
          | (go_at_call 78; refine (plus_is w5 _ _ (L + 1) 1 f1 oneD W5.out.rv O5.out (by omega) (by omega) (L + 1) (by omega)).mono ?_; rintro e1 w6 ⟨x6, f6, rfl, h6, hs6, hB6⟩; (have W6 : Hid (Rw w (.slice ad n cap) (.slice bd m cap') n m d e gq f x6 (L + 1 + 1) f6 w6) := W5.out.past hB6 h6); (have S6 : Hid (dsum f6 (L + 1 + 1) = 2 * dsum g L + 1) := (by have h7 := one_sum (L + 1) (by omega); have h8 := S1.out; unfold Hid; omega)); clear h6 hs6 hB6))
        clear W1 W5 O5 S1
        have CU : Hid _ := cut_is w6 _ (L + 1 + 1) f6 W6.out.rv m2 (by omega)
        go_upto_region 10 with (go_at_call 133; refine Calls.mono CU.out ?_; rintro e1 w3 ⟨x3, rfl, h3, hB3⟩; (have W3 : Hid (Rw w (.slice ad n cap) (.slice bd m cap') n m d e gq f x3 (min m2 (L + 1 + 1)) (cutD f6 m2) w3) := W6.out.past hB3 h3); clear h3 hB3)
        have S3 : Hid (dsum (cutD f6 m2) (min m2 (L + 1 + 1)) = 2 * dsum g L + 1) := by
          have h1 := RD.out.rlt HBB.out.2
          have h2 := dsum_lt HE.out m
          have h4 : 256 ^ m2 = 65536 * 256 ^ m := by rw [EM2.out, Nat.pow_add]; omega
          unfold Hid
          rw [dsum_cut W6.out.rv.2.1 (L + 1 + 1) m2 (by rw [S6.out]; have := HBB.out.1; omega)]
          exact S6.out
        obtain ⟨L3, eL3⟩ : ∃ L3, min m2 (L + 1 + 1) = L3 := ⟨_, rfl⟩
        have hL3 : L3 ≤ m2 := by omega
        rw [eL3] at W3 S3
        generalize cutD f6 m2 = g3 at W3 S3
        clear CU W6 S6 eL3
        obtain ⟨R', eR'⟩ : ∃ R', R' = 2 * dsum g L + 1 := ⟨_, rfl⟩
        have ER : Hid (R' = 2 * dsum g L + 1) := eR'
        rw [← eR'] at S3
        clear eR'
        have CM : Hid (Calls Tryz.prog 118 #[x3, .slice bd m cap'] w3 fun r w' => r = .returned (.int .i64 (cmpv (R' : Int) (B : Int))) ∧ w' = w3) := by
          have h := compare_is w3 _ _ L3 m g3 e W3.out.rv W3.out.bv m2 (by have := EM2.out; omega)
          rw [W3.out.rv.more m2 hL3, S3.out, W3.out.bv.more m2 (by have := EM2.out; omega), HBB.out.1] at h
          exact h
        by_cases hge : B ≤ R'
        · obtain ⟨cv, ecv, hcv⟩ : ∃ cv : Int, cmpv (R' : Int) (B : Int) = cv ∧ 0 ≤ cv := ⟨_, rfl, by unfold cmpv; rw [if_neg (by omega)]; split <;> omega⟩
          rw [ecv] at CM
          clear ecv
          obtain ⟨K, eK⟩ : ∃ K, K = max L3 m := ⟨_, rfl⟩
          have MI : Hid _ := minus_is w3 _ _ L3 m g3 e W3.out.rv W3.out.bv (by omega) (by omega) K eK (by rw [W3.out.rv.more K (by omega), W3.out.bv.more K (by omega), S3.out, HBB.out.1]; exact hge)
          have EK : Hid (dsum g3 K = R' ∧ dsum e K = B ∧ K ≤ m + 2) := ⟨by rw [W3.out.rv.more K (by omega), S3.out], by rw [W3.out.bv.more K (by omega), HBB.out.1], by have := EM2.out; omega⟩
          clear eK
          go_upto_region 12 with (first
            | (go_at_call 118; refine Calls.mono CM.out ?_; rintro e1 w' ⟨rfl, hw⟩; (have hw2 := hw.symm); clear hw; subst hw2)
            | (go_at_call 81; refine Calls.mono MI.out ?_; rintro e1 w4 ⟨x4, f4, rfl, h4, hs4, hab, hB4⟩; (have AB : Hid (Above x4 w3.heap.size ∧ gq < w3.heap.size) := ⟨hab, W3.out.ql⟩); (have W4 : Hid (Rw w (.slice ad n cap) (.slice bd m cap') n m d e gq f x4 K f4 w4) := W3.out.past hB4 h4); (have S4 : Hid (dsum f4 K = R' - B) := (by have := EK.out; unfold Hid; omega)); clear h4 hs4 hB4 hab))
          clear CM MI W3 S3 hcv
          obtain ⟨t, et⟩ : ∃ t : Nat, t = j % 8 := ⟨_, rfl⟩
          obtain ⟨o, eo⟩ : ∃ o : Nat, o = j / 8 := ⟨_, rfl⟩
          have t1 : Int.tmod (j : Int) 8 = (t : Int) := by rw [Int.tmod_eq_emod_of_nonneg (by omega)]; omega
          have t2 : Int.tdiv (j : Int) 8 = (o : Int) := by rw [Int.tdiv_eq_ediv_of_nonneg (by omega)]; omega
          have tw : IntKind.i64.wrap (t : Int) = (t : Int) := by rw [IntKind.wrap_i64]; omega
          have ow : IntKind.i64.wrap (o : Int) = (o : Int) := by rw [IntKind.wrap_i64]; omega
          have t8 : t < 8 := by omega
          have oN : o < n := by omega
          have oI : (o : Int) < (n : Int) := by omega
          have HT : Hid (t = j % 8 ∧ o = j / 8) := ⟨et, eo⟩
          clear et eo
          go_wp2
          go_loopw [9, 10] (fun s9 s10 wx => ∃ k p : Nat, k ≤ t ∧ p = 2 ^ k ∧ s9 = .int .i64 (p : Int) ∧ s10 = .int .i64 (k : Int) ∧ wx = w4) (fun _ s10 _ => t - (intOf s10).toNat)
          case atStart => exact ⟨0, 1, by omega, rfl, rfl, rfl, rfl⟩
          case round =>
            obtain ⟨k, p, hk, hp, rfl, rfl, hw⟩ := hrel
            have hw2 := hw.symm
            clear hw
            subst hw2
            have p256 : p ≤ 128 := by rw [hp]; exact Nat.le_trans (Nat.pow_le_pow_right (by decide) (show k ≤ 7 by omega)) (by decide)
            have pI : (p : Int) ≤ 128 := by omega
            have HP : Hid (p = 2 ^ k) := hp
            clear hp
            by_cases hkt : k < t
            · have kI : (k : Int) < (t : Int) := by omega
              obtain ⟨p', ep'⟩ : ∃ p' : Nat, p' = 2 * p := ⟨_, rfl⟩
              have q1 : (2 : Int) * (p : Int) = (p' : Int) := by omega
              have q2 : IntKind.i64.wrap (p' : Int) = (p' : Int) := by rw [IntKind.wrap_i64]; omega
              have EP : Hid (p' = 2 ^ (k + 1)) := by unfold Hid; rw [ep', HP.out, Nat.pow_succ]; omega
              clear ep'
              go_wp2
              go_roundw
              case rel => exact ⟨k + 1, p', by omega, EP.out, rfl, by go_num, trivial⟩
              case measure => simp [intOf]; omega
            · obtain rfl : k = t := by omega
              have cq := (W4.out.qv o oN).1
              have fq := (W4.out.qv o oN).2
              have hf := RD.out.lt o
              obtain ⟨y, ey⟩ : ∃ y, f o = y := ⟨_, rfl⟩
              rw [ey] at cq hf
              obtain ⟨s, es⟩ : ∃ s : Nat, s = y + p := ⟨_, rfl⟩
              have s1 : (y : Int) + (p : Int) = (s : Int) := by omega
              have s2 : IntKind.i64.wrap (s : Int) = (s : Int) := by rw [IntKind.wrap_i64]; omega
              have RN : Hid (Rd A B n j (setD f o s) (dsum f4 K)) := by
                obtain ⟨e1, e2⟩ := HT.out
                have h := RD.out.yes HBB.out.2 (by omega) EB.out (by rw [← ER.out]; exact hge)
                rw [← e1, ← e2, ey, ← HP.out, ← es, ← ER.out] at h
                unfold Hid
                rw [S4.out]; exact h
              have WN : Hid (Rw w (.slice ad n cap) (.slice bd m cap') n m d e gq (setD f o s) x4 K f4 (w4.setCell ⟨gq, o, none⟩ (.int .i64 (s : Int)))) := W4.out.put HV.out HU.out o s _ GQ.out AB.out.1 AB.out.2
              clear ey es W4 hf
              go_wp2
              go_roundw
              case rel => exact ⟨j, setD f o s, f4, K, by omega, rfl, EK.out.2.2, RN.out, WN.out⟩
              case measure => simp [intOf]
        · obtain ⟨cv, ecv, hcv⟩ : ∃ cv : Int, cmpv (R' : Int) (B : Int) = cv ∧ cv < 0 := ⟨_, rfl, by unfold cmpv; rw [if_pos (by omega)]; omega⟩
          rw [ecv] at CM
          clear ecv
          have RN : Hid (Rd A B n j f (dsum g3 L3)) := by unfold Hid; rw [S3.out, ER.out]; exact RD.out.no HBB.out.2 EB.out (by rw [← ER.out]; omega)
          have cn : ¬ (0 : Int) ≤ cv := by omega
          go_wp2_with (go_at_call 118; refine Calls.mono CM.out ?_; rintro e1 w' ⟨rfl, hw⟩; (have hw2 := hw.symm); clear hw; subst hw2)
          go_roundw
          case rel => exact ⟨j, f, g3, L3, by omega, rfl, by have := EM2.out; omega, RN.out, W3.out⟩
          case measure => simp [intOf]
end Go.Proofs.YtpadpmkfhljiiaaGreat
/- The document's Exp. -/
namespace Go.Proofs.YtpadpmkfhljiiaaGreat
open Go.RowKit
theorem pow_mod_int (x m : Int) : ∀ n : Nat, (x % m) ^ n % m = x ^ n % m
  | 0 => by simp
  | n + 1 => by rw [Int.pow_succ, Int.pow_succ, Int.mul_emod, pow_mod_int x m n, Int.emod_emod_of_dvd _ (Int.dvd_refl m), ← Int.mul_emod]
theorem MM_nat : ((256 ^ 32 : Nat) : Int) = MM := by decide
/-- a product, cut to a word's digits -/
theorem tcut_is (w : World) (v u : Value) (n m : Nat) (d e : Nat → Nat) (hv : RowAt w v n d) (hu : RowAt w u m e) (hn : n ≤ 32) (hm : m ≤ 32) :
    Calls Tryz.prog 85 #[v, u] w fun r w' => ∃ x, r = .returned x ∧ Below w.heap.size w w' ∧
      ∀ W, Below w'.heap.size w' W → Calls Tryz.prog 133 #[x, .int .i64 32] W fun r w' => ∃ y k f, r = .returned y ∧ k ≤ 32 ∧ RowAt w' y k f ∧ dsum f k = dsum d n * dsum e m % 256 ^ 32 ∧ Below W.heap.size W w' := by
  refine (times_is w v u n m d e hv hu (by omega) (by omega)).mono ?_
  rintro r w' ⟨x, f, rfl, hx, hs, hB⟩
  refine ⟨x, rfl, hB, fun W hW => ?_⟩
  refine (cut_is W x (n + m + 1) f (hx.below hW) 32 (by omega)).mono ?_
  rintro r w2 ⟨y, rfl, hy, hB2⟩
  refine ⟨y, _, _, rfl, by omega, hy, ?_, hB2⟩
  have h1 := cutD_sum hx.2.1 (n + m + 1) 32
  rw [hs] at h1
  rw [← h1]
  refine (dsum_more (fun i hi => hy.1 i (by omega)) (n + m + 1) (by omega)).symm
structure RExp (w : World) (a1 a2 : Value) (X Y : Nat) (W : World) : Prop where
  bel : Below w.heap.size w W
  br : Box W (w.heap.size + 1 + 1) 0 0 0 0
  re : RowAt W a1 32 (dig Y)
  ry : RowAt W a2 32 (dig X)
theorem RExp.past {w W W' : World} {a1 a2 : Value} {X Y : Nat} (h : RExp w a1 a2 X Y W) (k : Below W.heap.size W W') : RExp w a1 a2 X Y W' :=
  ⟨h.bel.trans (k.mono h.bel.size), h.br.below k h.br.lt, h.re.below k, h.ry.below k⟩
set_option maxHeartbeats 4000000 in
set_option maxRecDepth 100000 in
theorem rexp_any (x y : Int) (a0 a1 a2 a3 b0 b1 b2 b3 : Int) (w : World) (ha : IsW x a0 a1 a2 a3) (hb : IsW y b0 b1 b2 b3) (Y : Nat) (hY : V b0 b1 b2 b3 = (Y : Int)) :
    Calls Tryz.prog 112 #[.agg #[.int .u64 a0, .int .u64 a1, .int .u64 a2, .int .u64 a3], .agg #[.int .u64 b0, .int .u64 b1, .int .u64 b2, .int .u64 b3]] w fun e w' => ∃ s0 s1 s2 s3 : Int, e = .returned (.agg #[.int .u64 s0, .int .u64 s1, .int .u64 s2, .int .u64 s3]) ∧ IsW (x ^ Y) s0 s1 s2 s3 ∧ Below w.heap.size w w' := by
  obtain ⟨X, hX, eX, lX⟩ := mod_nat ha
  have lY : Y < 256 ^ 32 := by
    obtain ⟨Y', h1, _, h3⟩ := mod_nat hb
    have : Y = Y' := by rw [hY] at h1; omega
    omega
  have OA : Hid (∀ W, Calls Tryz.prog 79 #[.agg #[.int .u64 a0, .int .u64 a1, .int .u64 a2, .int .u64 a3]] W fun e w' => ∃ v, e = .returned v ∧ RowAt w' v 32 (dig X) ∧ Below W.heap.size W w') := fun W => of_is x a0 a1 a2 a3 W ha X hX
  have OB : Hid (∀ W, Calls Tryz.prog 79 #[.agg #[.int .u64 b0, .int .u64 b1, .int .u64 b2, .int .u64 b3]] W fun e w' => ∃ v, e = .returned v ∧ RowAt w' v 32 (dig Y) ∧ Below W.heap.size W w') := fun W => of_is y b0 b1 b2 b3 W hb Y hY
  have EX : Hid ((X : Int) = x % MM) := eX
  have SX : Hid (dsum (dig X) 32 = X) := dig_all X lX
  have I0 : Hid (Below w.heap.size w (((w.alloc (.cells #[.int .u64 a0, .int .u64 a1, .int .u64 a2, .int .u64 a3] 24)).alloc (.cells #[.int .u64 b0, .int .u64 b1, .int .u64 b2, .int .u64 b3] 24)).alloc (.cells #[.int .u64 0, .int .u64 0, .int .u64 0, .int .u64 0] 24))) := by
    unfold Hid; repeat' (first | with_reducible exact Below.refl _ _ | with_reducible exact Below.refl _ _ | with_reducible refine Below.drew ?_ | with_reducible refine bdrewN ?_ _ | with_reducible refine Below.alloc ?_ ?_ _ | with_reducible refine Below.setCell ?_ ?_ _ | omega | (simp; done) | (simp; omega))
  have A0 : Hid (∀ W, W = (((w.alloc (.cells #[.int .u64 a0, .int .u64 a1, .int .u64 a2, .int .u64 a3] 24)).alloc (.cells #[.int .u64 b0, .int .u64 b1, .int .u64 b2, .int .u64 b3] 24)).alloc (.cells #[.int .u64 0, .int .u64 0, .int .u64 0, .int .u64 0] 24)) →
      Box W w.heap.size a0 a1 a2 a3 ∧ Box W (w.heap.size + 1) b0 b1 b2 b3 ∧ Box W (w.heap.size + 1 + 1) 0 0 0 0) := fun W e => by
    subst e
    have h2 := Box.new (w.alloc (.cells #[.int .u64 a0, .int .u64 a1, .int .u64 a2, .int .u64 a3] 24)) 24 b0 b1 b2 b3
    have h3 := Box.new ((w.alloc (.cells #[.int .u64 a0, .int .u64 a1, .int .u64 a2, .int .u64 a3] 24)).alloc (.cells #[.int .u64 b0, .int .u64 b1, .int .u64 b2, .int .u64 b3] 24)) 24 0 0 0 0
    rw [World.size_alloc] at h2 h3
    rw [World.size_alloc] at h3
    exact ⟨((Box.new w 24 a0 a1 a2 a3).alloc _).alloc _, h2.alloc _, h3⟩
  clear ha hb hX hY eX lX
  go_enter Tryz.func112, Tryz.ntmps112
  go_wp2_with fail
  refine (OB.out _).mono ?_
  rintro e v1 ⟨a1', rfl, h1, hB⟩
  obtain ⟨k1, k2, k3⟩ := A0.out _ rfl
  have W1 : Hid (Below w.heap.size w v1) := Below.trans I0.out (hB.mono I0.out.size)
  have BA1 : Hid (Box v1 w.heap.size a0 a1 a2 a3) := k1.below hB k1.lt
  have BR1 : Hid (Box v1 (w.heap.size + 1 + 1) 0 0 0 0) := k3.below hB k3.lt
  have RE1 : Hid (RowAt v1 a1' 32 (dig Y)) := h1
  clear hB k1 k2 k3 h1 A0 I0 OB
  go_wp2_with fail
  refine (small1_is _).mono ?_
  rintro e v2 ⟨s6, rfl, h6, hB⟩
  have W2 : Hid (Below w.heap.size w v2) := Below.trans W1.out (hB.mono W1.out.size)
  have BA2 : Hid (Box v2 w.heap.size a0 a1 a2 a3) := Box.below BA1.out hB (Box.lt BA1.out)
  have BR2 : Hid (Box v2 (w.heap.size + 1 + 1) 0 0 0 0) := Box.below BR1.out hB (Box.lt BR1.out)
  have RE2 : Hid (RowAt v2 a1' 32 (dig Y)) := RowAt.below RE1.out hB
  have R62 : Hid (RowAt v2 s6 1 oneD) := h6
  obtain ⟨c0, c1, c2, c3, _⟩ := Box.facts BA2.out
  clear hB h6 W1 BA1 BR1 RE1
  go_wp2_with fail
  refine (OA.out _).mono ?_
  rintro e v3 ⟨a2', rfl, h2, hB⟩
  have X3 : Hid (RExp w a1' a2' X Y v3) := ⟨Below.trans W2.out (hB.mono W2.out.size), Box.below BR2.out hB (Box.lt BR2.out), RowAt.below RE2.out hB, h2⟩
  have R63 : Hid (RowAt v3 s6 1 oneD) := RowAt.below R62.out hB
  clear hB h2 W2 BA2 BR2 RE2 R62 c0 c1 c2 c3 OA
  go_wp2
  go_loopw [6, 8] (fun sx si wr => ∃ (j n : Nat) (d : Nat → Nat), si = .int .i64 ((j : Int) - 1) ∧ j ≤ 256 ∧ n ≤ 32 ∧ RowAt wr sx n d ∧ dsum d n = X ^ (Y / 2 ^ j) % 256 ^ 32 ∧ RExp w a1' a2' X Y wr) (fun _ si _ => (intOf si + 1).toNat)
  case atStart =>
    refine ⟨256, 1, oneD, rfl, by omega, by omega, R63.out, ?_, X3.out⟩
    have e : (256 ^ 32 : Nat) = 2 ^ 256 := by decide
    rw [Nat.div_eq_of_lt (by rw [← e]; exact lY), Nat.pow_zero, e]
    decide
  case round =>
    obtain ⟨j, n, d, rfl, hj, hn, hR, hs, hX⟩ := hrel
    clear X3 R63
    have RR : Hid (RowAt wr u6 n d) := hR
    have SS : Hid _ := hs
    have XX : Hid (RExp w a1' a2' X Y wr) := hX
    clear hR hs hX
    rcases j with _ | j
    · have WD : Hid _ := word_is wr u6 n d RR.out
      have VS : Hid (∀ s0 s1 s2 s3 : Int, IsW (dsum d 32 : Int) s0 s1 s2 s3 → IsW (x ^ Y) s0 s1 s2 s3) := fun s0 s1 s2 s3 h => h.cong (by
        have h1 : dsum d 32 = dsum d n := dsum_more RR.out.1 32 hn
        have h2 := SS.out
        rw [Nat.pow_zero, Nat.div_one] at h2
        rw [h1, h2, Int.natCast_emod, Int.natCast_pow, MM_nat, Int.emod_emod_of_dvd _ (Int.dvd_refl MM), EX.out, pow_mod_int])
      go_wp2_with fail
      refine Calls.mono WD.out ?_
      rintro e x1 ⟨s0, s1, s2, s3, rfl, hs, hB⟩
      have X1 : Hid (RExp w a1' a2' X Y x1) := RExp.past XX.out hB
      have V1 : Hid (IsW (x ^ Y) s0 s1 s2 s3) := VS.out s0 s1 s2 s3 hs
      clear hs hB WD VS
      obtain ⟨r0, r1, r2, r3, f0, f1, f2, f3⟩ := Box.facts X1.out.br
      go_wp2
      exact bodyPost_ret (v := .agg #[.int .u64 s0, .int .u64 s1, .int .u64 s2, .int .u64 s3]) (by simp [results, Tryz.results112, go_sem, r0, r1, r2, r3]) rfl ⟨s0, s1, s2, s3, rfl, V1.out, below_put X1.out.bel (by omega) _ _ _ _⟩
    · rw [show ((j + 1 : Nat) : Int) - 1 = (j : Int) by omega]
      have jI : (0 : Int) ≤ (j : Int) := by omega
      have T1 : Hid _ := tcut_is wr u6 u6 n n d d RR.out RR.out hn hn
      have hh := half_bit Y j
      have HH : Hid _ := hh
      have db := dig_bit Y j (by omega)
      have DB : Hid _ := db
      clear hh db
      go_wp2_with fail
      refine Calls.mono T1.out ?_
      rintro e x1 ⟨t, rfl, hB, hcut⟩
      have X1 : Hid (RExp w a1' a2' X Y x1) := RExp.past XX.out hB
      have C1 : Hid _ := hcut x1 (Below.refl _ _)
      clear hB hcut T1
      go_wp2_with fail
      refine Calls.mono C1.out ?_
      rintro e x2 ⟨p, k, f, rfl, hk, hp, hsum, hB⟩
      have X2 : Hid (RExp w a1' a2' X Y x2) := RExp.past X1.out hB
      have RP : Hid (RowAt x2 p k f) := hp
      have SP : Hid (dsum f k = X ^ (2 * (Y / 2 ^ (j + 1))) % 256 ^ 32) := by
        unfold Hid
        rw [hsum, SS.out, ← Nat.mul_mod, ← Nat.pow_add, Nat.two_mul]
      have BT : Hid _ := bit_is x2 a1' 32 (dig Y) X2.out.re j (by omega)
      clear hB hp hsum C1 X1 XX RR SS
      go_upto_region 8 with fail
      by_cases hbt : Y.testBit j = true
      · have T2 : Hid _ := tcut_is x2 p a2' k 32 f (dig X) RP.out X2.out.ry hk (by omega)
        have BT2 : Hid (Calls Tryz.prog 132 #[a1', .int .i64 (j : Int)] x2 fun e w' => e = .returned (.int .i64 1) ∧ w' = x2) := by
          have h := BT.out
          rw [DB.out, if_pos hbt] at h; exact h
        clear BT
        go_upto_region 9 with (go_at_call 132; refine Calls.mono BT2.out ?_; rintro e w' ⟨rfl, hw⟩; (have hw2 := hw.symm); clear hw; subst hw2)
        clear BT2
        go_wp2_with fail
        refine Calls.mono T2.out ?_
        rintro e x3 ⟨t2, rfl, hB, hcut⟩
        have X3 : Hid (RExp w a1' a2' X Y x3) := RExp.past X2.out hB
        have C2 : Hid _ := hcut x3 (Below.refl _ _)
        clear hB hcut T2
        go_wp2_with fail
        refine Calls.mono C2.out ?_
        rintro e x4 ⟨p2, k2, f2, rfl, hk2, hp2, hsum, hB⟩
        have X4 : Hid (RExp w a1' a2' X Y x4) := RExp.past X3.out hB
        have RP2 : Hid (RowAt x4 p2 k2 f2) := hp2
        have SP2 : Hid (dsum f2 k2 = X ^ (Y / 2 ^ j) % 256 ^ 32) := by
          unfold Hid
          rw [hsum, SP.out, SX.out, HH.out, if_pos hbt]
          generalize Y / 2 ^ (j + 1) = q
          rw [show X ^ (2 * q + 1) = X ^ (2 * q) * X from Nat.pow_succ _ _, Nat.mod_mul_mod]
        clear hB hp2 hsum C2 X3 X2 RP SP
        go_wp2
        go_roundw
        case rel => exact ⟨j, k2, f2, rfl, by omega, hk2, RP2.out, SP2.out, X4.out⟩
        case measure => simp [intOf]
      · have BT2 : Hid (Calls Tryz.prog 132 #[a1', .int .i64 (j : Int)] x2 fun e w' => e = .returned (.int .i64 0) ∧ w' = x2) := by
          have h := BT.out
          rw [DB.out, if_neg hbt] at h; exact h
        clear BT
        have SP2 : Hid (dsum f k = X ^ (Y / 2 ^ j) % 256 ^ 32) := by
          unfold Hid
          rw [SP.out, HH.out, if_neg hbt]
          generalize Y / 2 ^ (j + 1) = q
          rfl
        go_wp2_with (go_at_call 132; refine Calls.mono BT2.out ?_; rintro e w' ⟨rfl, hw⟩; (have hw2 := hw.symm); clear hw; subst hw2)
        go_roundw
        case rel => exact ⟨j, k, f, rfl, by omega, hk, RP.out, SP2.out, X2.out⟩
        case measure => simp [intOf]
theorem rexp_is (x y : Int) (Y : Nat) (a0 a1 a2 a3 b0 b1 b2 b3 p0 p1 p2 p3 : Int) (w : World) (ha : IsW x a0 a1 a2 a3) (hb : IsW y b0 b1 b2 b3) (hY : V b0 b1 b2 b3 = (Y : Int)) (hp : IsW (x ^ Y) p0 p1 p2 p3) :
    Calls Tryz.prog 112 #[.agg #[.int .u64 a0, .int .u64 a1, .int .u64 a2, .int .u64 a3], .agg #[.int .u64 b0, .int .u64 b1, .int .u64 b2, .int .u64 b3]] w fun e w' => e = .returned (.agg #[.int .u64 p0, .int .u64 p1, .int .u64 p2, .int .u64 p3]) ∧ Below w.heap.size w w' := by
  refine (rexp_any x y a0 a1 a2 a3 b0 b1 b2 b3 w ha hb Y hY).mono ?_
  rintro e w' ⟨s0, s1, s2, s3, rfl, hs, hB⟩
  obtain ⟨rfl, rfl, rfl, rfl⟩ := hs.eq hp rfl
  exact ⟨rfl, hB⟩
end Go.Proofs.YtpadpmkfhljiiaaGreat
