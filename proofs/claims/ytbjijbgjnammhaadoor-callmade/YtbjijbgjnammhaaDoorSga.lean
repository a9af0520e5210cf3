/- Of the texts on the sponge what speaks of no law of stage 2. -/
import Derived.Test.YtbjijbgjnammhaaDoorKe
import Derived.Deep.RegionHeld3
import Derived.Deep.CutRange
import Derived.Deep.DeepCutAuto
import Derived.BigQuiet
import Derived.Lib.SlBytesConst
import Derived.LoopTactic
import Derived.BigRegion
import Derived.Laws.AppendOwnNone
import Derived.OwnWalk
namespace Go.Proofs.YtbjijbgjnammhaaDoor
open Go.RowKit
/-- a hash is laid into a new block -/
theorem store32_new {ops : Array Oper} {rest : List Oper} {op : Oper} {a : Act} {w W : World} {Q : Exit → Act → World → Prop} (g : Nat → Int) (hgd : op.guard = none) (x y : Operand) (ho : op.op = .store 31 x y)
    (hx : a.eval x = .pointer (some ⟨W.heap.size, 0, none⟩)) (hy : a.eval y = .agg (rowB 32 g).toArray) (hB : Below w.heap.size w W)
    (h : ∀ v, RowB v W.heap.size 32 g → Below w.heap.size w v → Below W.heap.size W v → wpList Tryd.prog ops Q rest (a.put op.dst undef) v) :
    wpList Tryd.prog ops Q (op :: rest) a (W.alloc (.cells #[.int .u8 0, .int .u8 0, .int .u8 0, .int .u8 0, .int .u8 0, .int .u8 0, .int .u8 0, .int .u8 0, .int .u8 0, .int .u8 0, .int .u8 0, .int .u8 0, .int .u8 0, .int .u8 0, .int .u8 0, .int .u8 0, .int .u8 0, .int .u8 0, .int .u8 0, .int .u8 0, .int .u8 0, .int .u8 0, .int .u8 0, .int .u8 0, .int .u8 0, .int .u8 0, .int .u8 0, .int .u8 0, .int .u8 0, .int .u8 0, .int .u8 0, .int .u8 0] 31)) := by
  rw [zeroB32]
  have r0 := RowB.new W 31 32 fun _ => 0
  have b0 : Below W.heap.size W (W.alloc (.cells (rowB 32 fun _ => 0).toArray 31)) := (Below.refl _ _).alloc (by omega) _
  refine store32 g W.heap.size hgd x y ho hx hy r0.there (h _ r0.of_range ?_ (below_setCells _ (Nat.le_refl _) _ _ _ b0))
  exact below_setCells _ hB.size _ _ _ (hB.trans (b0.mono hB.size))
theorem load32g {ops : Array Oper} {rest : List Oper} {op : Oper} {a : Act} {w : World} {Q : Exit → Act → World → Prop} (g : Nat → Int) (b : Nat) (x : Operand) (ho : op.op = .load 31 x)
    (hx : a.eval x = .pointer (some ⟨b, 0, none⟩)) (hr : w.rangeAt b 0 (rowB 32 g)) (hgd : Region.wanted op (yielded ops a.tmps) = true)
    (h : wpList Tryd.prog ops Q rest (a.put op.dst (.agg (rowB 32 g).toArray)) w) : wpList Tryd.prog ops Q (op :: rest) a w := by
  rw [wpList, if_pos hgd]
  exact Or.inl (wp_load_mid 31 x ho b 0 hx (rowB 32 g) _ hr Tryd.underlying31 rfl (by rw [rowB_len]; kernel_rfl) h)
def sumF (l : List Nat) : Nat → Int := hashF (endF (absL (zeroK, 0) l).1 (absL (zeroK, 0) l).2)
theorem sumNone (W : World) (hW : Tabs W) : Calls Tryd.prog 7 #[.slice none 0 0] W fun e w' => e = .returned (.agg (rowB 32 (sumF [])).toArray) ∧ Below W.heap.size W w' :=
  sumAll_is W none 0 0 (fun _ => .nilFunc) (fun _ => []) hW (by omega) (fun h => absurd rfl h) (fun i hi => absurd hi (by omega))
theorem sumOne (W : World) (hW : Tabs W) (pb po sb so c1 c2 : Nat) (l : List Nat) (hl : ∀ i, i < l.length → l.getD i 0 < 256) (hn : l.length < 9223372036854775807) (h0 : W.cell? ⟨pb, po, none⟩ = some (.slice (some ⟨sb, so, none⟩) l.length c1)) (h1 : BytesAt W ⟨sb, so, none⟩ l) :
    Calls Tryd.prog 7 #[.slice (some ⟨pb, po, none⟩) 1 c2] W fun e w' => e = .returned (.agg (rowB 32 (sumF l)).toArray) ∧ Below W.heap.size W w' := by
  have := sumAll_is W (some ⟨pb, po, none⟩) 1 c2 (fun _ => .slice (some ⟨sb, so, none⟩) l.length c1) (fun _ => l) hW (by omega) (fun _ => ⟨pb, po, rfl, fun i hi => by rw [show i = 0 by omega]; exact h0⟩)
    (fun i _ => ⟨hl, hn, _, _, rfl, fun _ => ⟨sb, so, rfl, h1⟩⟩)
  rw [show flat (fun _ => l) 1 = l by simp [flat]] at this
  exact this
/-- an array is laid into a new block -/
theorem store25_new {ops : Array Oper} {rest : List Oper} {op : Oper} {a : Act} {w W : World} {Q : Exit → Act → World → Prop} (g : Nat → Int) (hgd : op.guard = none) (x y : Operand) (ho : op.op = .store 36 x y)
    (hx : a.eval x = .pointer (some ⟨W.heap.size, 0, none⟩)) (hy : a.eval y = .agg (rowL 25 g).toArray) (hB : Below w.heap.size w W)
    (h : ∀ v, Row v W.heap.size 25 g → Below w.heap.size w v → Below W.heap.size W v → wpList Tryd.prog ops Q rest (a.put op.dst undef) v) :
    wpList Tryd.prog ops Q (op :: rest) a (W.alloc (.cells #[.int .u64 0, .int .u64 0, .int .u64 0, .int .u64 0, .int .u64 0, .int .u64 0, .int .u64 0, .int .u64 0, .int .u64 0, .int .u64 0, .int .u64 0, .int .u64 0, .int .u64 0, .int .u64 0, .int .u64 0, .int .u64 0, .int .u64 0, .int .u64 0, .int .u64 0, .int .u64 0, .int .u64 0, .int .u64 0, .int .u64 0, .int .u64 0, .int .u64 0] 36)) := by
  rw [zero25]
  have r0 := Row.new W 36 25 fun _ => 0
  have b0 : Below W.heap.size W (W.alloc (.cells (rowL 25 fun _ => 0).toArray 36)) := (Below.refl _ _).alloc (by omega) _
  refine store25 g W.heap.size hgd x y ho hx hy r0.there (h _ r0.of_range ?_ (below_setCells _ (Nat.le_refl _) _ _ _ b0))
  exact below_setCells _ hB.size _ _ _ (hB.trans (b0.mono hB.size))
/-- the load of an array in a region that only reads -/
theorem quiet25 {ops : Array Oper} {rest : List Oper} {op : Oper} {a : Act} {w : World} {Q : Act → Prop} (g : Nat → Int) (b : Nat) (x : Operand) (ho : op.op = .load 36 x)
    (hx : a.eval x = .pointer (some ⟨b, 0, none⟩)) (hr : w.rangeAt b 0 (rowL 25 g)) (hw : Region.wanted op (yielded ops a.tmps) = true)
    (h : wpQuiet Tryd.prog ops (fun w' => ∃ n, w' = w.drewN n) Q rest (a.put op.dst (.agg (rowL 25 g).toArray))) : wpQuiet Tryd.prog ops (fun w' => ∃ n, w' = w.drewN n) Q (op :: rest) a := by
  rw [wpQuiet, if_pos hw]
  refine ⟨_, ?_, h⟩
  rintro w' ⟨n, rfl⟩
  have hl : (loadVar 36 ⟨b, 0, none⟩).run Tryd.prog (w.drewN n) = .ok (.agg (rowL 25 g).toArray) (w.drewN n) := loadVar25 (fun j v hv => hr j v hv)
  unfold Oper.quietAt execOp
  simp only [ho, hx, Instr.loadAt, Instr.sureAddr, Sem.run_bind, Sem.run_pure, Result.andThen_ok, hl]
  exact ⟨rfl, rfl⟩
def bytesL (l : List Nat) : List Value := l.map fun (n : Nat) => .int .u8 (n : Int)
theorem bytes_new (w : World) (t : TypeId) (fr : Nat × Nat) (l : List Nat) : BytesAt (w.alloc (.cells (bytesL l).toArray t fr)) ⟨w.heap.size, 0, none⟩ l := fun i hi => by
  have hh : (w.alloc (.cells (bytesL l).toArray t fr)).heap[w.heap.size]? = some (.cells (bytesL l).toArray t fr) := by
    show (w.heap.push _)[w.heap.size]? = _
    simp
  have := cell_of_row _ _ (0 + i) _ t fr hh
  refine this.trans ?_
  simp [bytesL, hi, List.getD_eq_getElem?_getD]
theorem BytesAt.alloc {w : World} {a : Addr} {l : List Nat} (h : BytesAt w a l) (o : Obj) : BytesAt (w.alloc o) a l := h.below ((Below.refl _ _).alloc (by omega) _)
theorem load32u {ops : Array Oper} {rest : List Oper} {op : Oper} {a : Act} {w : World} {Q : Exit → Act → World → Prop} (g : Nat → Int) (b : Nat) (x : Operand) (ho : op.op = .load 31 x)
    (hx : a.eval x = .pointer (some ⟨b, 0, none⟩)) (hr : w.rangeAt b 0 (rowB 32 g)) (hgd : op.guard = none)
    (h : wpList Tryd.prog ops Q rest (a.put op.dst (.agg (rowB 32 g).toArray)) w) : wpList Tryd.prog ops Q (op :: rest) a w := load32 g b hgd x ho hx hr h
/-- the number of the last m of eight bytes from o on, the lowest first -/
def numN (l : List Nat) (o : Nat) : Nat → Nat
  | 0 => 0
  | m + 1 => numN l o m * 256 + l.getD (o + (7 - m)) 0
theorem numN_lt (l : List Nat) (hl : ∀ i, l.getD i 0 < 256) (o : Nat) : ∀ m, numN l o m < 256 ^ m
  | 0 => by simp [numN]
  | m + 1 => by
    have := numN_lt l hl o m
    have := hl (o + (7 - m))
    rw [numN, Nat.pow_succ]; omega
theorem or_byte (n x : Nat) (hn : n < 256 ^ 7) (hx : x < 256) : bits .or .u64 (IntKind.u64.wrap ((n : Int) * 256)) (x : Int) = ((n * 256 + x : Nat) : Int) := by
  have e : IntKind.u64.wrap ((n : Int) * 256) = ((n * 256 : Nat) : Int) := by rw [IntKind.wrap_u64]; omega
  rw [e, u64_or_nat _ _ (by omega) (by omega)]
  have := Nat.two_pow_add_eq_or_of_lt (i := 8) (b := x) (by omega) n
  rw [Nat.mul_comm n 256]
  exact congrArg _ this.symm
def blockF (f : KSt) (l : List Nat) (o : Nat) : KSt := fun i => if i < 17 then f i ^^^ BitVec.ofNat 64 (numN l (o + 8 * i) 8) else f i
theorem block_val (f : KSt) (l : List Nat) (o i : Nat) (hl : ∀ i, l.getD i 0 < 256) (hi : i < 17) : bits .xor .u64 (iv f i) (numN l (o + 8 * i) 8 : Nat) = iv (blockF f l o) i := by
  have e : ((numN l (o + 8 * i) 8 : Nat) : Int) = ((BitVec.ofNat 64 (numN l (o + 8 * i) 8)).toNat : Int) := by
    rw [BitVec.toNat_ofNat, Nat.mod_eq_of_lt (by have := numN_lt l hl (o + 8 * i) 8; omega)]
  rw [e, iv, xor64, iv, blockF, if_pos hi]
def lowN (l : List Nat) (o : Nat) : Nat → Nat
  | 0 => 0
  | m + 1 => lowN l o m + l.getD (o + m) 0 * 256 ^ m
theorem lowN_lt (l : List Nat) (hl : ∀ i, l.getD i 0 < 256) (o : Nat) : ∀ m, lowN l o m < 256 ^ m
  | 0 => by simp [lowN]
  | m + 1 => by
    have h1 := lowN_lt l hl o m
    have h2 := hl (o + m)
    rw [lowN, Nat.pow_succ]
    have : l.getD (o + m) 0 * 256 ^ m ≤ 255 * 256 ^ m := Nat.mul_le_mul_right _ (by omega)
    omega
theorem numN_low (l : List Nat) (o : Nat) : numN l o 8 = lowN l o 8 := by
  simp only [numN, lowN, Nat.sub_self, Nat.reduceSub, Nat.add_zero, Nat.reducePow]; omega
theorem xor_high (a x r : Nat) (ha : a < 2 ^ r) : a ^^^ (x * 2 ^ r) = a + x * 2 ^ r := by
  apply Nat.eq_of_testBit_eq
  intro j
  rw [Nat.testBit_xor, Nat.mul_comm x, Nat.add_comm, Nat.testBit_two_pow_mul_add _ ha, Nat.testBit_two_pow_mul]
  by_cases h : j < r
  · simp [h, show ¬ r ≤ j by omega]
  · have : a.testBit j = false := Nat.testBit_lt_two_pow (Nat.lt_of_lt_of_le ha (Nat.pow_le_pow_right (by omega) (by omega)))
    simp [h, show r ≤ j by omega, this]
theorem bv_high (a x r : Nat) (hr : r < 8) (ha : a < 256 ^ r) (hx : x < 256) : BitVec.ofNat 64 a ^^^ (BitVec.ofNat 64 x <<< (8 * r)) = BitVec.ofNat 64 (a + x * 256 ^ r) := by
  have e : (256 : Nat) ^ r = 2 ^ (8 * r) := by rw [Nat.pow_mul]
  rw [e] at ha ⊢
  have h8 : 2 ^ (8 * r) * 256 ≤ 2 ^ 64 := by
    rw [show (256 : Nat) = 2 ^ 8 from rfl, ← Nat.pow_add]; exact Nat.pow_le_pow_right (by omega) (by omega)
  have hxx : x * 2 ^ (8 * r) < 2 ^ 64 := by
    have : x * 2 ^ (8 * r) ≤ 255 * 2 ^ (8 * r) := Nat.mul_le_mul_right _ (by omega)
    have : 0 < 2 ^ (8 * r) := Nat.two_pow_pos _
    omega
  have h0 : 0 < 2 ^ (8 * r) := Nat.two_pow_pos _
  apply BitVec.eq_of_toNat_eq
  rw [BitVec.toNat_xor, BitVec.toNat_shiftLeft, BitVec.toNat_ofNat, BitVec.toNat_ofNat, BitVec.toNat_ofNat, Nat.shiftLeft_eq, Nat.mod_mul_mod, Nat.mod_eq_of_lt (show a < 2 ^ 64 by omega), Nat.mod_eq_of_lt hxx, xor_high _ _ _ ha, Nat.mod_eq_of_lt]
  have : (x + 1) * 2 ^ (8 * r) ≤ 256 * 2 ^ (8 * r) := Nat.mul_le_mul_right _ (by omega)
  rw [Nat.add_mul] at this
  omega
/-- the lanes behind the first p bytes of a block -/
def partF (f : KSt) (l : List Nat) (o p : Nat) : KSt := fun i => f i ^^^ BitVec.ofNat 64 (lowN l (o + 8 * i) (min 8 (p - 8 * i)))
theorem part_zero (f : KSt) (l : List Nat) (o : Nat) : partF f l o 0 = f := by
  funext i; simp [partF, lowN]
theorem part_step (f : KSt) (l : List Nat) (hl : ∀ i, l.getD i 0 < 256) (o p : Nat) : layF (partF f l o p) p (l.getD (o + p) 0) = partF f l o (p + 1) := by
  funext i
  simp only [layF, partF]
  by_cases h : i = p / 8
  · rw [if_pos h, BitVec.xor_assoc, show min 8 (p - 8 * i) = p % 8 by omega, show min 8 (p + 1 - 8 * i) = p % 8 + 1 by omega, bv_high _ _ _ (by omega) (lowN_lt l hl _ _) (hl _), lowN, show o + 8 * i + p % 8 = o + p by omega]
  · rw [if_neg h]
    by_cases h2 : i < p / 8
    · rw [show min 8 (p - 8 * i) = 8 by omega, show min 8 (p + 1 - 8 * i) = 8 by omega]
    · rw [show min 8 (p - 8 * i) = 0 by omega, show min 8 (p + 1 - 8 * i) = 0 by omega]
theorem part_all (f : KSt) (l : List Nat) (o : Nat) : partF f l o 136 = blockF f l o := by
  funext i
  simp only [partF, blockF, numN_low]
  by_cases h : i < 17
  · rw [if_pos h, show min 8 (136 - 8 * i) = 8 by omega]
  · rw [if_neg h, show min 8 (136 - 8 * i) = 0 by omega]; simp [lowN]
theorem getD_drop (l : List Nat) (o p : Nat) : (l.drop o).getD p 0 = l.getD (o + p) 0 := by simp [List.getD_eq_getElem?_getD]
theorem abs_part (f : KSt) (l : List Nat) (hl : ∀ i, l.getD i 0 < 256) (o : Nat) : ∀ p, p < 136 → o + p ≤ l.length → absL (f, 0) ((l.drop o).take p) = (partF f l o p, p)
  | 0, _, _ => by rw [List.take_zero, part_zero]; rfl
  | p + 1, h, hle => by
    rw [absL_take _ _ p (by rw [List.length_drop]; omega), abs_part f l hl o p (by omega) (by omega), getD_drop, absF, if_neg (by show ¬ p + 1 = 136; omega), part_step f l hl]
/-- a whole block -/
theorem abs_block (f : KSt) (l : List Nat) (hl : ∀ i, l.getD i 0 < 256) (o : Nat) (h : o + 136 ≤ l.length) : absL (f, 0) ((l.drop o).take 136) = (rndsF 24 (blockF f l o), 0) := by
  rw [show (136 : Nat) = 135 + 1 from rfl, absL_take _ _ 135 (by rw [List.length_drop]; omega), abs_part f l hl o 135 (by omega) (by omega), getD_drop, absF, if_pos rfl, part_step f l hl, ← part_all]
/-- the state behind the first j blocks -/
def stF (l : List Nat) : Nat → KSt
  | 0 => zeroK
  | j + 1 => rndsF 24 (blockF (stF l j) l (136 * j))
theorem abs_blocks (l : List Nat) (hl : ∀ i, l.getD i 0 < 256) : ∀ j, 136 * j ≤ l.length → absL (zeroK, 0) (l.take (136 * j)) = (stF l j, 0)
  | 0, _ => rfl
  | j + 1, h => by
    rw [show 136 * (j + 1) = 136 * j + 136 by omega, List.take_add, absL, List.foldl_append]
    have := abs_blocks l hl j (by omega)
    rw [absL] at this
    rw [this]
    exact abs_block (stF l j) l hl (136 * j) (by omega)
theorem lay_zero (f : KSt) (p : Nat) : layF f p 0 = f := by
  funext i; simp [layF]
theorem abs_zeros (f : KSt) : ∀ n p, p + n < 136 → absL (f, p) (List.replicate n 0) = (f, p + n)
  | 0, p, _ => rfl
  | n + 1, p, h => by
    rw [List.replicate_succ, absL, List.foldl_cons, absF, if_neg (by show ¬ p + 1 = 136; omega), lay_zero]
    have := abs_zeros f n (p + 1) (by omega)
    rw [absL] at this
    rw [this, show p + 1 + n = p + (n + 1) by omega]
/-- what comes behind the bytes -/
def padL (n : Nat) : List Nat := if n = 1 then [129] else 1 :: (List.replicate (n - 2) 0 ++ [128])
theorem abs_pad (f : KSt) (p : Nat) (hp : p < 136) : absL (f, p) (padL (136 - p)) = (endF f p, 0) := by
  by_cases h : p = 135
  · subst h
    have : layF f 135 129 = layF (layF f 135 1) 135 128 := by
      funext i
      simp only [layF]
      by_cases e : i = 135 / 8
      · rw [if_pos e, if_pos e, if_pos e, BitVec.xor_assoc]; congr 1
      · rw [if_neg e, if_neg e, if_neg e]
    show absF (f, 135) 129 = _
    rw [absF, if_pos rfl, this]; rfl
  · rw [padL, if_neg (by omega), absL, List.foldl_cons, absF, if_neg (by show ¬ p + 1 = 136; omega), List.foldl_append]
    have := abs_zeros (layF f p 1) (136 - p - 2) (p + 1) (by omega)
    rw [absL] at this
    rw [this, show p + 1 + (136 - p - 2) = 135 by omega]
    rfl
theorem absF_snd (s : KSt × Nat) (x : Nat) (h : s.2 < 136) : (absF s x).2 = (s.2 + 1) % 136 := by
  unfold absF; split
  · rename_i e; rw [e]
  · rw [Nat.mod_eq_of_lt (by omega)]
theorem absL_snd : ∀ (l : List Nat) (s : KSt × Nat), s.2 < 136 → (absL s l).2 = (s.2 + l.length) % 136
  | [], s, h => by rw [List.length_nil, Nat.add_zero, Nat.mod_eq_of_lt h]; rfl
  | x :: r, s, h => by
    show (absL (absF s x) r).2 = _
    rw [absL_snd r _ (absF_lt x h), absF_snd s x h, List.length_cons]; omega
/-- SUM IS WHAT THE BLOCKS OF THE PADDED BYTES MAKE -/
theorem folds (b : List Nat) (L : List Nat) (hL : L = b ++ padL (136 - b.length % 136)) (j : Nat) (hj : 136 * j = L.length) (hl : ∀ i, L.getD i 0 < 256) :
    stF L j = endF (absL (zeroK, 0) b).1 (absL (zeroK, 0) b).2 := by
  have h1 := abs_blocks L hl j (by omega)
  rw [hj, List.take_length] at h1
  have hp := absL_snd b (zeroK, 0) (by decide)
  have hlt := absL_lt b (s := (zeroK, 0)) (by decide)
  rw [hL, absL, List.foldl_append] at h1
  rw [show (0 : Nat) + b.length = b.length by omega] at hp
  have h2 := abs_pad (absL (zeroK, 0) b).1 (absL (zeroK, 0) b).2 hlt
  rw [show ((absL (zeroK, 0) b).1, (absL (zeroK, 0) b).2) = absL (zeroK, 0) b from rfl, hp] at h2
  rw [absL, absL] at h2
  rw [h2] at h1
  have := congrArg Prod.fst h1
  rw [← hL] at this
  rw [hp]
  exact this.symm
theorem Tryd.info8 : (Tryd.prog.info? 5).map (fun i => (i.zero, i.size, i.bytes)) = some (some (.int .u8 0), 1, 1) := by kernel_rfl
theorem bytesL_len (l : List Nat) : (bytesL l).length = l.length := by simp [bytesL]
theorem bytesL_one (l : List Nat) : ∀ u ∈ bytesL l, u.oneCell' = true := by
  intro u hu; simp only [bytesL, List.mem_map] at hu; obtain ⟨i, _, rfl⟩ := hu; rfl
theorem bytesL_at (l : List Nat) (j : Nat) (u : Value) (h : (bytesL l)[j]? = some u) : j < l.length ∧ u = .int .u8 (l.getD j 0 : Nat) := by
  have hj : j < l.length := by have := (List.getElem?_eq_some_iff.1 h).1; rwa [bytesL_len] at this
  refine ⟨hj, ?_⟩
  simp only [bytesL, List.getElem?_map, List.getElem?_eq_getElem hj, Option.map_some, Option.some.injEq] at h
  rw [← h, List.getD_eq_getElem?_getD, List.getElem?_eq_getElem hj]; rfl
theorem padL_len (n : Nat) (h : 1 ≤ n) : (padL n).length = n := by
  unfold padL; split
  · simp_all
  · simp; omega
theorem padL_get (n k : Nat) (h : k < n) : (padL n).getD k 0 = if k = 0 then (if n = 1 then 129 else 1) else (if k = n - 1 then 128 else 0) := by
  unfold padL
  by_cases h1 : n = 1
  · subst h1; obtain rfl : k = 0 := by omega
    rfl
  · rw [if_neg h1]
    rcases k with _ | k
    · simp [h1]
    · rw [if_neg (by omega), List.getD_cons_succ, List.getD_eq_getElem?_getD]
      by_cases h2 : k + 1 = n - 1
      · rw [if_pos h2, List.getElem?_append_right (by simp; omega)]
        simp [show k - (n - 2) = 0 by omega]
      · rw [if_neg h2, List.getElem?_append_left (by simp; omega), List.getElem?_replicate, if_pos (by omega)]; rfl
theorem fold_step {w wr w1 : World} {v v' : Value} {o : Obj} {l : List Nat} {N k n x : Nat} (hk : k < N) (hx : (padL N).getD k 0 = x) (hown : wr.ownsRow w.heap.size 5 1 v (n + k) (bytesL (l ++ (padL N).take k))) (hB : Below w.heap.size w wr)
    (hown' : w1.ownsRow w.heap.size 5 1 v' (n + k + 1) (bytesL (l ++ (padL N).take k) ++ [.int .u8 (x : Int)])) (hg : (wr.alloc o).grownBy w1 v.ownBlock) :
    w1.ownsRow w.heap.size 5 1 v' (n + (k + 1)) (bytesL (l ++ (padL N).take (k + 1))) ∧ Below w.heap.size w w1 := by
  have hl : k < (padL N).length := by rw [padL_len N (by omega)]; exact hk
  have e : bytesL (l ++ (padL N).take (k + 1)) = bytesL (l ++ (padL N).take k) ++ [.int .u8 (x : Int)] := by
    rw [List.take_add_one, ← List.append_assoc, List.getElem?_eq_getElem hl]
    rw [List.getD_eq_getElem?_getD, List.getElem?_eq_getElem hl] at hx
    simp only [Option.getD_some] at hx
    simp [bytesL, hx]
  rw [e, show n + (k + 1) = n + k + 1 by omega]
  exact ⟨hown', Below.grown (hB.alloc hB.size o) hg (by have := hB.size; simp; omega) (fun q h => (hown.lt q h).1)⟩
/-- while the blocks are laid -/
def FoldInv (w : World) (b g : Nat) (f : KSt) (L : List Nat) (W : World) : Prop := Below w.heap.size w W ∧ Row W b 25 (iv f) ∧ BytesAt W ⟨g, 0, none⟩ L ∧ g < W.heap.size
theorem FoldInv.past {w W W' : World} {b g : Nat} {f : KSt} {L : List Nat} (h : FoldInv w b g f L W) (k : Below W.heap.size W W') : FoldInv w b g f L W' :=
  ⟨h.1.trans (k.mono h.1.size), h.2.1.below k (h.2.1.lt (by omega)), h.2.2.1.below k, Nat.lt_of_lt_of_le h.2.2.2 k.size⟩
theorem FoldInv.store {w W : World} {b g : Nat} {f : KSt} {L : List Nat} (e : KSt) (hb : w.heap.size ≤ b) (hg : g ≠ b) (h : FoldInv w b g f L W) : FoldInv w b g e L (W.setCells b 0 (rowL 25 (iv e))) := by
  have hB := below_setCells b (Nat.le_refl b) (rowL 25 (iv e)) 0 W (Below.refl b W)
  refine ⟨below_setCells b hb _ _ _ h.1, h.2.1.of_range, fun i hi => ?_, Nat.lt_of_lt_of_le h.2.2.2 hB.size⟩
  rw [World.cell?_setCells_out _ _ _ _ _ (fun hb _ => absurd hb hg)]
  exact h.2.2.1 i hi
theorem owns_bytes {w : World} {B T : Nat} {v : Value} {L : List Nat} (h : w.ownsRow B 5 1 v T (bytesL L)) (h0 : 0 < T) (hT : T = L.length) : ∃ g c, v = .slice (some ⟨g, 0, none⟩) T c ∧ g < w.heap.size ∧ BytesAt w ⟨g, 0, none⟩ L := by
  have h' := h
  obtain ⟨_, ⟨_, e⟩ | ⟨g, c, cur, rfl, hb, hh, _⟩⟩ := h'
  · omega
  · refine ⟨g, c, rfl, ((h.lt g rfl).2), fun i hi => ?_⟩
    show w.cell? ⟨g, 0 + i, none⟩ = _
    rw [Nat.zero_add, h.cellAt i (by omega)]
    simp [bytesL, hi, List.getD_eq_getElem?_getD]
theorem padL_byte (n : Nat) (i : Nat) : (padL n).getD i 0 < 256 := by
  by_cases h0 : 1 ≤ n
  · by_cases h : i < n
    · rw [padL_get n i h]; split <;> split <;> omega
    · rw [List.getD_eq_getElem?_getD, List.getElem?_eq_none (by rw [padL_len n h0]; omega)]; decide
  · obtain rfl : n = 0 := by omega
    show ([1, 128] : List Nat).getD i 0 < 256
    rcases i with _ | _ | i <;> simp
theorem pad_byte (l : List Nat) (hl : ∀ i, l.getD i 0 < 256) (n i : Nat) : (l ++ padL n).getD i 0 < 256 := by
  by_cases h : i < l.length
  · have := hl i
    rwa [List.getD_eq_getElem?_getD, ← List.getElem?_append_left (l₂ := padL n) h, ← List.getD_eq_getElem?_getD] at this
  · rw [List.getD_eq_getElem?_getD, List.getElem?_append_right (by omega), ← List.getD_eq_getElem?_getD]
    exact padL_byte n _
theorem sumArg (W : World) (hW : Tabs W) (pb cap : Nat) (ad : Option Addr) (l : List Nat) (hl : ∀ i, l.getD i 0 < 256) (hn : l.length ≤ 16777216) (had : l ≠ [] → ∃ sb so, ad = some ⟨sb, so, none⟩ ∧ BytesAt W ⟨sb, so, none⟩ l)
    (h0 : W.cell? ⟨pb, 0, none⟩ = some (.slice ad l.length cap)) :
    Calls Tryd.prog 7 #[.slice (some ⟨pb, 0, none⟩) 1 1] W fun e w' => e = .returned (.agg (rowB 32 (sumF l)).toArray) ∧ Below W.heap.size W w' := by
  have := sumAll_is W (some ⟨pb, 0, none⟩) 1 1 (fun _ => .slice ad l.length cap) (fun _ => l) hW (by omega) (fun _ => ⟨pb, 0, rfl, fun i hi => by rw [show i = 0 by omega]; exact h0⟩)
    (fun i _ => ⟨fun i _ => hl i, by omega, ad, cap, rfl, had⟩)
  rw [show flat (fun _ => l) 1 = l by simp [flat]] at this
  exact this
/-- the value is a slice that reads as these bytes -/
def Seg (w : World) (v : Value) (l : List Nat) : Prop := ∃ ad cap, v = .slice ad l.length cap ∧ l.length ≤ cap ∧ cap ≤ maxLen ∧ (l ≠ [] → ∃ sb so, ad = some ⟨sb, so, none⟩ ∧ BytesAt w ⟨sb, so, none⟩ l) ∧ (ad = none → cap = 0)
theorem Seg.below {w w' : World} {v : Value} {l : List Nat} (h : Seg w v l) (k : Below w.heap.size w w') : Seg w' v l := by
  obtain ⟨ad, cap, h1, h2, h3, h4, h5⟩ := h
  refine ⟨ad, cap, h1, h2, h3, fun hne => ?_, h5⟩
  obtain ⟨sb, so, e, hb⟩ := h4 hne
  exact ⟨sb, so, e, hb.below k⟩
theorem Seg.piece {w : World} {v : Value} {l : List Nat} (h : Seg w v l) (hl : ∀ i, l.getD i 0 < 256) (hn : l.length ≤ 16777216) : PieceAt w v l := by
  obtain ⟨ad, cap, h1, _, _, h4, _⟩ := h
  exact ⟨fun i _ => hl i, by omega, ad, cap, h1, h4⟩
/-- where b[q:] begins -/
def dropA (ad : Option Addr) (cap q : Nat) : Option Addr := if cap = q then ad else ad.map (·.add q)
theorem getD_take (l : List Nat) (q i : Nat) (h : i < q) : (l.take q).getD i 0 = l.getD i 0 := by simp [List.getD_eq_getElem?_getD, h]
theorem Seg.take {w : World} {ad : Option Addr} {cap : Nat} {l : List Nat} (h : Seg w (.slice ad l.length cap) l) (q : Nat) (hq : q ≤ l.length) : Seg w (.slice ad q cap) (l.take q) := by
  obtain ⟨ad', cap', h1, h2, h3, h4, h5⟩ := h
  injection h1 with e1 _ e2
  subst e1 e2
  have hl : (l.take q).length = q := by rw [List.length_take]; omega
  refine ⟨ad, cap, by rw [hl], by omega, h3, fun hne => ?_, h5⟩
  obtain ⟨sb, so, e, hb⟩ := h4 (by intro e; subst e; simp at hne)
  refine ⟨sb, so, e, fun i hi => ?_⟩
  rw [hl] at hi
  rw [getD_take l q i hi]
  exact hb i (by omega)
theorem Seg.drop {w : World} {ad : Option Addr} {cap : Nat} {l : List Nat} (h : Seg w (.slice ad l.length cap) l) (q : Nat) (hq : q ≤ l.length) : Seg w (.slice (dropA ad cap q) (l.length - q) (cap - q)) (l.drop q) := by
  obtain ⟨ad', cap', h1, h2, h3, h4, h5⟩ := h
  injection h1 with e1 _ e2
  subst e1 e2
  have hl : (l.drop q).length = l.length - q := List.length_drop
  refine ⟨dropA ad cap q, cap - q, by rw [hl], by omega, by omega, fun hne => ?_, fun he => ?_⟩
  · have hpos : 0 < l.length - q := by rw [← hl]; exact List.length_pos_iff.2 hne
    obtain ⟨sb, so, e, hb⟩ := h4 (by intro e; subst e; simp at hne)
    refine ⟨sb, so + q, ?_, fun i hi => ?_⟩
    · rw [dropA, if_neg (by omega), e]; simp [Addr.add_mid]
    · rw [hl] at hi
      show w.cell? ⟨sb, so + q + i, none⟩ = _
      rw [getD_drop, Nat.add_assoc]
      exact hb (q + i) (by omega)
  · unfold dropA at he
    split at he
    · omega
    · have : ad = none := by cases ad <;> simp_all
      have := h5 this
      omega
theorem slice_to (ad : Option Addr) (n cap q : Nat) (hq : q ≤ cap) (W : World) : Sem.run Tryd.prog (Instr.slice 33 (.slice ad n cap) none (some (.int .i64 (q : Int))) none) W = .ok (.slice ad q cap) W := by
  have e : (if cap = 0 then ad else ad.map (·.add (0 * 1))) = ad := by
    split
    · rfl
    · cases ad with
      | none => rfl
      | some a => obtain ⟨b, o, s⟩ := a; simp [Addr.add]
  simp [Instr.slice, Instr.sliceBounds, run_underlying Tryd.underlying33, run_sliceBound W .i64 (q : Int) cap _ (by omega) (by omega)]
  simpa using e
theorem slice_from (ad : Option Addr) (n cap q : Nat) (hq : q ≤ n) (W : World) : Sem.run Tryd.prog (Instr.slice 33 (.slice ad n cap) (some (.int .i64 (q : Int))) none none) W = .ok (.slice (dropA ad cap q) (n - q) (cap - q)) W := by
  simp [Instr.slice, Instr.sliceBounds, run_underlying Tryd.underlying33, run_sliceBound W .i64 (q : Int) n _ (by omega) (by omega), dropA]
end Go.Proofs.YtbjijbgjnammhaaDoor
