/- The law's 'laid': 136 bytes laid on the lanes, and all rounds. -/
import Derived.Test.YteggikojfkmbkaaDoorKu
import Derived.Deep.CutRange
import Derived.Deep.DeepCutAuto
import Derived.LoopTactic
import Derived.BigRegion
namespace Go.Proofs.YteggikojfkmbkaaDoor
open Go.RowKit
/-- the number of the last m of eight bytes from o on, the lowest first -/
def numN (l : List Nat) (o : Nat) : Nat → Nat
  | 0 => 0
  | m + 1 => numN l o m * 256 + l.getD (o + (7 - m)) 0
theorem numN_lt (l : List Nat) (hl : ∀ i, l.getD i 0 < 256) (o : Nat) : ∀ m, numN l o m < 256 ^ m
  | 0 => by simp [numN]
  | m + 1 => by
    have := numN_lt l hl o m
    have := hl (o + (7 - m))
    rw [numN, Nat.pow_succ]; omega
theorem or_byte (n x : Nat) (hn : n < 256 ^ 7) (hx : x < 256) : bits .or .u64 (IntKind.u64.wrap ((n : Int) * 256)) (x : Int) = ((n * 256 + x : Nat) : Int) := by
  have e : IntKind.u64.wrap ((n : Int) * 256) = ((n * 256 : Nat) : Int) := by rw [IntKind.wrap_u64]; omega
  rw [e, u64_or_nat _ _ (by omega) (by omega)]
  have := Nat.two_pow_add_eq_or_of_lt (i := 8) (b := x) (by omega) n
  rw [Nat.mul_comm n 256]
  exact congrArg _ this.symm
def blockF (f : KSt) (l : List Nat) (o : Nat) : KSt := fun i => if i < 17 then f i ^^^ BitVec.ofNat 64 (numN l (o + 8 * i) 8) else f i
theorem block_val (f : KSt) (l : List Nat) (o i : Nat) (hl : ∀ i, l.getD i 0 < 256) (hi : i < 17) : bits .xor .u64 (iv f i) (numN l (o + 8 * i) 8 : Nat) = iv (blockF f l o) i := by
  have e : ((numN l (o + 8 * i) 8 : Nat) : Int) = ((BitVec.ofNat 64 (numN l (o + 8 * i) 8)).toNat : Int) := by
    rw [BitVec.toNat_ofNat, Nat.mod_eq_of_lt (by have := numN_lt l hl (o + 8 * i) 8; omega)]
  rw [e, iv, xor64, iv, blockF, if_pos hi]
def LaidInv (w : World) (f g : KSt) (n : Nat) (W : World) : Prop := Below w.heap.size w W ∧ Row W w.heap.size 25 (fun i => if i < n then iv g i else iv f i) ∧ Row W (w.heap.size + 1) 25 (fun _ => 0)
theorem LaidInv.step {w W : World} {f g : KSt} {n : Nat} {y : Int} (h : LaidInv w f g n W) (hn : n < 25) (ey : iv g n = y) : LaidInv w f g (n + 1) (W.setCell ⟨w.heap.size, n, none⟩ (.int .u64 y)) := by
  refine ⟨h.1.setCell (Nat.le_refl _) _, (h.2.1.set n y hn).ext ?_, h.2.2.set_other _ _ (by simp)⟩
  intro i hi
  by_cases e : i = n
  · rw [if_pos e, if_pos (by omega), e, ey]
  · rw [if_neg e]
    by_cases h' : i < n
    · rw [if_pos h', if_pos (by omega)]
    · rw [if_neg h', if_neg (by omega)]
theorem LaidInv.past {w W W' : World} {f g : KSt} {n : Nat} (h : LaidInv w f g n W) (k : Below W.heap.size W W') : LaidInv w f g n W' :=
  ⟨h.1.trans (k.mono h.1.size), h.2.1.below k (h.2.1.lt (by omega)), h.2.2.below k (h.2.2.lt (by omega))⟩
set_option maxHeartbeats 1000000 in
set_option maxRecDepth 100000 in
theorem laid_is (f : KSt) (w : World) (sb so c at' : Nat) (l : List Nat) (hT : Tabs w) (hl : ∀ i, l.getD i 0 < 256) (hb : BytesAt w ⟨sb, so, none⟩ l) (ha : at' + 136 ≤ l.length) (hn : l.length < 9223372036854775000) :
    Calls Tryd.prog 28 #[.agg (rowL 25 (iv f)).toArray, .slice (some ⟨sb, so, none⟩) l.length c, .int .i64 (at' : Int)] w fun e w' => e = .returned (.agg (rowL 25 (iv (rndsF 24 (blockF f l at')))).toArray) ∧ Below w.heap.size w w' := by
  obtain ⟨cs, hcs⟩ : ∃ cs, cs = (rowL 25 (iv f)).toArray := ⟨_, rfl⟩
  rw [← hcs]
  have HC : Hid (cs = (rowL 25 (iv f)).toArray) := hcs
  have HT : Hid (Tabs w) := hT
  have g2 := hT.lt
  have HB : Hid _ := hb
  have HL : Hid _ := hl
  obtain ⟨n, en⟩ : ∃ n, n = l.length := ⟨_, rfl⟩
  have EN : Hid (n = l.length) := en
  rw [← en] at ha hn ⊢
  clear hcs hT hb hl en
  go_enter Tryd.func28, Tryd.ntmps28
  go_wp2
  go_loopw [7] (fun i wr => ∃ k : Nat, k ≤ 17 ∧ i = .int .i64 k ∧ LaidInv w f (blockF f l at') k wr) (fun i _ => 17 - (intOf i).toNat)
  case atStart =>
    rw [zero25, HC.out]
    refine ⟨0, Nat.zero_le _, rfl, ((Below.refl _ _).alloc (by omega) _).alloc (by simp) _, ((Row.new w _ 25 (iv f)).alloc _).ext (fun i _ => by rw [if_neg (by omega)]), ?_⟩
    have := Row.new (w.alloc (.cells (rowL 25 (iv f)).toArray 23)) 23 25 fun _ => 0
    simpa using this
  case round =>
    obtain ⟨k, hk, rfl, hI⟩ := hrel
    have HI : Hid (LaidInv w f (blockF f l at') k wr) := hI
    clear hI
    by_cases hk5 : k < 17
    · clear hk
      have kI : ((k : Int) < 17) := by omega
      go_wp2
      go_loopw [8, 9] (fun a b wr' => wr' = wr ∧ ∃ m : Nat, m ≤ 8 ∧ a = .int .u64 (numN l (at' + 8 * k) m : Nat) ∧ b = .int .i64 (7 - (m : Int))) (fun _ b _ => ((intOf b) + 1).toNat)
      case atStart => exact ⟨rfl, 0, by omega, rfl, rfl⟩
      case round =>
        obtain ⟨rfl, m, hm, rfl, rfl⟩ := hrel
        by_cases hm8 : m < 8
        · obtain ⟨kk, ek⟩ : ∃ kk : Nat, kk = 7 - m := ⟨_, rfl⟩
          obtain ⟨e8, ee⟩ : ∃ e8 : Nat, e8 = 8 * k := ⟨_, rfl⟩
          obtain ⟨a8, ea⟩ : ∃ a8 : Nat, a8 = at' + e8 := ⟨_, rfl⟩
          obtain ⟨q, eq⟩ : ∃ q : Nat, q = a8 + kk := ⟨_, rfl⟩
          have r0 : (7 - (m : Int)) = (kk : Int) := by omega
          rw [r0]
          have r1 : (8 : Int) * (k : Int) = (e8 : Int) := by omega
          have r2 : (at' : Int) + (e8 : Int) = (a8 : Int) := by omega
          have r3 : (a8 : Int) + (kk : Int) = (q : Int) := by omega
          have q1 : IntKind.i64.wrap (e8 : Int) = (e8 : Int) := by rw [IntKind.wrap_i64]; omega
          have q2 : IntKind.i64.wrap (a8 : Int) = (a8 : Int) := by rw [IntKind.wrap_i64]; omega
          have q3 : IntKind.i64.wrap (q : Int) = (q : Int) := by rw [IntKind.wrap_i64]; omega
          have qn : (q : Int) < (n : Int) := by omega
          have hql : q < l.length := by rw [← EN.out]; omega
          have cb0 := HB.out q hql
          have cb := (Below.cell HI.out.1 (p := ⟨sb, so + q, none⟩) (World.block_lt_of_cell? w _ cb0)).trans cb0
          have hx := HL.out q
          have hN := numN_lt l HL.out (at' + 8 * k) m
          have ev := or_byte (numN l (at' + 8 * k) m) (l.getD q 0) (Nat.lt_of_lt_of_le hN (Nat.pow_le_pow_right (by omega) (by omega))) hx
          have eN : numN l (at' + 8 * k) (m + 1) = numN l (at' + 8 * k) m * 256 + l.getD q 0 := by
            rw [numN, show at' + 8 * k + (7 - m) = q by omega]
          rw [← eN] at ev
          have q4 : IntKind.u64.wrap ((l.getD q 0 : Nat) : Int) = ((l.getD q 0 : Nat) : Int) := by rw [IntKind.wrap_u64]; omega
          generalize ((l.getD q 0 : Nat) : Int) = x at cb q4 ev
          generalize ((numN l (at' + 8 * k) m : Nat) : Int) = N at ev ⊢
          have EV : Hid (m + 1 ≤ 8 ∧ (kk : Int) - 1 = 7 - ((m + 1 : Nat) : Int)) := ⟨by omega, by omega⟩
          clear ek ee ea eq cb0 hx hN eN r0 hql
          go_wp2
          go_roundw
          case rel => exact ⟨trivial, m + 1, EV.out.1, rfl, by rw [EV.out.2]⟩
          case measure => simp [intOf]
        · obtain rfl : m = 8 := by omega
          have ca0 := HI.out.2.1 k (by omega)
          dsimp only at ca0
          rw [if_neg (by omega)] at ca0
          have ca := ca0.1
          have fa := ca0.2
          have ev := block_val f l at' k HL.out hk5
          obtain ⟨y, ey⟩ : ∃ y, iv (blockF f l at') k = y := ⟨_, rfl⟩
          rw [ey] at ev
          have HJ : Hid _ := LaidInv.step HI.out (by omega) ey
          generalize iv f k = x at ca ev
          generalize ((numN l (at' + 8 * k) 8 : Nat) : Int) = z at ev ⊢
          have k25 : (k : Int) < 25 := by omega
          clear ca0 ey hm hm8
          go_wp2
          go_roundw
          case rel => exact ⟨k + 1, by omega, by go_num, HJ.out⟩
          case measure => simp [intOf]; omega
    · obtain rfl : k = 17 := by omega
      have hA : Row wr w.heap.size 25 (iv (blockF f l at')) := HI.out.2.1.ext fun i hi => by
        by_cases h : i < 17
        · rw [if_pos h]
        · rw [if_neg h, iv, iv, blockF, if_neg h]
      have HA : Hid _ := hA.range
      clear hA
      go_wp2_with (first
        | refine load25 (iv (blockF f l at')) w.heap.size rfl _ rfl rfl HA.out ?_
        | (go_at_call 11; refine (permute_is (blockF f l at') _ (Tabs.below HT.out HI.out.1 g2)).mono ?_; rintro e v1 ⟨rfl, hB⟩; (have H1 : Hid _ := LaidInv.past HI.out hB); clear hB)
        | refine store25 (iv (rndsF 24 (blockF f l at'))) (w.heap.size + 1) rfl _ _ rfl rfl rfl (Row.there H1.out.2.2) ?_)
      refine bodyPost_ret (v := .agg (rowL 25 (iv (rndsF 24 (blockF f l at')))).toArray) ?_ rfl ⟨rfl, below_setCells _ (by omega) _ _ _ H1.out.1⟩
      exact results_cell Tryd.results28 _ _ _ ⟨w.heap.size + 1, 0, none⟩ rfl (loadVar25 (Row.range (Row.of_range H1.out.2.2)))
end Go.Proofs.YteggikojfkmbkaaDoor
