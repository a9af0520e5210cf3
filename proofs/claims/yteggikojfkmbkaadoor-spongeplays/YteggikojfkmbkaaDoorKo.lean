/- The law's 'known': the hashes of nothing and of one byte. -/
import Derived.Test.YteggikojfkmbkaaDoorKn
import Derived.Deep.RegionHeld3
import Derived.Deep.CutRange
import Derived.Deep.DeepCutAuto
namespace Go.Proofs.YteggikojfkmbkaaDoor
open Go.RowKit
/-- a hash is laid into a new block -/
theorem store32_new {ops : Array Oper} {rest : List Oper} {op : Oper} {a : Act} {w W : World} {Q : Exit → Act → World → Prop} (g : Nat → Int) (hgd : op.guard = none) (x y : Operand) (ho : op.op = .store 34 x y)
    (hx : a.eval x = .pointer (some ⟨W.heap.size, 0, none⟩)) (hy : a.eval y = .agg (rowB 32 g).toArray) (hB : Below w.heap.size w W)
    (h : ∀ v, RowB v W.heap.size 32 g → Below w.heap.size w v → Below W.heap.size W v → wpList Tryd.prog ops Q rest (a.put op.dst undef) v) :
    wpList Tryd.prog ops Q (op :: rest) a (W.alloc (.cells #[.int .u8 0, .int .u8 0, .int .u8 0, .int .u8 0, .int .u8 0, .int .u8 0, .int .u8 0, .int .u8 0, .int .u8 0, .int .u8 0, .int .u8 0, .int .u8 0, .int .u8 0, .int .u8 0, .int .u8 0, .int .u8 0, .int .u8 0, .int .u8 0, .int .u8 0, .int .u8 0, .int .u8 0, .int .u8 0, .int .u8 0, .int .u8 0, .int .u8 0, .int .u8 0, .int .u8 0, .int .u8 0, .int .u8 0, .int .u8 0, .int .u8 0, .int .u8 0] 34)) := by
  rw [zeroB32]
  have r0 := RowB.new W 34 32 fun _ => 0
  have b0 : Below W.heap.size W (W.alloc (.cells (rowB 32 fun _ => 0).toArray 34)) := (Below.refl _ _).alloc (by omega) _
  refine store32 g W.heap.size hgd x y ho hx hy r0.there (h _ r0.of_range ?_ (below_setCells _ (Nat.le_refl _) _ _ _ b0))
  exact below_setCells _ hB.size _ _ _ (hB.trans (b0.mono hB.size))
theorem load32g {ops : Array Oper} {rest : List Oper} {op : Oper} {a : Act} {w : World} {Q : Exit → Act → World → Prop} (g : Nat → Int) (b : Nat) (x : Operand) (ho : op.op = .load 34 x)
    (hx : a.eval x = .pointer (some ⟨b, 0, none⟩)) (hr : w.rangeAt b 0 (rowB 32 g)) (hgd : Region.wanted op (yielded ops a.tmps) = true)
    (h : wpList Tryd.prog ops Q rest (a.put op.dst (.agg (rowB 32 g).toArray)) w) : wpList Tryd.prog ops Q (op :: rest) a w := by
  rw [wpList, if_pos hgd]
  exact Or.inl (wp_load_mid 34 x ho b 0 hx (rowB 32 g) _ hr Tryd.underlying34 rfl (by rw [rowB_len]; kernel_rfl) h)
def sumF (l : List Nat) : Nat → Int := hashF (endF (absL (zeroK, 0) l).1 (absL (zeroK, 0) l).2)
theorem sumNone (W : World) (hW : Tabs W) : Calls Tryd.prog 17 #[.slice none 0 0] W fun e w' => e = .returned (.agg (rowB 32 (sumF [])).toArray) ∧ Below W.heap.size W w' :=
  sumAll_is W none 0 0 (fun _ => .nilFunc) (fun _ => []) hW (by omega) (fun h => absurd rfl h) (fun i hi => absurd hi (by omega))
theorem sumOne (W : World) (hW : Tabs W) (pb po sb so c1 c2 : Nat) (l : List Nat) (hl : ∀ i, i < l.length → l.getD i 0 < 256) (hn : l.length < 9223372036854775807) (h0 : W.cell? ⟨pb, po, none⟩ = some (.slice (some ⟨sb, so, none⟩) l.length c1)) (h1 : BytesAt W ⟨sb, so, none⟩ l) :
    Calls Tryd.prog 17 #[.slice (some ⟨pb, po, none⟩) 1 c2] W fun e w' => e = .returned (.agg (rowB 32 (sumF l)).toArray) ∧ Below W.heap.size W w' := by
  have := sumAll_is W (some ⟨pb, po, none⟩) 1 c2 (fun _ => .slice (some ⟨sb, so, none⟩) l.length c1) (fun _ => l) hW (by omega) (fun _ => ⟨pb, po, rfl, fun i hi => by rw [show i = 0 by omega]; exact h0⟩)
    (fun i _ => ⟨hl, hn, _, _, rfl, fun _ => ⟨sb, so, rfl, h1⟩⟩)
  rw [show flat (fun _ => l) 1 = l by simp [flat]] at this
  exact this
theorem sumF_none (i : Nat) (h : i < 32) : sumF [] i = (([197, 210, 70, 1, 134, 247, 35, 60, 146, 126, 125, 178, 220, 199, 3, 192, 229, 0, 182, 83, 202, 130, 39, 59, 123, 250, 216, 4, 93, 133, 164, 112] : List Nat).getD i 0 : Nat) := hash_none i h
theorem sumF_zero (i : Nat) (h : i < 32) : sumF [0] i = (([188, 54, 120, 158, 122, 30, 40, 20, 54, 70, 66, 41, 130, 143, 129, 125, 102, 18, 247, 180, 119, 214, 101, 145, 255, 150, 169, 224, 100, 188, 201, 138] : List Nat).getD i 0 : Nat) := hash_zero i h
theorem known_ne (u v : Nat → Int) (h0 : u 0 = 197) (h1 : v 0 = 188) : rowEq 32 u v = false := by
  apply Bool.eq_false_iff.2
  intro h
  have := (rowEq_iff 32 u v).1 h 0 (by omega)
  omega
set_option maxHeartbeats 1000000 in
set_option maxRecDepth 100000 in
theorem known_walk (w : World) (hT : Tabs w) (ha hb : Nat → Int) (c0 : ha 0 = 197) (c1 : ha 1 = 210) (c31 : ha 31 = 112) (hne : rowEq 32 ha hb = false)
    (S1 : ∀ W, Tabs W → Calls Tryd.prog 17 #[.slice none 0 0] W fun e w' => e = .returned (.agg (rowB 32 ha).toArray) ∧ Below W.heap.size W w')
    (S2 : ∀ W pb sb c1 c2, Tabs W → W.cell? ⟨pb, 0, none⟩ = some (.slice (some ⟨sb, 0, none⟩) 1 c1) → W.cell? ⟨sb, 0, none⟩ = some (.int .u8 0) → Calls Tryd.prog 17 #[.slice (some ⟨pb, 0, none⟩) 1 c2] W fun e w' => e = .returned (.agg (rowB 32 hb).toArray) ∧ Below W.heap.size W w') :
    Calls Tryd.prog 26 #[] w fun e w' => e = .returned (.bool true) ∧ Below w.heap.size w w' := by
  have HT : Hid (Tabs w) := hT
  have g2 := hT.lt
  have H1 : Hid _ := S1
  have H2 : Hid _ := S2
  have HE : Hid _ := hne
  have C0 : Hid _ := c0
  have C1 : Hid _ := c1
  have C31 : Hid _ := c31
  clear hT S1 S2 hne c0 c1 c31
  go_enter Tryd.func26, Tryd.ntmps26
  go_wp2_with (first
    | (go_at_call_of 17 (none : Option Addr); refine (H1.out _ HT.out).mono ?_; rintro e v1 ⟨rfl, hB1⟩)
    | (refine store32_new ha rfl _ _ rfl rfl rfl hB1 ?_; intro v2 hr hw hv; clear hv hB1))
  have hW : Below w.heap.size w ((v2.alloc (.cells #[.int .u8 0] 5)).alloc (.cells #[.slice (some ⟨v2.heap.size, 0, none⟩) 1 1] 29)) := (hw.alloc hw.size _).alloc (by have := hw.size; simp; omega) _
  have hR : RowB ((v2.alloc (.cells #[.int .u8 0] 5)).alloc (.cells #[.slice (some ⟨v2.heap.size, 0, none⟩) 1 1] 29)) v1.heap.size 32 ha := (hr.alloc _).alloc _
  refine (H2.out _ (v2.heap.size + 1) v2.heap.size 1 1 (Tabs.below HT.out hW g2) ?_ ?_).mono ?_
  · go_simp
  · go_simp
  rintro e v3 ⟨rfl, hB3⟩
  have hw3 : Below w.heap.size w v3 := hW.trans (hB3.mono hW.size)
  have hr3 : RowB v3 v1.heap.size 32 ha := hR.below hB3 (hR.lt (by omega))
  clear hW hR hB3 hw hr
  go_upto_region 3 with (refine store32_new hb rfl _ _ rfl rfl rfl hw3 ?_; intro v4 hr4 hw4 hv4; (have hq4 : RowB v4 v1.heap.size 32 ha := hr3.below hv4 (hr3.lt (by omega))); (have d0 := (hq4 0 (by omega)).1); (have d1 := (hq4 1 (by omega)).1); (have d31 := (hq4 31 (by omega)).1); rw [C0.out] at d0; rw [C1.out] at d1; rw [C31.out] at d31; (have RA : Hid _ := hq4.range); (have RB : Hid _ := hr4.range); clear hv4 hr3 hw3 hq4 hr4)
  have eqr : ∀ W : World, Sem.run Tryd.prog (Op.equalIn 10000 34 (.agg (rowB 32 ha).toArray) (.agg (rowB 32 hb).toArray)) W = .ok false W := fun W => by rw [eq32_run, HE.out]
  go_wp2_with (first
    | (refine load32g ha v1.heap.size _ rfl rfl RA.out ?_ ?_; rfl)
    | (refine load32g hb v3.heap.size _ rfl rfl RB.out ?_ ?_; rfl))
  go_ret
  exact ⟨rfl, hw4⟩
theorem known_any (w : World) (hT : Tabs w) : Calls Tryd.prog 26 #[] w fun e w' => e = .returned (.bool true) ∧ Below w.heap.size w w' :=
  known_walk w hT (sumF []) (sumF [0]) (sumF_none 0 (by omega)) (sumF_none 1 (by omega)) (sumF_none 31 (by omega)) (known_ne _ _ (sumF_none 0 (by omega)) (sumF_zero 0 (by omega))) sumNone
    (fun W pb sb c1 c2 hW h0 h1 => sumOne W hW pb 0 sb 0 c1 c2 [0] (by decide) (by decide) h0 (fun i hi => by rw [show i = 0 by simp at hi; omega]; exact h1))
end Go.Proofs.YteggikojfkmbkaaDoor
