/- SpongeKnown: the walk: the law returns true and turns nothing that was there. -/
import Derived.Test.YteggikojfkmbkaaDoorKc
import Derived.Test.YteggikojfkmbkaaDoorKz
import Derived.Lib.SlBytesConst
import Derived.Deep.CutRange
import Derived.Deep.DeepCutAuto
namespace Go.Proofs.YteggikojfkmbkaaDoor
open Go.RowKit
def bytesL (l : List Nat) : List Value := l.map fun (n : Nat) => .int .u8 (n : Int)
theorem bytes_new (w : World) (t : TypeId) (fr : Nat × Nat) (l : List Nat) : BytesAt (w.alloc (.cells (bytesL l).toArray t fr)) ⟨w.heap.size, 0, none⟩ l := fun i hi => by
  have hh : (w.alloc (.cells (bytesL l).toArray t fr)).heap[w.heap.size]? = some (.cells (bytesL l).toArray t fr) := by
    show (w.heap.push _)[w.heap.size]? = _
    simp
  have := cell_of_row _ _ (0 + i) _ t fr hh
  refine this.trans ?_
  simp [bytesL, hi, List.getD_eq_getElem?_getD]
theorem BytesAt.alloc {w : World} {a : Addr} {l : List Nat} (h : BytesAt w a l) (o : Obj) : BytesAt (w.alloc o) a l := h.below ((Below.refl _ _).alloc (by omega) _)
theorem load32u {ops : Array Oper} {rest : List Oper} {op : Oper} {a : Act} {w : World} {Q : Exit → Act → World → Prop} (g : Nat → Int) (b : Nat) (x : Operand) (ho : op.op = .load 34 x)
    (hx : a.eval x = .pointer (some ⟨b, 0, none⟩)) (hr : w.rangeAt b 0 (rowB 32 g)) (hgd : op.guard = none)
    (h : wpList Tryd.prog ops Q rest (a.put op.dst (.agg (rowB 32 g).toArray)) w) : wpList Tryd.prog ops Q (op :: rest) a w := load32 g b hgd x ho hx hr h

set_option maxHeartbeats 1000000 in
set_option maxRecDepth 100000 in
theorem spongeKnown_walk (w : World) (hT : Tabs w) (h1 h2 h3 g : Nat → Int)
    (S1 : ∀ W, Tabs W → Calls Tryd.prog 17 #[.slice none 0 0] W fun e w' => e = .returned (.agg (rowB 32 h1).toArray) ∧ Below W.heap.size W w')
    (S2 : ∀ W pb sb c1 c2, Tabs W → W.cell? ⟨pb, 0, none⟩ = some (.slice (some ⟨sb, 0, none⟩) 3 c1) → BytesAt W ⟨sb, 0, none⟩ [97, 98, 99] → Calls Tryd.prog 17 #[.slice (some ⟨pb, 0, none⟩) 1 c2] W fun e w' => e = .returned (.agg (rowB 32 h2).toArray) ∧ Below W.heap.size W w')
    (S3 : ∀ W pb sa sb c0 c1 c2, Tabs W → W.cell? ⟨pb, 0, none⟩ = some (.slice (some ⟨sa, 0, none⟩) 20 c0) → W.cell? ⟨pb, 1, none⟩ = some (.slice (some ⟨sb, 0, none⟩) 23 c1) → BytesAt W ⟨sa, 0, none⟩ [84, 104, 101, 32, 113, 117, 105, 99, 107, 32, 98, 114, 111, 119, 110, 32, 102, 111, 120, 32] → BytesAt W ⟨sb, 0, none⟩ [106, 117, 109, 112, 115, 32, 111, 118, 101, 114, 32, 116, 104, 101, 32, 108, 97, 122, 121, 32, 100, 111, 103] → Calls Tryd.prog 17 #[.slice (some ⟨pb, 0, none⟩) 2 c2] W fun e w' => e = .returned (.agg (rowB 32 h3).toArray) ∧ Below W.heap.size W w')
    (P : ∀ W, Tabs W → Calls Tryd.prog 11 #[.agg (rowL 25 fun _ => 0).toArray] W fun e w' => e = .returned (.agg (rowL 25 g).toArray) ∧ Below W.heap.size W w')
    (g0 : g 0 = 17376452488221285863) (g1 : g 1 = 9571781953733019530)
    (X1 : ∀ W : World, Calls Tryd.prog 29 #[.agg (rowB 32 h1).toArray, .string ⟨#[99, 53, 100, 50, 52, 54, 48, 49, 56, 54, 102, 55, 50, 51, 51, 99, 57, 50, 55, 101, 55, 100, 98, 50, 100, 99, 99, 55, 48, 51, 99, 48, 101, 53, 48, 48, 98, 54, 53, 51, 99, 97, 56, 50, 50, 55, 51, 98, 55, 98, 102, 97, 100, 56, 48, 52, 53, 100, 56, 53, 97, 52, 55, 48]⟩] W fun e w' => e = .returned (.bool true) ∧ Below W.heap.size W w')
    (X2 : ∀ W : World, Calls Tryd.prog 29 #[.agg (rowB 32 h2).toArray, .string ⟨#[52, 101, 48, 51, 54, 53, 55, 97, 101, 97, 52, 53, 97, 57, 52, 102, 99, 55, 100, 52, 55, 98, 97, 56, 50, 54, 99, 56, 100, 54, 54, 55, 99, 48, 100, 49, 101, 54, 101, 51, 51, 97, 54, 52, 97, 48, 51, 54, 101, 99, 52, 52, 102, 53, 56, 102, 97, 49, 50, 100, 54, 99, 52, 53]⟩] W fun e w' => e = .returned (.bool true) ∧ Below W.heap.size W w')
    (X3 : ∀ W : World, Calls Tryd.prog 29 #[.agg (rowB 32 h3).toArray, .string ⟨#[52, 100, 55, 52, 49, 98, 54, 102, 49, 101, 98, 50, 57, 99, 98, 50, 97, 57, 98, 57, 57, 49, 49, 99, 56, 50, 102, 53, 54, 102, 97, 56, 100, 55, 51, 98, 48, 52, 57, 53, 57, 100, 51, 100, 57, 100, 50, 50, 50, 56, 57, 53, 100, 102, 54, 99, 48, 98, 50, 56, 97, 97, 49, 53]⟩] W fun e w' => e = .returned (.bool true) ∧ Below W.heap.size W w') :
    Calls Tryd.prog 10 #[] w fun e w' => e = .returned (.bool true) ∧ Below w.heap.size w w' := by
  have HT : Hid (Tabs w) := hT
  have t2 := hT.lt
  have HS1 : Hid _ := S1
  have HS2 : Hid _ := S2
  have HS3 : Hid _ := S3
  have HP : Hid _ := P
  have HX1 : Hid _ := X1
  have HX2 : Hid _ := X2
  have HX3 : Hid _ := X3
  have G0 : Hid _ := g0
  have G1 : Hid _ := g1
  clear hT S1 S2 S3 P X1 X2 X3 g0 g1
  have cv := fun (w : World) (C : Array Value) (n c : Nat) => Lib.run_convert_bytes_const (P := Tryd.prog) w 29 5 C n c Tryd.underlying29 Tryd.underlying5
  have cv2 : ∀ (w : World) (o : Obj) (C : Array Value) (n c : Nat), (convert 29 29 (.slice (some ⟨w.heap.size + 1, 0, none⟩) n c)).run Tryd.prog ((w.alloc o).alloc (.cells C 5)) = .ok (.slice (some ⟨w.heap.size + 1, 0, none⟩) n c) ((w.alloc o).alloc (.cells C 5 (C.size, C.size + 1))) := fun w o C n c => by
    have := cv (w.alloc o) C n c
    rwa [show (w.alloc o).heap.size = w.heap.size + 1 by simp] at this
  go_enter Tryd.func10, Tryd.ntmps10
  go_upto_region 2 with (first
    | (go_at_call 17; refine (HS1.out _ HT.out).mono ?_; rintro e v1 ⟨rfl, hB⟩)
    | (refine store32_new h1 rfl _ _ rfl rfl rfl hB ?_; intro v2 hr hw hv; (have R2 : Hid (RowB v2 v1.heap.size 32 h1) := hr); (have W2 : Hid (Below w.heap.size w v2) := hw); clear hv hB hr hw))
  go_wp2_with fail
  have hW : Below w.heap.size w ((v2.alloc (.cells #[.int .u8 97, .int .u8 98, .int .u8 99] 5 (3, 4))).alloc (.cells #[.slice (some ⟨v2.heap.size, 0, none⟩) 3 3] 29)) := (Below.alloc W2.out W2.out.size _).alloc (by have := W2.out.size; simp; omega) _
  have hR : RowB ((v2.alloc (.cells #[.int .u8 97, .int .u8 98, .int .u8 99] 5 (3, 4))).alloc (.cells #[.slice (some ⟨v2.heap.size, 0, none⟩) 3 3] 29)) v1.heap.size 32 h1 := (RowB.alloc R2.out _).alloc _
  have hY : BytesAt ((v2.alloc (.cells #[.int .u8 97, .int .u8 98, .int .u8 99] 5 (3, 4))).alloc (.cells #[.slice (some ⟨v2.heap.size, 0, none⟩) 3 3] 29)) ⟨v2.heap.size, 0, none⟩ [97, 98, 99] := (bytes_new v2 5 (3, 4) [97, 98, 99]).alloc _
  refine (HS2.out _ (v2.heap.size + 1) v2.heap.size 3 1 (Tabs.below HT.out hW t2) (by go_simp) hY).mono ?_
  rintro e v3 ⟨rfl, hB⟩
  have hw3 : Below w.heap.size w v3 := hW.trans (hB.mono hW.size)
  have hr3 : RowB v3 v1.heap.size 32 h1 := hR.below hB (hR.lt (by omega))
  clear hW hR hB hY W2 R2
  go_upto_region 3 with (first
    | (refine store32_new h2 rfl _ _ rfl rfl rfl hw3 ?_; intro v4 hr hw hv; (have R4 : Hid (RowB v4 v1.heap.size 32 h1) := hr3.below hv (hr3.lt (by omega))); (have Q4 : Hid (RowB v4 v3.heap.size 32 h2) := hr); (have W4 : Hid (Below w.heap.size w v4) := hw); clear hv hr hw hr3 hw3))
  go_wp2_with fail
  have hW : Below w.heap.size w (((v4.alloc (.cells #[.int .u8 84, .int .u8 104, .int .u8 101, .int .u8 32, .int .u8 113, .int .u8 117, .int .u8 105, .int .u8 99, .int .u8 107, .int .u8 32, .int .u8 98, .int .u8 114, .int .u8 111, .int .u8 119, .int .u8 110, .int .u8 32, .int .u8 102, .int .u8 111, .int .u8 120, .int .u8 32] 5 (20, 21))).alloc (.cells #[.int .u8 106, .int .u8 117, .int .u8 109, .int .u8 112, .int .u8 115, .int .u8 32, .int .u8 111, .int .u8 118, .int .u8 101, .int .u8 114, .int .u8 32, .int .u8 116, .int .u8 104, .int .u8 101, .int .u8 32, .int .u8 108, .int .u8 97, .int .u8 122, .int .u8 121, .int .u8 32, .int .u8 100, .int .u8 111, .int .u8 103] 5 (23, 24))).alloc (.cells #[.slice (some ⟨v4.heap.size, 0, none⟩) 20 20, .slice (some ⟨v4.heap.size + 1, 0, none⟩) 23 23] 29)) := ((Below.alloc W4.out W4.out.size _).alloc (by have := W4.out.size; simp; omega) _).alloc (by have := W4.out.size; simp; omega) _
  have hR : RowB (((v4.alloc (.cells #[.int .u8 84, .int .u8 104, .int .u8 101, .int .u8 32, .int .u8 113, .int .u8 117, .int .u8 105, .int .u8 99, .int .u8 107, .int .u8 32, .int .u8 98, .int .u8 114, .int .u8 111, .int .u8 119, .int .u8 110, .int .u8 32, .int .u8 102, .int .u8 111, .int .u8 120, .int .u8 32] 5 (20, 21))).alloc (.cells #[.int .u8 106, .int .u8 117, .int .u8 109, .int .u8 112, .int .u8 115, .int .u8 32, .int .u8 111, .int .u8 118, .int .u8 101, .int .u8 114, .int .u8 32, .int .u8 116, .int .u8 104, .int .u8 101, .int .u8 32, .int .u8 108, .int .u8 97, .int .u8 122, .int .u8 121, .int .u8 32, .int .u8 100, .int .u8 111, .int .u8 103] 5 (23, 24))).alloc (.cells #[.slice (some ⟨v4.heap.size, 0, none⟩) 20 20, .slice (some ⟨v4.heap.size + 1, 0, none⟩) 23 23] 29)) v1.heap.size 32 h1 := ((RowB.alloc R4.out _).alloc _).alloc _
  have hQ : RowB (((v4.alloc (.cells #[.int .u8 84, .int .u8 104, .int .u8 101, .int .u8 32, .int .u8 113, .int .u8 117, .int .u8 105, .int .u8 99, .int .u8 107, .int .u8 32, .int .u8 98, .int .u8 114, .int .u8 111, .int .u8 119, .int .u8 110, .int .u8 32, .int .u8 102, .int .u8 111, .int .u8 120, .int .u8 32] 5 (20, 21))).alloc (.cells #[.int .u8 106, .int .u8 117, .int .u8 109, .int .u8 112, .int .u8 115, .int .u8 32, .int .u8 111, .int .u8 118, .int .u8 101, .int .u8 114, .int .u8 32, .int .u8 116, .int .u8 104, .int .u8 101, .int .u8 32, .int .u8 108, .int .u8 97, .int .u8 122, .int .u8 121, .int .u8 32, .int .u8 100, .int .u8 111, .int .u8 103] 5 (23, 24))).alloc (.cells #[.slice (some ⟨v4.heap.size, 0, none⟩) 20 20, .slice (some ⟨v4.heap.size + 1, 0, none⟩) 23 23] 29)) v3.heap.size 32 h2 := ((RowB.alloc Q4.out _).alloc _).alloc _
  have hY : BytesAt (((v4.alloc (.cells #[.int .u8 84, .int .u8 104, .int .u8 101, .int .u8 32, .int .u8 113, .int .u8 117, .int .u8 105, .int .u8 99, .int .u8 107, .int .u8 32, .int .u8 98, .int .u8 114, .int .u8 111, .int .u8 119, .int .u8 110, .int .u8 32, .int .u8 102, .int .u8 111, .int .u8 120, .int .u8 32] 5 (20, 21))).alloc (.cells #[.int .u8 106, .int .u8 117, .int .u8 109, .int .u8 112, .int .u8 115, .int .u8 32, .int .u8 111, .int .u8 118, .int .u8 101, .int .u8 114, .int .u8 32, .int .u8 116, .int .u8 104, .int .u8 101, .int .u8 32, .int .u8 108, .int .u8 97, .int .u8 122, .int .u8 121, .int .u8 32, .int .u8 100, .int .u8 111, .int .u8 103] 5 (23, 24))).alloc (.cells #[.slice (some ⟨v4.heap.size, 0, none⟩) 20 20, .slice (some ⟨v4.heap.size + 1, 0, none⟩) 23 23] 29)) ⟨v4.heap.size, 0, none⟩ [84, 104, 101, 32, 113, 117, 105, 99, 107, 32, 98, 114, 111, 119, 110, 32, 102, 111, 120, 32] := ((bytes_new v4 5 (20, 21) [84, 104, 101, 32, 113, 117, 105, 99, 107, 32, 98, 114, 111, 119, 110, 32, 102, 111, 120, 32]).alloc _).alloc _
  have hZ : BytesAt (((v4.alloc (.cells #[.int .u8 84, .int .u8 104, .int .u8 101, .int .u8 32, .int .u8 113, .int .u8 117, .int .u8 105, .int .u8 99, .int .u8 107, .int .u8 32, .int .u8 98, .int .u8 114, .int .u8 111, .int .u8 119, .int .u8 110, .int .u8 32, .int .u8 102, .int .u8 111, .int .u8 120, .int .u8 32] 5 (20, 21))).alloc (.cells #[.int .u8 106, .int .u8 117, .int .u8 109, .int .u8 112, .int .u8 115, .int .u8 32, .int .u8 111, .int .u8 118, .int .u8 101, .int .u8 114, .int .u8 32, .int .u8 116, .int .u8 104, .int .u8 101, .int .u8 32, .int .u8 108, .int .u8 97, .int .u8 122, .int .u8 121, .int .u8 32, .int .u8 100, .int .u8 111, .int .u8 103] 5 (23, 24))).alloc (.cells #[.slice (some ⟨v4.heap.size, 0, none⟩) 20 20, .slice (some ⟨v4.heap.size + 1, 0, none⟩) 23 23] 29)) ⟨v4.heap.size + 1, 0, none⟩ [106, 117, 109, 112, 115, 32, 111, 118, 101, 114, 32, 116, 104, 101, 32, 108, 97, 122, 121, 32, 100, 111, 103] := by
    have := (bytes_new (v4.alloc (.cells #[.int .u8 84, .int .u8 104, .int .u8 101, .int .u8 32, .int .u8 113, .int .u8 117, .int .u8 105, .int .u8 99, .int .u8 107, .int .u8 32, .int .u8 98, .int .u8 114, .int .u8 111, .int .u8 119, .int .u8 110, .int .u8 32, .int .u8 102, .int .u8 111, .int .u8 120, .int .u8 32] 5 (20, 21))) 5 (23, 24) [106, 117, 109, 112, 115, 32, 111, 118, 101, 114, 32, 116, 104, 101, 32, 108, 97, 122, 121, 32, 100, 111, 103]).alloc (.cells #[.slice (some ⟨v4.heap.size, 0, none⟩) 20 20, .slice (some ⟨v4.heap.size + 1, 0, none⟩) 23 23] 29)
    rw [show (v4.alloc (.cells #[.int .u8 84, .int .u8 104, .int .u8 101, .int .u8 32, .int .u8 113, .int .u8 117, .int .u8 105, .int .u8 99, .int .u8 107, .int .u8 32, .int .u8 98, .int .u8 114, .int .u8 111, .int .u8 119, .int .u8 110, .int .u8 32, .int .u8 102, .int .u8 111, .int .u8 120, .int .u8 32] 5 (20, 21))).heap.size = v4.heap.size + 1 by simp] at this
    exact this
  refine (HS3.out _ (v4.heap.size + 1 + 1) v4.heap.size (v4.heap.size + 1) 20 23 2 (Tabs.below HT.out hW t2) (by go_simp) (by go_simp) hY hZ).mono ?_
  rintro e v5 ⟨rfl, hB⟩
  have hw5 : Below w.heap.size w v5 := hW.trans (hB.mono hW.size)
  have hr5 : RowB v5 v1.heap.size 32 h1 := hR.below hB (hR.lt (by omega))
  have hq5 : RowB v5 v3.heap.size 32 h2 := hQ.below hB (hQ.lt (by omega))
  clear hW hR hB hY hZ hQ W4 R4 Q4
  go_upto_region 4 with (first
    | (refine store32_new h3 rfl _ _ rfl rfl rfl hw5 ?_; intro v6 hr hw hv; (have R6 : Hid (RowB v6 v1.heap.size 32 h1) := hr5.below hv (hr5.lt (by omega))); (have Q6 : Hid (RowB v6 v3.heap.size 32 h2) := hq5.below hv (hq5.lt (by omega))); (have U6 : Hid (RowB v6 v5.heap.size 32 h3) := hr); (have W6 : Hid (Below w.heap.size w v6) := hw); clear hv hr hw hr5 hw5 hq5))
  go_upto_region 5 with fail
  rw [zero25]
  have hw7 : Below w.heap.size w (v6.alloc (.cells (rowL 25 fun _ => 0).toArray 23)) := Below.alloc W6.out W6.out.size _
  have R7 : Hid (RowB (v6.alloc (.cells (rowL 25 fun _ => 0).toArray 23)) v1.heap.size 32 h1) := RowB.alloc R6.out _
  have Q7 : Hid (RowB (v6.alloc (.cells (rowL 25 fun _ => 0).toArray 23)) v3.heap.size 32 h2) := RowB.alloc Q6.out _
  have U7 : Hid (RowB (v6.alloc (.cells (rowL 25 fun _ => 0).toArray 23)) v5.heap.size 32 h3) := RowB.alloc U6.out _
  have Z7 : Hid (Row (v6.alloc (.cells (rowL 25 fun _ => 0).toArray 23)) v6.heap.size 25 fun _ => 0) := Row.new v6 23 25 fun _ => 0
  have W7 : Hid (Below w.heap.size w (v6.alloc (.cells (rowL 25 fun _ => 0).toArray 23))) := hw7
  clear hw7 W6 R6 Q6 U6 cv cv2
  generalize v6.alloc (.cells (rowL 25 fun _ => 0).toArray 23) = v7 at R7 Q7 U7 Z7 W7 ⊢
  go_upto_region 6 with (first
    | refine load25 (fun _ => 0) v6.heap.size rfl _ rfl rfl (Row.range Z7.out) ?_
    | (go_at_call 11; refine (HP.out _ (Tabs.below HT.out W7.out t2)).mono ?_; rintro e v8 ⟨rfl, hB⟩; (have W8 : Hid (Below w.heap.size w v8) := Below.trans W7.out (hB.mono W7.out.size)); (have R8 : Hid (RowB v8 v1.heap.size 32 h1) := RowB.below R7.out hB (RowB.lt R7.out (by omega))); (have Q8 : Hid (RowB v8 v3.heap.size 32 h2) := RowB.below Q7.out hB (RowB.lt Q7.out (by omega))); (have U8 : Hid (RowB v8 v5.heap.size 32 h3) := RowB.below U7.out hB (RowB.lt U7.out (by omega))); clear hB)
    | (refine store25_new g rfl _ _ rfl rfl rfl W8.out ?_; intro v9 hr hw hB; (have W9 : Hid (Below w.heap.size w v9) := hw); (have R9 : Hid (RowB v9 v1.heap.size 32 h1) := RowB.below R8.out hB (RowB.lt R8.out (by omega))); (have Q9 : Hid (RowB v9 v3.heap.size 32 h2) := RowB.below Q8.out hB (RowB.lt Q8.out (by omega))); (have U9 : Hid (RowB v9 v5.heap.size 32 h3) := RowB.below U8.out hB (RowB.lt U8.out (by omega))); (have V9 : Hid (Row v9 v8.heap.size 25 g) := hr); clear hr hw hB))
  clear HP HS1 HS2 HS3 W7 R7 Q7 U7 Z7 W8 R8 Q8 U8
  go_wp2_with (first
    | (go_at_call_of 29 (h1 : Nat → Int); refine (HX1.out _).mono ?_; rintro e v10 ⟨rfl, hB⟩; (have W10 : Hid (Below w.heap.size w v10) := Below.trans W9.out (hB.mono W9.out.size)); (have Q10 : Hid (RowB v10 v3.heap.size 32 h2) := RowB.below Q9.out hB (RowB.lt Q9.out (by omega))); (have U10 : Hid (RowB v10 v5.heap.size 32 h3) := RowB.below U9.out hB (RowB.lt U9.out (by omega))); (have V10 : Hid (Row v10 v8.heap.size 25 g) := Row.below V9.out hB (Row.lt V9.out (by omega))); clear hB)
    | (go_at_call_of 29 (h2 : Nat → Int); refine (HX2.out _).mono ?_; rintro e v11 ⟨rfl, hB⟩; (have W11 : Hid (Below w.heap.size w v11) := Below.trans W10.out (hB.mono W10.out.size)); (have U11 : Hid (RowB v11 v5.heap.size 32 h3) := RowB.below U10.out hB (RowB.lt U10.out (by omega))); (have V11 : Hid (Row v11 v8.heap.size 25 g) := Row.below V10.out hB (Row.lt V10.out (by omega))); clear hB)
    | (go_at_call_of 29 (h3 : Nat → Int); refine (HX3.out _).mono ?_; rintro e v12 ⟨rfl, hB⟩; (have W12 : Hid (Below w.heap.size w v12) := Below.trans W11.out (hB.mono W11.out.size)); (have V12 := Row.below V11.out hB (Row.lt V11.out (by omega))); (have d0 := (V12 0 (by omega)).1); (have d1 := (V12 1 (by omega)).1); rw [G0.out] at d0; rw [G1.out] at d1; clear hB V12)
    | (refine load32u h1 v1.heap.size _ rfl rfl (RowB.range R9.out) ?_ ?_; rfl)
    | (refine load32g h2 v3.heap.size _ rfl rfl (RowB.range Q10.out) ?_ ?_; rfl)
    | (refine load32g h3 v5.heap.size _ rfl rfl (RowB.range U11.out) ?_ ?_; rfl))
  go_ret
  exact ⟨rfl, W12.out⟩
theorem spongeKnown_any (w : World) (hT : Tabs w) : Calls Tryd.prog 10 #[] w fun e w' => e = .returned (.bool true) ∧ Below w.heap.size w w' := by
  refine spongeKnown_walk w hT (sumF []) (sumF [97, 98, 99]) (sumF ([84, 104, 101, 32, 113, 117, 105, 99, 107, 32, 98, 114, 111, 119, 110, 32, 102, 111, 120, 32] ++ [106, 117, 109, 112, 115, 32, 111, 118, 101, 114, 32, 116, 104, 101, 32, 108, 97, 122, 121, 32, 100, 111, 103])) (iv (rndsF 24 zeroK)) sumNone
    (fun W pb sb c1 c2 hW h0 h1 => sumOne W hW pb 0 sb 0 c1 c2 [97, 98, 99] (by decide) (by decide) h0 h1)
    (fun W pb sa sb c0 c1 c2 hW h0 h1 b0 b1 => sumTwo W hW pb sa sb c0 c1 c2 [84, 104, 101, 32, 113, 117, 105, 99, 107, 32, 98, 114, 111, 119, 110, 32, 102, 111, 120, 32] [106, 117, 109, 112, 115, 32, 111, 118, 101, 114, 32, 116, 104, 101, 32, 108, 97, 122, 121, 32, 100, 111, 103] (by decide) (by decide) (by decide) (by decide) h0 h1 b0 b1)
    (fun W hW => ?_) zero_lanes.1 zero_lanes.2 (fun W => hexed_is _ _ W rfl hex_none) (fun W => hexed_is _ _ W rfl hex_abc) (fun W => hexed_is _ _ W rfl ?_)
  · have := permute_is zeroK W hW
    rw [show rowL 25 (iv zeroK) = rowL 25 (fun _ => 0) from rowL_ext fun i _ => rfl] at this
    exact this
  · exact hex_fox

end Go.Proofs.YteggikojfkmbkaaDoor
