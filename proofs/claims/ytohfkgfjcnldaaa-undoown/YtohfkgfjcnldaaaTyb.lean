/- do; lists of numbers; sameInts, tells. -/
import Derived.Test.YtohfkgfjcnldaaaTzn
import Derived.Test.YtohfkgfjcnldaaaTfo
namespace Go.Proofs.Ytohfkgfjcnldaaa
open Go.RowKit Go.Shelf
set_option maxHeartbeats 2000000 in
set_option maxRecDepth 100000 in
theorem do1 (w : World) (ow : Nat → Nat) (i b N : Nat) (A : List (Int × Int)) (H : List (List (Int × Int))) (h : T1 w ow i b N A H) (hN : N < 274877906944) (two : Bool) (k v : Int) (hk : I64 k) : Calls Try.prog 38 #[.pointer (some ⟨b, 0, none⟩), .agg #[.int .i64 1, .bool two, .int .i64 k, .int .i64 v]] w fun e w' => e = .returned (.tuple #[]) ∧ ∃ ow', T1 w' ow' i b (N + 1) (setRL A k v) H ∧ Mo (fun x => x = i) ow ow' w w' := by
  have B0 : Hid (Below w.heap.size w (w.alloc (.cells #[.int .i64 1, .bool two, .int .i64 k, .int .i64 v] 30))) := (Below.refl _ w).alloc (Nat.le_refl _) _
  have T0 : Hid (T1 (w.alloc (.cells #[.int .i64 1, .bool two, .int .i64 k, .int .i64 v] 30)) (grow ow w.heap.size 0) i b N A H) := h.past B0.out
  have M0 : Hid (Mo (fun x => x = i) ow (grow ow w.heap.size 0) w (w.alloc (.cells #[.int .i64 1, .bool two, .int .i64 k, .int .i64 v] 30))) := Mo.below B0.out
  have O0 : Hid (CBox (w.alloc (.cells #[.int .i64 1, .bool two, .int .i64 k, .int .i64 v] 30)) w.heap.size 30 [.int .i64 1, .bool two, .int .i64 k, .int .i64 v]) := CBox.new w _ [_, _, _, _]
  have HK : Hid (I64 k ∧ N < 274877906944) := ⟨hk, hN⟩
  clear h hk hN B0
  generalize grow ow w.heap.size 0 = o0 at T0 M0
  go_enter Try.func38, Try.ntmps38
  go_upto_region 1 with fail
  change Code.wp _ _ _ _ (w.alloc (.cells #[.int .i64 1, .bool two, .int .i64 k, .int .i64 v] 30))
  generalize w.alloc (.cells #[.int .i64 1, .bool two, .int .i64 k, .int .i64 v] 30) = w0 at T0 M0 O0 ⊢
  generalize w.heap.size = ob at O0 ⊢
  have e0 : w0.cell? ⟨ob, 0, none⟩ = some (.int .i64 1) := O0.out.cell 0
  have e2 : w0.cell? ⟨ob, 2, none⟩ = some (.int .i64 k) := O0.out.cell 2
  have e3 : w0.cell? ⟨ob, 3, none⟩ = some (.int .i64 v) := O0.out.cell 3
  go_wp2_with (go_at_call 39; refine (set1 w0 o0 i b N A H T0.out k v HK.out.1 (by have := HK.out; omega)).mono ?_; rintro e w1 ⟨rfl, h1, h2⟩)
  go_end0
  exact ⟨rfl, _, h1, M0.out.trans (Mo.of h2 rfl)⟩
set_option maxHeartbeats 2000000 in
set_option maxRecDepth 100000 in
theorem do2 (w : World) (ow : Nat → Nat) (i b N : Nat) (A : List (Int × Int)) (H : List (List (Int × Int))) (h : T1 w ow i b N A H) (hN : N < 274877906944) (two : Bool) (k v : Int) (hk : I64 k) : Calls Try.prog 38 #[.pointer (some ⟨b, 0, none⟩), .agg #[.int .i64 2, .bool two, .int .i64 k, .int .i64 v]] w fun e w' => e = .returned (.tuple #[]) ∧ ∃ ow', T1 w' ow' i b (N + 1) (delA A k) H ∧ Mo (fun x => x = i) ow ow' w w' := by
  have B0 : Hid (Below w.heap.size w (w.alloc (.cells #[.int .i64 2, .bool two, .int .i64 k, .int .i64 v] 30))) := (Below.refl _ w).alloc (Nat.le_refl _) _
  have T0 : Hid (T1 (w.alloc (.cells #[.int .i64 2, .bool two, .int .i64 k, .int .i64 v] 30)) (grow ow w.heap.size 0) i b N A H) := h.past B0.out
  have M0 : Hid (Mo (fun x => x = i) ow (grow ow w.heap.size 0) w (w.alloc (.cells #[.int .i64 2, .bool two, .int .i64 k, .int .i64 v] 30))) := Mo.below B0.out
  have O0 : Hid (CBox (w.alloc (.cells #[.int .i64 2, .bool two, .int .i64 k, .int .i64 v] 30)) w.heap.size 30 [.int .i64 2, .bool two, .int .i64 k, .int .i64 v]) := CBox.new w _ [_, _, _, _]
  have HK : Hid (I64 k ∧ N < 274877906944) := ⟨hk, hN⟩
  clear h hk hN B0
  generalize grow ow w.heap.size 0 = o0 at T0 M0
  go_enter Try.func38, Try.ntmps38
  go_upto_region 1 with fail
  change Code.wp _ _ _ _ (w.alloc (.cells #[.int .i64 2, .bool two, .int .i64 k, .int .i64 v] 30))
  generalize w.alloc (.cells #[.int .i64 2, .bool two, .int .i64 k, .int .i64 v] 30) = w0 at T0 M0 O0 ⊢
  generalize w.heap.size = ob at O0 ⊢
  have e0 : w0.cell? ⟨ob, 0, none⟩ = some (.int .i64 2) := O0.out.cell 0
  have e2 : w0.cell? ⟨ob, 2, none⟩ = some (.int .i64 k) := O0.out.cell 2
  have e3 : w0.cell? ⟨ob, 3, none⟩ = some (.int .i64 v) := O0.out.cell 3
  go_wp2_with (go_at_call 43; refine (del1 w0 o0 i b N A H T0.out k HK.out.1 (by have := HK.out; omega)).mono ?_; rintro e w1 ⟨rfl, h1, h2⟩)
  go_end0
  exact ⟨rfl, _, h1, M0.out.trans (Mo.of h2 rfl)⟩
set_option maxHeartbeats 2000000 in
set_option maxRecDepth 100000 in
theorem do3 (w : World) (ow : Nat → Nat) (i b N : Nat) (A : List (Int × Int)) (H : List (List (Int × Int))) (h : T1 w ow i b N A H) (hN : N < 274877906944) (two : Bool) (k v : Int) (hk : I64 k) : Calls Try.prog 38 #[.pointer (some ⟨b, 0, none⟩), .agg #[.int .i64 3, .bool two, .int .i64 k, .int .i64 v]] w fun e w' => e = .returned (.tuple #[]) ∧ ∃ ow', T1 w' ow' i b (N + 1) A (H ++ [A]) ∧ Mo (fun x => x = i) ow ow' w w' := by
  have B0 : Hid (Below w.heap.size w (w.alloc (.cells #[.int .i64 3, .bool two, .int .i64 k, .int .i64 v] 30))) := (Below.refl _ w).alloc (Nat.le_refl _) _
  have T0 : Hid (T1 (w.alloc (.cells #[.int .i64 3, .bool two, .int .i64 k, .int .i64 v] 30)) (grow ow w.heap.size 0) i b N A H) := h.past B0.out
  have M0 : Hid (Mo (fun x => x = i) ow (grow ow w.heap.size 0) w (w.alloc (.cells #[.int .i64 3, .bool two, .int .i64 k, .int .i64 v] 30))) := Mo.below B0.out
  have O0 : Hid (CBox (w.alloc (.cells #[.int .i64 3, .bool two, .int .i64 k, .int .i64 v] 30)) w.heap.size 30 [.int .i64 3, .bool two, .int .i64 k, .int .i64 v]) := CBox.new w _ [_, _, _, _]
  have HK : Hid (I64 k ∧ N < 274877906944) := ⟨hk, hN⟩
  clear h hk hN B0
  generalize grow ow w.heap.size 0 = o0 at T0 M0
  go_enter Try.func38, Try.ntmps38
  go_upto_region 1 with fail
  change Code.wp _ _ _ _ (w.alloc (.cells #[.int .i64 3, .bool two, .int .i64 k, .int .i64 v] 30))
  generalize w.alloc (.cells #[.int .i64 3, .bool two, .int .i64 k, .int .i64 v] 30) = w0 at T0 M0 O0 ⊢
  generalize w.heap.size = ob at O0 ⊢
  have e0 : w0.cell? ⟨ob, 0, none⟩ = some (.int .i64 3) := O0.out.cell 0
  have e2 : w0.cell? ⟨ob, 2, none⟩ = some (.int .i64 k) := O0.out.cell 2
  have e3 : w0.cell? ⟨ob, 3, none⟩ = some (.int .i64 v) := O0.out.cell 3
  go_wp2_with (go_at_call 42; refine (mark1 w0 o0 i b N A H T0.out (by have := HK.out; omega)).mono ?_; rintro e w1 ⟨rfl, h1, h2⟩)
  go_end0
  exact ⟨rfl, _, h1, M0.out.trans (Mo.of h2 rfl)⟩
set_option maxHeartbeats 2000000 in
set_option maxRecDepth 100000 in
theorem do4 (w : World) (ow : Nat → Nat) (i b N : Nat) (A : List (Int × Int)) (H : List (List (Int × Int))) (h : T1 w ow i b N A H) (hN : N < 274877906944) (two : Bool) (k v : Int) (hk : I64 k) : Calls Try.prog 38 #[.pointer (some ⟨b, 0, none⟩), .agg #[.int .i64 4, .bool two, .int .i64 k, .int .i64 v]] w fun e w' => e = .returned (.tuple #[]) ∧ ∃ ow', T1 w' ow' i b (N + 1) (bkA A H k) (bkH H k) ∧ Mo (fun x => x = i) ow ow' w w' := by
  have B0 : Hid (Below w.heap.size w (w.alloc (.cells #[.int .i64 4, .bool two, .int .i64 k, .int .i64 v] 30))) := (Below.refl _ w).alloc (Nat.le_refl _) _
  have T0 : Hid (T1 (w.alloc (.cells #[.int .i64 4, .bool two, .int .i64 k, .int .i64 v] 30)) (grow ow w.heap.size 0) i b N A H) := h.past B0.out
  have M0 : Hid (Mo (fun x => x = i) ow (grow ow w.heap.size 0) w (w.alloc (.cells #[.int .i64 4, .bool two, .int .i64 k, .int .i64 v] 30))) := Mo.below B0.out
  have O0 : Hid (CBox (w.alloc (.cells #[.int .i64 4, .bool two, .int .i64 k, .int .i64 v] 30)) w.heap.size 30 [.int .i64 4, .bool two, .int .i64 k, .int .i64 v]) := CBox.new w _ [_, _, _, _]
  have HK : Hid (I64 k ∧ N < 274877906944) := ⟨hk, hN⟩
  clear h hk hN B0
  generalize grow ow w.heap.size 0 = o0 at T0 M0
  go_enter Try.func38, Try.ntmps38
  go_upto_region 1 with fail
  change Code.wp _ _ _ _ (w.alloc (.cells #[.int .i64 4, .bool two, .int .i64 k, .int .i64 v] 30))
  generalize w.alloc (.cells #[.int .i64 4, .bool two, .int .i64 k, .int .i64 v] 30) = w0 at T0 M0 O0 ⊢
  generalize w.heap.size = ob at O0 ⊢
  have e0 : w0.cell? ⟨ob, 0, none⟩ = some (.int .i64 4) := O0.out.cell 0
  have e2 : w0.cell? ⟨ob, 2, none⟩ = some (.int .i64 k) := O0.out.cell 2
  have e3 : w0.cell? ⟨ob, 3, none⟩ = some (.int .i64 v) := O0.out.cell 3
  go_wp2_with (go_at_call 45; refine (back1 w0 o0 i b N A H T0.out k (by have := HK.out; omega)).mono ?_; rintro e w1 ⟨rfl, h1, h2⟩)
  go_end0
  exact ⟨rfl, _, h1, M0.out.trans (Mo.of h2 rfl)⟩
set_option maxHeartbeats 2000000 in
set_option maxRecDepth 100000 in
theorem do5 (w : World) (ow : Nat → Nat) (i b N : Nat) (A : List (Int × Int)) (H : List (List (Int × Int))) (h : T1 w ow i b N A H) (hN : N < 274877906944) (two : Bool) (k v : Int) (hk : I64 k) : Calls Try.prog 38 #[.pointer (some ⟨b, 0, none⟩), .agg #[.int .i64 5, .bool two, .int .i64 k, .int .i64 v]] w fun e w' => e = .returned (.tuple #[]) ∧ ∃ ow', T1 w' ow' i b (N + 1) A (bkH H k) ∧ Mo (fun x => x = i) ow ow' w w' := by
  have B0 : Hid (Below w.heap.size w (w.alloc (.cells #[.int .i64 5, .bool two, .int .i64 k, .int .i64 v] 30))) := (Below.refl _ w).alloc (Nat.le_refl _) _
  have T0 : Hid (T1 (w.alloc (.cells #[.int .i64 5, .bool two, .int .i64 k, .int .i64 v] 30)) (grow ow w.heap.size 0) i b N A H) := h.past B0.out
  have M0 : Hid (Mo (fun x => x = i) ow (grow ow w.heap.size 0) w (w.alloc (.cells #[.int .i64 5, .bool two, .int .i64 k, .int .i64 v] 30))) := Mo.below B0.out
  have O0 : Hid (CBox (w.alloc (.cells #[.int .i64 5, .bool two, .int .i64 k, .int .i64 v] 30)) w.heap.size 30 [.int .i64 5, .bool two, .int .i64 k, .int .i64 v]) := CBox.new w _ [_, _, _, _]
  have HK : Hid (I64 k ∧ N < 274877906944) := ⟨hk, hN⟩
  clear h hk hN B0
  generalize grow ow w.heap.size 0 = o0 at T0 M0
  go_enter Try.func38, Try.ntmps38
  go_upto_region 1 with fail
  change Code.wp _ _ _ _ (w.alloc (.cells #[.int .i64 5, .bool two, .int .i64 k, .int .i64 v] 30))
  generalize w.alloc (.cells #[.int .i64 5, .bool two, .int .i64 k, .int .i64 v] 30) = w0 at T0 M0 O0 ⊢
  generalize w.heap.size = ob at O0 ⊢
  have e0 : w0.cell? ⟨ob, 0, none⟩ = some (.int .i64 5) := O0.out.cell 0
  have e2 : w0.cell? ⟨ob, 2, none⟩ = some (.int .i64 k) := O0.out.cell 2
  have e3 : w0.cell? ⟨ob, 3, none⟩ = some (.int .i64 v) := O0.out.cell 3
  go_wp2_with (go_at_call 47; refine (forget1 w0 o0 i b N A H T0.out k (by have := HK.out; omega)).mono ?_; rintro e w1 ⟨rfl, h1, h2⟩)
  go_end0
  exact ⟨rfl, _, h1, M0.out.trans (Mo.of h2 rfl)⟩
set_option maxHeartbeats 2000000 in
set_option maxRecDepth 100000 in
theorem do0 (w : World) (ow : Nat → Nat) (i b N : Nat) (A : List (Int × Int)) (H : List (List (Int × Int))) (h : T1 w ow i b N A H) (hN : N < 274877906944) (kd : Int) (h1 : ¬ kd = 1) (h2 : ¬ kd = 2) (h3 : ¬ kd = 3) (h4 : ¬ kd = 4) (h5 : ¬ kd = 5) (two : Bool) (k v : Int) (hk : I64 k) : Calls Try.prog 38 #[.pointer (some ⟨b, 0, none⟩), .agg #[.int .i64 kd, .bool two, .int .i64 k, .int .i64 v]] w fun e w' => e = .returned (.tuple #[]) ∧ ∃ ow', T1 w' ow' i b (N + 1) A H ∧ Mo (fun x => x = i) ow ow' w w' := by
  have B0 : Hid (Below w.heap.size w (w.alloc (.cells #[.int .i64 kd, .bool two, .int .i64 k, .int .i64 v] 30))) := (Below.refl _ w).alloc (Nat.le_refl _) _
  have T0 : Hid (T1 (w.alloc (.cells #[.int .i64 kd, .bool two, .int .i64 k, .int .i64 v] 30)) (grow ow w.heap.size 0) i b N A H) := h.past B0.out
  have M0 : Hid (Mo (fun x => x = i) ow (grow ow w.heap.size 0) w (w.alloc (.cells #[.int .i64 kd, .bool two, .int .i64 k, .int .i64 v] 30))) := Mo.below B0.out
  have O0 : Hid (CBox (w.alloc (.cells #[.int .i64 kd, .bool two, .int .i64 k, .int .i64 v] 30)) w.heap.size 30 [.int .i64 kd, .bool two, .int .i64 k, .int .i64 v]) := CBox.new w _ [_, _, _, _]
  have HK : Hid (I64 k ∧ N < 274877906944) := ⟨hk, hN⟩
  clear h hk hN B0
  generalize grow ow w.heap.size 0 = o0 at T0 M0
  go_enter Try.func38, Try.ntmps38
  go_upto_region 1 with fail
  change Code.wp _ _ _ _ (w.alloc (.cells #[.int .i64 kd, .bool two, .int .i64 k, .int .i64 v] 30))
  generalize w.alloc (.cells #[.int .i64 kd, .bool two, .int .i64 k, .int .i64 v] 30) = w0 at T0 M0 O0 ⊢
  generalize w.heap.size = ob at O0 ⊢
  have e0 : w0.cell? ⟨ob, 0, none⟩ = some (.int .i64 kd) := O0.out.cell 0
  have e2 : w0.cell? ⟨ob, 2, none⟩ = some (.int .i64 k) := O0.out.cell 2
  have e3 : w0.cell? ⟨ob, 3, none⟩ = some (.int .i64 v) := O0.out.cell 3
  go_wp2
  go_end0
  exact ⟨rfl, _, T0.out.mono (by omega), M0.out⟩
theorem do_is (w : World) (ow : Nat → Nat) (i b N : Nat) (A : List (Int × Int)) (H : List (List (Int × Int))) (h : T1 w ow i b N A H) (hN : N < 274877906944) (kd : Int) (two : Bool) (k v : Int) (hk : I64 k) : Calls Try.prog 38 #[.pointer (some ⟨b, 0, none⟩), .agg #[.int .i64 kd, .bool two, .int .i64 k, .int .i64 v]] w fun e w' => e = .returned (.tuple #[]) ∧ ∃ ow', T1 w' ow' i b (N + 1) (nxA kd k v A H) (nxH kd k A H) ∧ Mo (fun x => x = i) ow ow' w w' := by
  by_cases h1 : kd = 1
  · subst h1; exact do1 w ow i b N A H h hN two k v hk
  by_cases h2 : kd = 2
  · subst h2; exact do2 w ow i b N A H h hN two k v hk
  by_cases h3 : kd = 3
  · subst h3; exact do3 w ow i b N A H h hN two k v hk
  by_cases h4 : kd = 4
  · subst h4; exact do4 w ow i b N A H h hN two k v hk
  by_cases h5 : kd = 5
  · subst h5; exact do5 w ow i b N A H h hN two k v hk
  unfold nxA nxH
  rw [if_neg h1, if_neg h2, if_neg h4, if_neg h3, if_neg h4, if_neg h5]
  exact do0 w ow i b N A H h hN kd h1 h2 h3 h4 h5 two k v hk
/-- v reads as these numbers, in a block of the law's own -/
def IsI (W : World) (ow : Nat → Nat) (v : Value) (l : List Int) : Prop := ∃ ad cap, v = .slice ad l.length cap ∧ ∀ i x, l[i]? = some x → ∃ g, ad = some ⟨g, 0, none⟩ ∧ ow g = 0 ∧ W.cell? ⟨g, i, none⟩ = some (.int .i64 x)
theorem IsI.mo {P : Nat → Prop} {W W' : World} {ow ow' : Nat → Nat} {v : Value} {l : List Int} (h : IsI W ow v l) (m : Mo P ow ow' W W') (hP : ¬ P 0) : IsI W' ow' v l := by
  obtain ⟨ad, cap, e, h1⟩ := h
  refine ⟨ad, cap, e, fun i x hx => ?_⟩
  obtain ⟨g, e1, e2, e3⟩ := h1 i x hx
  have lt : g < W.heap.size := World.block_lt_of_cell? W _ e3
  exact ⟨g, e1, (m.eq g lt).trans e2, (m.but.cell (p := ⟨g, i, none⟩) lt (fun e => hP (e2 ▸ e.1))).trans e3⟩
theorem IsI.past {W W' : World} {ow : Nat → Nat} {v : Value} {l : List Int} {k : Nat} (h : IsI W ow v l) (hB : Below W.heap.size W W') : IsI W' (grow ow W.heap.size k) v l := h.mo (P := fun _ => False) (Mo.below hB) id
theorem IsI.drew {W : World} {ow : Nat → Nat} {v : Value} {l : List Int} (h : IsI W ow v l) : IsI W.drew ow v l := h.mo (P := fun _ => False) ⟨(But.refl _ _).drew, fun _ _ => rfl⟩ id
theorem IsI.box {W : World} {ow : Nat → Nat} {g cap : Nat} {l : List Int} (h : CBox W g 3 (intsD l)) (h0 : ow g = 0) : IsI W ow (.slice (some ⟨g, 0, none⟩) l.length cap) l := by
  refine ⟨_, _, rfl, fun i x hx => ⟨g, rfl, h0, ?_⟩⟩
  rw [h.cell]
  unfold intsD
  rw [List.getElem?_map, hx]
  rfl
set_option maxHeartbeats 2000000 in
set_option maxRecDepth 100000 in
theorem sameInts_is (w : World) (ow : Nat → Nat) (v v' : Value) (l : List Int) (h : IsI w ow v l) (h' : IsI w ow v' l) (hl : l.length < 549755813888) : Calls Try.prog 55 #[v, v'] w fun e w' => e = .returned (.bool true) ∧ Below w.heap.size w w' := by
  obtain ⟨ad, cap, rfl, h1⟩ := h
  obtain ⟨ad', cap', rfl, h2⟩ := h'
  have HA : Hid (∀ i x, l[i]? = some x → ∃ g, ad = some ⟨g, 0, none⟩ ∧ ow g = 0 ∧ w.cell? ⟨g, i, none⟩ = some (.int .i64 x)) := h1
  have HB : Hid (∀ i x, l[i]? = some x → ∃ g, ad' = some ⟨g, 0, none⟩ ∧ ow g = 0 ∧ w.cell? ⟨g, i, none⟩ = some (.int .i64 x)) := h2
  obtain ⟨n, en⟩ : ∃ n, l.length = n := ⟨_, rfl⟩
  have EN : Hid (l.length = n) := en
  rw [en] at hl ⊢
  have nX : (n : Int) < 549755813888 := by omega
  clear h1 h2 en
  go_enter Try.func55, Try.ntmps55
  go_wp2
  go_loopw [5] (fun si wr => ∃ i : Nat, i ≤ n ∧ si = .int .i64 (i : Int) ∧ Below w.heap.size w wr) (fun si _ => n - (intOf si).toNat)
  case atStart => exact ⟨0, by omega, rfl, Below.refl _ _⟩
  case round =>
    obtain ⟨i, hi, rfl, hb⟩ := hrel
    have B3 : Hid (Below w.heap.size w wr) := hb
    clear hb
    by_cases e : i < n
    · have iI : (i : Int) < (n : Int) := by omega
      obtain ⟨x, hx⟩ : ∃ x, l[i]? = some x := ⟨_, List.getElem?_eq_getElem (by rw [EN.out]; exact e)⟩
      obtain ⟨g, rfl, _, c1⟩ := HA.out i x hx
      obtain ⟨g', rfl, _, c2⟩ := HB.out i x hx
      have hh : wr.drew.cell? ⟨g, i, none⟩ = some (.int .i64 x) ∧ wr.drew.cell? ⟨g', i, none⟩ = some (.int .i64 x) := ⟨(B3.out.drew.cell (p := ⟨g, i, none⟩) (World.block_lt_of_cell? w _ c1)).trans c1, (B3.out.drew.cell (p := ⟨g', i, none⟩) (World.block_lt_of_cell? w _ c2)).trans c2⟩
      clear c1 c2 hx
      go_upto_region 6 with fail
      refine wp_region_held_drew (S := fun V' => V'.cell? ⟨g, i, none⟩ = some (.int .i64 x) ∧ V'.cell? ⟨g', i, none⟩ = some (.int .i64 x)) (by kernel_rfl) hh (fun hHeld => ?_)
      have B4 : Hid (Below w.heap.size w wr.drew) := B3.out.drew
      generalize wr.drew = z0 at hHeld B4 ⊢
      clear B3 hh
      refine wpAnyH_take (i := 0) (v := .slice (some ⟨g, 0, none⟩) n cap) ov0 (by kernel_rfl) (by kernel_rfl) (by kernel_rfl) (fun _ _ _ h => h) (Or.inl ⟨by rfl, fun V' hS => ?_⟩) hHeld ?_
      · go_simp
      simp only [Act.put, List.setIfInBounds_toArray, List.set_cons_zero, List.set_cons_succ]
      refine wpAnyH_take (i := 1) (v := .int .i64 (i : Int)) ov1 (by kernel_rfl) (by kernel_rfl) (by kernel_rfl) (fun _ _ _ h => h) (Or.inl ⟨by rfl, fun V' hS => ?_⟩) hHeld ?_
      · go_simp
      simp only [Act.put, List.setIfInBounds_toArray, List.set_cons_zero, List.set_cons_succ]
      refine wpAnyH_take (i := 2) (v := .pointer (some ⟨g, i, none⟩)) ov2 (by kernel_rfl) (by kernel_rfl) (by kernel_rfl) (fun _ _ _ h => h) (Or.inl ⟨by rfl, fun V' hS => ?_⟩) hHeld ?_
      · go_simp
      simp only [Act.put, List.setIfInBounds_toArray, List.set_cons_zero, List.set_cons_succ]
      refine wpAnyH_take (i := 3) (v := .int .i64 x) ov3 (by kernel_rfl) (by kernel_rfl) (by kernel_rfl) (fun _ _ _ h => h) (Or.inl ⟨by rfl, fun V' hS => ?_⟩) hHeld ?_
      · obtain ⟨q0, q1⟩ := hS
        go_simp
      simp only [Act.put, List.setIfInBounds_toArray, List.set_cons_zero, List.set_cons_succ]
      refine wpAnyH_take (i := 4) (v := .slice (some ⟨g', 0, none⟩) n cap') ov4 (by kernel_rfl) (by kernel_rfl) (by kernel_rfl) (fun _ _ _ h => h) (Or.inl ⟨by rfl, fun V' hS => ?_⟩) hHeld ?_
      · go_simp
      simp only [Act.put, List.setIfInBounds_toArray, List.set_cons_zero, List.set_cons_succ]
      refine wpAnyH_take (i := 5) (v := .int .i64 (i : Int)) ov5 (by kernel_rfl) (by kernel_rfl) (by kernel_rfl) (fun _ _ _ h => h) (Or.inl ⟨by rfl, fun V' hS => ?_⟩) hHeld ?_
      · go_simp
      simp only [Act.put, List.setIfInBounds_toArray, List.set_cons_zero, List.set_cons_succ]
      refine wpAnyH_take (i := 6) (v := .pointer (some ⟨g', i, none⟩)) ov6 (by kernel_rfl) (by kernel_rfl) (by kernel_rfl) (fun _ _ _ h => h) (Or.inl ⟨by rfl, fun V' hS => ?_⟩) hHeld ?_
      · go_simp
      simp only [Act.put, List.setIfInBounds_toArray, List.set_cons_zero, List.set_cons_succ]
      refine wpAnyH_take (i := 7) (v := .int .i64 x) ov7 (by kernel_rfl) (by kernel_rfl) (by kernel_rfl) (fun _ _ _ h => h) (Or.inl ⟨by rfl, fun V' hS => ?_⟩) hHeld ?_
      · obtain ⟨q0, q1⟩ := hS
        go_simp
      simp only [Act.put, List.setIfInBounds_toArray, List.set_cons_zero, List.set_cons_succ]
      refine wpAnyH_take (i := 8) (v := .bool false) ov8 (by kernel_rfl) (by kernel_rfl) (by kernel_rfl) (fun _ _ _ h => h) (Or.inl ⟨by rfl, fun V' hS => ?_⟩) hHeld ?_
      · go_simp
      simp only [Act.put, List.setIfInBounds_toArray, List.set_cons_zero, List.set_cons_succ]
      refine wpAnyH_done (by kernel_rfl) ?_ _
      go_wp2
      go_roundw
      case rel => exact ⟨i + 1, by omega, by go_num, B4.out⟩
      case measure => simp [intOf]; omega
    · have iI : ¬ (i : Int) < (n : Int) := by omega
      go_wp2
      go_ret
      exact ⟨rfl, B3.out⟩
theorem ris_step {A : List (Int × Int)} (h : Ris A) {j : Nat} {p q : Int × Int} (h1 : A[j]? = some p) (h2 : A[j + 1]? = some q) : p.1 < q.1 := by
  obtain ⟨a, e1⟩ := List.getElem?_eq_some_iff.1 h1
  obtain ⟨b, e2⟩ := List.getElem?_eq_some_iff.1 h2
  have := List.pairwise_iff_getElem.1 h j (j + 1) a b (by omega)
  rw [e1, e2] at this
  exact this
/-- while tells looks -/
structure TE (w W : World) (xb : Nat) (vk vv : Value) : Prop where
  c0 : W.cell? ⟨xb, 0, none⟩ = some vk
  c1 : W.cell? ⟨xb, 1, none⟩ = some vv
  bl : Below w.heap.size w W
theorem TE.past {w W W' : World} {xb : Nat} {vk vv : Value} (h : TE w W xb vk vv) (hB : Below W.heap.size W W') : TE w W' xb vk vv :=
  have lt : xb < W.heap.size := World.block_lt_of_cell? W _ h.c0
  ⟨(hB.cell (p := ⟨xb, 0, none⟩) lt).trans h.c0, (hB.cell (p := ⟨xb, 1, none⟩) lt).trans h.c1, h.bl.trans (hB.mono h.bl.size)⟩
set_option maxHeartbeats 4000000 in
set_option maxRecDepth 100000 in
theorem tells_is (w : World) (ow : Nat → Nat) (i b N : Nat) (A : List (Int × Int)) (H : List (List (Int × Int))) (h : T1 w ow i b N A H) (hN : N < 274877906944) (vk vv : Value) (hk : IsI w ow vk (A.map Prod.fst)) (hv : IsI w ow vv (A.map Prod.snd)) : Calls Try.prog 46 #[.pointer (some ⟨b, 0, none⟩), .agg #[vk, vv]] w fun e w' => e = .returned (.bool true) ∧ Below w.heap.size w w' := by
  have TB : Hid (∀ W, Below w.heap.size w W → T1 W (grow ow w.heap.size 0) i b N A H ∧ IsI W (grow ow w.heap.size 0) vk (A.map Prod.fst) ∧ IsI W (grow ow w.heap.size 0) vv (A.map Prod.snd)) := fun W hB => ⟨h.past hB, hk.past hB, hv.past hB⟩
  have HK : Hid (∀ q kx vx, A[q]? = some (kx, vx) → ∃ g g', (vk = .slice (some ⟨g, 0, none⟩) A.length (match vk with | .slice _ _ c => c | _ => 0) ∧ vv = .slice (some ⟨g', 0, none⟩) A.length (match vv with | .slice _ _ c => c | _ => 0)) ∧ w.cell? ⟨g, q, none⟩ = some (.int .i64 kx) ∧ w.cell? ⟨g', q, none⟩ = some (.int .i64 vx)) := fun q kx vx hq => by
    obtain ⟨ka, kc, rfl, h1⟩ := hk
    obtain ⟨va, vc, rfl, h2⟩ := hv
    obtain ⟨g, rfl, _, c1⟩ := h1 q kx (by rw [List.getElem?_map, hq]; rfl)
    obtain ⟨g', rfl, _, c2⟩ := h2 q vx (by rw [List.getElem?_map, hq]; rfl)
    exact ⟨g, g', ⟨by rw [List.length_map], by rw [List.length_map]⟩, c1, c2⟩
  obtain ⟨ka, kc, ek, _⟩ := hk
  obtain ⟨va, vc, ev, _⟩ := hv
  rw [List.length_map] at ek ev
  obtain ⟨n, en⟩ : ∃ n, A.length = n := ⟨_, rfl⟩
  have EN : Hid (A.length = n) := en
  have HR : Hid (Ris A ∧ (∀ p ∈ A, I64 p.1) ∧ A.length ≤ N ∧ N < 274877906944) := ⟨h.ris, h.i64, h.lA, hN⟩
  have nX : (n : Int) < 274877906944 := by have := h.lA; omega
  rw [en] at ek ev
  subst ek ev
  rw [en] at HK
  have X0 : Hid (TE w (w.alloc (.cells #[.slice ka n kc, .slice va n vc] 67)) w.heap.size (.slice ka n kc) (.slice va n vc)) := ⟨(CBox.new w 67 [.slice ka n kc, .slice va n vc]).cell 0, (CBox.new w 67 [.slice ka n kc, .slice va n vc]).cell 1, (Below.refl _ w).alloc (Nat.le_refl _) _⟩
  clear h hN en
  generalize grow ow w.heap.size 0 = o1 at TB
  go_enter Try.func46, Try.ntmps46
  go_upto_region 1 with fail
  change Code.wp _ _ _ _ (w.alloc (.cells #[.slice ka n kc, .slice va n vc] 67))
  generalize w.alloc (.cells #[.slice ka n kc, .slice va n vc] 67) = w0 at X0 ⊢
  obtain ⟨xb, ex⟩ : ∃ xb, xb = w.heap.size := ⟨_, rfl⟩
  rw [← ex] at X0 ⊢
  have EX : Hid (xb = w.heap.size) := ex
  clear ex
  have X1 : Hid (TE w w0.drew xb (.slice ka n kc) (.slice va n vc)) := X0.out.past ((Below.refl _ _).drew)
  refine wp_region_held_drew (S := fun V' => V'.cell? ⟨xb, 0, none⟩ = some (.slice ka n kc) ∧ V'.cell? ⟨xb, 1, none⟩ = some (.slice va n vc)) (by kernel_rfl) ⟨X1.out.c0, X1.out.c1⟩ (fun hHeld => ?_)
  generalize w0.drew = z0 at hHeld X1 ⊢
  clear X0
  refine wpAnyH_take (i := 0) (v := .pointer (some ⟨b, 0, none⟩)) ov0 (by kernel_rfl) (by kernel_rfl) (by kernel_rfl) (fun _ _ _ h => h) (Or.inl ⟨by rfl, fun V' hS => ?_⟩) hHeld ?_
  · go_simp
  simp only [Act.put, List.setIfInBounds_toArray, List.set_cons_zero, List.set_cons_succ]
  refine wpAnyH_take (i := 2) (v := .pointer (some ⟨xb, 0, none⟩)) ov2 (by kernel_rfl) (by kernel_rfl) (by kernel_rfl) (fun _ _ _ h => h) (Or.inl ⟨by rfl, fun V' hS => ?_⟩) hHeld ?_
  · go_simp
  simp only [Act.put, List.setIfInBounds_toArray, List.set_cons_zero, List.set_cons_succ]
  refine wpAnyH_take (i := 3) (v := .slice ka n kc) ov3 (by kernel_rfl) (by kernel_rfl) (by kernel_rfl) (fun _ _ _ h => h) (Or.inl ⟨by rfl, fun V' hS => ?_⟩) hHeld ?_
  · obtain ⟨q0, q1⟩ := hS
    go_simp
  simp only [Act.put, List.setIfInBounds_toArray, List.set_cons_zero, List.set_cons_succ]
  refine wpAnyH_take (i := 4) (v := .int .i64 (n : Int)) ov4 (by kernel_rfl) (by kernel_rfl) (by kernel_rfl) (fun _ _ _ h => h) (Or.inl ⟨by rfl, fun V' hS => ?_⟩) hHeld ?_
  · go_simp
  simp only [Act.put, List.setIfInBounds_toArray, List.set_cons_zero, List.set_cons_succ]
  refine wpAnyH_ready (rs := [1]) (by kernel_rfl) (by simp) ?_
  refine AllReadyH.cons ov1 (fun K hK => ?_) AllReadyH.nil
  rw [if_pos (by rfl)]
  go_simp
  refine (len1 z0 o1 i b N A H (TB.out z0 X1.out.bl).1).mono ?_
  rintro e w' ⟨rfl, hw⟩
  have hw2 := hw.symm
  clear hw
  subst hw2
  rw [EN.out]
  (try go_wp2_with fail)
  refine hK.out _ _ hHeld (fun _ => ?_)
  clear hK K
  (try simp only [Act.put, List.setIfInBounds_toArray, List.set_cons_zero, List.set_cons_succ])
  refine wpAnyH_take (i := 5) (v := .bool false) ov5 (by kernel_rfl) (by kernel_rfl) (by kernel_rfl) (fun _ _ _ h => h) (Or.inl ⟨by rfl, fun V' hS => ?_⟩) hHeld ?_
  · go_simp
  simp only [Act.put, List.setIfInBounds_toArray, List.set_cons_zero, List.set_cons_succ]
  refine wpAnyH_take (i := 6) (v := .bool false) ov6 (by kernel_rfl) (by kernel_rfl) (by kernel_rfl) (fun _ _ _ h => h) (Or.inl ⟨by rfl, fun V' hS => ?_⟩) hHeld ?_
  · go_simp
  simp only [Act.put, List.setIfInBounds_toArray, List.set_cons_zero, List.set_cons_succ]
  refine wpAnyH_take (i := 7) (v := .pointer (some ⟨b, 0, none⟩)) ov7 (by kernel_rfl) (by kernel_rfl) (by kernel_rfl) (fun _ _ _ h => h) (Or.inl ⟨by rfl, fun V' hS => ?_⟩) hHeld ?_
  · go_simp
  simp only [Act.put, List.setIfInBounds_toArray, List.set_cons_zero, List.set_cons_succ]
  refine wpAnyH_take (i := 9) (v := .pointer (some ⟨xb, 0, none⟩)) ov9 (by kernel_rfl) (by kernel_rfl) (by kernel_rfl) (fun _ _ _ h => h) (Or.inl ⟨by rfl, fun V' hS => ?_⟩) hHeld ?_
  · go_simp
  simp only [Act.put, List.setIfInBounds_toArray, List.set_cons_zero, List.set_cons_succ]
  refine wpAnyH_take (i := 10) (v := .slice ka n kc) ov10 (by kernel_rfl) (by kernel_rfl) (by kernel_rfl) (fun _ _ _ h => h) (Or.inl ⟨by rfl, fun V' hS => ?_⟩) hHeld ?_
  · obtain ⟨q0, q1⟩ := hS
    go_simp
  simp only [Act.put, List.setIfInBounds_toArray, List.set_cons_zero, List.set_cons_succ]
  refine wpAnyH_ready (rs := [8]) (by kernel_rfl) (by simp) ?_
  refine AllReadyH.cons ov8 (fun K hK => ?_) AllReadyH.nil
  rw [if_pos (by rfl)]
  go_simp
  refine (keys1 z0 o1 i b N A H (TB.out z0 X1.out.bl).1 (by have := HR.out; omega)).mono ?_
  rintro e v1 ⟨rfl, hc, hB⟩
  rw [EN.out]
  have X2 : Hid (TE w v1 xb (.slice ka n kc) (.slice va n vc)) := X1.out.past hB
  have K2 : Hid (IsI v1 (grow o1 z0.heap.size 0) (.slice (some ⟨z0.heap.size, 0, none⟩) n n) (A.map Prod.fst) ∧ IsI v1 (grow o1 z0.heap.size 0) (.slice ka n kc) (A.map Prod.fst)) := ⟨by have := IsI.box (cap := n) hc (grow_ge (ow := o1) (i := 0) (Nat.le_refl z0.heap.size)); rw [List.length_map, EN.out] at this; exact this, (TB.out z0 X1.out.bl).2.1.past hB⟩
  clear hc hB
  generalize grow o1 z0.heap.size 0 = o2 at K2
  generalize z0.heap.size = kb at K2 ⊢
  (try go_wp2_with fail)
  refine hK.out _ _ ⟨X2.out.c0, X2.out.c1⟩ (fun _ => ?_)
  clear hK K
  (try simp only [Act.put, List.setIfInBounds_toArray, List.set_cons_zero, List.set_cons_succ])
  refine wpAnyH_ready (rs := [11]) (by kernel_rfl) (by simp) ?_
  refine AllReadyH.cons ov11 (fun K hK => ?_) AllReadyH.nil
  rw [if_pos (by rfl)]
  go_simp
  refine (sameInts_is v1 o2 _ _ (A.map Prod.fst) K2.out.1 K2.out.2 (by rw [List.length_map]; have := HR.out; omega)).mono ?_
  rintro e v2 ⟨rfl, hB⟩
  have X3 : Hid (TE w v2 xb (.slice ka n kc) (.slice va n vc)) := X2.out.past hB
  clear hB
  (try go_wp2_with fail)
  refine hK.out _ _ ⟨X3.out.c0, X3.out.c1⟩ (fun _ => ?_)
  clear hK K
  (try simp only [Act.put, List.setIfInBounds_toArray, List.set_cons_zero, List.set_cons_succ])
  refine wpAnyH_take (i := 12) (v := .bool false) ov12 (by kernel_rfl) (by kernel_rfl) (by kernel_rfl) (fun _ _ _ h => h) (Or.inl ⟨by rfl, fun V' hS => ?_⟩) ⟨X3.out.c0, X3.out.c1⟩ ?_
  · go_simp
  simp only [Act.put, List.setIfInBounds_toArray, List.set_cons_zero, List.set_cons_succ]
  refine wpAnyH_take (i := 13) (v := .bool false) ov13 (by kernel_rfl) (by kernel_rfl) (by kernel_rfl) (fun _ _ _ h => h) (Or.inl ⟨by rfl, fun V' hS => ?_⟩) ⟨X3.out.c0, X3.out.c1⟩ ?_
  · go_simp
  simp only [Act.put, List.setIfInBounds_toArray, List.set_cons_zero, List.set_cons_succ]
  refine wpAnyH_done (by kernel_rfl) ?_ _
  clear X1 X2 K2
  go_wp2
  go_loopw [5] (fun si wr => ∃ q : Nat, q ≤ n ∧ si = .int .i64 (q : Int) ∧ TE w wr xb (.slice ka n kc) (.slice va n vc)) (fun si _ => n - (intOf si).toNat)
  case atStart => exact ⟨0, by omega, rfl, X3.out⟩
  case round =>
    obtain ⟨q, hq, rfl, hx⟩ := hrel
    have X4 : Hid (TE w wr xb (.slice ka n kc) (.slice va n vc)) := hx
    clear hx X3
    have c0 := X4.out.c0
    by_cases e : q < n
    · have iI : (q : Int) < (n : Int) := by omega
      obtain ⟨⟨kx, vx⟩, hp⟩ : ∃ p, A[q]? = some p := ⟨_, List.getElem?_eq_getElem (by rw [EN.out]; exact e)⟩
      obtain ⟨g, g', ⟨e1, e2⟩, d1, d2⟩ := HK.out q kx vx hp
      injection e1 with e1
      injection e2 with e2
      subst e1 e2
      have D : Hid (∀ W, TE w W xb (.slice (some ⟨g, 0, none⟩) n kc) (.slice (some ⟨g', 0, none⟩) n vc) → (W.cell? ⟨xb, 0, none⟩ = some (.slice (some ⟨g, 0, none⟩) n kc) ∧ W.cell? ⟨xb, 1, none⟩ = some (.slice (some ⟨g', 0, none⟩) n vc)) ∧ W.cell? ⟨g, q, none⟩ = some (.int .i64 kx) ∧ W.cell? ⟨g', q, none⟩ = some (.int .i64 vx)) := fun W h => ⟨⟨h.c0, h.c1⟩, (h.bl.cell (p := ⟨g, q, none⟩) (World.block_lt_of_cell? w _ d1)).trans d1, (h.bl.cell (p := ⟨g', q, none⟩) (World.block_lt_of_cell? w _ d2)).trans d2⟩
      have GT : Hid (Calls Try.prog 44 #[.pointer (some ⟨b, 0, none⟩), .int .i64 kx] wr fun e w' => e = .returned (.tuple #[.int .i64 vx, .bool true]) ∧ w' = wr) := by
        have := get1 wr o1 i b N A H (TB.out wr X4.out.bl).1 kx (HR.out.2.1 (kx, vx) (List.mem_iff_getElem?.2 ⟨q, hp⟩)) (by have := HR.out; omega)
        have ea : atL A q = (kx, vx) := by unfold atL; rw [hp]; rfl
        have eg := getR_at HR.out.1 (i := q) (by rw [EN.out]; exact e)
        rw [ea] at eg
        rw [eg] at this
        exact this
      obtain ⟨_, d3, _⟩ := D.out wr X4.out
      go_upto_region 7 with (go_at_call 44; refine (GT.out).mono ?_; rintro e w' ⟨rfl, hw⟩; (have hw2 := hw.symm); clear hw; subst hw2)
      clear d1 d2 d3 c0 GT
      have X5 : Hid (TE w wr.drew xb (.slice (some ⟨g, 0, none⟩) n kc) (.slice (some ⟨g', 0, none⟩) n vc)) := X4.out.past ((Below.refl _ _).drew)
      by_cases q0 : q = 0
      · have qz : ¬ (0 : Int) < (q : Int) := by omega
        have Q0 : Hid (q = 0) := q0
        clear q0 hp
        refine wp_region_held_drew (S := fun V' => (V'.cell? ⟨xb, 0, none⟩ = some (.slice (some ⟨g, 0, none⟩) n kc) ∧ V'.cell? ⟨xb, 1, none⟩ = some (.slice (some ⟨g', 0, none⟩) n vc)) ∧ V'.cell? ⟨g, q, none⟩ = some (.int .i64 kx) ∧ V'.cell? ⟨g', q, none⟩ = some (.int .i64 vx)) (by kernel_rfl) (D.out wr.drew X5.out) (fun hHeld => ?_)
        generalize wr.drew = z0 at hHeld X5 ⊢
        clear X4
        refine wpAnyH_take (i := 0) (v := .bool true) ov0 (by kernel_rfl) (by kernel_rfl) (by kernel_rfl) (fun _ _ _ h => h) (Or.inl ⟨by rfl, fun V' hS => ?_⟩) hHeld ?_
        · go_simp
        simp only [Act.put, List.setIfInBounds_toArray, List.set_cons_zero, List.set_cons_succ]
        refine wpAnyH_take (i := 1) (v := .bool false) ov1 (by kernel_rfl) (by kernel_rfl) (by kernel_rfl) (fun _ _ _ h => h) (Or.inl ⟨by rfl, fun V' hS => ?_⟩) hHeld ?_
        · go_simp
        simp only [Act.put, List.setIfInBounds_toArray, List.set_cons_zero, List.set_cons_succ]
        refine wpAnyH_take (i := 2) (v := .bool false) ov2 (by kernel_rfl) (by kernel_rfl) (by kernel_rfl) (fun _ _ _ h => h) (Or.inl ⟨by rfl, fun V' hS => ?_⟩) hHeld ?_
        · go_simp
        simp only [Act.put, List.setIfInBounds_toArray, List.set_cons_zero, List.set_cons_succ]
        refine wpAnyH_take (i := 3) (v := .int .i64 vx) ov3 (by kernel_rfl) (by kernel_rfl) (by kernel_rfl) (fun _ _ _ h => h) (Or.inl ⟨by rfl, fun V' hS => ?_⟩) hHeld ?_
        · go_simp
        simp only [Act.put, List.setIfInBounds_toArray, List.set_cons_zero, List.set_cons_succ]
        refine wpAnyH_take (i := 4) (v := .pointer (some ⟨xb, 1, none⟩)) ov4 (by kernel_rfl) (by kernel_rfl) (by kernel_rfl) (fun _ _ _ h => h) (Or.inl ⟨by rfl, fun V' hS => ?_⟩) hHeld ?_
        · go_simp
        simp only [Act.put, List.setIfInBounds_toArray, List.set_cons_zero, List.set_cons_succ]
        refine wpAnyH_take (i := 5) (v := .slice (some ⟨g', 0, none⟩) n vc) ov5 (by kernel_rfl) (by kernel_rfl) (by kernel_rfl) (fun _ _ _ h => h) (Or.inl ⟨by rfl, fun V' hS => ?_⟩) hHeld ?_
        · obtain ⟨⟨r0, r1⟩, r2, r3⟩ := hS
          go_simp
        simp only [Act.put, List.setIfInBounds_toArray, List.set_cons_zero, List.set_cons_succ]
        refine wpAnyH_take (i := 6) (v := .int .i64 (q : Int)) ov6 (by kernel_rfl) (by kernel_rfl) (by kernel_rfl) (fun _ _ _ h => h) (Or.inl ⟨by rfl, fun V' hS => ?_⟩) hHeld ?_
        · go_simp
        simp only [Act.put, List.setIfInBounds_toArray, List.set_cons_zero, List.set_cons_succ]
        refine wpAnyH_take (i := 7) (v := .pointer (some ⟨g', q, none⟩)) ov7 (by kernel_rfl) (by kernel_rfl) (by kernel_rfl) (fun _ _ _ h => h) (Or.inl ⟨by rfl, fun V' hS => ?_⟩) hHeld ?_
        · go_simp
        simp only [Act.put, List.setIfInBounds_toArray, List.set_cons_zero, List.set_cons_succ]
        refine wpAnyH_take (i := 8) (v := .int .i64 vx) ov8 (by kernel_rfl) (by kernel_rfl) (by kernel_rfl) (fun _ _ _ h => h) (Or.inl ⟨by rfl, fun V' hS => ?_⟩) hHeld ?_
        · obtain ⟨⟨r0, r1⟩, r2, r3⟩ := hS
          go_simp
        simp only [Act.put, List.setIfInBounds_toArray, List.set_cons_zero, List.set_cons_succ]
        refine wpAnyH_take (i := 9) (v := .bool false) ov9 (by kernel_rfl) (by kernel_rfl) (by kernel_rfl) (fun _ _ _ h => h) (Or.inl ⟨by rfl, fun V' hS => ?_⟩) hHeld ?_
        · go_simp
        simp only [Act.put, List.setIfInBounds_toArray, List.set_cons_zero, List.set_cons_succ]
        refine wpAnyH_take (i := 10) (v := .bool false) ov10 (by kernel_rfl) (by kernel_rfl) (by kernel_rfl) (fun _ _ _ h => h) (Or.inl ⟨by rfl, fun V' hS => ?_⟩) hHeld ?_
        · go_simp
        simp only [Act.put, List.setIfInBounds_toArray, List.set_cons_zero, List.set_cons_succ]
        refine wpAnyH_take (i := 11) (v := .bool false) ov11 (by kernel_rfl) (by kernel_rfl) (by kernel_rfl) (fun _ _ _ h => h) (Or.inl ⟨by rfl, fun V' hS => ?_⟩) hHeld ?_
        · go_simp
        simp only [Act.put, List.setIfInBounds_toArray, List.set_cons_zero, List.set_cons_succ]
        refine wpAnyH_take (i := 12) (v := .int .i64 (q : Int)) ov12 (by kernel_rfl) (by kernel_rfl) (by kernel_rfl) (fun _ _ _ h => h) (Or.inl ⟨by rfl, fun V' hS => ?_⟩) hHeld ?_
        · go_simp
        simp only [Act.put, List.setIfInBounds_toArray, List.set_cons_zero, List.set_cons_succ]
        refine wpAnyH_take (i := 13) (v := .bool false) ov13 (by kernel_rfl) (by kernel_rfl) (by kernel_rfl) (fun _ _ _ h => h) (Or.inl ⟨by rfl, fun V' hS => ?_⟩) hHeld ?_
        · have q1 := Q0.out
          go_simp
        simp only [Act.put, List.setIfInBounds_toArray, List.set_cons_zero, List.set_cons_succ]
        refine wpAnyH_take (i := 14) (v := .bool false) ov14 (by kernel_rfl) (by kernel_rfl) (by kernel_rfl) (fun _ _ _ h => h) (Or.inl ⟨by rfl, fun V' hS => ?_⟩) hHeld ?_
        · go_simp
        simp only [Act.put, List.setIfInBounds_toArray, List.set_cons_zero, List.set_cons_succ]
        refine wpAnyH_take (i := 15) (v := undef) ov15 (by kernel_rfl) (by kernel_rfl) (by kernel_rfl) (fun _ _ _ h => h) (Or.inr ⟨by rfl, rfl⟩) hHeld ?_
        simp only [Act.put, List.setIfInBounds_toArray, List.set_cons_zero, List.set_cons_succ]
        refine wpAnyH_take (i := 16) (v := undef) ov16 (by kernel_rfl) (by kernel_rfl) (by kernel_rfl) (fun _ _ _ h => h) (Or.inr ⟨by rfl, rfl⟩) hHeld ?_
        simp only [Act.put, List.setIfInBounds_toArray, List.set_cons_zero, List.set_cons_succ]
        refine wpAnyH_take (i := 17) (v := undef) ov17 (by kernel_rfl) (by kernel_rfl) (by kernel_rfl) (fun _ _ _ h => h) (Or.inr ⟨by rfl, rfl⟩) hHeld ?_
        simp only [Act.put, List.setIfInBounds_toArray, List.set_cons_zero, List.set_cons_succ]
        refine wpAnyH_take (i := 18) (v := undef) ov18 (by kernel_rfl) (by kernel_rfl) (by kernel_rfl) (fun _ _ _ h => h) (Or.inr ⟨by rfl, rfl⟩) hHeld ?_
        simp only [Act.put, List.setIfInBounds_toArray, List.set_cons_zero, List.set_cons_succ]
        refine wpAnyH_take (i := 19) (v := undef) ov19 (by kernel_rfl) (by kernel_rfl) (by kernel_rfl) (fun _ _ _ h => h) (Or.inr ⟨by rfl, rfl⟩) hHeld ?_
        simp only [Act.put, List.setIfInBounds_toArray, List.set_cons_zero, List.set_cons_succ]
        refine wpAnyH_take (i := 20) (v := undef) ov20 (by kernel_rfl) (by kernel_rfl) (by kernel_rfl) (fun _ _ _ h => h) (Or.inr ⟨by rfl, rfl⟩) hHeld ?_
        simp only [Act.put, List.setIfInBounds_toArray, List.set_cons_zero, List.set_cons_succ]
        refine wpAnyH_take (i := 21) (v := undef) ov21 (by kernel_rfl) (by kernel_rfl) (by kernel_rfl) (fun _ _ _ h => h) (Or.inr ⟨by rfl, rfl⟩) hHeld ?_
        simp only [Act.put, List.setIfInBounds_toArray, List.set_cons_zero, List.set_cons_succ]
        refine wpAnyH_take (i := 22) (v := undef) ov22 (by kernel_rfl) (by kernel_rfl) (by kernel_rfl) (fun _ _ _ h => h) (Or.inr ⟨by rfl, rfl⟩) hHeld ?_
        simp only [Act.put, List.setIfInBounds_toArray, List.set_cons_zero, List.set_cons_succ]
        refine wpAnyH_take (i := 23) (v := undef) ov23 (by kernel_rfl) (by kernel_rfl) (by kernel_rfl) (fun _ _ _ h => h) (Or.inr ⟨by rfl, rfl⟩) hHeld ?_
        simp only [Act.put, List.setIfInBounds_toArray, List.set_cons_zero, List.set_cons_succ]
        refine wpAnyH_take (i := 24) (v := undef) ov24 (by kernel_rfl) (by kernel_rfl) (by kernel_rfl) (fun _ _ _ h => h) (Or.inr ⟨by rfl, rfl⟩) hHeld ?_
        simp only [Act.put, List.setIfInBounds_toArray, List.set_cons_zero, List.set_cons_succ]
        refine wpAnyH_take (i := 25) (v := undef) ov25 (by kernel_rfl) (by kernel_rfl) (by kernel_rfl) (fun _ _ _ h => h) (Or.inr ⟨by rfl, rfl⟩) hHeld ?_
        simp only [Act.put, List.setIfInBounds_toArray, List.set_cons_zero, List.set_cons_succ]
        refine wpAnyH_take (i := 26) (v := undef) ov26 (by kernel_rfl) (by kernel_rfl) (by kernel_rfl) (fun _ _ _ h => h) (Or.inr ⟨by rfl, rfl⟩) hHeld ?_
        simp only [Act.put, List.setIfInBounds_toArray, List.set_cons_zero, List.set_cons_succ]
        refine wpAnyH_take (i := 27) (v := .bool false) ov27 (by kernel_rfl) (by kernel_rfl) (by kernel_rfl) (fun _ _ _ h => h) (Or.inl ⟨by rfl, fun V' hS => ?_⟩) hHeld ?_
        · go_simp
        simp only [Act.put, List.setIfInBounds_toArray, List.set_cons_zero, List.set_cons_succ]
        refine wpAnyH_take (i := 28) (v := .bool false) ov28 (by kernel_rfl) (by kernel_rfl) (by kernel_rfl) (fun _ _ _ h => h) (Or.inl ⟨by rfl, fun V' hS => ?_⟩) hHeld ?_
        · go_simp
        simp only [Act.put, List.setIfInBounds_toArray, List.set_cons_zero, List.set_cons_succ]
        refine wpAnyH_done (by kernel_rfl) ?_ _
        go_wp2
        go_roundw
        case rel => exact ⟨q + 1, by omega, by go_num, X5.out⟩
        case measure => simp [intOf]; omega
      · have qz : (0 : Int) < (q : Int) := by omega
        clear q0
        obtain ⟨j, rfl⟩ : ∃ j, q = j + 1 := ⟨q - 1, by have := qz; omega⟩
        obtain ⟨⟨kp, vp⟩, hp2⟩ : ∃ p, A[j]? = some p := ⟨_, List.getElem?_eq_getElem (by rw [EN.out]; omega)⟩
        have klt : kp < kx := ris_step HR.out.1 hp2 hp
        have kge : ¬ kx ≤ kp := by omega
        obtain ⟨g2, g3, ⟨e1, e3⟩, d1, d4⟩ := HK.out j kp vp hp2
        clear e3 d4
        injection e1 with e1
        injection e1 with e1
        injection e1 with e1
        subst e1
        have D2 : Hid (∀ W, TE w W xb (.slice (some ⟨g, 0, none⟩) n kc) (.slice (some ⟨g', 0, none⟩) n vc) → ((W.cell? ⟨xb, 0, none⟩ = some (.slice (some ⟨g, 0, none⟩) n kc) ∧ W.cell? ⟨xb, 1, none⟩ = some (.slice (some ⟨g', 0, none⟩) n vc)) ∧ W.cell? ⟨g, j + 1, none⟩ = some (.int .i64 kx) ∧ W.cell? ⟨g', j + 1, none⟩ = some (.int .i64 vx)) ∧ W.cell? ⟨g, j, none⟩ = some (.int .i64 kp)) := fun W h => ⟨D.out W h, (h.bl.cell (p := ⟨g, j, none⟩) (World.block_lt_of_cell? w _ d1)).trans d1⟩
        clear hp hp2 d1 D
        obtain ⟨q, eq⟩ : ∃ q, q = j + 1 := ⟨_, rfl⟩
        rw [← eq] at D2 ⊢
        have qj : (q : Int) - 1 = (j : Int) := by omega
        have wj : IntKind.i64.wrap (j : Int) = (j : Int) := by rw [IntKind.wrap_i64]; omega
        have jI : (j : Int) < (n : Int) := by omega
        have qI : (q : Int) < (n : Int) := by omega
        rw [← eq] at iI qz e hq
        have EQ : Hid (q = j + 1) := eq
        clear eq
        refine wp_region_held_drew (S := fun V' => ((V'.cell? ⟨xb, 0, none⟩ = some (.slice (some ⟨g, 0, none⟩) n kc) ∧ V'.cell? ⟨xb, 1, none⟩ = some (.slice (some ⟨g', 0, none⟩) n vc)) ∧ V'.cell? ⟨g, q, none⟩ = some (.int .i64 kx) ∧ V'.cell? ⟨g', q, none⟩ = some (.int .i64 vx)) ∧ V'.cell? ⟨g, j, none⟩ = some (.int .i64 kp)) (by kernel_rfl) (D2.out wr.drew X5.out) (fun hHeld => ?_)
        generalize wr.drew = z0 at hHeld X5 ⊢
        clear X4
        refine wpAnyH_take (i := 0) (v := .bool true) ov0 (by kernel_rfl) (by kernel_rfl) (by kernel_rfl) (fun _ _ _ h => h) (Or.inl ⟨by rfl, fun V' hS => ?_⟩) hHeld ?_
        · go_simp
        simp only [Act.put, List.setIfInBounds_toArray, List.set_cons_zero, List.set_cons_succ]
        refine wpAnyH_take (i := 1) (v := .bool false) ov1 (by kernel_rfl) (by kernel_rfl) (by kernel_rfl) (fun _ _ _ h => h) (Or.inl ⟨by rfl, fun V' hS => ?_⟩) hHeld ?_
        · go_simp
        simp only [Act.put, List.setIfInBounds_toArray, List.set_cons_zero, List.set_cons_succ]
        refine wpAnyH_take (i := 2) (v := .bool false) ov2 (by kernel_rfl) (by kernel_rfl) (by kernel_rfl) (fun _ _ _ h => h) (Or.inl ⟨by rfl, fun V' hS => ?_⟩) hHeld ?_
        · go_simp
        simp only [Act.put, List.setIfInBounds_toArray, List.set_cons_zero, List.set_cons_succ]
        refine wpAnyH_take (i := 3) (v := .int .i64 vx) ov3 (by kernel_rfl) (by kernel_rfl) (by kernel_rfl) (fun _ _ _ h => h) (Or.inl ⟨by rfl, fun V' hS => ?_⟩) hHeld ?_
        · go_simp
        simp only [Act.put, List.setIfInBounds_toArray, List.set_cons_zero, List.set_cons_succ]
        refine wpAnyH_take (i := 4) (v := .pointer (some ⟨xb, 1, none⟩)) ov4 (by kernel_rfl) (by kernel_rfl) (by kernel_rfl) (fun _ _ _ h => h) (Or.inl ⟨by rfl, fun V' hS => ?_⟩) hHeld ?_
        · go_simp
        simp only [Act.put, List.setIfInBounds_toArray, List.set_cons_zero, List.set_cons_succ]
        refine wpAnyH_take (i := 5) (v := .slice (some ⟨g', 0, none⟩) n vc) ov5 (by kernel_rfl) (by kernel_rfl) (by kernel_rfl) (fun _ _ _ h => h) (Or.inl ⟨by rfl, fun V' hS => ?_⟩) hHeld ?_
        · obtain ⟨⟨⟨r0, r1⟩, r2, r3⟩, r4⟩ := hS
          go_simp
        simp only [Act.put, List.setIfInBounds_toArray, List.set_cons_zero, List.set_cons_succ]
        refine wpAnyH_take (i := 6) (v := .int .i64 (q : Int)) ov6 (by kernel_rfl) (by kernel_rfl) (by kernel_rfl) (fun _ _ _ h => h) (Or.inl ⟨by rfl, fun V' hS => ?_⟩) hHeld ?_
        · go_simp
        simp only [Act.put, List.setIfInBounds_toArray, List.set_cons_zero, List.set_cons_succ]
        refine wpAnyH_take (i := 7) (v := .pointer (some ⟨g', q, none⟩)) ov7 (by kernel_rfl) (by kernel_rfl) (by kernel_rfl) (fun _ _ _ h => h) (Or.inl ⟨by rfl, fun V' hS => ?_⟩) hHeld ?_
        · go_simp
        simp only [Act.put, List.setIfInBounds_toArray, List.set_cons_zero, List.set_cons_succ]
        refine wpAnyH_take (i := 8) (v := .int .i64 vx) ov8 (by kernel_rfl) (by kernel_rfl) (by kernel_rfl) (fun _ _ _ h => h) (Or.inl ⟨by rfl, fun V' hS => ?_⟩) hHeld ?_
        · obtain ⟨⟨⟨r0, r1⟩, r2, r3⟩, r4⟩ := hS
          go_simp
        simp only [Act.put, List.setIfInBounds_toArray, List.set_cons_zero, List.set_cons_succ]
        refine wpAnyH_take (i := 9) (v := .bool false) ov9 (by kernel_rfl) (by kernel_rfl) (by kernel_rfl) (fun _ _ _ h => h) (Or.inl ⟨by rfl, fun V' hS => ?_⟩) hHeld ?_
        · go_simp
        simp only [Act.put, List.setIfInBounds_toArray, List.set_cons_zero, List.set_cons_succ]
        refine wpAnyH_take (i := 10) (v := .bool false) ov10 (by kernel_rfl) (by kernel_rfl) (by kernel_rfl) (fun _ _ _ h => h) (Or.inl ⟨by rfl, fun V' hS => ?_⟩) hHeld ?_
        · go_simp
        simp only [Act.put, List.setIfInBounds_toArray, List.set_cons_zero, List.set_cons_succ]
        refine wpAnyH_take (i := 11) (v := .bool false) ov11 (by kernel_rfl) (by kernel_rfl) (by kernel_rfl) (fun _ _ _ h => h) (Or.inl ⟨by rfl, fun V' hS => ?_⟩) hHeld ?_
        · go_simp
        simp only [Act.put, List.setIfInBounds_toArray, List.set_cons_zero, List.set_cons_succ]
        refine wpAnyH_take (i := 12) (v := .int .i64 (q : Int)) ov12 (by kernel_rfl) (by kernel_rfl) (by kernel_rfl) (fun _ _ _ h => h) (Or.inl ⟨by rfl, fun V' hS => ?_⟩) hHeld ?_
        · go_simp
        simp only [Act.put, List.setIfInBounds_toArray, List.set_cons_zero, List.set_cons_succ]
        refine wpAnyH_take (i := 13) (v := .bool true) ov13 (by kernel_rfl) (by kernel_rfl) (by kernel_rfl) (fun _ _ _ h => h) (Or.inl ⟨by rfl, fun V' hS => ?_⟩) hHeld ?_
        · have q1 : 0 < q := by omega
          go_simp
        simp only [Act.put, List.setIfInBounds_toArray, List.set_cons_zero, List.set_cons_succ]
        refine wpAnyH_take (i := 14) (v := .bool true) ov14 (by kernel_rfl) (by kernel_rfl) (by kernel_rfl) (fun _ _ _ h => h) (Or.inl ⟨by rfl, fun V' hS => ?_⟩) hHeld ?_
        · go_simp
        simp only [Act.put, List.setIfInBounds_toArray, List.set_cons_zero, List.set_cons_succ]
        refine wpAnyH_take (i := 15) (v := .pointer (some ⟨xb, 0, none⟩)) ov15 (by kernel_rfl) (by kernel_rfl) (by kernel_rfl) (fun _ _ _ h => h) (Or.inl ⟨by rfl, fun V' hS => ?_⟩) hHeld ?_
        · go_simp
        simp only [Act.put, List.setIfInBounds_toArray, List.set_cons_zero, List.set_cons_succ]
        refine wpAnyH_take (i := 16) (v := .slice (some ⟨g, 0, none⟩) n kc) ov16 (by kernel_rfl) (by kernel_rfl) (by kernel_rfl) (fun _ _ _ h => h) (Or.inl ⟨by rfl, fun V' hS => ?_⟩) hHeld ?_
        · obtain ⟨⟨⟨r0, r1⟩, r2, r3⟩, r4⟩ := hS
          go_simp
        simp only [Act.put, List.setIfInBounds_toArray, List.set_cons_zero, List.set_cons_succ]
        refine wpAnyH_take (i := 17) (v := .int .i64 (q : Int)) ov17 (by kernel_rfl) (by kernel_rfl) (by kernel_rfl) (fun _ _ _ h => h) (Or.inl ⟨by rfl, fun V' hS => ?_⟩) hHeld ?_
        · go_simp
        simp only [Act.put, List.setIfInBounds_toArray, List.set_cons_zero, List.set_cons_succ]
        refine wpAnyH_take (i := 18) (v := .int .i64 (j : Int)) ov18 (by kernel_rfl) (by kernel_rfl) (by kernel_rfl) (fun _ _ _ h => h) (Or.inl ⟨by rfl, fun V' hS => ?_⟩) hHeld ?_
        · go_simp
        simp only [Act.put, List.setIfInBounds_toArray, List.set_cons_zero, List.set_cons_succ]
        refine wpAnyH_take (i := 19) (v := .pointer (some ⟨g, j, none⟩)) ov19 (by kernel_rfl) (by kernel_rfl) (by kernel_rfl) (fun _ _ _ h => h) (Or.inl ⟨by rfl, fun V' hS => ?_⟩) hHeld ?_
        · go_simp
        simp only [Act.put, List.setIfInBounds_toArray, List.set_cons_zero, List.set_cons_succ]
        refine wpAnyH_take (i := 20) (v := .int .i64 kp) ov20 (by kernel_rfl) (by kernel_rfl) (by kernel_rfl) (fun _ _ _ h => h) (Or.inl ⟨by rfl, fun V' hS => ?_⟩) hHeld ?_
        · obtain ⟨⟨⟨r0, r1⟩, r2, r3⟩, r4⟩ := hS
          go_simp
        simp only [Act.put, List.setIfInBounds_toArray, List.set_cons_zero, List.set_cons_succ]
        refine wpAnyH_take (i := 21) (v := .pointer (some ⟨xb, 0, none⟩)) ov21 (by kernel_rfl) (by kernel_rfl) (by kernel_rfl) (fun _ _ _ h => h) (Or.inl ⟨by rfl, fun V' hS => ?_⟩) hHeld ?_
        · go_simp
        simp only [Act.put, List.setIfInBounds_toArray, List.set_cons_zero, List.set_cons_succ]
        refine wpAnyH_take (i := 22) (v := .slice (some ⟨g, 0, none⟩) n kc) ov22 (by kernel_rfl) (by kernel_rfl) (by kernel_rfl) (fun _ _ _ h => h) (Or.inl ⟨by rfl, fun V' hS => ?_⟩) hHeld ?_
        · obtain ⟨⟨⟨r0, r1⟩, r2, r3⟩, r4⟩ := hS
          go_simp
        simp only [Act.put, List.setIfInBounds_toArray, List.set_cons_zero, List.set_cons_succ]
        refine wpAnyH_take (i := 23) (v := .int .i64 (q : Int)) ov23 (by kernel_rfl) (by kernel_rfl) (by kernel_rfl) (fun _ _ _ h => h) (Or.inl ⟨by rfl, fun V' hS => ?_⟩) hHeld ?_
        · go_simp
        simp only [Act.put, List.setIfInBounds_toArray, List.set_cons_zero, List.set_cons_succ]
        refine wpAnyH_take (i := 24) (v := .pointer (some ⟨g, q, none⟩)) ov24 (by kernel_rfl) (by kernel_rfl) (by kernel_rfl) (fun _ _ _ h => h) (Or.inl ⟨by rfl, fun V' hS => ?_⟩) hHeld ?_
        · go_simp
        simp only [Act.put, List.setIfInBounds_toArray, List.set_cons_zero, List.set_cons_succ]
        refine wpAnyH_take (i := 25) (v := .int .i64 kx) ov25 (by kernel_rfl) (by kernel_rfl) (by kernel_rfl) (fun _ _ _ h => h) (Or.inl ⟨by rfl, fun V' hS => ?_⟩) hHeld ?_
        · obtain ⟨⟨⟨r0, r1⟩, r2, r3⟩, r4⟩ := hS
          go_simp
        simp only [Act.put, List.setIfInBounds_toArray, List.set_cons_zero, List.set_cons_succ]
        refine wpAnyH_take (i := 26) (v := .bool false) ov26 (by kernel_rfl) (by kernel_rfl) (by kernel_rfl) (fun _ _ _ h => h) (Or.inl ⟨by rfl, fun V' hS => ?_⟩) hHeld ?_
        · go_simp
        simp only [Act.put, List.setIfInBounds_toArray, List.set_cons_zero, List.set_cons_succ]
        refine wpAnyH_take (i := 27) (v := .bool false) ov27 (by kernel_rfl) (by kernel_rfl) (by kernel_rfl) (fun _ _ _ h => h) (Or.inl ⟨by rfl, fun V' hS => ?_⟩) hHeld ?_
        · go_simp
        simp only [Act.put, List.setIfInBounds_toArray, List.set_cons_zero, List.set_cons_succ]
        refine wpAnyH_take (i := 28) (v := .bool false) ov28 (by kernel_rfl) (by kernel_rfl) (by kernel_rfl) (fun _ _ _ h => h) (Or.inl ⟨by rfl, fun V' hS => ?_⟩) hHeld ?_
        · go_simp
        simp only [Act.put, List.setIfInBounds_toArray, List.set_cons_zero, List.set_cons_succ]
        refine wpAnyH_done (by kernel_rfl) ?_ _
        clear qj wj jI
        go_wp2
        go_roundw
        case rel => exact ⟨q + 1, by omega, by go_num, X5.out⟩
        case measure => have h9 := EQ.out; simp [intOf]; omega
    · have iI : ¬ (q : Int) < (n : Int) := by omega
      go_wp2
      go_ret
      exact ⟨rfl, X4.out.bl⟩
end Go.Proofs.Ytohfkgfjcnldaaa
